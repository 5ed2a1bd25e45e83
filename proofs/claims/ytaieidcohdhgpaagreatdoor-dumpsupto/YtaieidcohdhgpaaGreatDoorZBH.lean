/- Dumps. -/
import Derived.Test.YtaieidcohdhgpaaGreatDoorZBG
namespace Go.Proofs.YtaieidcohdhgpaaGreatDoor
set_option maxHeartbeats 40000000
set_option maxRecDepth 100000
open Go.RowKit
def MO(w:World)(db:Nat)(vn:Value)(C:NB)(L:List It)(e:Ending)(w':World):Prop:=
 ∃stb vf' va s,e = .returned (.pointer (some ⟨stb,0,none⟩))/\w.heap.size<=stb/\NU 512 C L (Hr D6) s/\GN w' stb db va (s.tp:Nat) (s.tx:Nat) ((1:Nat):Int) vf' vn (.slice none 0 0) (.slice none 0 0) (s.D.set 0 (GQ 0 s.tp s.tx)) [] []/\Hc w' vf' (s.D.set 0 (GQ 0 s.tp s.tx))/\Sl w' 350 2 va s.es.length (Dq s.es)/\(∀k,Own vf' k->w.heap.size<=k/\k≠stb/\¬Own va k/\k≠db/\¬Own vn k)/\(∀k,Own va k->w.heap.size<=k/\k≠stb/\k≠db/\¬Own vn k)/\Fr (fun k=>k=db\/Own vn k) w w'
theorem Zh2(w:World)(d tb:Nat)(L m:Value)(h:Kt w d L m (.slice none 0 0) (.slice none 0 0) D6)(ac:¬Own m d){rd:Nat}{V:NV}{E:NS}{vi:Value}{G:Gh}{I:LF}{CI:IB}{ch:LY->List Ek}{dv:NV}{C:NB}(R:I6 w tb rd V E vi G I CI ch dv C)(ad:(DO 512 (Hr D6) C (Dg ch)).2.ps≠[]):
  Cl 99 #[.pointer (some ⟨d,0,none⟩),.pointer (some ⟨tb,0,none⟩)] w (MO w d m C (Dg ch)):=by
 obtain⟨W,hW,xW,kW,sW,o⟩:=De w [.pointer (some ⟨d,0,none⟩),.slice none 0 0,.int .i64 15,.int .u64 0,.int .u64 0] 179;have b:∀k,¬Own (.slice none 0 0) k:=fun k e=>by simp[Own,Value.ownBlock]at e
 have au:=h.1.lt;have ab:Hv (Hr D6):=⟨fun j k x y _ hj=>(by cases hj),Aw _,by show 15<1536;omega,ND,fun x hx=>(by cases hx)⟩;obtain⟨F,Q⟩:=ex (DO 512 (Hr D6) C (Dg ch));obtain⟨f,T⟩:∃n,n=GK F.1:=⟨_,rfl⟩;obtain⟨g,U⟩:∃n,n=Hi F.1:=⟨_,rfl⟩;have az:f<65536:=by rw[T];exact Oj _
 have aA:g<18446744073709551616:=by rw[U];exact RV _
 have ae:GN W w.heap.size d (.slice none 0 0) ((15:Nat):Int) 0 ((0:Nat):Int) L m (.slice none 0 0) (.slice none 0 0) D6 [] []:=by
  refine⟨xW,⟨kW _ _ _ h.1,⟨h.2.1.1.kept (fun k a _=>o.block k a),h.2.1.2⟩,h.2.2⟩,Hb.nil _,⟨rfl,.inl ⟨rfl,rfl⟩⟩,by omega,⟨fun e=>?_,b _,b _⟩,⟨ac,b _,b _⟩,fun k _=>b k,fun k _=>b k,fun k _=>b k⟩;have:=h.2.1.1.lt e;omega
 obtain⟨VK,aa⟩:∃V,V=H0 0 (GQ 0 f g):=⟨_,rfl⟩;have HK:Hid (Cl 74 #[.pointer (some ⟨w.heap.size,0,none⟩),.pointer (some ⟨tb,0,none⟩)] W fun e X=>e = .returned (.tuple #[])/\(X.cell? ⟨w.heap.size,4,none⟩=some (.int .u64 1)/\X.cell? ⟨w.heap.size,2,none⟩=some (.int .i64 (f:Nat))/\X.cell? ⟨w.heap.size,3,none⟩=some (.int .u64 (g:Nat)))/\
   Hid (Cl 160 #[.agg #[.int .u64 0,.int .i64 (f:Nat),.int .u64 (g:Nat)]] X.drew fun e Y=>e = .returned VK/\(Y.cell? ⟨w.heap.size,4,none⟩=some (.int .u64 1)/\Y.cell? ⟨w.heap.size,2,none⟩=some (.int .i64 (f:Nat))/\Y.cell? ⟨w.heap.size,3,none⟩=some (.int .u64 (g:Nat)))/\
    Hid (Cl 159 #[.pointer (some ⟨d,0,none⟩),VK] Y fun e Z=>e = .returned (.tuple #[])/\(Z.cell? ⟨w.heap.size,4,none⟩=some (.int .u64 1)/\Z.cell? ⟨w.heap.size,2,none⟩=some (.int .i64 (f:Nat))/\Z.cell? ⟨w.heap.size,3,none⟩=some (.int .u64 (g:Nat)))/\
     Hid (Cl 161 #[.pointer (some ⟨d,0,none⟩)] Z fun e V=>e = .returned (.tuple #[])/\Hid (MO w d m C (Dg ch) (.returned (.pointer (some ⟨w.heap.size,0,none⟩))) V))))):=by
  have an:I6 W tb rd V E vi G I CI ch dv C:=R.below o;have ay:Ia W w.heap.size d (.slice none 0 0) (Hr D6) L m (.slice none 0 0) (.slice none 0 0) [] []:=⟨ae,⟨rfl,.inl ⟨rfl,rfl⟩⟩,fun k a=>absurd a (b k)⟩;refine(ZhQ ay ab ⟨1,by omega,by show Dw [] 1<=0;decide⟩ an (Aw _) (Aw _) (by show 0+1<_;omega)).mono ?_;rintro e X ⟨rfl,c,s,aG,aF,af,aI,P,g2,g3,_,s2,_,g7,D,_⟩;have J:NU 512 C (Dg ch) (Hr D6) c:=by
   rcases g2.cases with⟨h0,_⟩|a
   ·exact absurd h0 ad
   ·exact a
  have N:c.tp=f:=by rw[J.tp,T,Q]
  have O:c.tx=g:=by rw[J.tx,U,Q]
  have e3:c.tn=1:=J.tn;have A:=P.st;rw[N,O,e3]at A;have s5:=P.sk;have H:=P.ok;have s7:∀k,Own s k->W.heap.size<=k:=fun k a=>(g7 k a).elim (fun e=>absurd e (b k)) id
  have aM:af.length<=9000:=by
   have h3:af.length<=0+(DO 512 (Hr D6) C (Dg ch)).2.ps.length+1:=g3;obtain⟨cl,ar,_⟩:=S1 512 (Hr D6) C (Dg ch);have a:=MV R.ok (Je [] cl 15 D6) (ab.env cl) (15+1) (by omega);change IH (Jg (Hr D6) cl C (Dg ch)) at a;have:=a.n2;rw[ar]at h3;omega
  have aD:=A;refine⟨rfl,⟨(A.row.cell 4).trans rfl,(A.row.cell 2).trans rfl,(A.row.cell 3).trans rfl⟩,?_⟩;refine(VO X.drew 0 f g (by omega) az aA).mono ?_;rintro e Y ⟨rfl,z⟩;have p:Bw X Y:=⟨z.os,z.tape,z.output,z.size,z.block⟩;have B:=aD.below p;have ag:Sl Y 350 2 s c.es.length (Dq c.es):=s5.kept (fun k a _=>p.block k a);refine⟨by rw[aa],⟨(B.row.cell 4).trans rfl,(B.row.cell 2).trans rfl,(B.row.cell 3).trans rfl⟩,?_⟩;rw[aa];refine(B.write_call (by omega) 0 (by omega) _ (OX _ _ _)).mono ?_;intro e Z hz;obtain⟨aH,l,u2,t⟩:=B.write hz;have aB:∀k,Own s k->k<Y.heap.size:=fun k a=>ag.lt a
  have aE:Sl Z 350 2 s c.es.length (Dq c.es):=ag.fr t (fun k a e=>H k a (by rcases e with e|e|e;exact .inr (.inl e);exact .inr (.inr (.inl e));exact .inr (.inr (.inr (.inl e)))));refine⟨hz.1,⟨(l.row.cell 4).trans rfl,(l.row.cell 2).trans rfl,(l.row.cell 3).trans rfl⟩,?_⟩;refine(T8 Z d L m aH aF _ l.disk l.nd.1).mono ?_;rintro e V ⟨rfl,M,v1,v2,r,v4⟩;have aN:w.heap.size+1<=X.heap.size:=by have:=D.size;omega
  have aO:=p.size;have aP:=t.size;have av:∀k,k<w.heap.size->¬(k=d\/Own m k)->¬GY w.heap.size d m (.slice none 0 0) (.slice none 0 0) k:=fun k a q e=>by
   rcases e with e|e|e|e|e
   ·omega
   ·exact q (.inl e)
   ·exact q (.inr e)
   ·exact b _ e
   ·exact b _ e
  have al:GN V w.heap.size d s (f:Nat) (g:Nat) ((1:Nat):Int) M m (.slice none 0 0) (.slice none 0 0) (c.D.set 0 (GQ 0 f g)) [] []:=⟨l.row.fr r (fun e=>l.ne e),v1,Hb.nil _,⟨rfl,.inl ⟨rfl,rfl⟩⟩,l.ne,⟨l.ns.1,b _,b _⟩,⟨l.nd.1,b _,b _⟩,fun k _=>b k,fun k _=>b k,fun k _=>b k⟩;have aw:GN V w.heap.size d s (c.tp:Nat) (c.tx:Nat) ((1:Nat):Int) M m (.slice none 0 0) (.slice none 0 0) (c.D.set 0 (GQ 0 c.tp c.tx)) [] []:=by rw[N,O];exact al
  have ax:Hc V M (c.D.set 0 (GQ 0 c.tp c.tx)):=by rw[N,O];exact v2
  refine⟨rfl,w.heap.size,M,s,c,rfl,Aa _,J,aw,ax,aE.fr r (fun k a e=>H k a (.inr (.inl e))),fun k a=>?_,fun k a=>?_,?_⟩
  ·have h1:=v4 k a;refine⟨by omega,by omega,fun e=>(by have:=aB k e;omega),fun e=>(by have:=l.disk.1.lt;omega),fun e=>(by have:=l.disk.2.1.1.lt e;omega)⟩
  ·exact⟨(by have:=s7 k a;omega),fun e=>H k a (.inl e),fun e=>H k a (.inr (.inl e)),fun e=>H k a (.inr (.inr (.inl e)))⟩
  ·refine⟨r.os.trans (t.os.trans (p.os.trans (D.os.trans o.os))),r.tape.trans (t.tape.trans (p.tape.trans (D.tape.trans o.tape))),r.output.trans (t.output.trans (p.output.trans (D.output.trans o.output))),by have:=r.size;omega,fun k a q=>?_⟩;have aC:¬Own aG k:=fun e=>(s2 k e).elim (b _) (fun e=>by omega)
   rw[r.block k (by omega) (fun e=>q (.inl e)),t.block k (by omega) (fun e=>by rcases e with e|e|e;exact q (.inl e);exact q (.inr e);exact aC e),p.block k (by omega),D.block k (by omega) (av k a q),o.block k a]
 have HW:=Db hW;have ah:=Db (SN 0 (f:Nat) (g:Nat));have aQ:IntKind.u64.wrap (1-1)=0:=by decide
 clear h ac R ad hW xW kW sW o ae b au aa ab Q T U;go_enter Tryz.func99,Tryz.ntmps99;go_upto_region 2 with fail;rw[show w.alloc (.cells #[.pointer (some ⟨d,0,none⟩),.slice none 0 0,.int .i64 15,.int .u64 0,.int .u64 0] 179)=W from Da HW];go_upto_region 3 with(go_at_call 74;refine(Da HK).mono ?_;rintro e X ⟨rfl,ao,ai⟩);refine AN (S:=fun X=>X.cell? ⟨w.heap.size,4,none⟩=some (.int .u64 1)/\X.cell? ⟨w.heap.size,2,none⟩=some (.int .i64 (f:Nat))/\X.cell? ⟨w.heap.size,3,none⟩=some (.int .u64 (g:Nat))) (by kernel_rfl) ao (fun aL=>?_);refine tk 0 ?_;try simp only[pE];refine tk 1 ?_;try simp only[pE];refine tk 2 ?_;try simp only[pE];refine tk 3 ?_;try simp only[pE];refine tk 4 ?_;try simp only[pE];refine Bc (i:=5) (v := .int .u64 0) rfl (by kernel_rfl) (by kernel_rfl) (by kernel_rfl) (fun _ _ _ h=>h) (Or.inl ⟨by rfl,?_⟩) (by assumption) ?_
 ·intro w am;(try dsimp only at am);go_simp
  rfl
 (try simp only[pE])
 refine tk 6 ?_;try simp only[pE];refine tk 7 ?_;try simp only[pE];refine tk 8 ?_;try simp only[pE];refine tk 9 ?_;try simp only[pE];refine tk 10 ?_;try simp only[pE];refine Bc (i:=11) (v := .agg #[.int .u64 0,.int .i64 (f:Nat),.int .u64 (g:Nat)]) rfl (by kernel_rfl) (by kernel_rfl) (by kernel_rfl) (fun _ _ _ h=>h) (Or.inl ⟨by rfl,fun V _=>Pu V 191 _ rfl (vs := #[(0,.int .u64 0),(1,.agg #[.int .i64 (f:Nat),.int .u64 (g:Nat)])]) (by simp[Act.eval]) (Da ah)⟩) (by assumption) ?_
 (try simp only[pE])
 refine rk 12 (fun K u=>?_);go_simp;go_at_call 160;refine(Da ai).mono ?_;rintro e Y ⟨rfl,ap,aj⟩;go_wp2_with fail;refine u.out _ _ ap (fun aJ=>?_);clear u K
 (try simp only[pE])
 refine rk 13 (fun K u=>?_);go_simp;go_at_call 159;refine(Da aj).mono ?_;rintro e Z ⟨rfl,aq,ak⟩;go_wp2_with fail;refine u.out _ _ aq (fun aK=>?_);clear u K
 (try simp only[pE])
 refine AS (by kernel_rfl) ?_ _;go_wp2_with (go_at_call 161;refine(Da ak).mono ?_;rintro e V ⟨rfl,HP⟩);go_ret;exact Da HP

section
variable{F:LY}{ps:LB}{st:Nat}{lost:List Bool}
end
structure At(en:List Nat)(e j:Nat):Prop where
 lt:j<en.length
 lo:∀i x,i+1=j->en[i]?=some x->x<=e
 hi:∀i x,j<=i->i+1<en.length->en[i]?=some x->e<x
theorem s00_ok:Hv (Hr D6):=⟨fun j k x y _ a=>(by cases a),Aw _,by show 15<1536;omega,ND,fun x b=>(by cases b)⟩
theorem YN(cl:Bool)(r:Nat)(b:By):(Je [] cl 15 D6).stay r b=none:=rfl
theorem WT{C:NB}{L:List It}(c:G0 C L):(DO 512 (Hr D6) C L).2.ps≠[]/\GK (DO 512 (Hr D6) C L).1∈(DO 512 (Hr D6) C L).2.ps.map (·.1):=by
 obtain⟨cl,a,_⟩:=S1 512 (Hr D6) C L;obtain⟨st0,r,b,e,f,_⟩:=Yz s00_ok cl c;rw[a,e,f];have d:(Je (Hr D6).es cl (Hr D6).tp (Hr D6).D).stay r b=none:=YN cl r b;unfold FL.put;rw[d];simp

def UN:List UInt8:=[115,105,108,116,10,100,32,47,97,10,102,32,47,97,47,102,32,50,10,54,56,54,57,10]
theorem Qa:(Jy UN).isSome=true:=by kernel_rfl
section
variable{G:Gh}{I:LF}{CI:IB}
theorem ZkB(w:World)(tb:Nat)(j:PS w tb G I CI)(l:TG G I):
  Cl 40 #[.pointer (some ⟨tb,0,none⟩)] w fun e w'=>∃vb,e = .returned (.pointer (some ⟨vb,0,none⟩))/\FY w' vb tb/\PS w' tb G I CI/\Bw w w':=by
 have o:Hid (Cl 98 #[] w fun e X=>∃a,e = .returned (.pointer (some ⟨a,0,none⟩))/\Hid (Cl 99 #[.pointer (some ⟨a,0,none⟩),.pointer (some ⟨tb,0,none⟩)] X fun e Y=>∃b,e = .returned (.pointer (some ⟨b,0,none⟩))/\Hid (Cl 77 #[.pointer (some ⟨tb,0,none⟩),.pointer (some ⟨a,0,none⟩),.pointer (some ⟨b,0,none⟩)] Y fun e Z=>∃vb,e = .returned (.pointer (some ⟨vb,0,none⟩))/\Hid (FY Z vb tb/\PS Z tb G I CI/\Bw w Z)))):=by
  obtain⟨B,V,E,D,f⟩:=j;refine(ZV w).mono ?_;rintro e X ⟨a,C,F,rfl,ad,q,-,c,-,i,-⟩;refine⟨a,rfl,?_⟩;have v:=c.size;have r:=f.below c (Aa _);have g:=UW r l;refine(Zh2 X a tb C F q (fun e=>(i _ e).2 rfl) g (WT g.ok).1).mono ?_;rintro e Y ⟨b,vf,va,s,rfl,ah,hK,aa,ac,ab,ag,af,d⟩;refine⟨b,rfl,?_⟩;have x:=d.size;refine(ZfR Y tb a b).mono ?_;rintro e Z ⟨rfl,t,z,ae⟩;have y:Bw w Y:=⟨d.os.trans c.os,d.tape.trans c.tape,d.output.trans c.output,Ae v x,fun k A=>(d.block k (by omega) (fun e=>by
   rcases e with e|e
   ·omega
   ·have:=(i _ e).1;omega)).trans (c.block k A)⟩
  have h:Bw w Z:=y.trans (z.mono (by omega));have u:I5 Z Y.heap.size tb a b:=t;exact⟨Y.heap.size,rfl,u.vol,⟨B,V,E,D,f.below h (Aa _)⟩,h⟩
 clear j l;go_enter Tryz.func40,Tryz.ntmps40;go_wp2_with (first|(go_at_call 98;refine(Da o).mono ?_;rintro e X ⟨a,rfl,m⟩)|(go_at_call 99;refine(Da m).mono ?_;rintro e Y ⟨b,rfl,n⟩)|(go_at_call 77;refine(Da n).mono ?_;rintro e Z ⟨vb,rfl,p⟩));go_ret;exact⟨vb,rfl,Da p⟩
theorem Ms {w : World} {vb tb rd : Nat} {V : Nat → Value} {E : Nat → List (ByteArray × VS)} {vi : Value} (hv : FY w vb tb) (hT : TW w tb rd V E vi G I CI) (htg : TG G I) {n0 : Nat} (hn0 : n0 ≤ w.heap.size) (htab : Lib.TabBelow Tryz.prog n0 w "internal/strconv.uint64pow10" .u64 Lib.pow10Tab) :
  Cl 19 #[.pointer (some ⟨vb,0,none⟩)] w fun e w'=>e = .returned (.string (ba (Gb (fun n=>CI (n:Int)) (Dg (DY G rd E))).1))/\Bw w w':=by
 obtain⟨S,hS⟩:=ex (ba (Gb (fun n=>CI (n:Int)) (Dg (DY G rd E))).1);have hm:=Um w vb tb hv;have HO:Hid (Cl 54 #[.pointer (some ⟨tb,0,none⟩)] w fun e w'=>e = .returned (.string S)/\Hid (Bw w w')):=by
  refine(dump_code w n0 tb rd (UW hT htg) hn0 htab).mono ?_;rintro e w' ⟨rfl,h1⟩;exact⟨by rw[hS];rfl,h1⟩
 rw[<-hS];obtain⟨db,stb,hv⟩:=hv;have c1:w.cell? ⟨vb,1,none⟩=some (.pointer (some ⟨tb,0,none⟩)):=(FH.cell hv 1).trans rfl;clear hv hT htg htab hS;go_enter Tryz.func19,Tryz.ntmps19;go_wp2_with (first|(go_at_call 53;refine hm.mono ?_;rintro e w' ⟨rfl,rfl⟩)|(go_at_call 54;refine(Da HO).mono ?_;rintro e w' ⟨rfl,HB⟩));go_ret;exact⟨rfl,Da HB⟩
end
def NE(w:World)(text:List UInt8)(e:Ending)(w':World):Prop:=
 (Jy text=none/\e = .returned (.tuple #[.pointer none,.int .i64 11])\/∃vb tb G I C ρ L F,e = .returned (.tuple #[.pointer (some ⟨vb,0,none⟩),.int .i64 0])/\Jy text=some (L,F)/\FY w' vb tb/\PS w' tb G I C/\TG G I/\Rl G I C ρ L F/\tb<=w'.heap.size)/\Bw w w'
theorem restore_any (w : World) (hp : Gk w) (he : GH w) (n0 : Nat) (hn0 : n0 ≤ w.heap.size) (htab : Lib.TabBelow Tryz.prog n0 w "internal/strconv.uint64pow10" .u64 Lib.pow10Tab) (h4 : 4 ≤ w.heap.size) (text : List UInt8) (hl : text.length ≤ 1999990) :
  Cl 15 #[.string (ba text)] w (NE w text):=by
 have hr:=read_rd w hp he n0 hn0 htab h4 text hl (dt_rd text)
 cases hres:Jy text with
 | none=>
  have HR:Hid (Cl 39 #[.string (ba text)] w fun e X=>e = .returned (.tuple #[.pointer none,.bool false])/\Hid (Bw w X)):=by
   refine hr.mono ?_;rintro e X ⟨hc,hX⟩;rcases hc with⟨rfl,_⟩|⟨tb,G,I,C,D,_,h1,h2,h3,_,X',rd,V,E,vi,ht,hd⟩
   ·exact⟨rfl,hX⟩
   ·obtain⟨ρ,L,F,_,e⟩:=P4 h3 h2 ht hd;rw[hres]at e;cases e
  clear hp he htab hl hr;go_enter Tryz.func15,Tryz.ntmps15;go_wp2_with (go_at_call 39;refine(Da HR).mono ?_;rintro e X ⟨rfl,HP⟩);exact Aq (v := .tuple #[.pointer none,.int .i64 11]) (by simp[results,Tryz.results15,go_sem]) rfl ⟨.inl ⟨hres,rfl⟩,Da HP⟩
 | some x=>
  have HR:Hid (Cl 39 #[.string (ba text)] w fun e X=>∃tb:Nat,e = .returned (.tuple #[.pointer (some ⟨tb,0,none⟩),.bool true])/\Hid (Cl 40 #[.pointer (some ⟨tb,0,none⟩)] X fun e Y=>∃vb:Nat,e = .returned (.pointer (some ⟨vb,0,none⟩))/\Hid (NE w text (.returned (.tuple #[.pointer (some ⟨vb,0,none⟩),.int .i64 0])) Y))):=by
   refine hr.mono ?_;rintro e X ⟨hc,hX⟩;rcases hc with⟨_,h⟩|⟨tb,G,I,C,D,rfl,h1,h2,h3,h5,X',rd,V,E,vi,ht,hd⟩
   ·exact absurd ⟨x,hres⟩ h
   ·obtain⟨ρ,L,F,hrl,e⟩:=P4 h3 h2 ht hd;refine⟨tb,rfl,(ZkB X tb h1 h2).mono ?_⟩;rintro e' Y ⟨vb,rfl,q1,q2,q3⟩;have hlt:tb<X.heap.size:=by obtain⟨rd,V,E,vi,ht'⟩:=h1;exact ht'.t.lt
    have:=q3.size;exact⟨vb,rfl,.inr ⟨vb,tb,G,I,C,ρ,L,F,rfl,e,q1,q2,h2,hrl,by omega⟩,hX.trans (q3.mono hX.size)⟩
  clear hp he htab hl hr hres;go_enter Tryz.func15,Tryz.ntmps15;go_wp2_with (first|(go_at_call 39;refine(Da HR).mono ?_;rintro e X ⟨tb,rfl,H2⟩)|(go_at_call 40;refine(Da H2).mono ?_;rintro e Y ⟨vb,rfl,HP⟩));exact Aq (v := .tuple #[.pointer (some ⟨vb,0,none⟩),.int .i64 0]) (by simp[results,Tryz.results15,go_sem]) rfl (Da HP)
theorem WC(a:OA)(n c:Nat):Tryz.prog.built 92 [(0,.slice a n c)]=some #[.slice a n c]:=by kernel_rfl
theorem Z3{a r:List (List UInt8)}{L:RL}{F:LY}(b:a.length≠2)(c:a.length≠3):Ha a r L F=none:=by
 unfold Ha
 split
 ·exact absurd rfl b
 ·exact absurd rfl c
 ·rfl
theorem Sh:∀(l:List UInt8) (n:Nat) {k:Nat},IW n l=some k->k<=1280
 | [],n,k,h=>by
  rw[Sf]at h
  split at h
  ·cases h;assumption
  ·cases h
 | c::r,n,k,h=>by
  rw[Sy]at h
  split at h
  ·cases h
  ·exact Sh r _ h
theorem I9.bel{w:World}{c d g:Nat}{L:RL}{F:LY}{b:List (List UInt8)}{wr:World}(h:I9 w c d g L F b wr):Bw w wr:=by obtain⟨_,_,a⟩:=h;exact a.bel
theorem ZiH(p:By)(w:World)(hp:p.size<=1999990):Cl 17 #[.string p] w (KR w (BL p)):=by
 have aG:=ZP p w (by omega);obtain⟨LN,bf⟩:=ex (Gv [] (BL p));have bn:=OM (BL p) [];rw[<-bf]at aG bn;have HR:Hid (Jy (BL p)=if LN.2=true/\LN.1≠[] then (IX LN.1.length LN.1.tail [] []).bind (fun x=>if (Gb (CF x.2) (Dg (FP x.1))).1=BL p then some x else none) else none):=by show _=_;unfold Jy;rw[<-bf]
 have aV:Hid (∀W a,Jy (BL p)=none->Bw w W->KR w (BL p) (.returned (.tuple #[.pointer a,.bool false])) W):=fun W a N S=>⟨.inl ⟨N,a,rfl⟩,S⟩
 have HL:Hid (Cl 41 #[.string p] w fun e w'=>∃a n c,e = .returned (.tuple #[.slice a n c,.bool LN.2])/\n=LN.1.length/\Hid (Sl w' 9 1 (.slice a n c) LN.1.length (J2 LN.1)/\Bw w w'/\∀g,(Value.slice a n c).ownBlock=some g->w.heap.size<=g)):=aG.mono (fun e w' ⟨a,n,c,N,S,h3⟩=>⟨a,n,c,N,(OO S).1,S,h3⟩);have a8:=Db bn;clear aG bf bn;obtain⟨ls,ok⟩:=LN;dsimp only at HR HL a8;go_enter Tryz.func17,Tryz.ntmps17;go_upto_region 2 with(go_at_call 41;refine(Da HL).mono ?_;rintro e w1 ⟨a,n,c,rfl,K,H1⟩;have HN:=Db K;clear K);clear HL;have K:=Da HN;by_cases aA:ok=false\/ls=[]
 ·have bo:Jy (BL p)=none:=by
   rw[Da HR,if_neg];rintro⟨N,S⟩;rcases aA with e|e
   ·rw[e]at N;cases N
   ·exact S e
  have B:=Db (Da aV w1 none bo (Da H1).2.1)
  cases ok with
  | false=>
   clear aA K bo;go_wp2;exact Aq (v := .tuple #[.pointer none,.bool false]) (by simp[results,Tryz.results17,go_sem]) rfl (Da B)
  | true=>
   have bL:ls=[]:=by rcases aA with e|e;cases e;exact e
   have b8:n=0:=by rw[K,bL];rfl
   subst b8;clear aA K bo bL;go_wp2;exact Aq (v := .tuple #[.pointer none,.bool false]) (by simp[results,Tryz.results17,go_sem]) rfl (Da B)
 ·obtain⟨l0,r0,rfl⟩:∃l r,ls=l::r:=by
   cases ls with
   | nil=>exact absurd (.inr rfl) aA
   | cons l r=>exact⟨l,r,rfl⟩
  have cc:ok=true:=by
   cases ok with
   | true=>rfl
   | false=>exact absurd (.inl rfl) aA
  subst cc;rw[Af]at K;subst K;obtain⟨T,hT⟩:=ex (IX (r0.length+1) r0 [] []);have bc:Hid (Jy (BL p)=T.bind (fun x=>if (Gb (CF x.2) (Dg (FP x.1))).1=BL p then some x else none)):=by
   show _=_;rw[Da HR,if_pos ⟨rfl,by simp⟩,hT];rfl
  obtain⟨aY,aP,bF⟩:=Da H1;obtain⟨_,aK⟩:=OO aY;obtain⟨g,J,_⟩:=aK 0 l0 rfl;subst J;have b1:w.heap.size<=g:=bF g rfl;have bl:g<w1.heap.size:=by obtain⟨R,hR⟩:=aY.type (g:=g) rfl;exact hR.lt
  have aB:r0.length+1<=c:=by
   rcases aY.2 with⟨e,_⟩|⟨g',ao,R,e,_,hc,_⟩
   ·cases e
   ·cases e;exact hc
  have aG:=(Da a8).1;have bS:∀x∈r0,x.length<=2000000:=fun x hx=>by
   have:=aG x (AA _ hx);rw[DJ]at this;simp only[Ay]at this;omega
  obtain⟨W2,e2,x2,k2,s2,b2⟩:=De w1 [.slice none 0 0,.slice none 0 0] 89;obtain⟨ad,a0⟩:=ex ((if c=1 then some (⟨g,0,none⟩:Addr) else some ⟨g,1,none⟩));obtain⟨W3,e3,x3,k3,s3,b3⟩:=De W2 [.slice ad r0.length (c-1)] 92;have a7:Hid (I9 w w1.heap.size W2.heap.size g [] [] r0 W3):=by
   refine⟨.slice none 0 0,.slice none 0 0,⟨⟨k3 _ _ _ x2,⟨rfl,.inl ⟨rfl,rfl⟩⟩,⟨rfl,.inl ⟨rfl,rfl⟩⟩,Aw _,Aw _,fun _ hx=>absurd hx A4,fun _ hx=>absurd hx A4,fun g hg=>(by simp[Value.ownBlock]at hg)⟩,?_,fun k hk=>?_,aP.trans ((b2.mono aP.size).trans (b3.mono (by have:=aP.size;omega))),⟨aP.size,by omega,bl⟩⟩⟩
   ·have aC:∀j x,r0[j]?=some x->W3.cell? ⟨g,1+j,none⟩=some (.string (ba x)):=fun j x hj=>by
     obtain⟨g',e',aU⟩:=aK (j+1) x hj
     cases e'
     rw[show 1+j=j+1 by omega];exact(b3.cell (p:=⟨g,j+1,none⟩) (show g<_ by omega)).trans ((b2.cell (p:=⟨g,j+1,none⟩) (show g<_ from bl)).trans aU)
    by_cases N:c=1
    ·refine⟨0,c-1,?_,by omega,by omega,by omega,fun j x hj=>?_⟩
     ·rw[a0,if_pos N]at x3;exact x3
     ·have:r0=[]:=Ak (by omega);rw[this]at hj;cases hj
    ·refine⟨1,c-1,?_,by omega,by omega,by omega,aC⟩;rw[a0,if_neg N]at x3;exact x3
   ·rcases hk with e|e|e
    ·exact .inl e
    ·simp[Value.ownBlock]at e
    ·simp[Value.ownBlock]at e
  have bC:Hid (LW T [] [] r0):=⟨F6.nl,bS,r0.length+1,by omega,hT⟩;obtain⟨E,br⟩:=ex w1.heap.size;obtain⟨o,bw⟩:=ex W2.heap.size;have bA:=Db e2;have bB:=Db e3;have bx:=Db a0;have bD:=Db br;have bE:=Db bw;rw[<-br,<-bw]at a7;have bX:(r0.length:Int)+1<=(c:Int):=by omega
  have ca:¬((r0.length:Int)+1=0):=by omega
  clear hT aY aP bF aK b1 bl aG bS x2 k2 s2 b2 x3 k3 s3 b3 e2 e3 a0 br bw H1 aA HR a8 aB;obtain⟨m,hm⟩:=ex (r0.length+1);rw[<-hm];have HM:=Db hm;have b4:¬((m:Int)=0):=by omega
  have b5:((m:Int)==0)=false:=by rw[AH];omega
  have b6:1<=m:=by omega
  have b7:(m:Int)<=(c:Int):=by omega
  have aH:m-1=r0.length:=by omega
  clear hm ca bX;go_upto_if 24 with fail;go_upto_region 5 with fail;rw[show w1.alloc (.cells #[.slice none 0 0,.slice none 0 0] 89)=W2 from Da bA];have bW:=WC;have aS:=(Da bx).symm;go_upto_region 6 with fail;rw[show W2.alloc (.cells #[.slice ad r0.length (c-1)] 92)=W3 from Da bB,<-Da bD,<-Da bE];clear aS bA bB bx bD bE HM b4 b5 b6 b7 aH bW
  go_loopw [8,9,10,11,12] (fun _ _ _ _ _ wr=>∃ls L F,Hid (I9 w E o g L F ls wr)/\Hid (LW T L F ls)) (fun _ _ _ _ _ wr=>GW o wr)
  case atStart=>exact⟨r0,[],[],a7,bC⟩
  case round=>
   obtain⟨ls,L,F,HI,HK⟩:=hrel;clear a7 bC;obtain⟨vl,vf,hV⟩:=Da HI;obtain⟨hR,bg,aI,an,bN,bO,bP⟩:=hV;have aH:=bg.lnsAt;have bH:=bg;obtain⟨off,ao,hr,aB,a2,ax,aC⟩:=bg;have bI:=(hr.cell 0).trans (show _=some (Value.slice (some ⟨g,off,none⟩) ls.length ao) from rfl);have bZ:=hr.frozen 0
   cases ls with
   | nil=>
    obtain⟨hL,_,n,_,hT⟩:=Da HK;have bh:T=some (L,F):=by rw[hT];cases n<;>rfl
    have hd:=XS hL wr E vl vf hR;obtain⟨D,hD⟩:=ex ((Gb (CF F) (Dg (FP L))).1);rw[<-hD]at hd;have aJ:Jy (BL p)=if D=BL p then some (L,F) else none:=by
     rw[Da bc,bh,hD];rfl
    have bs:(ba D).toList=D:=by rw[CD];exact DN D
    have bt:p.toList=BL p:=by rw[CD];rfl
    have a6:Hid (Cl 48 #[.pointer (some ⟨E,0,none⟩)] wr fun e w'=>e = .returned (.string (ba D))/\Hid (Bw wr w')):=hd;have cj:=an.size;by_cases aF:D=BL p
    ·rw[if_pos aF]at aJ;have B:Hid (∀W,Bw wr W->KR w (BL p) (.returned (.tuple #[.pointer (some ⟨E,0,none⟩),.bool true])) W):=fun W C=>by
      refine⟨.inr ⟨E,vl,vf,L,F,aJ,rfl,hR.fr (X:=fun _=>False) (Fr.of_below C) (fun _ _=>id),hL,fun k hk=>?_⟩,an.trans (C.mono an.size)⟩;rcases aI k hk with e|e<;>omega
     have bR:ba D=p:=by rw[aF,QF]
     rw[bR]at a6;clear hr aC hR aI an hL hT bh hd hD aJ bs bt aF HK HI aH aB ax a2 bR;go_wp2_with (go_at_call 48;refine(Da a6).mono ?_;rintro e w' ⟨rfl,HB⟩);exact Aq (v := .tuple #[.pointer (some ⟨E,0,none⟩),.bool true]) (by simp[results,Tryz.results17,go_sem]) rfl (Da B _ (Da HB))
    ·rw[if_neg aF]at aJ;have B:Hid (∀W,Bw wr W->KR w (BL p) (.returned (.tuple #[.pointer (some ⟨E,0,none⟩),.bool false])) W):=fun W C=>Da aV W _ aJ (an.trans (C.mono an.size))
     have p1:((ba D).toList==p.toList)=false:=by rw[bs,bt,AH];exact aF
     clear hr aC hR aI an hL hT bh hd hD aJ bs bt aF HK HI aH aB ax a2;go_wp2_with (go_at_call 48;refine(Da a6).mono ?_;rintro e w' ⟨rfl,HB⟩);exact Aq (v := .tuple #[.pointer (some ⟨E,0,none⟩),.bool false]) (by simp[results,Tryz.results17,go_sem]) rfl (Da B _ (Da HB))
   | cons l r=>
    have bm:=(Da HK).2.1;have bM:l.length<=2000000:=bm l (by simp);obtain⟨bp,bq⟩:=(Da HK).next;obtain⟨H,a5⟩:=ex (Gl [] l);obtain⟨bu,bv,_⟩:=Oy l [];rw[<-a5]at bu bv bp bq;have bi:=aC 0 l rfl;rw[Ct]at bi;obtain⟨aX,aS⟩:∃ad,ad=(if ao=1 then some (⟨g,off,none⟩:Addr) else some ⟨g,off+1,none⟩):=⟨_,rfl⟩;have aW:Hid (Cl 42 #[.string (ba l)] wr fun e w1=>∃a c,e = .returned (.slice a H.length c)/\w1.cell? ⟨o,0,none⟩=some (.slice (some ⟨g,off,none⟩) (r.length+1) ao)/\w1.frozen? ⟨o,0,none⟩=false/\Hid (Hq w E o g vl vf L F r (w1.setCell ⟨o,0,none⟩ (.slice aX r.length (ao-1)))/\∃t,a=some ⟨t,0,none⟩/\¬Jb E vl vf t/\t<w1.heap.size/\H.length<=c/\∀j x,H[j]?=some x->(w1.setCell ⟨o,0,none⟩ (.slice aX r.length (ao-1))).cell? ⟨t,j,none⟩=some (.string (ba x)))):=by
     have h9:=Zk2 (ba l) wr (by rw[DR];exact bM);rw[DN,<-a5]at h9;refine h9.mono ?_;rintro e w1 ⟨a,n,c,rfl,hS,hb,cb⟩;obtain⟨rfl,aK⟩:=OO hS;have a3:FH w1 o 92 _:=(hb.block _ hr.lt).trans hr;have bT:=Ht.next a3 aB a2 (Ao ax hb.size) (fun j x hj=>(hb.cell (p:=⟨g,off+j,none⟩) (show g<_ from ax)).trans (aC j x hj));rw[<-aS]at bT;have bK:Fr (fun k=>k=o) w1 (w1.setCell ⟨o,0,none⟩ (.slice aX r.length (ao-1))):=(Fr.refl _ _).set _ _ rfl;refine⟨a,c,rfl,(a3.cell 0).trans rfl,a3.frozen 0,(Hq.below ⟨hR,bH,aI,an,bN,bO,bP⟩ hb).scan bK bT,?_⟩;obtain⟨x0,ch⟩:∃x,H[0]?=some x:=by
      cases H with
      | nil=>exact absurd rfl bv
      | cons x y=>exact⟨x,rfl⟩
     obtain⟨t,J,_⟩:=aK 0 x0 ch;subst J;obtain⟨R,aZ⟩:=hS.type (g:=t) rfl;have b0:t≠o:=fun e=>by
      rw[e]at aZ;have:=aZ.type a3
      revert this;decide
     refine⟨t,rfl,fun e=>?_,aZ.lt,?_,fun j x hj=>?_⟩
     ·have h7:=cb t rfl;have h8:=Hq.olt ⟨hR,bH,aI,an,bN,bO,bP⟩ e;omega
     ·rcases hS.2 with⟨e,_⟩|⟨g',ci,R',e,_,aU,_⟩
      ·cases e
      ·cases e;exact aU
     ·obtain⟨g',e',aU⟩:=aK j x hj
      cases e'
      exact(Qh bK (show t<_ from aZ.lt) b0).trans aU
    have a9:Hid (GW o wr=r.length+1):=aH;have bb:Hid (∀r' L' F' W,Ha H r L F=some (r',L',F')->I9 w E o g L' F' r' W->Hid (LW T L' F' r')/\Hid (GW o W<r.length+1)):=fun r' L' F' W e C=>by
     refine⟨bq r' L' F' e,?_⟩;obtain⟨_,_,hs⟩:=C;show _<_;rw[hs.sc.lnsAt];have:=(Si e).1;omega
    have I:Hid (∀W,Ha H r L F=none->Bw w W->KR w (BL p) (.returned (.tuple #[.pointer none,.bool false])) W):=fun W e C=>by
     refine Da aV W none ?_ C;rw[Da bc,bp e];rfl
    have ab:=Db (Da HK).1;have ai:Hid (∀x∈r,x.length<=2000000):=fun x hx=>bm x (AA _ hx)
    have ae:Hid (∀x∈H,x.length<=2000000):=fun x hx=>by have:=bu x hx;simp only[Ay]at this;omega
    have bz:Hid ((r.length:Int)+1<=(ao:Int)):=by rw[Af]at aB;show _<=_;omega
    have ce:=Da bz;have cf:¬((r.length:Int)+1<=0):=by omega
    rw[Af]at bI;obtain⟨Z,hZ⟩:=ex (ba l);rw[<-hZ]at aW bi;obtain⟨nw,ar⟩:∃n,n=H.length:=⟨_,rfl⟩;rw[<-ar]at aW;have aj:=Db ar;have al:=Db a5;have bV:=aS.symm;clear hr aC hR aI an HI HK aH aB ax a2 bm bM bp bq a5 bu bv aS hZ ar aV bc;go_upto_region 8 with(go_at_call 42;refine(Da aW).mono ?_;rintro e w1 ⟨aw,cw,rfl,c1,bU,H1⟩);clear bI bZ bi aW;go_upto_region 9 with fail;obtain⟨M,a4⟩:∃M,w1.setCell ⟨o,0,none⟩ (.slice aX r.length (ao-1))=M:=⟨_,rfl⟩;rw[a4];rw[a4]at H1;obtain⟨O,t,rfl,ag,ax,bj,aa⟩:=Da H1;have Y:t<M.heap.size:=by rw[<-a4];simp[World.setCell];exact ax
    clear ax;clear c1 bU H1 a4 bV ce cf bz;have ac:=O.bel;have ar:=Da aj;by_cases S:nw=2
    ·obtain⟨G,p1,i⟩:∃a p,H=[a,p]:=by
      match H,ar.symm.trans S with
      | [a,p],_=>exact⟨a,p,rfl⟩
     have q0:=aa 0 G (by rw[i];rfl);have q1:=aa 1 p1 (by rw[i];rfl);have ah:p1.length<=2000000:=Da ae p1 (by rw[i];simp);have am:=(Da ab).ln;obtain⟨b,U⟩:∃P,P=ba p1:=⟨_,rfl⟩;have f:Ha H r L F=if G=[100] then (if (DS L F b).1=0 then some (r,(DS L F b).2,F) else none) else none:=by rw[i,U];rfl
     subst S;have bY:(2:Int)<=(cw:Int):=by omega
     clear ar bj;by_cases J:G=[100]
     ·rw[if_pos J]at f;subst J;rw[show ba [100]=⟨#[100]⟩ from rfl]at q0;rw[<-U]at q1;have af:b.size<=2000000:=by rw[U,DR];exact ah
      have HC:Hid (∀W,Bw M W->Cl 43 #[.pointer (some ⟨E,0,none⟩),.string b] W fun e u=>e = .returned (.int .i64 (DS L F b).1)/\Hid (I9 w E o g (DS L F b).2 F r u)):=fun W C=>((O.below C).call (fun hR=>ZT W E vl vf L F hR (by omega) b af)).mono (fun e u h=>⟨h.1,h.2.1⟩)
      by_cases V:(DS L F b).1=0
      ·rw[if_pos V]at f;rw[V]at HC;have aN:=Db f;clear ab ai ae I f aa O ac aj al ag Y i ah U af V am;go_wp2_with (go_at_call 43;refine(Da HC _ (by first|exact Ag _ _|exact(Ag _ _).drew|exact(Ag _ _).drew.drew|exact(Ag _ _).drew.drew.drew)).mono ?_;rintro e u ⟨rfl,Q⟩);obtain⟨au,aL⟩:=Da bb _ _ _ _ (Da aN) (Da Q)
       go_roundw
       case rel=>first|exact⟨_,_,_,Q,au⟩|((repeat apply Exists.intro);exact⟨⟨_,_,_,Q,au⟩,rfl⟩)
       case measure=>rw[Da a9];exact Da aL
      ·rw[if_neg V]at f;have aO:Hid (∀W,Bw w W->KR w (BL p) (.returned (.tuple #[.pointer none,.bool false])) W):=fun W C=>Da I W f C
       obtain⟨z,az⟩:=ex ((DS L F b).1);rw[<-az]at HC V;clear ab ai ae I f aa O ac aj al ag Y i ah U af az am;go_wp2_with (go_at_call 43;refine(Da HC _ (by first|exact Ag _ _|exact(Ag _ _).drew|exact(Ag _ _).drew.drew|exact(Ag _ _).drew.drew.drew)).mono ?_;rintro e u ⟨rfl,Q⟩);have B:=Db (Da aO _ (Da Q).bel);exact Aq (v := .tuple #[.pointer none,.bool false]) (by simp[results,Tryz.results17,go_sem]) rfl (Da B)
     ·rw[if_neg J]at f;have B:=Db (Da I M f ac);obtain⟨A1,av⟩:∃A,A=ba G:=⟨_,rfl⟩;rw[<-av]at q0;have t1:(A1.toList==[100])=false:=by rw[av,CD,show(ba G).data.toList=G from DN G,AH];exact J
      clear ab ai ae I f aa O ac aj al ag Y i ah U J av q1 am;go_wp2;exact Aq (v := .tuple #[.pointer none,.bool false]) (by simp[results,Tryz.results17,go_sem]) rfl (Da B)
    by_cases h3:nw=3
    ·obtain⟨G,p1,k1,i⟩:∃a p q,H=[a,p,q]:=by
      match H,ar.symm.trans h3 with
      | [a,p,q],_=>exact⟨a,p,q,rfl⟩
     have q0:=aa 0 G (by rw[i];rfl);have q1:=aa 1 p1 (by rw[i];rfl);have q2:=aa 2 k1 (by rw[i];rfl);have ah:p1.length<=2000000:=Da ae p1 (by rw[i];simp);have ay:k1.length<=2000000:=Da ae k1 (by rw[i];simp);have am:=(Da ab).ln;obtain⟨b,U⟩:∃P,P=ba p1:=⟨_,rfl⟩;obtain⟨K1,ak⟩:∃P,P=ba k1:=⟨_,rfl⟩;have f:Ha H r L F=if G=[108] then (if (DL L F K1 b).1=0 then some (r,(DL L F K1 b).2,F) else none) else
      if G=[102] then ((KJ k1).bind fun n=>(GR n r []).bind fun x=>if (Dy L F b 0 (ba x.1)).1=0 then some (x.2,(Dy L F b 0 (ba x.1)).2.1,(Dy L F b 0 (ba x.1)).2.2) else none) else none:=by rw[i,U,ak];rfl
     subst h3;have bY:(3:Int)<=(cw:Int):=by omega
     clear ar bj;have af:b.size<=2000000:=by rw[U,DR];exact ah
     have ap:K1.size<=2000000:=by rw[ak,DR];exact ay
     rw[<-U]at q1;rw[<-ak]at q2;by_cases J:G=[108]
     ·rw[if_pos J]at f;subst J;rw[show ba [108]=⟨#[108]⟩ from rfl]at q0;have HC:Hid (∀W,Bw M W->Cl 44 #[.pointer (some ⟨E,0,none⟩),.string K1,.string b] W fun e u=>e = .returned (.int .i64 (DL L F K1 b).1)/\u.cell? ⟨t,2,none⟩=some (.string K1)/\u.cell? ⟨t,1,none⟩=some (.string b)/\Hid (I9 w E o g (DL L F K1 b).2 F r u)):=fun W C=>((O.below C).call (fun hR=>YW W E vl vf L F hR (by omega) K1 b ap af)).mono (fun e u h=>⟨h.1,(Qh h.2.2 (Ao Y C.size) ag).trans ((C.cell (p:=⟨t,2,none⟩) Y).trans q2),(Qh h.2.2 (Ao Y C.size) ag).trans ((C.cell (p:=⟨t,1,none⟩) Y).trans q1),h.2.1⟩)
      by_cases V:(DL L F K1 b).1=0
      ·rw[if_pos V]at f;rw[V]at HC;have aN:=Db f;clear ab ai ae I f aa O ac aj al ag Y i ah U af V am ay ak ap S;go_upto_region 13 with fail
       go_region_held3 (fun W=>W.cell? ⟨t,2,none⟩=some (.string K1)/\W.cell? ⟨t,1,none⟩=some (.string b)) (go_keep) (first|(go_at_call 44;refine(Da HC _ (by first|exact Ag _ _|exact(Ag _ _).drew|exact(Ag _ _).drew.drew|exact(Ag _ _).drew.drew.drew)).mono ?_;rintro e u ⟨rfl,f1,f2,Q⟩))
       go_wp2;obtain⟨au,aL⟩:=Da bb _ _ _ _ (Da aN) (Da Q)
       go_roundw
       case rel=>first|exact⟨_,_,_,Q,au⟩|((repeat apply Exists.intro);exact⟨⟨_,_,_,Q,au⟩,rfl⟩)
       case measure=>rw[Da a9];exact Da aL
      ·rw[if_neg V]at f;have aO:Hid (∀W,Bw w W->KR w (BL p) (.returned (.tuple #[.pointer none,.bool false])) W):=fun W C=>Da I W f C
       obtain⟨z,az⟩:=ex ((DL L F K1 b).1);rw[<-az]at HC V;clear ab ai ae I f aa O ac aj al ag Y i ah U af az am ay ak ap S;go_upto_region 13 with fail
       go_region_held3 (fun W=>W.cell? ⟨t,2,none⟩=some (.string K1)/\W.cell? ⟨t,1,none⟩=some (.string b)) (go_keep) (first|(go_at_call 44;refine(Da HC _ (by first|exact Ag _ _|exact(Ag _ _).drew|exact(Ag _ _).drew.drew|exact(Ag _ _).drew.drew.drew)).mono ?_;rintro e u ⟨rfl,f1,f2,Q⟩))
       go_wp2;have B:=Db (Da aO _ (Da Q).bel);exact Aq (v := .tuple #[.pointer none,.bool false]) (by simp[results,Tryz.results17,go_sem]) rfl (Da B)
     rw[if_neg J]at f;by_cases aR:G=[102]
     ·rw[if_pos aR]at f;subst aR;rw[show ba [102]=⟨#[102]⟩ from rfl]at q0;have aq:=Zkm K1 M ap;rw[ak,DN,<-ak]at aq
      cases K:KJ k1 with
      | none=>
       rw[K]at f aq;have B:=Db (Da I M f ac);have aM:Hid (Cl 45 #[.string K1] M fun e w'=>e = .returned (.int .i64 (-1))/\w'=M):=aq;clear ab ai ae I f aa O ac aj al ag Y i ah U af am ay ak ap S J K aq;go_wp2_with (go_at_call 45;refine(Da aM).mono ?_;rintro e w' ⟨rfl,i⟩;rw[i];clear i);exact Aq (v := .tuple #[.pointer none,.bool false]) (by simp[results,Tryz.results17,go_sem]) rfl (Da B)
      | some n=>
       rw[K]at f aq;have b9:n<=1280:=by
        unfold KJ at K
        split at K
        ·cases K
        ·exact Sh _ _ K
       have aM:Hid (Cl 45 #[.string K1] M fun e w'=>e = .returned (.int .i64 (n:Int))/\w'=M):=aq;have aT:=Zn M o g n b9 r O.sc (Da ai)
       cases hbr:GR n r [] with
       | none=>
        have bQ:Ha H r L F=none:=by
         rw[f];show(GR n r []).bind _=none;rw[hbr];rfl
        have aE:Hid (Cl 46 #[.pointer (some ⟨o,0,none⟩),.int .i64 (n:Int)] M fun e u=>∃s,e = .returned (.tuple #[.string s,.bool false])/\Hid (KR w (BL p) (.returned (.tuple #[.pointer none,.bool false])) u)):=aT.mono (fun e u ⟨hc,hf⟩=>by
         have hX:=Da I u bQ (O.bel2 hf);rcases hc with⟨_,s,rfl⟩|⟨d,r',N,_⟩
         ·exact⟨s,rfl,hX⟩
         ·rw[hbr]at N;cases N)
        clear ab ai ae I f aa O ac aj al ag Y i ah U af am ay ak ap S J K aq aT hbr bQ;go_wp2_with (first|(go_at_call 45;refine(Da aM).mono ?_;rintro e w' ⟨rfl,i⟩;rw[i];clear i)|(go_at_call 46;refine(Da aE).mono ?_;rintro e u ⟨s,rfl,B⟩));exact Aq (v := .tuple #[.pointer none,.bool false]) (by simp[results,Tryz.results17,go_sem]) rfl (Da B)
       | some x=>
        obtain⟨d,r'⟩:=x;have bJ:=(OR n r [] d r' hbr).2.2;have aD:Ha H r L F=if (Dy L F b 0 (ba d)).1=0 then some (r',(Dy L F b 0 (ba d)).2.1,(Dy L F b 0 (ba d)).2.2) else none:=by
         rw[f];show(GR n r []).bind _=_;rw[hbr];rfl
        obtain⟨D1,aQ⟩:∃D,D=ba d:=⟨_,rfl⟩;rw[<-aQ]at aD;have be:D1.size<=2000000:=by rw[aQ,DR];omega
        have bk:∀x∈L,x.2<F.length:=fun x hx=>by
         rcases (Da ab).fl x hx with e|⟨m,e,hm⟩
         ·rw[e];omega
         ·rw[e];omega
        have bG:=(Da ab).fn;have aE:Hid (Cl 46 #[.pointer (some ⟨o,0,none⟩),.int .i64 (n:Int)] M fun e u=>e = .returned (.tuple #[.string D1,.bool true])/\u.cell? ⟨t,1,none⟩=some (.string b)/\Hid (Cl 47 #[.pointer (some ⟨E,0,none⟩),.string b,.int .i64 0,.string D1] u fun e w4=>e = .returned (.int .i64 (Dy L F b 0 D1).1)/\Hid (I9 w E o g (Dy L F b 0 D1).2.1 (Dy L F b 0 D1).2.2 r' w4))):=aT.mono (fun e u ⟨hc,hf⟩=>by
         rcases hc with⟨N,_⟩|⟨d',r2,N,rfl,cg⟩
         ·rw[hbr]at N;cases N
         ·rw[hbr]at N
          cases N
          refine⟨by rw[aQ],(Qh hf (show t<_ from Y) (fun e=>?_)).trans q1,?_⟩
          ·obtain⟨o9,c9,cd,_⟩:=O.sc;have e':t=o:=e;have h8:=cd.cell 1;rw[<-e',q1]at h8
           cases h8
          ·exact((O.scan hf cg).call (fun hR=>Zk1 u E vl vf L F hR bk (by omega) (by omega) b af 0 D1 be)).mono (fun e w4 h=>⟨h.1,h.2.1⟩))
        by_cases V:(Dy L F b 0 D1).1=0
        ·rw[if_pos V]at aD;rw[V]at aE;have aN:=Db aD;clear ab ai ae I f aD aa O ac aj al ag Y i ah U af am ay ak ap S J K aq aT hbr bJ aQ be bk bG V;go_wp2_with (first|(go_at_call 45;refine(Da aM).mono ?_;rintro e w' ⟨rfl,i⟩;rw[i];clear i)|(go_at_call 46;refine(Da aE).mono ?_;rintro e u ⟨rfl,f1,bd⟩)|(go_at_call 47;refine(Da bd).mono ?_;rintro e w4 ⟨rfl,Q⟩));obtain⟨au,aL⟩:=Da bb _ _ _ _ (Da aN) (Da Q)
         go_roundw
         case rel=>first|exact⟨_,_,_,Q,au⟩|((repeat apply Exists.intro);exact⟨⟨_,_,_,Q,au⟩,rfl⟩)
         case measure=>rw[Da a9];exact Da aL
        ·rw[if_neg V]at aD;have aO:Hid (∀W,Bw w W->KR w (BL p) (.returned (.tuple #[.pointer none,.bool false])) W):=fun W C=>Da I W aD C
         obtain⟨z,az⟩:=ex ((Dy L F b 0 D1).1);rw[<-az]at aE V;clear ab ai ae I f aD aa O ac aj al ag Y i ah U af am ay ak ap S J K aq aT hbr bJ aQ be bk bG az;go_wp2_with (first|(go_at_call 45;refine(Da aM).mono ?_;rintro e w' ⟨rfl,i⟩;rw[i];clear i)|(go_at_call 46;refine(Da aE).mono ?_;rintro e u ⟨rfl,f1,bd⟩)|(go_at_call 47;refine(Da bd).mono ?_;rintro e w4 ⟨rfl,Q⟩));have B:=Db (Da aO _ (Da Q).bel);exact Aq (v := .tuple #[.pointer none,.bool false]) (by simp[results,Tryz.results17,go_sem]) rfl (Da B)
     ·rw[if_neg aR]at f;have B:=Db (Da I M f ac);obtain⟨A1,av⟩:∃A,A=ba G:=⟨_,rfl⟩;rw[<-av]at q0;have t1:(A1.toList==[108])=false:=by rw[av,CD,show(ba G).data.toList=G from DN G,AH];exact J
      have t2:(A1.toList==[102])=false:=by rw[av,CD,show(ba G).data.toList=G from DN G,AH];exact aR
      clear ab ai ae I f aa O ac aj al ag Y i ah U J av q1 am aR q2 ay ak af ap S;go_wp2;exact Aq (v := .tuple #[.pointer none,.bool false]) (by simp[results,Tryz.results17,go_sem]) rfl (Da B)
    ·have f:Ha H r L F=none:=Z3 (by omega) (by omega);have B:=Db (Da I M f ac);have t2:((nw:Int)==2)=false:=by rw[AH];omega
     have t3:((nw:Int)==3)=false:=by rw[AH];omega
     clear ab ai ae I f aa O ac aj al ag Y ar S h3 bj;go_wp2;exact Aq (v := .tuple #[.pointer none,.bool false]) (by simp[results,Tryz.results17,go_sem]) rfl (Da B)
theorem dumps_end (w0 : World) (text : ByteArray) {w1 w2 : World} {vb tb rb : Nat} {vl vf : Value} {G : Gh} {I : List (Int × VF)} {C : Int → ByteArray} {ρ : Int → Nat} {L : RL} {F : List ByteArray} (hres : Jy (BL text) = some (L, F)) (hv : FY w1 vb tb) (hps : PS w1 tb G I C) (htg : TG G I) (hrl : Rl G I C ρ L F) (htb : tb ≤ w1.heap.size) (hb1 : Bw w0 w1) (hb2 : Bw w1 w2) (hrf : FN w2 rb vl vf L F) (hown : ∀ k, Jb rb vl vf k → w1.heap.size ≤ k) {n0 : Nat} (hn0 : n0 ≤ w0.heap.size) (htab : Lib.TabBelow Tryz.prog n0 w0 "internal/strconv.uint64pow10" .u64 Lib.pow10Tab) :
  Cl 18 #[.pointer (some ⟨vb,0,none⟩),.pointer (some ⟨rb,0,none⟩)] w2 fun e w3=>e = .returned (.bool true)/\Hid (Cl 19 #[.pointer (some ⟨vb,0,none⟩)] w3 fun e w4=>e = .returned (.string text)/\Hid (Bw w0 w4)):=by
 have hb02:Bw w0 w2:=hb1.trans (hb2.mono hb1.size);have hm:Md w2 vb tb rb L F L F:=by
  obtain⟨d,s,hv'⟩:=hv;obtain⟨rd,V,E,vi,hT⟩:=hps;exact⟨G,I,C,ρ,vl,vf,⟨d,s,(hb2.block _ (FH.lt hv')).trans hv'⟩,⟨rd,V,E,vi,hT.below hb2 (Aa _)⟩,⟨hrf,fun k hk=>by have:=hown k hk;omega⟩,hrl,htg.nd⟩
 refine(Zc (YX ZQ) w2 vb tb rb L F hm).mono ?_;rintro e w3 ⟨rfl,hb3⟩;refine⟨rfl,?_⟩;have hb13:Bw w1 w3:=hb2.trans (hb3.mono hb2.size);have hb03:Bw w0 w3:=hb02.trans (hb3.mono hb02.size);obtain⟨rd,V,E,vi,hT⟩:=hps;obtain⟨d,s,hv'⟩:=hv;refine(Ms (w:=w3) (vb:=vb) ⟨d,s,(hb13.block _ (FH.lt hv')).trans hv'⟩ (hT.below hb13 (Aa _)) htg (Ae hn0 hb03.size) (htab.on (hb03.mono hn0))).mono ?_;rintro e w4 ⟨rfl,hb4⟩;refine⟨?_,hb03.trans (hb4.mono hb03.size)⟩;rw[<-Pe hrl hT,(Nf hres).2.2.1,QF]
theorem dumps_code (w : World) (hp : Gk w) (he : GH w) (n0 : Nat) (hn0 : n0 ≤ w.heap.size) (htab : Lib.TabBelow Tryz.prog n0 w "internal/strconv.uint64pow10" .u64 Lib.pow10Tab) (h4 : 4 ≤ w.heap.size) (text : ByteArray) (hl : text.size ≤ 1999990) :
  Cl 5 #[.string text] w fun e w'=>e = .returned (.bool true)/\Bw w w':=by
 have hpk:∀W,Bw w W->Gk W/\GH W:=fun W hb=>⟨hp.fr (X:=fun _=>False) (Fr.of_below hb) (fun e=>e),he.fr (X:=fun _=>False) (Fr.of_below hb) (fun _ _ e=>e)⟩
 have H1:Hid (Cl 15 #[.string ⟨#[115,105,108,116,10,100,32,47,97,10,102,32,47,97,47,102,32,50,10,54,56,54,57,10]⟩] w fun e w1=>∃vb:Nat,e = .returned (.tuple #[.pointer (some ⟨vb,0,none⟩),.int .i64 0])/\Hid (Bw w w1)):=by
  have h9:=restore_any w hp he n0 hn0 htab h4 UN (by decide);refine Calls.mono (show Cl 15 #[.string (ba UN)] w (NE w UN) from h9) ?_;rintro e w1 ⟨hc,hb⟩;rcases hc with⟨h1,_⟩|⟨vb,tb,G,I,C,ρ,L,F,rfl,_⟩
  ·have:=Qa;rw[h1]at this;cases this
  ·exact⟨vb,rfl,hb⟩
 have H2:Hid (∀w1,Bw w w1->Cl 15 #[.string text] w1 (NE w1 (BL text))):=fun w1 hb=>by
  obtain⟨a,b⟩:=hpk w1 hb;have h9:=restore_any w1 a b n0 (Ae hn0 hb.size) (htab.on (hb.mono hn0)) (Ae h4 hb.size) (BL text) (by rw[DJ];exact hl);rw[QF]at h9;exact h9
 have H3:Hid (∀w1,Cl 17 #[.string text] w1 (KR w1 (BL text))):=fun w1=>ZiH text w1 hl
 have HTB:=Db htab;have HN:=Db hn0;clear hp he htab h4 hpk hn0;go_enter Tryz.func5,Tryz.ntmps5;go_upto_region 4 with(first|(go_at_call 15;refine(Da H1).mono ?_;rintro e w1 ⟨vb0,rfl,HB1⟩)|(go_at_call 16;refine(QU _ _).mono ?_;rintro e w' ⟨rfl,hw⟩;rw[hw];clear hw));clear H1
 cases hres:Jy (BL text) with
 | none=>
  have HC:Hid (Cl 15 #[.string text] w1 fun e w2=>e = .returned (.tuple #[.pointer none,.int .i64 11])/\Hid (Cl 17 #[.string text] w2 fun e w3=>∃a,e = .returned (.tuple #[.pointer a,.bool false])/\Hid (Bw w w3))):=by
   have hb1:=Da HB1;refine(Da H2 w1 hb1).mono ?_;rintro e w2 ⟨hc,hb2⟩;have hb02:Bw w w2:=hb1.trans (hb2.mono hb1.size);rcases hc with⟨_,rfl⟩|⟨_,_,_,_,_,_,_,_,_,e9,_⟩
   ·refine⟨rfl,(Da H3 w2).mono ?_⟩;rintro e w3 ⟨hc,hb3⟩;rcases hc with⟨_,a,rfl⟩|⟨_,_,_,_,_,e9,_⟩
    ·exact⟨a,rfl,hb02.trans (hb3.mono hb02.size)⟩
    ·rw[hres]at e9;cases e9
   ·rw[hres]at e9;cases e9
  clear H2 H3 HTB HN hres hl;go_wp2_with (first|(go_at_call 15;refine(Da HC).mono ?_;rintro e w2 ⟨rfl,HC3⟩)|(go_at_call 17;refine(Da HC3).mono ?_;rintro e w3 ⟨a,rfl,HB3⟩)|(go_at_call 16;refine(QU _ _).mono ?_;rintro e w' ⟨rfl,hw⟩;rw[hw];clear hw));go_ret;exact⟨rfl,Da HB3⟩
 | some x=>
  have HC:Hid (Cl 15 #[.string text] w1 fun e w2=>∃vb:Nat,e = .returned (.tuple #[.pointer (some ⟨vb,0,none⟩),.int .i64 0])/\Hid (Cl 17 #[.string text] w2 fun e w3=>∃rb:Nat,e = .returned (.tuple #[.pointer (some ⟨rb,0,none⟩),.bool true])/\Hid (Cl 18 #[.pointer (some ⟨vb,0,none⟩),.pointer (some ⟨rb,0,none⟩)] w3 fun e w4=>e = .returned (.bool true)/\Hid (Cl 19 #[.pointer (some ⟨vb,0,none⟩)] w4 fun e w5=>e = .returned (.string text)/\Hid (Bw w w5))))):=by
   have hb1:=Da HB1;refine(Da H2 w1 hb1).mono ?_;rintro e w2 ⟨hc,hb2⟩;have hb02:Bw w w2:=hb1.trans (hb2.mono hb1.size);rcases hc with⟨e9,_⟩|⟨vb,tb,G,I,C,ρ,L,F,rfl,hLF,hv,hps,htg,hrl,htb⟩
   ·rw[hres]at e9;cases e9
   ·refine⟨vb,rfl,(Da H3 w2).mono ?_⟩;rintro e w3 ⟨hc,hb3⟩;rcases hc with⟨e9,_⟩|⟨rb,vl,vf,L',F',hLF',rfl,hrf,_,hown⟩
    ·rw[hres]at e9;cases e9
    ·rw[hLF]at hLF'
     cases hLF'
     exact⟨rb,rfl,dumps_end w text hLF hv hps htg hrl htb hb02 hb3 hrf hown (Da HN) (Da HTB)⟩
  clear H2 H3 HTB HN hres hl;go_wp2_with (first|(go_at_call 15;refine(Da HC).mono ?_;rintro e w2 ⟨vb,rfl,HC3⟩)|(go_at_call 17;refine(Da HC3).mono ?_;rintro e w3 ⟨rb,rfl,HC4⟩)|(go_at_call 18;refine(Da HC4).mono ?_;rintro e w4 ⟨rfl,HC5⟩)|(go_at_call 19;refine(Da HC5).mono ?_;rintro e w5 ⟨rfl,HB5⟩)|(go_at_call 16;refine(QU _ _).mono ?_;rintro e w' ⟨rfl,hw⟩;rw[hw];clear hw));go_ret;exact⟨rfl,Da HB5⟩
end Go.Proofs.YtaieidcohdhgpaaGreatDoor
