/- Dumps. -/
import Derived.Test.YtaieidcohdhgpaaGreatDoorZBB
namespace Go.Proofs.YtaieidcohdhgpaaGreatDoor
set_option maxHeartbeats 40000000
set_option maxRecDepth 100000
open Go.RowKit Go.Maps
def GC(rb:Nat)(w:World):Nat:=match w.cell? ⟨rb,0,none⟩ with|some (.string s)=>s.size|_=>0
theorem GG.restAt{b c:Nat}{a:List UInt8}{D:DH}{K:Nat}{W:World}(h:GG b c a D K W):GC b W=a.length:=by
 unfold GC;rw[(h.row.cell 0).trans (show _=some (Value.string (ba a)) from rfl)];exact DR a
theorem WE{s a b:List UInt8}{c:UInt8}(h:Lib.cut s [c]=(a,b,true)):a.length+1+b.length=s.length:=by
 rcases Ol c s with d|⟨x,y,rfl,e⟩
 ·rw[M5 d]at h;cases h
 ·rw[KC e]at h;cases h;simp only[Ab,Af];omega
theorem W8{n:Nat}(h:n<4000000):(Lit.int .i64 (n:Int)).wf=true:=by
 unfold Lit.wf;rw[A8];exact⟨CN (by show(-9223372036854775808:Int)<=_;omega),CN (by show _<=(9223372036854775807:Int);omega)⟩
theorem SS{c f:Nat}{D:DH}{K:Nat}{W b:World}{x:List UInt8}(_h:GG c f x D K W)(_hi:c<W.heap.size/\f<W.heap.size)(p told Qa:List UInt8)(k:W.alloc (.cells [.string ⟨#[]⟩,.int .u8 0,.int .i64 0,.slice none 0 0].toArray 141)=b)(h:FH b W.heap.size 141 [.string ⟨#[]⟩,.int .u8 0,.int .i64 0,.slice none 0 0])(g:Bw W b)(n:JB told Qa=none)
  (m:Cl 210 #[.string (ba told)] b fun e X=>∃(i:Int) (N:Nat),e = .returned (.tuple #[.int .i64 i,.iface 357 (.pointer (some ⟨N,0,none⟩))])/\Bw b X):
  Cl 156 #[.pointer (some ⟨c,0,none⟩),.string (ba p),.string (ba told)] W (Qn W W.heap.size c f D K p told Qa):=by
 have j:Hid (Cl 210 #[.string (ba told)] b fun e X=>∃(i:Int) (N:Nat),e = .returned (.tuple #[.int .i64 i,.iface 357 (.pointer (some ⟨N,0,none⟩))])/\FH X W.heap.size 141 [.string ⟨#[]⟩,.int .u8 0,.int .i64 0,.slice none 0 0]/\Hid (Qn W W.heap.size c f D K p told Qa (.returned (.tuple #[.agg #[.string ⟨#[]⟩,.int .u8 0,.int .i64 0,.slice none 0 0],.bool false])) (KO X W.heap.size (.string ⟨#[]⟩) (.int .u8 0) (.int .i64 0) (.slice none 0 0)))):=
  m.mono fun e X ⟨i,N,r,l⟩=>⟨i,N,r,(l.block _ h.lt).trans h,Ob (Fr.of_below (g.trans (l.mono g.size))) n⟩
 have o:=Db k;clear k h g n m;go_enter Tryz.func156,Tryz.ntmps156;go_upto_region 1 with fail;rw[show W.alloc (.cells #[.string ⟨#[]⟩,.int .u8 0,.int .i64 0,.slice none 0 0] 141)=b from Da o];go_upto_region 3 with(go_at_call 210;refine(Da j).mono ?_;rintro e X ⟨i,N,rfl,a,q⟩);have d:=Db (JQ a (.string ⟨#[]⟩) (.int .u8 0) (.int .i64 0) (.slice none 0 0));have z0:=a.cell 0;have z1:=a.cell 1;have z2:=a.cell 2;have z3:=a.cell 3;have y0:=a.frozen 0;have y1:=a.frozen 1;have y2:=a.frozen 2;have y3:=a.frozen 3;clear a j;go_wp2;have s:=(Da d).cell 0;have t:=(Da d).cell 1;have u:=(Da d).cell 2;have w:=(Da d).cell 3;exact Aq (v := .tuple #[.agg #[.string ⟨#[]⟩,.int .u8 0,.int .i64 0,.slice none 0 0],.bool false]) (by simp[results,Tryz.results156,go_sem,s,t,u,w]) rfl (Da q)
theorem XG{j q:Nat}{m:List UInt8}{D:DH}{K:Nat}{W:World}(h:GG j q m D K W)(hi:j<W.heap.size/\q<W.heap.size)(p told:List UInt8)(hp:p.length<=2000000)(ht:told.length<=2000000)(aS:K+1+m.length<=2000000):
  Cl 156 #[.pointer (some ⟨j,0,none⟩),.string (ba p),.string (ba told)] W (Qn W W.heap.size j q D K p told m):=by
 have h4:4<=W.heap.size:=by have:=h.ne;omega
 obtain⟨T,e0,x0,k0,s0,b0⟩:=De W [.string ⟨#[]⟩,.int .u8 0,.int .i64 0,.slice none 0 0] 141;have h0:=h.below b0
 cases hat:Lib.atoiAll told with
 | ok v=>
  have al:Hid (Cl 210 #[.string (ba told)] T fun e A=>e = .returned (.tuple #[.int .i64 v,.nilIface])/\A.cell? ⟨j,1,none⟩=some (.map (some q))/\A.ownsMap Tryz.prog 9 (plainElem Tryz.prog 3) q K D/\∃U,A.alloc (.cells #[.string (ba p),.int .u8 2,.int .i64 (Maps.size D),.slice none 0 0] 141)=U/\Hid (Iw W j q A.heap.size D K p [] m (.slice none 0 0) U)):=by
   refine(Tryz.strconv_Atoi_ok (ba told) (by rw[DR];omega) v (by rw[show(ba told).data.toList=told from DN told];exact hat) T).mono ?_;rintro e A ⟨rfl,hw⟩;have Z:Bw T A:=by
    rcases hw with rfl|⟨t,rfl⟩
    ·exact Ag _ _
    ·exact Lib.bytesWorld_below _ _ _
   have u:=h0.below Z;obtain⟨U,e2,x2,k2,s2,b2⟩:=De A [.string (ba p),.int .u8 2,.int .i64 (Maps.size D),.slice none 0 0] 141;have aX:=Z.size;have aK:Bw W U:=b0.trans ((Z.mono (by omega)).trans (b2.mono (by omega)));refine⟨rfl,(u.row.cell 1).trans rfl,u.map,U,e2,u.below b2,k2 _ _ _ ((Z.block _ x0.lt).trans x0),x2,cP.nil _ _,Fr.of_below aK,by omega,hi,?_⟩;have:=h.len;simp only[Ay];omega
  have aD:JB told m=Ip (m.length+1) v [] m:=by unfold JB;rw[hat]
  have aT:=h.len;have aG:=Db e0;have an:=Db aD;have HI:=Db hi;have aj:=Db h4;clear h4 h h0 x0 k0 s0 b0 e0 hat aD hi;go_enter Tryz.func156,Tryz.ntmps156;go_upto_region 1 with fail;rw[show W.alloc (.cells #[.string ⟨#[]⟩,.int .u8 0,.int .i64 0,.slice none 0 0] 141)=T from Da aG];go_upto_region 4 with(go_at_call 210;refine(Da al).mono ?_;rintro e A ⟨rfl,c1,aB,U,ap,HF⟩;have ao:=Db ap;clear ap);have am:=Db aB;clear aB al;go_wp2_with (at_len;refine wpList_len_own _ rfl _ 135 rfl 9 3 Tryz.underlying135 _ q K D rfl (Da am) ?_);rw[show A.alloc (.cells #[.string (ba p),.int .u8 2,.int .i64 (Maps.size D),.slice none 0 0] 141)=U from Da ao];obtain⟨o,aq⟩:∃B,B=A.heap.size:=⟨_,rfl⟩;rw[<-aq]at HF ⊢;clear ao aq c1 am
  go_loopw [11] (fun _ wr=>∃(f:Nat) (d r:List UInt8) (a:OA) (l c:Nat),Hid (Iw W j q o D K p d r (.slice a l c) wr)/\Hid (r.length<f/\r.length<=m.length/\JB told m=Ip f v d r)) (fun _ wr=>GC j wr)
  case atStart=>exact⟨m.length+1,[],m,none,0,0,HF,⟨by omega,Aa _,Da an⟩⟩
  case round=>
   obtain⟨f,d,r,a,l,c,O,R⟩:=hrel;clear HF an;have ag:l=d.length:=by
    rcases (Da O).dat.1.2 with⟨e,e2⟩|⟨g,aP,L,e,_⟩
    ·cases e;rw[DR]at e2;omega
    ·cases e;exact DR d
   have c3:wr.cell? ⟨o,3,none⟩=some (.slice a l c):=((Da O).b10.cell 3).trans rfl;have aO:=Db ag;obtain⟨f,rfl⟩:∃g,f=g+1:=⟨f-1,by have:=(Da R).1;omega⟩;by_cases ay:(l:Int)<v
   ·obtain⟨ln,Q,I,af⟩:∃a b c,Lib.cut r [10]=(a,b,c):=⟨_,_,_,rfl⟩;have ae:=Qu r 10;rw[af]at ae;dsimp only at ae;have au:=(Da O).rg.restAt;have aW:=(Da O).ln;have HL:Hid (Cl 154 #[.pointer (some ⟨j,0,none⟩)] wr fun e X=>e = .returned (.tuple #[.string (ba ln),.bool I])/\X.cell? ⟨o,3,none⟩=some (.slice a l c)/\Hid (Iw W j q o D K p d Q (.slice a l c) X)):=by
     have h9:=(Da O).line (Da aj);rw[af]at h9;exact h9.mono fun e X ⟨u,J⟩=>⟨u,(J.b10.cell 3).trans rfl,J⟩
    have aE:JB told m=if I=true then (match DQ ln with|none=>none|some x=>Ip f v (d++x) Q) else none:=by
     rw[(Da R).2.2];show(if (d.length:Int)<v then _ else _)=_;rw[if_pos (by rw[<-ag];exact ay),af]
     rfl
    have ad:=Db aE;have aL:=Db af;clear aE af ag O;go_upto_region 7 with(go_at_call 154;refine(Da HL).mono ?_;rintro e X ⟨rfl,c4,HX⟩)
    cases I
    ·have i:=Da HX;have ac:Hid (Qn W W.heap.size j q D K p told m (.returned (.tuple #[.agg #[.string ⟨#[]⟩,.int .u8 0,.int .i64 0,.slice none 0 0],.bool false])) (KO X W.heap.size (.string ⟨#[]⟩) (.int .u8 0) (.int .i64 0) (.slice none 0 0))):=Ob i.fr (by rw[Da ad];rfl);have n:=i.b6;have w:=Db (JQ n (.string ⟨#[]⟩) (.int .u8 0) (.int .i64 0) (.slice none 0 0));have z0:=n.cell 0;have z1:=n.cell 1;have z2:=n.cell 2;have z3:=n.cell 3;have y0:=n.frozen 0;have y1:=n.frozen 1;have y2:=n.frozen 2;have y3:=n.frozen 3;clear i n HX HL ad;go_wp2;have r0:=(Da w).cell 0;have r1:=(Da w).cell 1;have r2:=(Da w).cell 2;have r3:=(Da w).cell 3;exact Aq (v := .tuple #[.agg #[.string ⟨#[]⟩,.int .u8 0,.int .i64 0,.slice none 0 0],.bool false]) (by simp[results,Tryz.results156,go_sem,r0,r1,r2,r3]) rfl (Da ac)
    ·have ai:=Db (ae.2.1 rfl);have HA:Hid (Cl 211 #[.slice a l c,.string (ba ln)] X fun e Y=>∃C F E I,e = .returned (.tuple #[.slice C F E,.bool I])/\Y.cell? ⟨o,3,none⟩=some (.slice a l c)/\Y.frozen? ⟨o,3,none⟩=false/\Hid (I=false->FH (Y.setCell ⟨o,3,none⟩ (.slice C F E)) W.heap.size 141 [.string ⟨#[]⟩,.int .u8 0,.int .i64 0,.slice none 0 0]/\Qn W W.heap.size j q D K p told m (.returned (.tuple #[.agg #[.string ⟨#[]⟩,.int .u8 0,.int .i64 0,.slice none 0 0],.bool false])) (KO (Y.setCell ⟨o,3,none⟩ (.slice C F E)) W.heap.size (.string ⟨#[]⟩) (.int .u8 0) (.int .i64 0) (.slice none 0 0)))/\Hid (I=true->∃x,Iw W j q o D K p (d++x) Q (.slice C F E) (Y.setCell ⟨o,3,none⟩ (.slice C F E))/\JB told m=Ip f v (d++x) Q)):=by
      have i:=Da HX;have aU:=i.lo;refine(i.app rfl (Da aj) ln (by have:=ae.2.1 rfl;have:=WE (Da aL);omega)).mono ?_;rintro e Y ⟨hc,y,G,hf⟩;have z:Fr (fun k=>k=o) Y (Y.setCell ⟨o,3,none⟩ (.slice none 0 0)):=(Fr.refl _ _).set _ _ rfl;rcases hc with⟨u,rfl⟩|⟨x,C,F,E,u,rfl,h3⟩
      ·refine⟨none,0,0,false,rfl,(G.cell 3).trans rfl,G.frozen 3,fun _=>⟨y.fr z (by omega),Ob (hf.then z (fun k hk e=>by omega)) (by rw[Da ad,if_pos rfl,u])⟩,fun e=>(by cases e)⟩
      ·exact⟨C,F,E,true,rfl,(G.cell 3).trans rfl,G.frozen 3,fun e=>(by cases e),fun _=>⟨x,h3,by rw[Da ad,if_pos rfl,u]⟩⟩
     clear HX HL ad ae;go_upto_region 10 with(go_at_call 211;refine(Da HA).mono ?_;rintro e Y ⟨C,F,E,I,rfl,c5,c6,HN,HG⟩)
     cases I
     ·obtain⟨n,ar⟩:=Da HN rfl;have ac:=Db ar;have w:=Db (JQ n (.string ⟨#[]⟩) (.int .u8 0) (.int .i64 0) (.slice none 0 0));have z0:=n.cell 0;have z1:=n.cell 1;have z2:=n.cell 2;have z3:=n.cell 3;have y0:=n.frozen 0;have y1:=n.frozen 1;have y2:=n.frozen 2;have y3:=n.frozen 3;clear ar n HN HG HA c5 c6;go_wp2;have r0:=(Da w).cell 0;have r1:=(Da w).cell 1;have r2:=(Da w).cell 2;have r3:=(Da w).cell 3;exact Aq (v := .tuple #[.agg #[.string ⟨#[]⟩,.int .u8 0,.int .i64 0,.slice none 0 0],.bool false]) (by simp[results,Tryz.results156,go_sem,r0,r1,r2,r3]) rfl (Da ac)
     ·obtain⟨x,u,J⟩:=Da HG rfl;have hm:=u.rg.restAt;have aH:=Db u;have aI:Hid (Q.length<f/\Q.length<=m.length/\JB told m=Ip f v (d++x) Q):=⟨by have:=(Da R).1;have:=Da ai;omega,by have:=(Da R).2.1;have:=Da ai;omega,J⟩;have HM:Hid (GC j (Y.setCell ⟨o,3,none⟩ (.slice C F E))<GC j wr):=by
       show _<_;rw[hm,au];exact Da ai
      clear u J hm HN HG HA au;go_wp2
      go_roundw
      case rel=>exact⟨f,d++x,Q,C,F,E,aH,aI⟩
      case measure=>exact Da HM
   ·have i:=Da O;have aA:¬(d.length:Int)<v:=by rw[<-ag];exact ay
    have av:JB told m=some (d,r):=by
     rw[(Da R).2.2];show(if (d.length:Int)<v then _ else _)=_;rw[if_neg aA]
    have az:=i.rg.map.drew;have aM:=i.rg.len;have aY:=az.size_le;have ax:=WideMaps.keyOf_string_mk (P:=Tryz.prog) (k:=9) Tryz.underlying9 (s:=ba p) (by unfold maxLen;rw[DR];omega);rw[show(ba p).data.toList=p from DN p]at ax;have aN:=plainElem_int (H:=Unit) Tryz.underlying3 (a:=((Maps.size D:Nat):Int)) (W8 (by omega));obtain⟨M,ah,aC,aF⟩:=az.store Mi Tryz.underlying135 (by unfold maxLen;omega) ax aN;have ab:=aF.grown;have hi:=i.hi;have lo:=i.lo;have z:Fr (fun k=>k=q) wr M:=⟨ab.os,ab.tape,ab.output,ab.size,fun k hk hn=>ab.block k hk (fun e=>hn (BG e))⟩;have ak:FH M j 137 _:=i.rg.row.fr z i.rg.nm;have y:FH M W.heap.size 141 _:=i.b6.fr z (by omega);have G:FH M o 141 _:=i.b10.fr z (by omega);have aw:Fr (fun k=>k=j\/k=q) W M:=i.fr.then z (fun k _ e => .inr e);have h4:=Da aj;have ac:Hid (Qn W W.heap.size j q D K p told m (.returned (.tuple #[.agg #[.string (ba p),.int .u8 2,.int .i64 (Maps.size D),.slice a l c],.bool true])) (KO M W.heap.size (.string (ba p)) (.int .u8 2) (.int .i64 (Maps.size D)) (.slice a l c))):=by
     have aa:=Up M W.heap.size (.string (ba p)) (.int .u8 2) (.int .i64 (Maps.size D)) (.slice a l c);refine⟨.inr ⟨d,r,a,l,c,av,rfl,⟨(i.dat.1.fr z (fun g hg e=>by have:=(i.own hg).1;omega)).fr aa (fun g hg e=>(i.own hg).2.1 e),i.dat.2⟩,?_,fun g hg=>(i.own hg).1⟩,aw.then aa (fun k hk e=>by omega)⟩;refine⟨ak.fr aa (by omega),?_,(i.rg.pk.fr z (by have:=i.rg.ne;omega)).fr aa (by omega),(i.rg.er.fr z (fun k hk e=>by have:=i.rg.ne;omega)).fr aa (fun k hk e=>by omega),i.rg.ne,?_⟩
     ·obtain⟨es,cl,Z,hF,hr⟩:=aC;exact⟨es,cl,(aa.block _ (Ah.1 Z).1 (by omega)).trans Z,hF,hr⟩
     ·have:=(Da R).2.1;omega
    have m1:wr.cell? ⟨j,1,none⟩=some (.map (some q)):=(i.rg.row.cell 1).trans rfl;have m2:wr.cell? ⟨o,2,none⟩=some (.int .i64 (Maps.size D)):=(i.b10.cell 2).trans rfl;have n1:M.cell? ⟨j,1,none⟩=some (.map (some q)):=(ak.cell 1).trans rfl;have n2:M.cell? ⟨o,2,none⟩=some (.int .i64 (Maps.size D)):=(G.cell 2).trans rfl;have q0:=G.cell 0;have q1:=G.cell 1;have q3:=G.cell 3;have z0:=y.cell 0;have z1:=y.cell 1;have z2:=y.cell 2;have z3:=y.cell 3;have y0:=y.frozen 0;have y1:=y.frozen 1;have y2:=y.frozen 2;have y3:=y.frozen 3;have w:=Db (JQ y (.string (ba p)) (.int .u8 2) (.int .i64 (Maps.size D)) (.slice a l c));have aV:¬W.heap.size=o:=by omega
    have aJ:=Db ah;clear i aA av aM ah aC aF ab z ak y G aw h4 ag R O;go_upto_region 12 with fail;refine AN (S:=fun V=>V.cell? ⟨j,1,none⟩=some (.map (some q))/\V.cell? ⟨o,2,none⟩=some (.int .i64 (Maps.size D))) (by kernel_rfl) ⟨m1,m2⟩ (fun aR=>?_);refine tk 0 ?_;try simp only[pE];refine tk 1 ?_;try simp only[pE];refine tk 2 ?_;try simp only[pE];refine tk 3 ?_;try simp only[pE];refine tk 4 ?_;try simp only[pE];refine tk 5 ?_;try simp only[pE];refine tk 6 ?_;try simp only[pE];refine rk 7 (fun K hK=>?_);have ah:=Da aJ;go_simp;clear ah;refine hK.out _ _ ⟨n1,n2⟩ (fun aQ=>?_);clear hK K
    (try simp only[pE])
    refine AS (by kernel_rfl) ?_ _;go_wp2;have r0:=(Da w).cell 0;have r1:=(Da w).cell 1;have r2:=(Da w).cell 2;have r3:=(Da w).cell 3;exact Aq (v := .tuple #[.agg #[.string (ba p),.int .u8 2,.int .i64 (Maps.size D),.slice a l c],.bool true]) (by simp[results,Tryz.results156,go_sem,r0,r1,r2,r3]) rfl (Da ac)
 | range=>
  obtain⟨_,te,pe,hv⟩:=h0.er;exact SS h hi p told m (Da (Db e0)) x0 b0 (by unfold JB;rw[hat]) ((Tryz.strconv_Atoi_range (ba told) (by rw[DR];omega) (by rw[show(ba told).data.toList=told from DN told];exact hat) _ T hv (.inr ⟨te,pe,rfl⟩)).mono fun e X ⟨N,u,J⟩=>⟨_,N,u,J⟩)
 | _=>
  obtain⟨⟨te,pe,hv⟩,_⟩:=h0.er;exact SS h hi p told m (Da (Db e0)) x0 b0 (by unfold JB;rw[hat]) ((Tryz.strconv_Atoi_no (ba told) (by rw[DR];omega) (λv=>by rw[show(ba told).data.toList=told from DN told,hat];exact λe=>by cases e) (by rw[show(ba told).data.toList=told from DN told,hat];exact λe=>by cases e) _ T hv (.inr ⟨te,pe,rfl⟩)).mono fun e X ⟨N,u,J⟩=>⟨0,N,u,J⟩)
def Iq(D:DH)(k:List UInt8):Int:=match D.atKey (DM k) (.lit (.int .i64 0)) with | .lit (.int .i64 c)=>c|_=>0
def G1(rest:List UInt8)(D:DH):Option (Nat×List UInt8×Int×List UInt8×List UInt8×DH):=
 if (Lib.cut rest [10]).2.2=true then
  let c:=Lib.cut (Lib.cut rest [10]).1 [32]
  let q:=Lib.cut c.2.1 [32]
  let r:=(Lib.cut rest [10]).2.1
  if c.1=[100] then some (1,q.1,0,[],r,D) else if c.1=[102] then (JB q.2.1 r).map (fun x=>(2,q.1,(Maps.size D:Int),x.1,x.2,D.put (DM q.1) (.lit (.int .i64 (Maps.size D))))) else if c.1=[108] then (if Maps.has D (DM q.2.1)=true then some (3,q.1,Iq D q.2.1,[],r,D) else none) else none
 else none
def II(W:World)(rb mb:Nat)(D:DH)(rest:List UInt8)(e:Ending)(W':World):Prop:=
 ∃(s:By) (kd:Nat) (nm:Int) (a:OA) (l c:Nat) (ok:Bool),e = .returned (.tuple #[.agg #[.string s,.int .u8 kd,.int .i64 nm,.slice a l c],.bool ok])/\Fr (fun k=>k=rb\/k=mb) W W'/\(ok=false->G1 rest D=none)/\(ok=true->∃p d r D' K',G1 rest D=some (kd,p,nm,d,r,D')/\s=ba p/\GG rb mb r D' K' W'/\cP W.heap.size W' (.slice a l c) (ba d)/\r.length<rest.length/\p.length<=2000000)
theorem RU:∀(f:Nat) {v:Int} {d r x r':List UInt8},Ip f v d r=some (x,r')->r'.length<=r.length
 | 0,v,d,r,x,r',h=>by cases h
 | f+1,v,d,r,x,r',h=>by
  unfold Ip at h
  split at h
  ·split at h
   ·split at h
    ·cases h
    ·have h1:=RU f h;have h2:=(Qu r 10).1;omega
   ·cases h
  ·cases h;exact Aa _
theorem YF{t r x a:List UInt8}(h:JB t r=some (x,a)):a.length<=r.length:=by
 unfold JB at h
 split at h
 ·exact RU _ h
 ·cases h
theorem Rp(l:List UInt8)(hl:l.length<=2000000)(W:World)(i:Gk W){a b:List UInt8}{f:Bool}(h:Lib.cut l [32]=(a,b,f)):Cl 155 #[.string (ba l),.string ⟨#[32]⟩] W fun e c=>e = .returned (.tuple #[.string (ba a),.string (ba b),.bool f])/\Bw W c:=by
 obtain⟨⟨m,g⟩,_⟩:=i;have d:=Tryz.strings_Cut (ba l) ⟨#[32]⟩ m W (by rw[DR];omega) g;rw[show(ba l).data.toList=l from DN l,show(⟨#[32]⟩:By).data.toList=[32] from rfl,h]at d;refine d.mono ?_;rintro e c ⟨rfl,n,rfl⟩;exact⟨rfl,rfl,rfl,rfl,Aa _,fun _ _=>rfl⟩
theorem Xm{o q:Nat}{z:List UInt8}{D:DH}{K:Nat}{W:World}(h:GG o q z D K W)(hi:o<W.heap.size/\q<W.heap.size):
  Cl 96 #[.pointer (some ⟨o,0,none⟩)] W (II W o q D z):=by
 have h4:4<=W.heap.size:=by have:=h.ne;omega
 obtain⟨X0,e0,x0,k0,s0,b0⟩:=De W [.string ⟨#[]⟩,.int .u8 0,.int .i64 0,.slice none 0 0] 141;have h0:=h.below b0;obtain⟨ln,m,M,H⟩:∃a b c,Lib.cut z [10]=(a,b,c):=⟨_,_,_,rfl⟩;obtain⟨B,rd,k2,I⟩:∃a b c,Lib.cut ln [32]=(a,b,c):=⟨_,_,_,rfl⟩;obtain⟨i,lt,k3,J⟩:∃a b c,Lib.cut rd [32]=(a,b,c):=⟨_,_,_,rfl⟩;have L:=Qu z 10;have Q:=Qu ln 32;have R:=Qu rd 32;rw[H]at L;rw[I]at Q;rw[J]at R;dsimp only at L Q R;have ab:=h.len;have ar:G1 z D=if M=true then (if B=[100] then some (1,i,0,[],m,D) else if B=[102] then (JB lt m).map (fun x=>(2,i,(Maps.size D:Int),x.1,x.2,D.put (DM i) (.lit (.int .i64 (Maps.size D))))) else if B=[108] then (if Maps.has D (DM lt)=true then some (3,i,Iq D lt,[],m,D) else none) else none) else none:=by
  unfold G1;rw[H];dsimp only;rw[I];dsimp only;rw[J]
 have N:=Db ar;have HL:Hid (Cl 154 #[.pointer (some ⟨o,0,none⟩)] X0 fun e X=>e = .returned (.tuple #[.string (ba ln),.bool M])/\Hid (GG o q m D K X/\FH X W.heap.size 141 [.string ⟨#[]⟩,.int .u8 0,.int .i64 0,.slice none 0 0]/\Fr (fun k=>k=o\/k=q) W X)):=by
  have h9:=R8 h0;rw[H]at h9;refine h9.mono ?_;rintro e X ⟨T,h2,h3⟩;exact⟨T,h2,x0.fr h3 (by omega),(Fr.of_below b0).then (h3.mono (Y:=fun k=>k=o\/k=q) (fun k _ e => .inl e)) (fun _ _ e=>e)⟩
 have au:=Db e0;have C:Hid (∀X (s:By) (p:Nat) (nm:Int),G1 z D=none->Fr (fun k=>k=o\/k=q) W X->II W o q D z (.returned (.tuple #[.agg #[.string s,.int .u8 p,.int .i64 nm,.slice none 0 0],.bool false])) (KO X W.heap.size (.string s) (.int .u8 p) (.int .i64 nm) (.slice none 0 0))):=fun X s p nm hn U=>⟨s,p,nm,none,0,0,false,rfl,U.then (Up _ _ _ _ _ _) (fun k hk e=>by omega),fun _=>hn,fun e=>(by cases e)⟩
 have O:Hid (∀X (p:Nat) (nm:Int),G1 z D=some (p,i,nm,[],m,D)->m.length<z.length->GG o q m D K X->Fr (fun k=>k=o\/k=q) W X->II W o q D z (.returned (.tuple #[.agg #[.string (ba i),.int .u8 p,.int .i64 nm,.slice none 0 0],.bool true])) (KO X W.heap.size (.string (ba i)) (.int .u8 p) (.int .i64 nm) (.slice none 0 0))):=fun X p nm hn ax hg U=>by
  have V:=Up X W.heap.size (.string (ba i)) (.int .u8 p) (.int .i64 nm) (.slice none 0 0);exact⟨ba i,p,nm,none,0,0,true,rfl,U.then V (fun k hk e=>by omega),fun e=>(by cases e),fun _=>⟨i,[],m,D,K,hn,rfl,hg.fr V (by omega) (by omega) (fun k hk e=>by omega),cP.nil _ _,ax,by omega⟩⟩
 clear h0 e0 x0 k0 s0 b0 ar;go_enter Tryz.func96,Tryz.ntmps96;go_upto_region 1 with fail;rw[show W.alloc (.cells #[.string ⟨#[]⟩,.int .u8 0,.int .i64 0,.slice none 0 0] 141)=X0 from Da au];go_upto_region 2 with(go_at_call 154;refine(Da HL).mono ?_;rintro e X ⟨rfl,HX⟩);clear HL
 cases M
 ·obtain⟨t,f,u⟩:=Da HX;have A:=Db (Da C X ⟨#[]⟩ 0 0 (by rw[Da N];rfl) u);have j:=Db (JQ f (.string ⟨#[]⟩) (.int .u8 0) (.int .i64 0) (.slice none 0 0));have z0:=f.cell 0;have z1:=f.cell 1;have z2:=f.cell 2;have z3:=f.cell 3;have y0:=f.frozen 0;have y1:=f.frozen 1;have y2:=f.frozen 2;have y3:=f.frozen 3;clear t f u HX C O N h hi L Q R H I J ab;go_wp2;have E:=(Da j).cell 0;have m:=(Da j).cell 1;have F:=(Da j).cell 2;have G:=(Da j).cell 3;exact Aq (v := .tuple #[.agg #[.string ⟨#[]⟩,.int .u8 0,.int .i64 0,.slice none 0 0],.bool false]) (by simp[results,Tryz.results96,go_sem,E,m,F,G]) rfl (Da A)
 have Z:=L.2.1 rfl;have ak:Hid (Cl 155 #[.string (ba ln),.string ⟨#[32]⟩] X fun e X2=>e = .returned (.tuple #[.string (ba B),.string (ba rd),.bool k2])/\Hid (Cl 155 #[.string (ba rd),.string ⟨#[32]⟩] X2 fun e y=>e = .returned (.tuple #[.string (ba i),.string (ba lt),.bool k3])/\Hid (GG o q m D K y/\FH y W.heap.size 141 [.string ⟨#[]⟩,.int .u8 0,.int .i64 0,.slice none 0 0]/\Fr (fun k=>k=o\/k=q) W y))):=by
  obtain⟨t,g2,u⟩:=Da HX;refine(Rp ln (by omega) X t.pk I).mono ?_;rintro e X2 ⟨rfl,b2⟩;refine⟨rfl,?_⟩;have aw:=t.below b2;refine(Rp rd (by omega) X2 aw.pk J).mono ?_;rintro e y ⟨rfl,b3⟩;have ah:Bw X y:=b2.trans (b3.mono b2.size);exact⟨rfl,t.below ah,(ah.block _ g2.lt).trans g2,u.then (Fr.of_below ah) (fun _ _ e=>e)⟩
 clear HX;go_upto_region 5 with(go_at_call 155;refine(Da ak).mono ?_;rintro e X2 ⟨rfl,al⟩);clear ak;go_upto_region 6 with(go_at_call 155;refine(Da al).mono ?_;rintro e y ⟨rfl,aa⟩);clear al;obtain⟨t,f,u⟩:=Da aa;have j:=Db (fun a b c d=>JQ f a b c d);have z0:=f.cell 0;have z1:=f.cell 1;have z2:=f.cell 2;have z3:=f.cell 3;have y0:=f.frozen 0;have y1:=f.frozen 1;have y2:=f.frozen 2;have y3:=f.frozen 3;have w:=Da N;rw[if_pos trivial]at w;by_cases ae:B=[100]
 ·subst ae;have A:=Db (Da O y 1 0 (by rw[w,if_pos rfl]) Z t u);clear t f u aa C O N h hi L Q R H I J ab w Z;rw[show ba [100]=⟨#[100]⟩ from rfl];go_wp2;have E:=(Da j (.string (ba i)) (.int .u8 1) (.int .i64 0) (.slice none 0 0)).cell 0;have m:=(Da j (.string (ba i)) (.int .u8 1) (.int .i64 0) (.slice none 0 0)).cell 1;have F:=(Da j (.string (ba i)) (.int .u8 1) (.int .i64 0) (.slice none 0 0)).cell 2;have G:=(Da j (.string (ba i)) (.int .u8 1) (.int .i64 0) (.slice none 0 0)).cell 3;exact Aq (v := .tuple #[.agg #[.string (ba i),.int .u8 1,.int .i64 0,.slice none 0 0],.bool true]) (by simp[results,Tryz.results96,go_sem,E,m,F,G]) rfl (Da A)
 by_cases af:B=[102]
 ·subst af;rw[if_neg (by decide),if_pos rfl]at w;have HC:Hid (Cl 156 #[.pointer (some ⟨o,0,none⟩),.string (ba i),.string (ba lt)] y fun e Y=>∃s p nm a l c M,e = .returned (.tuple #[.agg #[.string s,.int .u8 p,.int .i64 nm,.slice a l c],.bool M])/\FH Y W.heap.size 141 [.string ⟨#[]⟩,.int .u8 0,.int .i64 0,.slice none 0 0]/\Hid (II W o q D z (.returned (.tuple #[.agg #[.string s,.int .u8 p,.int .i64 nm,.slice a l c],.bool M])) (KO Y W.heap.size (.string s) (.int .u8 p) (.int .i64 nm) (.slice a l c)))):=by
   have aA:=u.size;refine(XG t (by omega) i lt (by omega) (by omega) (by omega)).mono ?_;rintro e Y ⟨hc,U⟩;have o6:FH Y W.heap.size 141 _:=f.fr U (by omega);have aq:Fr (fun k=>k=o\/k=q) W Y:=u.then U (fun _ _ e=>e);rcases hc with⟨T,rfl⟩|⟨d,r,a,l,c,T,rfl,h3,h5,h6⟩
   ·exact⟨_,_,_,_,_,_,_,rfl,o6,Da C Y ⟨#[]⟩ 0 0 (by rw[w,T];rfl) aq⟩
   ·have V:=Up Y W.heap.size (.string (ba i)) (.int .u8 2) (.int .i64 (Maps.size D)) (.slice a l c);have az:r.length<=m.length:=YF T;refine⟨_,_,_,_,_,_,_,rfl,o6,ba i,2,_,a,l,c,true,rfl,aq.then V (fun k hk e=>by omega),fun e=>(by cases e),fun _=>⟨i,d,r,_,K+1,by rw[w,T];rfl,rfl,h5.fr V (by omega) (by omega) (fun k hk e=>by omega),⟨h3.1.fr V (fun g hg e=>?_),fun g hg=>?_⟩,by omega,by omega⟩⟩
    ·have:=h6 g hg;have:=f.lt;omega
    ·have:=h6 g hg;omega
  clear t f u aa C O N h hi L Q R H I J ab w Z z0 z1 z2 z3 y0 y1 y2 y3 j;rw[show ba [102]=⟨#[102]⟩ from rfl];go_upto_region 10 with fail;go_wp2_with (go_at_call 156;refine(Da HC).mono ?_;rintro e Y ⟨s,p,nm,a,l,c,M,rfl,f,A⟩;have j:=Db (JQ f (.string s) (.int .u8 p) (.int .i64 nm) (.slice a l c));have z0:=f.cell 0;have z1:=f.cell 1;have z2:=f.cell 2;have z3:=f.cell 3;have y0:=f.frozen 0;have y1:=f.frozen 1;have y2:=f.frozen 2;have y3:=f.frozen 3;clear f HC);have E:=(Da j).cell 0;have m:=(Da j).cell 1;have F:=(Da j).cell 2;have G:=(Da j).cell 3;exact Aq (v := .tuple #[.agg #[.string s,.int .u8 p,.int .i64 nm,.slice a l c],.bool M]) (by simp[results,Tryz.results96,go_sem,E,m,F,G]) rfl (Da A)
 by_cases ag:B=[108]
 ·subst ag;rw[if_neg (by decide),if_neg (by decide),if_pos rfl]at w;have c1:y.cell? ⟨o,1,none⟩=some (.map (some q)):=(t.row.cell 1).trans rfl;have ai:=WideMaps.keyOf_string_mk (P:=Tryz.prog) (k:=9) Tryz.underlying9 (s:=ba lt) (by unfold maxLen;rw[DR];omega);rw[show(ba lt).data.toList=lt from DN lt]at ai;have an:=Db ai;have ao:=Db t.map;obtain⟨hs,ad⟩:∃b,b=Maps.has D (DM lt):=⟨_,rfl⟩;have A:Hid (∀n:Int,D.atKey (DM lt) (.lit (.int .i64 0)) = .lit (.int .i64 n)->II W o q D z (.returned (.tuple #[.agg #[.string (ba i),.int .u8 3,.int .i64 n,.slice none 0 0],.bool hs])) (KO y W.heap.size (.string (ba i)) (.int .u8 3) (.int .i64 n) (.slice none 0 0))):=fun n hn=>by
   cases hs with
   | false=>exact Da C y (ba i) 3 n (by rw[w,<-ad];rfl) u
   | true=>exact Da O y 3 n (by
     rw[w,<-ad,if_pos rfl];have:Iq D lt=n:=by unfold Iq;rw[hn]
     rw[this]) Z t u
  have am:Hid (hs=Maps.has D (.string lt)):=ad;clear t f u aa C O N h hi L Q R H I J ab w Z ai ad;rw[show ba [108]=⟨#[108]⟩ from rfl];go_upto_region 12 with fail;go_upto_region 13 with(at_lookup;refine wpList_lookup_own_ok_int _ rfl _ _ 135 rfl 9 3 .i64 Mi Tryz.underlying135 Tryz.underlying3 (Tryz.zeroValue3 _) q K D rfl (Da ao) _ _ rfl (Da an) ?_;intro n ap ay;have aj:=Db ap;rw[<-Da am];clear ap ay);clear an ao;have av:=Db (Da A n (Da aj));clear A aj am c1;go_wp2;have E:=(Da j (.string (ba i)) (.int .u8 3) (.int .i64 n) (.slice none 0 0)).cell 0;have m:=(Da j (.string (ba i)) (.int .u8 3) (.int .i64 n) (.slice none 0 0)).cell 1;have F:=(Da j (.string (ba i)) (.int .u8 3) (.int .i64 n) (.slice none 0 0)).cell 2;have G:=(Da j (.string (ba i)) (.int .u8 3) (.int .i64 n) (.slice none 0 0)).cell 3;exact Aq (v := .tuple #[.agg #[.string (ba i),.int .u8 3,.int .i64 n,.slice none 0 0],.bool hs]) (by simp[results,Tryz.results96,go_sem,E,m,F,G]) rfl (Da av)
 ·rw[if_neg ae,if_neg af,if_neg ag]at w;have A:=Db (Da C y ⟨#[]⟩ 0 0 w u);obtain⟨S,hS⟩:=ex (ba B);rw[<-hS];have ac:S.toList=B:=by rw[hS,CD];exact DN B
  have p1:(S.toList==[100])=false:=by rw[ac,AH];exact ae
  have p2:(S.toList==[102])=false:=by rw[ac,AH];exact af
  have p3:(S.toList==[108])=false:=by rw[ac,AH];exact ag
  clear ac;clear t f u aa C O N h hi L Q R H I J ab w Z ae af ag hS;go_wp2;have E:=(Da j (.string ⟨#[]⟩) (.int .u8 0) (.int .i64 0) (.slice none 0 0)).cell 0;have m:=(Da j (.string ⟨#[]⟩) (.int .u8 0) (.int .i64 0) (.slice none 0 0)).cell 1;have F:=(Da j (.string ⟨#[]⟩) (.int .u8 0) (.int .i64 0) (.slice none 0 0)).cell 2;have G:=(Da j (.string ⟨#[]⟩) (.int .u8 0) (.int .i64 0) (.slice none 0 0)).cell 3;exact Aq (v := .tuple #[.agg #[.string ⟨#[]⟩,.int .u8 0,.int .i64 0,.slice none 0 0],.bool false]) (by simp[results,Tryz.results96,go_sem,E,m,F,G]) rfl (Da A)
open Go.RowKit
structure Rows(D:LY)(R:NB)(N:Nat->Nat)(P X:Nat->Nat->Nat)(B:Nat):Prop where
 b8:B<8
 n0:N 0=((R 0).size+63-1)/63
 nn:∀b,b<B->N (b+1)=(10*N b+60-1)/60
 rr:∀b,b<B->BL (R (b+1))=Mz (fun k=>NH (P b k) (X b k)) (N b)
 top:N B=1
 d0:∀i,i<N 0->D[P 0 i]?=some (D9 3 (R 0) 63 i)
 d1:∀b,b<B->∀i,i<N (b+1)->D[P (b+1) i]?=some (D9 2 (R (b+1)) 60 i)
 pl:∀b i,b<=B->i<N b->16<=P b i/\P b i<1536
 px:∀b k,P b k<65536/\X b k<18446744073709551616
 inj:∀b i b' i',b<=B->b'<=B->i<N b->i'<N b'->P b i=P b' i'->b=b'/\i=i'
 ns:∀b,b<=B->N b<=1000
section
variable{D:LY}{R:NB}{N:Nat->Nat}{P X:Nat->Nat->Nat}{B:Nat}{ch:Nat->List UInt8}
end
section
variable{D:LY}{R:NB}{N:Nat->Nat}{P X:Nat->Nat->Nat}{B:Nat}{ch:Nat->List UInt8}
end



section
variable{W w0:World}{n0 rb db tp tx fb:Nat}{q:NF}{va vt:Value}{Bi:Nat}{s:By}{I:LV}{X:World}
end
theorem TV{p:By}(_h:Df p=true)(a:Dc p≠[]):(p.toList==[47])=false:=by
 cases hr:(p.toList==[47]) with
 | true=>exact absurd (Q3 hr) a
 | false=>rfl
structure LK(G:Gh)(I:LF)(p:By)(f:Nat)(l:Nat):Prop where
 ok:F0 G
 gl:G.length<=9000
 il:I.length<=9000
 ll:∀x∈I,x.2.l<=2000000
 ps:p.size<=2000000
 lg:Gz G p=0
 may:Ja G I (Dc p).dropLast=true
 fr:∀x∈I,x.1≠(f:Int)
 use:∀(I1 I2:LF) (da:OA) (dc:Nat),I1.length=I.length+1->(∀x,x∈I1↔x=((f:Int),⟨none,0,0,1⟩)\/x∈I)->FX I1 I2 (f:Int) ⟨da,l,dc,1⟩->D4 (I2.map (·.2.l))<=160








section
variable{D:LY}{R:NB}{N:Nat->Nat}{P X:Nat->Nat->Nat}{B:Nat}
end
section
variable{D0 D1:LY}{R0 R1:NB}{N0 N1:Nat->Nat}{P0 P1 X0 X1:Nat->Nat->Nat}{B0 B1:Nat}
end
def U1(E:FL)(st:Pl)(s:By):Prop:=∃st0 r b,st=(E.put st0 r b).2/\(s.size<=10->s=D3 (E.put st0 r b).1 (D5 b))
theorem SD(E:FL)(b:UInt8)(a c:Nat)(d:Pl)(s:By)(hn:1<=(s.size+a-1)/a):U1 E (DV E b a c d s).2 (DV E b a c d s).1:=by
 obtain⟨n,f⟩:∃n,(s.size+a-1)/a=n+1:=⟨(s.size+a-1)/a-1,by omega⟩;have g:=Ng E b a c d s;refine⟨E.puts (Dp b.toNat c) (D9 b s a) d 0 (List.range n),Dp b.toNat c n,D9 b s a n,?_,fun hs=>?_⟩
 ·unfold DV;rw[f,E5];have e:=FL.puts_snoc E (Dp b.toNat c) (D9 b s a) d 0 (List.range n) n;rw[Au,A9]at e;exact e
 ·rw[f]at g;obtain rfl:n=0:=by omega
  unfold DV;rw[f];show D3 _ _++⟨#[]⟩=_;rw[K2]
  rfl
theorem SX(E:FL):∀(d below:Nat) (st:Pl) (s:By),U1 E st s->U1 E (JE E d below st s).2 (JE E d below st s).1
 | 0,_,_,_,h=>h
 | d+1,below,st,s,h=>by
  unfold JE
  split
  ·exact SX E d _ _ _ (SD E 2 60 below st s (by omega))
  ·exact h
theorem Yz{s:KS}(g:Hv s)(cl:Bool){C:NB}{L:List It}(k:G0 C L):∃st0 r b,(Jg s cl C L).2=((Je s.es cl s.tp s.D).put st0 r b).2/\GK (Jg s cl C L).1=((Je s.es cl s.tp s.D).put st0 r b).1/\(r,GK (Jg s cl C L).1)∈(Jg s cl C L).2.puts/\GK (Jg s cl C L).1<1536:=by
 have c:=MV k (Je s.es cl s.tp s.D) (g.env cl) (s.tp+1) (by have:=g.tp;omega);change IH (Jg s cl C L) at c;have j:U1 (Je s.es cl s.tp s.D) (Jg s cl C L).2 (Jg s cl C L).1:=SX _ 8 1 _ _ (SD _ 3 63 0 _ _ (by
  rw[Ai,show(⟨#[0]⟩:By).size=1 from rfl];omega))
 obtain⟨st0,r,b,d,h⟩:=j;have i:=h (by rw[c.n3];exact Aa _);have f:(r,((Je s.es cl s.tp s.D).put st0 r b).1)∈(Jg s cl C L).2.puts:=by
  rw[d,FL.put_puts];exact Cb _ (Av.2 rfl)
 have e:=c.pl.1 _ f;have a:GK (Jg s cl C L).1=((Je s.es cl s.tp s.D).put st0 r b).1:=by
  rw[i];exact WR _ _ (by have:((Je s.es cl s.tp s.D).put st0 r b).1<1536:=e;omega)
 exact⟨st0,r,b,d,a,by rw[a];exact f,by rw[a];exact e⟩
theorem S1(mf:Nat)(s:KS)(C:NB)(L:List It):∃cl,DO mf s C L=Jg s cl C L/\(cl=false->¬Ky (Mg (Jg s false C L).2.puts) 96<mf):=by
 unfold DO
 split
 ·exact⟨true,rfl,fun e=>by cases e⟩
 ·rename_i h;exact⟨false,rfl,fun _=>h⟩
structure NU(mf:Nat)(C:NB)(L:List It)(s s':KS):Prop where
 ne:(DO mf s C L).2.ps≠[]
 es:Hm (DO mf s C L).2.puts s'.es
 tp:s'.tp=GK (DO mf s C L).1
 tx:s'.tx=Hi (DO mf s C L).1
 tn:s'.tn=s.tn+1
 D:s'.D=(KP s.D (DO mf s C L).2.ps).set ((s.tn+1)%2) (GQ (s.tn+1) s'.tp s'.tx)
theorem Hw.cases{mf:Nat}{C:NB}{L:List It}{s s':KS}(h:Hw mf C L s s'):((DO mf s C L).2.ps=[]/\s'=s)\/NU mf C L s s':=
 h.imp id (fun ⟨a,b,c,d,e,f⟩=>⟨a,b,c,d,e,f⟩)
section
variable{mf:Nat}{C C0:NB}{L L0:List It}{s s':KS}
end

theorem Wv(w:World)(tb:Nat)(p:By)(d f:Nat)(g:OA)(i h:Nat)(R:Ending->World->Prop)
  (v:d=1->∀W,Bw w W->Cl 122 #[.pointer (some ⟨tb,0,none⟩),.string p] W fun e X=>∃x:Int,e = .returned (.int .i64 x)/\R (.returned (.bool (x==0))) X)
  (y:d=2->∀W,Bw w W->Cl 157 #[.pointer (some ⟨tb,0,none⟩),.agg #[.string p,.int .u8 2,.int .i64 (f:Nat),.slice g i h]] W fun e X=>∃b:Bool,e = .returned (.bool b)/\R e X)
  (z:d=3->∀W,Bw w W->Cl 158 #[.pointer (some ⟨tb,0,none⟩),.agg #[.string p,.int .u8 3,.int .i64 (f:Nat),.slice g i h]] W fun e X=>∃b:Bool,e = .returned (.bool b)/\R e X)
  (A:d≠1->d≠2->d≠3->∀W,Bw w W->R (.returned (.bool false)) W):
  Cl 97 #[.pointer (some ⟨tb,0,none⟩),.agg #[.string p,.int .u8 (d:Nat),.int .i64 (f:Nat),.slice g i h]] w R:=by
 obtain⟨q,u,s,t,G,r⟩:=De w [.string p,.int .u8 (d:Nat),.int .i64 (f:Nat),.slice g i h] 141;have E:=Db u;have c0:=(s.cell 0).trans (show _=some (Value.string p) from rfl);have c1:=(s.cell 1).trans (show _=some (Value.int .u8 (d:Nat)) from rfl);have c2:=(s.cell 2).trans (show _=some (Value.int .i64 (f:Nat)) from rfl);have c3:=(s.cell 3).trans (show _=some (Value.slice g i h) from rfl);have j:=Db (fun e=>v e q r);have k:=Db (fun e=>y e q r);have l:=Db (fun e=>z e q r);have m:=Db (fun a b c=>A a b c q r);clear u s t G r v y z A;go_enter Tryz.func97,Tryz.ntmps97;go_upto_region 1 with fail;rw[show w.alloc (.cells #[.string p,.int .u8 (d:Nat),.int .i64 (f:Nat),.slice g i h] 141)=q from Da E];by_cases t:d=1
 ·have n:=Db (Da j t);have B:(d:Int)=1:=by omega
  clear j k l m;go_wp2_with (go_at_call 122;refine(Da n).mono ?_;rintro e X ⟨x,rfl,o⟩);exact o
 have aa:¬(d:Int)=1:=by omega
 by_cases C:d=2
 ·have n:=Db (Da k C);have B:(d:Int)=2:=by omega
  clear j k l m;go_wp2_with (go_at_call 157;refine(Da n).mono ?_;rintro e X ⟨x,rfl,o⟩);exact o
 have ab:¬(d:Int)=2:=by omega
 by_cases D:d=3
 ·have n:=Db (Da l D);have B:(d:Int)=3:=by omega
  clear j k l m;go_wp2_with (go_at_call 158;refine(Da n).mono ?_;rintro e X ⟨x,rfl,o⟩);exact o
 have ac:¬(d:Int)=3:=by omega
 have F:=Da m t C D;clear j k l m;go_wp2;exact F
def Lc(G:Gh)(I:LF)(p:By)(f dl:Nat):Prop:=LK G I p f dl/\f<60/\dl<=1280
def UK(w:World)(tb:Nat)(G:Gh)(I:LF)(C:IB)(p:By)(f:Nat)(da:OA)(dl dc:Nat)(s:By)(e:Ending)(w':World):Prop:=
 (∃b:Bool,e = .returned (.bool b))/\Fr (D7 tb w) w w'/\(e = .returned (.bool true)->Gz G p=0/\Ja G I (Dc p).dropLast=true/\f<60/\(∀x∈I,x.1≠(f:Int))/\dl<=1280/\∃I1 I2 C2,I1.length=I.length+1/\(∀x,x∈I1↔x=((f:Int),⟨none,0,0,1⟩)\/x∈I)/\FX I1 I2 (f:Int) ⟨da,dl,dc,1⟩/\D4 (I2.map (·.2.l))<=160/\PS w' tb (G++[(Dc p,⟨none,(f:Int)⟩)]) I2 C2/\C2 f=s/\∀x∈I,C2 x.1=C x.1)/\(e = .returned (.bool false)->¬Lc G I p f dl)
theorem Zjg(w:World)(tb:Nat)(G:Gh)(I:LF)(C:IB)(h:PS w tb G I C)(hG:F0 G)(aK:G.length<=9000)(aL:I.length<=9000)(ap:∀x∈I,x.2.l<=2000000)(p:By)(hp:p.size<=2000000)
  (f:Nat) (q:OA) (g t:Nat) (s:By) (ao:Sl w 5 1 (.slice q g t) g (Dd s)):
  Cl 157 #[.pointer (some ⟨tb,0,none⟩),.agg #[.string p,.int .u8 2,.int .i64 (f:Nat),.slice q g t]] w (UK w tb G I C p f q g t s):=by
 obtain⟨rd,V,E,vi,h⟩:=h;obtain⟨Q,e1,x1,k1,s1,R⟩:=De w [.string p,.int .u8 2,.int .i64 (f:Nat),.slice q g t] 141;have S:∀{X},Bw w X->TW X tb rd V E vi G I C:=fun j=>h.below j (Aa _)
 have a1:=h.t.lt;have O:Hid (∀X,¬Lc G I p f g->Bw w X->UK w tb G I C p f q g t s (.returned (.bool false)) X):=fun X hn hX=>⟨⟨false,rfl⟩,Fr.of_below hX,(fun e=>by cases e),fun _=>hn⟩
 have aW:¬((f:Int)<0):=by omega
 have au:=Db e1;have c0:=(x1.cell 0).trans (show _=some (Value.string p) from rfl);by_cases T:Gz G p=0
 rotate_left
 ·have K:Hid (Cl 181 #[.pointer (some ⟨tb,0,none⟩),.string p] Q fun e X=>e = .returned (.tuple #[DE,.int .i64 (Gz G p)])/\Hid (∀o,UK w tb G I C p f q g t s (.returned (.bool false)) (X.alloc o))):=by
   refine(Nl Q tb rd V E vi G I C (S R) hG (by omega) p hp).mono ?_;rintro e X ⟨(⟨_,rfl⟩|⟨e0,_⟩),j⟩
   ·have ai:Bw w X:=R.trans (j.mono (by omega));exact⟨rfl,fun o=>Da O _ (fun m=>T m.1.lg) (ai.alloc ai.size o)⟩
   ·exact absurd e0 T
  obtain⟨el,aB⟩:=ex (Gz G p);rw[<-aB]at K T;clear aB e1 x1 k1 s1 R ao S h ap hG;go_enter Tryz.func157,Tryz.ntmps157;go_upto_region 1 with fail;rw[show w.alloc (.cells #[.string p,.int .u8 2,.int .i64 (f:Nat),.slice q g t] 141)=Q from Da au];unfold DE Dn at K;go_wp2_with (go_at_call 181;refine(Da K).mono ?_;rintro e X ⟨rfl,HP⟩);go_ret;exact Da HP _
 have K:Hid (Cl 181 #[.pointer (some ⟨tb,0,none⟩),.string p] Q fun e X=>∃n z,e = .returned (.tuple #[Dn (some ⟨z,0,none⟩) n false ⟨none,0⟩,.int .i64 0])/\∃Y,X.alloc (.cells (Ji (some ⟨z,0,none⟩) n false ⟨none,0⟩).toArray 262)=Y/\FH Y w.heap.size 141 [.string p,.int .u8 2,.int .i64 (f:Nat),.slice q g t]/\Hid (FH Y X.heap.size 262 (Ji (some ⟨z,0,none⟩) n false ⟨none,0⟩))/\Hid (Bw w Y/\w.heap.size+1<=X.heap.size/\Y.heap.size=X.heap.size+1)/\
   Hid (f<60->g<=1280->(∀x∈I,x.1≠(f:Int))->∀Z,Bw w Z->Cl 185 #[.pointer (some ⟨tb,0,none⟩),Dn (some ⟨z,0,none⟩) n false ⟨none,0⟩,.int .i64 (f:Nat),.slice q g t] Z fun e U=>∃x:Int,e = .returned (.int .i64 x)/\Hid (UK w tb G I C p f q g t s (.returned (.bool (x==0))) U))):=by
  refine(Nl Q tb rd V E vi G I C (S R) hG (by omega) p hp).mono ?_;rintro e X ⟨(⟨aP,_⟩|⟨_,aG,ds,n,z,an,aN,ay,rfl⟩),j⟩
  ·exact absurd T aP
  ·obtain⟨Y,eY,xY,kY,sY,bY⟩:=De X (Ji (some ⟨z,0,none⟩) n false ⟨none,0⟩) 262;have aT:=j.size;have ai:Bw w X:=R.trans (j.mono (by omega));have aM:FH X w.heap.size 141 _:=(j.block _ x1.lt).trans x1;refine⟨n,z,rfl,Y,eY,kY _ _ _ aM,xY,⟨ai.trans (bY.mono ai.size),by omega,sY⟩,fun ak am hf Z y=>?_⟩;have aa:=(Qx aG (TV aG (by rw[an];simp))).2;have aa:Ga (Dc p)/\(Dc p).length<=6:=⟨aa.1,aa.2.2⟩;have aH:(Dc p).dropLast=ds:=by rw[an];simp
   rw[an]at ay aa;have aZ:n.size<=12:=by
    have A:=aa.1 n (by simp);unfold DC at A;simp only[A8,AM]at A;exact A.1.2
   refine(ZgG Z tb rd V E vi G I C (S y) hG aK aL ap ds z aN n (by omega) aa ay (f:Int) hf q g t (by omega) s (ao.kept (fun k u _=>y.block k u))).mono ?_;rintro e U (⟨aO,rfl,af⟩|⟨hm,_,aD,I1,I2,q1,q2,q3,(⟨rfl,a2⟩|⟨rfl,q0,C2,q4,q5,q6⟩)⟩)
   ·exact⟨8,rfl,Da O _ (fun m=>by have:=m.1.may;rw[aH,aO]at this;cases this) (y.trans (af.mono y.size))⟩
   ·exact⟨9,rfl,⟨false,rfl⟩,Fr.prog y aD,(fun e=>by cases e),fun _ m=>by have:=m.1.use I1 I2 q t q1 q2 q3;omega⟩
   ·exact⟨0,rfl,⟨true,rfl⟩,Fr.prog y aD,fun _=>⟨T,by rw[aH];exact hm,ak,hf,am,I1,I2,C2,q1,q2,q3,q0,by rw[an];exact q4,q5,q6⟩,fun e=>by cases e⟩
 have N:Hid (∀X,Bw w X->Cl 175 #[.pointer (some ⟨tb,1,none⟩),.int .i64 (f:Nat)] X fun e Y=>∃(a9:OA) (l9 c9:Nat) (f9:Int) (b:Bool),e = .returned (.tuple #[.agg #[.slice a9 l9 c9,.int .i64 f9],.bool b])/\Hid (b=false->∀x∈I,x.1≠(f:Int))/\Hid (b=true->¬Lc G I p f g)/\Bw X Y):=fun X hX=>by
  have hT:=S hX;refine(Lw X tb 1 vi I (f:Int) ((hT.t.cell 1).trans rfl) hT.i (by omega) hT.si).mono ?_;rintro e Y ⟨r,b,rfl,aC,j⟩;refine⟨r.a,r.l,r.c,r.f,b,rfl,fun az=>?_,fun aA m=>?_,j⟩
  ·rcases aC with⟨e9,_⟩|⟨_,_,hn⟩
   ·rw[e9]at az;cases az
   ·exact hn
  ·rcases aC with⟨_,hm⟩|⟨e9,_⟩
   ·exact m.1.fr _ hm rfl
   ·rw[e9]at aA;cases aA
 clear e1 x1 k1 s1 R T ao S h ap hG;go_enter Tryz.func157,Tryz.ntmps157;go_upto_region 1 with fail;rw[show w.alloc (.cells #[.string p,.int .u8 2,.int .i64 (f:Nat),.slice q g t] 141)=Q from Da au];unfold Dn at K;go_upto_region 2 with(go_at_call 181;refine(Da K).mono ?_;rintro e X ⟨n,z,rfl,Y,hY,y1,aw,aj,L⟩;have HY:=Db hY;clear hY K c0);rw[show X.alloc (.cells (Ji (some ⟨z,0,none⟩) n false ⟨none,0⟩).toArray 262)=Y from Da HY];have c2:=(y1.cell 2).trans (show _=some (Value.int .i64 (f:Nat)) from rfl);have c3:=(y1.cell 3).trans (show _=some (Value.slice q g t) from rfl);have av:=Db y1;clear y1;by_cases aV:60<=f\/1280<g
 ·have M:=Db (Da O Y (fun m=>by have:=m.2;omega) (Da aj).1);have aS:(60:Int)<=(f:Int)\/¬(60:Int)<=(f:Int)/\(1280:Int)<(g:Int):=by omega
  clear aj av aw L N O;rcases aS with hw|⟨hw,a3⟩
  ·go_wp2;go_ret;exact Da M
  ·go_wp2;go_ret;exact Da M
 have ak:f<60:=by omega
 have am:g<=1280:=by omega
 have aX:¬((60:Int)<=(f:Int)):=by omega
 have aU:¬((1280:Int)<(g:Int)):=by omega
 go_upto_region 4 with fail;obtain⟨i,aQ,aR⟩:=Da aj;have ac:Hid (∀V,V.heap=Y.heap->V.os=Y.os->V.tape=Y.tape->V.output=Y.output->Bw w V):=fun V a b c d=>⟨b.trans i.os,c.trans i.tape,d.trans i.output,by rw[a];exact i.size,fun k u=>by rw[a];exact i.block k u⟩
 have ab:Hid (∀V o,V.heap=(Y.alloc o).heap->V.os=Y.os->V.tape=Y.tape->V.output=Y.output->Bw w V):=fun V o a b c d=>by
  have A:=i.trans ((Ag w.heap.size Y).alloc i.size o);exact⟨b.trans i.os,c.trans i.tape,d.trans i.output,by rw[a];exact A.size,fun k u=>by rw[a];exact A.block k u⟩
 have ad:Hid (∀V l,Bw V l->V.os=Y.os->V.tape=Y.tape->V.output=Y.output->(V.heap=Y.heap\/∃o,V.heap=(Y.alloc o).heap)->FH l w.heap.size 141 [.string p,.int .u8 2,.int .i64 (f:Nat),.slice q g t]/\FH l X.heap.size 262 (Ji (some ⟨z,0,none⟩) n false ⟨none,0⟩)/\Bw w l):=fun V l j ho ht hu hV=>by
  have A:=Da av;have h5:=Da aw;rcases hV with e|⟨o,e⟩
  ·have u:∀k,k<Y.heap.size->l.heap[k]?=Y.heap[k]? := fun k u=>(j.block k (by rw[e];exact u)).trans (by rw[e])
   have ag:=j.size;rw[e]at ag;exact⟨(u _ A.lt).trans A,(u _ h5.lt).trans h5,j.os.trans (ho.trans i.os),j.tape.trans (ht.trans i.tape),j.output.trans (hu.trans i.output),Ae i.size ag,fun k ah=>(u k (Ao ah i.size)).trans (i.block k ah)⟩
  ·have u:∀k,k<Y.heap.size->l.heap[k]?=Y.heap[k]? := fun k u=>(j.block k (by rw[e];simp;omega)).trans (by rw[e];exact BE Y o k u)
   have ag:=j.size;rw[e]at ag;simp at ag;exact⟨(u _ A.lt).trans A,(u _ h5.lt).trans h5,j.os.trans (ho.trans i.os),j.tape.trans (ht.trans i.tape),j.output.trans (hu.trans i.output),by have:=i.size;omega,fun k ah=>(u k (Ao ah i.size)).trans (i.block k ah)⟩
 have ae:Hid (∀V l,Bw V l->V.heap=(Y.alloc (.cells #[.slice none 0 0,.int .i64 0] 217)).heap->FH l Y.heap.size 217 [.slice none 0 0,.int .i64 0]):=fun V l j e=>(j.block _ (by rw[e];simp)).trans (by rw[e];exact B2 Y _)
 have aE:¬Y.heap.size=w.heap.size:=by omega
 have aF:¬Y.heap.size=X.heap.size:=by omega
 clear i aQ aR
 go_region_held3 (fun W=>W.cell? ⟨w.heap.size,2,none⟩=some (.int .i64 (f:Nat))) (go_keep) (first|(go_at_call 175;refine(Da N _ (by first|exact Da ac _ rfl rfl rfl rfl|exact Da ab _ _ rfl rfl rfl rfl)).mono ?_;rintro e l ⟨a9,l9,c9,f9,b9,rfl,ar,aq,af⟩;have hz:=Da ad _ l af rfl rfl rfl (by first|exact .inl rfl|exact .inr ⟨_,rfl⟩);have al:=(hz.1.cell 2).trans (show _=some (Value.int .i64 (f:Nat)) from rfl);have a0:=hz.1.lt;have aY:=hz.2.1.lt;(try have zn:=Da ae _ l af rfl);(try have n0:=zn.cell 0);(try have n1:=zn.cell 1);(try have n2:=zn.frozen 0);(try have n3:=zn.frozen 1);have P:=Db hz;clear hz af;(try clear zn)))
 ·obtain⟨Z,y⟩:∃Z,l.alloc (.cells #[.slice a9 l9 c9,.int .i64 f9] 217)=Z:=⟨_,rfl⟩;rw[y];have bZ:Bw l Z:=by rw[<-y];exact(Ag _ l).alloc (Aa _) _
  obtain⟨F,H,J⟩:=Da P;have B:FH Z w.heap.size 141 _:=(bZ.block _ F.lt).trans F;have v:FH Z X.heap.size 262 _:=(bZ.block _ H.lt).trans H;have D:Bw w Z:=J.trans (bZ.mono J.size);have c0:=v.cell 0;have c1:=v.cell 1;have aI:=v.cell 2;have aJ:=v.cell 3;have c4:=v.cell 4;have d2:=(B.cell 2).trans (show _=some (Value.int .i64 (f:Nat)) from rfl);have d3:=(B.cell 3).trans (show _=some (Value.slice q g t) from rfl)
  cases b9
  ·have HM:=Db (Da L ak am (Da ar rfl) Z D);clear B v F H J D L P ad ae ab ac N c2 c3 al;go_wp2_with (go_at_call 185;refine(Da HM).mono ?_;rintro e U ⟨x,rfl,HP⟩);go_ret;exact Da HP
  ·have M:=Db (Da O Z (Da aq rfl) D);clear B v F H J D L P ad ae ab ac N c2 c3 al;go_wp2;go_ret;exact Da M
 ·obtain⟨Z,y⟩:∃Z,(l.setCell ⟨Y.heap.size,0,none⟩ (.slice a9 l9 c9)).setCell ⟨Y.heap.size,1,none⟩ (.int .i64 f9)=Z:=⟨_,rfl⟩;rw[y];obtain⟨F,H,J⟩:=Da P;have ax:w.heap.size<=Y.heap.size:=(Da aj).1.size;have B:FH Z w.heap.size 141 [.string p,.int .u8 2,.int .i64 (f:Nat),.slice q g t]:=by rw[<-y];exact(AB _ _ _ _ (show w.heap.size≠Y.heap.size from fun e=>aE e.symm)).trans ((AB _ _ _ _ (show w.heap.size≠Y.heap.size from fun e=>aE e.symm)).trans F)
  have v:FH Z X.heap.size 262 (Ji (some ⟨z,0,none⟩) n false ⟨none,0⟩):=by rw[<-y];exact(AB _ _ _ _ (show X.heap.size≠Y.heap.size from fun e=>aF e.symm)).trans ((AB _ _ _ _ (show X.heap.size≠Y.heap.size from fun e=>aF e.symm)).trans H)
  have D:Bw w Z:=by rw[<-y];exact(J.setCell (p:=⟨Y.heap.size,0,none⟩) ax _).setCell (p:=⟨Y.heap.size,1,none⟩) ax _
  have c0:=v.cell 0;have c1:=v.cell 1;have aI:=v.cell 2;have aJ:=v.cell 3;have c4:=v.cell 4;have d2:=(B.cell 2).trans (show _=some (Value.int .i64 (f:Nat)) from rfl);have d3:=(B.cell 3).trans (show _=some (Value.slice q g t) from rfl)
  cases b9
  ·have HM:=Db (Da L ak am (Da ar rfl) Z D);clear B v F H J D L P ad ae ab ac N c2 c3 al;go_wp2_with (go_at_call 185;refine(Da HM).mono ?_;rintro e U ⟨x,rfl,HP⟩);go_ret;exact Da HP
  ·have M:=Db (Da O Z (Da aq rfl) D);clear B v F H J D L P ad ae ab ac N c2 c3 al;go_wp2;go_ret;exact Da M
end Go.Proofs.YtaieidcohdhgpaaGreatDoor
