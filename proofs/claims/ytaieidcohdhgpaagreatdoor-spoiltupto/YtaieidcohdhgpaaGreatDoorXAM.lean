/- Spoilt. -/
import Derived.Test.YtaieidcohdhgpaaGreatDoorXAL
import Derived.Lib.SlBytesConst
namespace Go.Proofs.YtaieidcohdhgpaaGreatDoor
set_option maxHeartbeats 40000000
set_option maxRecDepth 100000
open Go.RowKit
theorem U9:(Tryz.prog.info? 188).map (fun i=>(i.zero,i.size,i.bytes))=some (some (DB (Di 64)),64,64):=by kernel_rfl
theorem Pr:Tryz.prog.underlying 186=some (.slice 188):=by kernel_rfl
theorem ZkK(D:LY):∀u∈Jg D,u.oneCell'=true:=fun u a=>by
 obtain⟨s,_,h⟩:=ET.1 a;exact Ko s u h
theorem Sl.empty(w:World)(b:Nat)(h:F0 w b 188 []):Sl w 188 64 (.slice (some ⟨b,0,none⟩) 0 0) 0 []:=⟨rfl,.inr ⟨b,0,[],rfl,h,Aa _,Aw _,rfl,rfl⟩⟩
theorem Mk(x:Addr)(n c:Nat)(w:World):(binOp .eql 186 (.slice (some x) n c) (.slice none 0 0)).run Tryz.prog w = .ok (.bool false) w:=by kernel_rfl
theorem Zjc(w:World)(y:Value)(D:LY)(h:Hp w y D)(A:0<D.length)(hl:D.length<=1000000):
  Cl 141 #[y] w fun e w'=>∃a d b,e = .returned (.slice a d b)/\Hp w' (.slice a d b) D/\Bw w w'/\∀g,F2 (.slice a d b) g->w.heap.size<=g:=by
 obtain⟨g,c,L,rfl,l,o,hc,ab,B⟩:=h.row A;obtain⟨J,E,G,H,I⟩:=BU U9;obtain⟨W,p,s,q,r,m⟩:=De w [] 188;have ac:=l.lt;obtain⟨v',w2,t,i,v,x⟩:=KQ (P:=Tryz.prog) W 186 186 188 J _ 64 64 Pr E G H I (by show(Dc (Di 64)).toArray.size=64;simp[Dh,Jd]) (by decide) (.slice (some ⟨w.heap.size,0,none⟩) 0 0) 0 [] (Sl.empty W _ s) ⟨g,0,none⟩ D.length c (Jg D) (Qk h.2)
  (fun j u f=>by
   rw[AL,Av,(q _ _ _ l).cell];rw[<-o,Ao]at f
   split at f
   ·exact f
   ·cases f) (ZkK D) (by unfold maxLen;omega) (by omega)
 obtain⟨a,d,b,rfl⟩:=i.shape;have C:Hid (Hp w2 (.slice a d b) D/\Bw w w2/\∀g,F2 (.slice a d b) g->w.heap.size<=g):=by
  refine⟨⟨by rw[AA,Av]at i;exact i,h.2⟩,m.grown v m.size (fun k e=>?_),fun k F=>?_⟩
  ·simp[Value.ownBlock]at e;omega
  ·rcases x k F with n|n
   ·simp[Value.ownBlock]at n;omega
   ·omega
 have z:=Db p;have aa:=Db r;clear h l o B s q m i v x p r;have hq:=Mk ⟨g,0,none⟩ D.length c;go_enter Tryz.func141,Tryz.ntmps141;rw[<-Da z]at t;go_wp2_with (at_builtin;refine AZ _ rfl _ _ 186 186 rfl _ _ rfl rfl _ _ t ?_);go_ret;exact⟨a,d,b,rfl,Da C⟩
def Vx(w:World)(db:Nat)(vn:Value)(D:LY)(e:Ending)(w':World):Prop:=
 e = .returned (.tuple #[])/\∃vf',DV w' db vf' vn (.slice none 0 0) (.slice none 0 0) D/\Hp w' vf' D/\Fr (fun k=>k=db) w w'/\(∀g,F2 vf' g->w.heap.size<=g)
theorem Wk(w:World)(b:Nat)(q j vw p:Value)(D:LY)(h:DV w b q j vw p D)(n:¬F2 j b):
  Cl 161 #[.pointer (some ⟨b,0,none⟩)] w (Vx w b j D):=by
 have t:=Zjc w j D h.2.1 (by rw[h.2.2];decide) (by rw[h.2.2];decide);obtain⟨a,l,c,rfl⟩:=h.2.1.1.shape;have B:=h.1.lt;have x:Hid (Cl 141 #[.slice a l c] w fun e w'=>∃d g f,e = .returned (.slice d g f)/\F0 w' b 204 [q,.slice a l c,vw,p]/\Hid (Vx w b (.slice a l c) D (.returned (.tuple #[])) (((w'.setCell ⟨b,0,none⟩ (.slice d g f)).setCell ⟨b,2,none⟩ (.slice none 0 0)).setCell ⟨b,3,none⟩ (.slice none 0 0)))):=t.mono fun e w' ⟨d,g,f,z,r,m,s⟩=>by
  have u:F0 w' b 204 [q,.slice a l c,vw,p]:=(m.block _ B).trans h.1;have v:Hp w' (.slice a l c) D:=⟨h.2.1.1.kept (fun k A _=>m.block k A),h.2.1.2⟩;have o:¬F2 (.slice d g f) b:=fun e=>by have:=s _ e;omega
  refine⟨d,g,f,z,u,rfl,.slice d g f,⟨by simpa using ((u.set 0 (.slice d g f)).set 2 (.slice none 0 0)).set 3 (.slice none 0 0),⟨((v.1.setCell ⟨b,0,none⟩ _ n).setCell ⟨b,2,none⟩ _ n).setCell ⟨b,3,none⟩ _ n,v.2⟩,h.2.2⟩,⟨((r.1.setCell ⟨b,0,none⟩ _ o).setCell ⟨b,2,none⟩ _ o).setCell ⟨b,3,none⟩ _ o,r.2⟩,?_,s⟩;exact((Fr.set (X:=fun k=>k=b) (Fr.of_below m) ⟨b,0,none⟩ _ rfl).set ⟨b,2,none⟩ _ rfl).set ⟨b,3,none⟩ _ rfl
 have c1:w.cell? ⟨b,1,none⟩=some (.slice a l c):=(h.1.cell 1).trans rfl;clear h t;go_enter Tryz.func161,Tryz.ntmps161;go_wp2_with (go_at_call 141;refine(Da x).mono ?_;rintro e w' ⟨d,g,f,rfl,i,y⟩;have m0:=i.cell 0;have f0:=i.frozen 0;have m2:=i.cell 2;have f2:=i.frozen 2;have m3:=i.cell 3;have f3:=i.frozen 3)
 go_end0
 exact Da y
def WT(w:World)(vn:Value)(D:LY)(e:Ending)(w':World):Prop:=
 e = .returned (.pointer (some ⟨w.heap.size,0,none⟩))/\∃vf',DV w' w.heap.size vf' vn (.slice none 0 0) (.slice none 0 0) D/\Hp w' vf' D/\Bw w w'/\(∀g,F2 vf' g->w.heap.size<g)
theorem W9(w:World)(d:Value)(D:LY)(h:Hp w d D)(u:D.length=1536):
  Cl 134 #[d] w (WT w d D):=by
 obtain⟨W,j,n,y,z,b⟩:=De w [.slice none 0 0,d,.slice none 0 0,.slice none 0 0] 204;have m:¬F2 d w.heap.size:=fun e=>by have:=h.1.lt e;omega
 have o:Hid (Cl 161 #[.pointer (some ⟨w.heap.size,0,none⟩)] W fun e w'=>e = .returned (.tuple #[])/\Hid (WT w d D (.returned (.pointer (some ⟨w.heap.size,0,none⟩))) w')):=(Wk W w.heap.size (.slice none 0 0) d (.slice none 0 0) (.slice none 0 0) D ⟨n,⟨h.1.kept (fun k i _=>b.block k i),h.2⟩,u⟩ m).mono fun e w' ⟨v,A,r,s,f,t⟩=>
  ⟨v,rfl,A,r,s,⟨f.os.trans b.os,f.tape.trans b.tape,f.output.trans b.output,Ag b.size f.size,fun k i=>(f.block k (by omega) (by omega)).trans (b.block k i)⟩,fun g x=>by have:=t g x;omega⟩
 have q:=Db j;obtain⟨a,l,c,rfl⟩:=h.1.shape;clear h n y z b m j;go_enter Tryz.func134,Tryz.ntmps134;go_wp2_with (go_at_call 161;rw[show w.alloc (.cells #[.slice none 0 0,.slice a l c,.slice none 0 0,.slice none 0 0] 204)=W from Da q];refine(Da o).mono ?_;rintro e w' ⟨rfl,p⟩);go_ret;exact Da p
theorem RT:∀n,Jg (List.replicate n (Di 64))=List.replicate (n*64) (.int .u8 0)
 | 0=>rfl
 | n+1=>by
  have ih:=RT n;unfold Jg at ih ⊢;rw[List.replicate_succ,A9,ih,QS,Fd]
  congr 1;omega
theorem VX(n:Nat):(madeCells (DB (Di 64)).cells (n*64)).toList=List.replicate (n*64) (.int .u8 0):=by
 apply EN;intro j;have d:(DB (Di 64)).cells.size=64:=by rw[NT];simp[Dh,Jd]
 by_cases b:j<n*64
 ·rw[Fa,if_pos b];simp only[madeCells,Array.toList_map,Bv,Array.toList_range,C8 b,FG]
  congr 1
  have a:j%(DB (Di 64)).cells.size<(DB (Di 64)).cells.size:=FY _ (by rw[d];decide);rw[getElem!_pos (DB (Di 64)).cells (j%(DB (Di 64)).cells.size) a];simp only[NT,List.getElem_toArray];have c:=List.getElem_of_eq (QS 64) (i:=j%(Dc (Di 64)).toArray.size) (by simpa [NT] using a);rw[c,List.getElem_replicate]
 ·rw[BS (by simp[madeCells];omega),BS (by simp;omega)]
def J3:LY:=List.replicate 1536 (Di 64)
theorem Kx:J3.length=1536:=Bk
theorem Wh:∀s∈J3,s.size=64:=fun s a=>by rw[(List.mem_replicate.1 a).2,Jd]
def SU(w:World)(e:Ending)(w':World):Prop:=
 ∃db vf' vn',e = .returned (.pointer (some ⟨db,0,none⟩))/\w.heap.size<=db/\DV w' db vf' vn' (.slice none 0 0) (.slice none 0 0) J3/\Hp w' vf' J3/\Bw w w'/\(∀g,F2 vf' g->w.heap.size<=g/\g≠db)/\(∀g,F2 vn' g->w.heap.size<=g/\g≠db)/\(∀g,F2 vn' g->¬F2 vf' g)
theorem ZlH(w:World):Cl 98 #[] w (SU w):=by
 obtain⟨u,q,r,s,t⟩:=BU U9;have j:Hid (∀W:World,W.ownsRow 0 188 64 (.slice (some ⟨w.heap.size,0,none⟩) 1536 1536) 1536 (madeCells (DB (Di 64)).cells (1536*64)).toList->w.grownBy W none->Cl 134 #[.slice (some ⟨w.heap.size,0,none⟩) 1536 1536] W fun e w'=>∃c,e = .returned (.pointer (some ⟨c,0,none⟩))/\Hid (SU w (.returned (.pointer (some ⟨c,0,none⟩))) w')):=fun W m n=>by
  have d:=Sl.of_owns m;rw[VX 1536,<-RT]at d;have b:=KT n;have aa:=d.lt (g:=w.heap.size) rfl;have o:Hp W (.slice (some ⟨w.heap.size,0,none⟩) 1536 1536) J3:=⟨by rw[Kx];exact d,Wh⟩;refine(W9 W _ J3 o Kx).mono ?_;rintro e w' ⟨rfl,z,v,x,y,i⟩;refine⟨W.heap.size,rfl,W.heap.size,z,_,rfl,b.size,v,x,b.trans (y.mono b.size),fun g a=>?_,fun g a=>?_,fun g a p=>?_⟩
  ·have:=i g a;have:=b.size;omega
  ·simp[F2,Value.ownBlock]at a;omega
  ·simp[F2,Value.ownBlock]at a;have:=i g p;omega
 go_enter Tryz.func98,Tryz.ntmps98;go_wp2_with (first|(at_make;refine BA _ rfl _ _ 186 rfl 0 188 u (DB (Di 64)) 64 Pr q r s _ _ _ _ 1536 rfl rfl rfl rfl (by rw[t];decide) (by unfold maxLen;decide) (Aw _) ?_;intro w1 h f;have k:=Db (Da j w1 h f);clear h f)|(go_at_call 134;refine(Da k).mono ?_;rintro e w' ⟨c,rfl,l⟩));go_ret;exact Da l
def Jk(D:LY):By:=⟨(D.flatMap (fun s=>s.data.toList)).toArray⟩
theorem Zks(D:LY)(s:By):Jk (D++[s])=Jk D++s:=by
 apply A7;simp[Jk]
theorem Uu:∀{D:LY},(∀s∈D,s.size=64)->(Jk D).size=D.length*64
 | [],_=>rfl
 | s::D,h=>by
  have ih:=Uu (D:=D) (fun x b=>h x (AF _ b));have a:s.data.toList.length=64:=by rw[AG];exact h s A5
  have e:∀D,(Jk D).size=(D.flatMap (fun s=>s.data.toList)).length:=fun D=>by show(List.toArray _).size=_;simp
  rw[e]at ih ⊢;rw[A9,Ad,ih,a,Aq];omega
def PY(w:World)(D:LY)(e:Ending)(w':World):Prop:=
 ∃a' l' c',e = .returned (.slice a' l' c')/\Gp w.heap.size w' (.slice a' l' c') (Jk D)/\Bw w w'
theorem Zi0(w:World)(vn:Value)(D:LY)(h:Hp w vn D)(H:0<D.length)(hl:D.length<=10000):
  Cl 139 #[vn] w (PY w D):=by
 have d:=Db h;obtain⟨g,c,L,rfl,K,hT,hc,ad,hL⟩:=h.row H;obtain⟨i0,af,al,am,an⟩:=BU KB;have ap:=K.lt;clear K hT hc ad hL h;obtain⟨N,n⟩:=ex D.length;rw[<-n]at H hl;rw[<-n];have z:=Db n;clear n;have ar:IntKind.i64.wrap ((N:Int)*64)=((N*64:Nat):Int):=by rw[AX];omega
 go_enter Tryz.func139,Tryz.ntmps139;go_wp2_with (at_make;refine wpList_make_own _ rfl _ _ 59 rfl 0 5 i0 (.int .u8 0) 1 Tryz.underlying59 af al am _ _ _ (N*64) rfl rfl (by omega) (by rw[an];omega) (by unfold maxLen;omega) (Aw _) ?_;intro w1 U S;have E:=Db (And.intro (Sl.of_owns U) (KT S));clear U S)
 go_loopw [3,12] (fun v i wr=>∃(k:Nat) (l:OA) (q m:Nat),k<=N/\i = .int .i64 k/\v = .slice l q m/\Hid (Gp w.heap.size wr (.slice l q m) (Jk (D.take k))/\Bw w wr)) (fun _ i _=>N-(intOf i).toNat)
 case atStart=>exact⟨0,_,_,_,Aw _,rfl,rfl,⟨(Da E).1,fun g hg=>by simp[Value.ownBlock]at hg;omega⟩,(Da E).2⟩
 case round=>
  obtain⟨k,l,q,m,T,rfl,rfl,t⟩:=hrel;by_cases aj:k<N
  ·have ag:k<D.length:=by rw[<-Da z];exact aj
   obtain⟨s,p⟩:∃s,D[k]?=some s:=⟨_,Ac ag⟩;have A:s.size=64:=(Da d).2 s (An p);obtain⟨r,a⟩:=Da t;have O:Hp wr (.slice (some ⟨g,0,none⟩) N c) D:=by rw[Da z];exact⟨(Da d).1.kept (fun k T _=>a.block k T),(Da d).2⟩
   obtain⟨g',ae,ai,V⟩:=O.range k s p;clear ai
   cases ae
   obtain⟨W,P,C,ah,Y,Q⟩:=De wr (Dc (Di 64)) 188;obtain⟨f,o⟩:∃X,W.setRow wr.heap.size (Dc s).toArray=X:=⟨_,rfl⟩;have Z:F0 f wr.heap.size 188 (Dc s):=by rw[<-o];exact BQ W _ _ _ 188 _ C
   have b:Bw wr f:=by rw[<-o];exact Q.trans ⟨rfl,rfl,rfl,by simp,fun j hj=>Bn W _ j _ (by omega)⟩
   have B:w.heap.size<=f.heap.size:=Ag a.size b.size;obtain⟨F,l2,G,w3,ak,M,J,ac⟩:=J2 f w.heap.size B _ _ (r.below b) ⟨wr.heap.size,0,none⟩ 64 64 s A (fun j u hu=>by rw[AL,Av,Z.cell];exact hu) (by rw[Uu (fun x hx=>(Da d).2 x (BE hx)),Am];omega);have aa:Hid (Gp w.heap.size w3 (.slice F l2 G) (Jk (D.take (k+1)))/\Bw w w3):=by
    have e:D.take (k+1)=D.take k++[s]:=by rw[BZ,p];rfl
    rw[e,Zks];exact⟨M,a.trans ((b.mono a.size).trans ((r.below b).frBelow B J))⟩
   have HR:=Db V;have HX:=Db C;have HW:=Db P;have ab:=Db o;have ao:=Db Y;have R:(Dc s).length=64:=by rw[Dh,A]
   have y:=Db R;have aq:(k:Int)<(N:Int):=by omega
   clear M J ac Z b B C ah Y Q V O r a P o R t p A;go_wp2_with (first|(refine FC rfl 188 _ rfl g (k*64) rfl (Dc s) _ (Da HR) Kg rfl (by rw[D7,Da y]) ?_)|(refine Ju rfl 188 rfl JU ?_;rw[show wr.alloc (.cells (Dc (Di 64)).toArray 188)=W from Da HW])|(refine Bs rfl 188 _ _ rfl wr.heap.size (Dc s).toArray rfl rfl 188 _ (Da HX) (by rw[D7];simp[Da y]) (by simp[Da y,Dh,Jd]) (J8 _) ?_;rw[Da ab])|(at_builtin;refine AZ _ rfl _ _ 59 59 rfl _ _ rfl rfl _ _ ak ?_))
   go_roundw
   case rel=>exact⟨k+1,F,l2,G,by omega,by go_num,rfl,Da aa⟩
   case measure=>simp[intOf];omega
  ·obtain rfl:k=N:=by omega
   go_wp2;go_ret;have I:=Da t;rw[Ah (Ej (Da z).symm)]at I;exact⟨l,q,m,rfl,I⟩
theorem Zkv(w:World)(d:Nat)(o f vw n:Value)(D:LY)(h:DV w d o f vw n D):
  Cl 78 #[.pointer (some ⟨d,0,none⟩)] w (PY w D):=by
 have g:=Db (Zi0 w f D h.2.1 (by rw[h.2.2];decide) (by rw[h.2.2];decide));have c1:=h.1.cell 1;obtain⟨a,l,c,rfl⟩:=h.2.1.1.shape;clear h;go_enter Tryz.func78,Tryz.ntmps78;go_wp2_with (go_at_call 139;refine(Da g).mono ?_;rintro e w' ⟨j,m,k,rfl,b⟩;have i:=Db b;clear b);go_ret;exact⟨j,m,k,rfl,Da i⟩
abbrev FL:=@Lib.run_convert_bytes_const
theorem ZiJ(x:Int):0<=IntKind.u64.wrap x/\IntKind.u64.wrap x<18446744073709551616:=by
 simp[IntKind.wrap,IntKind.bits,IntKind.signed];omega
theorem PH(l:List UInt8):0<=Jz l/\Jz l<18446744073709551616:=by
 rcases List.eq_nil_or_concat l with rfl|⟨l',b,rfl⟩
 ·decide
 ·rw[List.concat_eq_append,QM];exact ZiJ _
def Dl(s:By):Nat:=(Jz s.data.toList).toNat
theorem QB(s:By):Jz s.data.toList=((Dl s:Nat):Int):=by unfold Dl;have:=(PH s.data.toList).1;omega
theorem JS(s:By):Dl s<18446744073709551616:=by unfold Dl;have:=PH s.data.toList;omega
def LA(b:Nat)(w:World)(v:Value)(s:By):Prop:=Gp b w v s\/∃x l,v = .slice (some x) l l/\Gy w (some x) l l s
theorem LA.below{b:Nat}{w w':World}{v:Value}{s:By}(h:LA b w v s)(a:Bw w w'):LA b w' v s:=by
 rcases h with h|⟨x,l,rfl,h⟩
 ·exact .inl (h.below a)
 ·exact .inr ⟨x,l,rfl,h.below a⟩
theorem OV(w:World)(b:Nat)(q:b<=w.heap.size)(v:Value)(s:By)(h:LA b w v s)(a:Addr)(m c:Nat)(t:By)(z:t.size=m)(A:∀j u,(Dc t)[j]?=some u->w.cell? (a.add j)=some u)(E:s.size+m<=4000000)(aa:0<m:=by omega):
  ∃d i f w',(Builtin.append_ #[59,59] 59 #[v,.slice (some a) m c]).run Tryz.prog w = .ok (.slice d i f) w'/\Gp b w' (.slice d i f) (s++t)/\Fr (F2 v) w w'/\Dm w v (.slice d i f):=by
 rcases h with h|⟨x,l,rfl,h⟩
 ·exact J2 w b q v s h a m c t z A E
 ·obtain⟨L,C,I,J,K⟩:=BU KB;have F:=h.1;obtain⟨v',w2,M,B,o⟩:=run_append_arg_grows (P:=Tryz.prog) w 59 59 5 L _ 1 1 Tryz.underlying59 C I J K rfl (by decide) x l l (Dc s) (by rw[Dh];omega)
   (fun j u G=>by obtain⟨y,e,H⟩:=h.2.2 j u G;cases e;exact H) a m c (Dc t) (by rw[Dh];omega) A (by omega) (by unfold maxLen;omega) (by omega)
  have p:=Sl.of_owns B;obtain⟨d,i,f,rfl⟩:=p.shape;have r:∀g,F2 (.slice d i f) g->w.heap.size<=g:=fun g n=>(B.lt g n).1
  refine⟨d,i,f,w2,M,⟨?_,fun g n=>Ag q (r g n)⟩,⟨o.os,o.tape,o.output,o.size,fun k D _=>o.block k D (by simp)⟩,fun g n => .inr (r g n)⟩;rw[JE,show(s++t).size=l+m by rw[Ai,z,<-F]];exact p
theorem Zed(w:World)(b:Nat)(hb:b<=w.heap.size)(a:OA)(l c:Nat)(s:By)(h:LA b w (.slice a l c) s)(x:Nat)(V:x<18446744073709551616)(m:Nat)(hm:m<=8)(S:0<m)(hs:s.size<=2000000):
  Cl 212 #[.slice a l c,.int .u64 x,.int .i64 m] w fun e w'=>∃f o n,e = .returned (.slice f o n)/\Gp b w' (.slice f o n) (s++⟨(DC x m).toArray⟩)/\Fr (F2 (.slice a l c)) w w'/\Dm w (.slice a l c) (.slice f o n):=by
 have H:=Db h;clear h;go_enter Tryz.func212,Tryz.ntmps212;go_wp2
 go_loopw [0,1,8] (fun v y i wr=>∃(k y':Nat) (f:OA) (o n:Nat),k<=m/\i = .int .i64 k/\y = .int .u64 y'/\v = .slice f o n/\y'<18446744073709551616/\Hid (LA b wr v (s++⟨((DC x m).take k).toArray⟩)/\(0<k->Gp b wr v (s++⟨((DC x m).take k).toArray⟩)))/\Hid (DC y' (m-k)=(DC x m).drop k)/\Hid (Fr (F2 (.slice a l c)) w wr/\Dm w (.slice a l c) v)) (fun _ _ i _=>m-(intOf i).toNat)
 case atStart=>exact⟨0,x,a,l,c,Aw _,rfl,rfl,rfl,V,⟨by show LA _ _ _ _;rw[Ct,KC];exact Da H,fun h=>absurd h (Nat.lt_irrefl 0)⟩,rfl,Fr.refl _ _,fun g r => .inl r⟩
 case round=>
  obtain⟨k,y,f,o,n,P,rfl,rfl,rfl,hy,t,M,p⟩:=hrel;by_cases R:k<m
  ·have I:IntKind.u8.wrap (y:Int)=((UInt8.ofNat y).toNat:Int):=J7 y;have aa:=(Da p).1.size;obtain⟨W,F,J,Q,T,q⟩:=De wr [.int .u8 (IntKind.u8.wrap (y:Int))] 5;obtain⟨A,K,B,w2,G,E,C,D⟩:=OV W b (by omega) _ _ ((Da t).1.below q) ⟨wr.heap.size,0,none⟩ 1 1 ⟨#[UInt8.ofNat y]⟩ rfl (fun j u U=>by rw[AL,Av,J.cell,I];exact U) (by rw[Ai];show s.size+(List.toArray _).size+1<=_;simp;omega);have z:=Db E;have L:Hid (Fr (F2 (.slice a l c)) w w2/\Dm w (.slice a l c) (.slice A K B)):=by
    refine⟨((Da p).1.then (Fr.of_below (X:=F2 (.slice a l c)) q) (fun k _ h=>h)).then C (fun k P e=>((Da p).2 k e).elim id (fun h=>by omega)),fun g r=>?_⟩;rcases D g r with d|d
    ·exact(Da p).2 g d
    ·exact .inr (by omega)
   have N:=Db F;clear E C D J Q T q F I;rw[<-Da N]at G;go_wp2_with (at_builtin;refine AZ _ rfl _ _ 59 59 rfl _ _ rfl rfl _ _ G ?_)
   go_roundw
   case rel=>
    obtain⟨d,O⟩:=VR R (Da M);exact⟨k+1,y/256,A,K,B,by omega,by go_num,by go_num,rfl,by omega,⟨by show LA _ _ _ _;rw[d,<-Pv];exact .inl (Da z),fun _=>by show Gp _ _ _ _;rw[d,<-Pv];exact Da z⟩,O,L⟩
   case measure=>simp[intOf];omega
  ·obtain rfl:k=m:=by omega
   go_wp2;go_ret;have d:=(Da t).2 S;rw[Ah (by rw[D4];exact Aa _)]at d;exact⟨f,o,n,rfl,d,Da p⟩
def Ke:By:=⟨#[115,105,108,116]⟩
def Je(x m:Nat):By:=⟨(DC x m).toArray⟩
def Mo(turn p x:Nat):By:=Ke++Je turn 8++DI p x
def Hr(turn p x:Nat):By:=⟨#[1]⟩++Dg (Mo turn p x) 63
def GO(turn p x:Nat):By:=(Hr turn p x).extract 0 56++Je (Dl ((Hr turn p x).extract 0 56)) 8
theorem K4(x m:Nat):(Je x m).size=m:=VQ x m
theorem K5(p x:Nat):(DI p x).size=10:=by show(List.toArray _).size=10;simp[D4]
theorem Zn0(a p x:Nat):(Mo a p x).size=22:=by unfold Mo;rw[Ai,Ai,K4,K5];rfl
theorem K6(a p x:Nat):(Hr a p x).size=64:=by unfold Hr;rw[Ai,Jc];rfl
theorem NI(a p x:Nat):(GO a p x).size=64:=by unfold GO;rw[Ai,Af,K6,K4];rfl
theorem ck_spl(a p x:Nat):F8 (Dc (Hr a p x)) 56 (Dc (Je (Dl ((Hr a p x).extract 0 56)) 8))=Dc (GO a p x):=by
 unfold F8 GO;rw[JE,Jt,Cr (by rw[Dh,Dh,K6,K4];decide)];simp
theorem Zg0{P:Program}{d:Array Oper}{f:List Oper}{o:Oper}{a:Act}{w:World}{Q:Exit->Act->World->Prop}(g:o.guard=none)(t:TypeId)(i j:Nat)(x y:Operand)(ho:o.op = .build t #[(i,x),(j,y)])(u v:Value)(k:a.eval x=u)(l:a.eval y=v){b:Array Value}(c:P.built t [(i,u),(j,v)]=some b)
  (h:wpList P d Q f (a.put o.dst (.agg b)) w):wpList P d Q (o::f) a w:=by
 have e:((#[(i,x),(j,y)]:Array (Nat×Operand)).map fun (i,x)=>(i,a.eval x)).toList=[(i,u),(j,v)]:=by simp[k,l]
 refine wpList_build g t _ ho ?_ ?_
 ·rw[e,c];rfl
 ·rw[e,c];exact h
def ZmW(w:World)(turn p x:Nat)(e:Ending)(w':World):Prop:=e = .returned (Ii (turn%2) (GO turn p x))/\Bw w w'
theorem Rq(w:World)(d p x:Nat)(ht:d<18446744073709551616)(hp:p<65536)(hx:x<18446744073709551616):
  Cl 160 #[.agg #[.int .u64 d,.int .i64 p,.int .u64 x]] w (ZmW w d p x):=by
 obtain⟨z,al,aa,aU,ay,an⟩:=De w [.int .u64 d,.int .i64 p,.int .u64 x] 191;obtain⟨f,am,ac,Y,aW,ao⟩:=De z (Gi 0 (Di 64)) 207;obtain⟨i,L⟩:∃X,f.alloc (.cells (Dc Ke).toArray 5 (4,5))=X:=⟨_,rfl⟩;have V:Bw f i:=by rw[<-L];exact(Al _ _).alloc (Aa _) _
 have aX:i.heap.size=f.heap.size+1:=by rw[<-L];simp
 have Z:∀b t' R,F0 f b t' R->F0 i b t' R:=fun b t' R h=>(V.block _ h.lt).trans h
 have av:i.heap[f.heap.size]?=some (.cells (Dc Ke).toArray 5 (4,5)):=by rw[<-L];exact CN f _
 have az:Bw w i:=an.trans ((ao.mono (by omega)).trans (V.mono (by omega)));have H:=Z _ _ _ (Y _ _ _ aa);have ad:=Z _ _ _ ac;have aw:Gy i (some ⟨f.heap.size,0,none⟩) 4 4 Ke:=by
  refine⟨rfl,fun e=>(by cases e),fun j v I=>⟨_,rfl,?_⟩⟩;rw[AL,Av];simp only[World.cell?,av]
  simpa using I
 have ak:LA f.heap.size i (.slice (some ⟨f.heap.size,0,none⟩) 4 4) Ke := .inr ⟨_,_,rfl,aw⟩;have ae:Hid (Cl 212 #[.slice (some ⟨f.heap.size,0,none⟩) 4 4,.int .u64 d,.int .i64 8] i fun e w'=>∃r t s,e = .returned (.slice r t s)/\F0 w' w.heap.size 191 [.int .u64 d,.int .i64 p,.int .u64 x]/\F0 w' z.heap.size 207 (Gi 0 (Di 64))/\Hid (Gp f.heap.size w' (.slice r t s) (Ke++Je d 8)/\Below f.heap.size i w')):=(Zed i f.heap.size (by omega) _ _ _ Ke ak d ht 8 (by omega) (by omega) (by decide)).mono fun e w' ⟨r,t,s,he,B,y,h3⟩=>by
  have D:Below f.heap.size i w':=⟨y.os,y.tape,y.output,y.size,fun k hk=>y.block k (by omega) (fun e=>by simp[F2,Value.ownBlock]at e;omega)⟩;exact⟨r,t,s,he,(D.block _ (by omega)).trans H,(D.block _ (by omega)).trans ad,B,D⟩
 have af:Hid (∀X a l c,Hid (Gp f.heap.size X (.slice a l c) (Ke++Je d 8)/\Below f.heap.size i X)->Cl 214 #[.agg #[.int .i64 p,.int .u64 x],.slice a l c] X fun e w'=>∃r t s,e = .returned (.slice r t s)/\Hid (Gp f.heap.size w' (.slice r t s) (Mo d p x)/\Below f.heap.size i w')):=fun X a l c M=>by
  obtain⟨B,y⟩:=Da M;have:=y.size;refine(RQ X f.heap.size (by omega) a l c _ B p x hp hx (by rw[Ai,K4];decide)).mono ?_;rintro e w' ⟨r,t,s,rfl,q1,q2,q3⟩;exact⟨r,t,s,rfl,q1,y.trans (B.frBelow (by omega) q2)⟩
 have ag:Hid (∀X a l c,Hid (Gp f.heap.size X (.slice a l c) (Mo d p x)/\Below f.heap.size i X)->Cl 213 #[.int .u8 1,.slice a l c] X fun e w'=>e = .returned (DB (Hr d p x))/\Hid (Below f.heap.size i w')):=fun X a l c M=>by
  obtain⟨B,y⟩:=Da M;refine(Xe X a l c _ B.rdB (by rw[Zn0];decide) 1).mono ?_;rintro e w' ⟨rfl,q⟩;exact⟨rfl,y.trans (q.mono (by have:=y.size;omega))⟩
 have HM:Hid (∀g,Hid (Below f.heap.size i g)->∃A m,g.alloc (.cells (Dc (Di 64)).toArray 188)=A/\F0 A g.heap.size 188 (Dc (Di 64))/\A.setRow g.heap.size (Dc (Hr d p x)).toArray=m/\
   Hid (Cl 215 #[.slice (some ⟨g.heap.size,0,none⟩) 56 64] m.drew fun e w'=>e = .returned (.int .u64 (Dl ((Hr d p x).extract 0 56):Nat))/\w'=m.drew)/\
   Hid (Cl 212 #[.slice none 0 0,.int .u64 (Dl ((Hr d p x).extract 0 56):Nat),.int .i64 8] m.drew fun e w'=>∃r t s u,e = .returned (.slice r t s)/\(Builtin.copy_ #[59,59] 3 #[.slice (some ⟨g.heap.size,56,none⟩) 8 8,.slice r t s]).run Tryz.prog w' = .ok (goInt 8) u/\u.cell? ⟨w.heap.size,0,none⟩=some (.int .u64 d)/\Hid (F0 u g.heap.size 188 (Dc (GO d p x))/\F0 u z.heap.size 207 (Gi 0 (Di 64))/\Bw w u))):=fun g M=>by
  have D:=Da M;obtain⟨A,T,N,bd,aY,aR⟩:=De g (Dc (Di 64)) 188;obtain⟨m,F⟩:∃X,A.setRow g.heap.size (Dc (Hr d p x)).toArray=X:=⟨_,rfl⟩;have aA:F0 m g.heap.size 188 (Dc (Hr d p x)):=by rw[<-F];exact BQ A _ _ _ 188 _ N
  have U:Bw g m:=by rw[<-F];exact aR.trans ⟨rfl,rfl,rfl,by simp,fun j hj=>Bn A _ j _ (by omega)⟩
  have bf:m.heap.size=g.heap.size+1:=by rw[<-F];simp[World.setRow,aY]
  have a5:=D.size;have aV:Gy m (some ⟨g.heap.size,0,none⟩) 56 64 ((Hr d p x).extract 0 56):=by
   refine⟨by rw[Af,K6];rfl,fun e=>(by cases e),fun j v I=>⟨_,rfl,?_⟩⟩;rw[AL,Av,aA.cell];rw[Jt,BY,Ao]at I
   split at I
   ·exact I
   ·cases I
  refine⟨A,m,T,N,F,?_,?_⟩
  ·have:=NQ m.drew _ 56 64 _ (show Gy m.drew (some ⟨g.heap.size,0,none⟩) 56 64 ((Hr d p x).extract 0 56) from aV) (by rw[Af,K6];decide);rw[QB]at this;exact this
  ·refine(UL m.drew m.heap.size (Aa _) none 0 0 ⟨#[]⟩ (Gp.nil _ _) _ (JS _) 8 (by omega) (by decide)).mono ?_;rintro e w' ⟨r,t,s,rfl,B,y,h3⟩;have G:Bw m w':=by
    have J:=(Gp.nil m.heap.size m.drew).frBelow (Aa _) y;exact⟨J.os,J.tape,J.output,J.size,J.block⟩
   have e0:(⟨#[]⟩:By)++⟨(DC (Dl ((Hr d p x).extract 0 56)) 8).toArray⟩=Je (Dl ((Hr d p x).extract 0 56)) 8:=by apply A7;simp[Je]
   rw[e0]at B;have a0:F0 w' g.heap.size 188 (Dc (Hr d p x)):=(G.block _ (by omega)).trans aA;obtain⟨u,r1,r2,O⟩:=NJ w' g.heap.size 188 _ a0 56 8 8 r t s _ B.rdB (by rw[K4];exact Aa _) (by rw[Dh,K6];exact Aa _);rw[K4]at r1;rw[ck_spl]at r2;have bg:=G.size;have ab:∀k,k<f.heap.size->u.heap[k]?=i.heap[k]? := fun k hk=>by
    rw[O.block k (by omega) (by simp;omega),G.block k (by omega),U.block k (by omega),D.block k hk]
   have aQ:Below f.heap.size i u:=⟨O.os.trans (G.os.trans (U.os.trans D.os)),O.tape.trans (G.tape.trans (U.tape.trans D.tape)),O.output.trans (G.output.trans (U.output.trans D.output)),by have:=O.size;omega,ab⟩;refine⟨r,t,s,u,rfl,r1,?_,r2,(ab _ (by omega)).trans ad,az.trans (aQ.mono (by omega))⟩;have:F0 u w.heap.size 191 [.int .u64 d,.int .i64 p,.int .u64 x]:=(ab _ (by omega)).trans H;exact(this.cell 0).trans rfl
 obtain⟨aP,aZ,aT⟩:=Ps;have W:=NI d p x;have Q:=Db W;have HZ:=Db (K6 d p x);have be:(d:Int).tmod 2=((d%2:Nat):Int):=by rw[Co (by omega)];omega
 have aB:=Db (PO (d%2) (GO d p x) W);have aI:=Db al;have aJ:=Db am;have aK:=Db L;have aE:=Db (show z.heap.size=w.heap.size+1 from ay);have aO:∀o,(f.alloc o).cell? ⟨w.heap.size,0,none⟩=some (.int .u64 d):=fun o=>(AC (w:=f) (a:=⟨w.heap.size,0,none⟩) (BO _ _ _ (show w.heap.size<f.heap.size by omega))).trans (((Y _ _ _ aa).cell 0).trans rfl)
 have c0:i.cell? ⟨w.heap.size,0,none⟩=some (.int .u64 d):=(H.cell 0).trans rfl;have c1:i.cell? ⟨w.heap.size,1,none⟩=some (.int .i64 p):=(H.cell 1).trans rfl;have c2:i.cell? ⟨w.heap.size,2,none⟩=some (.int .u64 x):=(H.cell 2).trans rfl;clear aa aU ay an ac Y aW ao av Z aX V az H ad ak aw al am L W;have bc:=fun (w:World) (C:Array Value) (n c:Nat)=>FL (P:=Tryz.prog) w 59 5 C n c Tryz.underlying59 (by kernel_rfl)
 go_enter Tryz.func160,Tryz.ntmps160;go_upto_region 1 with(refine Ju rfl 207 rfl PG ?_);rw[show w.alloc (.cells #[Value.int .u64 d,.int .i64 p,.int .u64 x] 191)=z from Da aI];rw[show z.alloc (.cells (Gi 0 (Di 64)).toArray 207)=f from Da aJ]
 (try simp only[pE])
 go_upto_region 3 with(first|(go_at_call 212;rw[show f.alloc (.cells #[.int .u8 115,.int .u8 105,.int .u8 108,.int .u8 116] 5 (4,5))=i from Da aK];refine(Da ae).mono ?_;rintro e w1 ⟨a1,l1,a3,rfl,au,ac,aF⟩;have m1:=au.cell 1;have m2:=au.cell 2;clear aO)|(go_at_call 214;refine(Da af _ _ _ _ aF).mono ?_;rintro e w2 ⟨a2,l2,a4,rfl,aG⟩)|(go_at_call 213;refine(Da ag _ _ _ _ aG).mono ?_;rintro e g ⟨rfl,aH⟩;obtain⟨A,m,T,N,F,aj,ah⟩:=Da HM g aH;have aL:=Db T;have aM:=Db F;have aN:=Db N;clear T F N)|(refine Ju rfl 188 rfl JU ?_;rw[show g.alloc (.cells (Dc (Di 64)).toArray 188)=A from Da aL])|(refine Bs rfl 188 _ _ rfl g.heap.size (Dc (Hr d p x)).toArray rfl rfl 188 _ (Da aN) (by rw[D7];simp[Dh,Da HZ]) (by simp[Dh,Jd,Da HZ]) (J8 _) ?_;rw[Da aM]));refine AD (S:=fun _=>True) (by kernel_rfl) AQ (fun ba=>?_);refine tk 0 ?_;try simp only[pE];refine tk 1 ?_;try simp only[pE];refine rk 2 (fun K E=>?_);go_simp;go_at_call 215;refine(Da aj).mono ?_;rintro e w' ⟨rfl,hw⟩;rw[hw];clear hw;go_wp2_with fail;refine E.out _ _ AQ (fun a6=>?_);clear E K
 (try simp only[pE])
 refine rk 3 (fun K E=>?_);go_simp;go_at_call 212;refine(Da ah).mono ?_;rintro e w7 ⟨a7,l7,c7,u,rfl,ar,bb,HP⟩;go_wp2_with fail;refine E.out _ _ AQ (fun a8=>?_);clear E K
 (try simp only[pE])
 refine rk 4 (fun K E=>?_);refine KH rfl _ _ 59 59 rfl _ _ rfl rfl ar ?_;refine E.out _ _ AQ (fun a9=>?_);clear E K
 (try simp only[pE])
 refine AW (by kernel_rfl) ?_ _;obtain⟨aq,ax,ap⟩:=Da HP;have aD:=Db aq;have ai:=Db ax;have aC:=Db ap;clear aq ax ap HP ae af ag HM aj ah ar;go_upto_region 4 with fail;refine A1 ?_;go_wp2_with (first|(refine wpList_load_row rfl 188 _ rfl g.heap.size rfl 188 _ (0,0) _ (Da aD) Kg rfl (by rw[D7];simp[Dh,Da Q]) ?_)|(refine Zg0 rfl 207 0 1 _ _ rfl (.int .i64 ((d%2:Nat):Int)) (DB (GO d p x)) rfl rfl (Da aB) ?_)|(refine Bs rfl 207 _ _ rfl z.heap.size (Gi (d%2) (GO d p x)).toArray rfl rfl 207 _ (Da ai) (by rw[Qx];simp[JZ,Da Q]) (by simp[JZ,Da Q,Jd]) (C6 (PC _ _)) ?_));have aS:F0 (u.setRow z.heap.size (Gi (d%2) (GO d p x)).toArray) z.heap.size 207 (Gi (d%2) (GO d p x)):=BQ u _ _ _ 207 _ (Da ai);refine Ax (v:=Ii (d%2) (GO d p x)) (Fo rfl _ _ z.heap.size 207 _ (0,0) _ rfl aS aZ (by cases aP<;>first|rfl|(simp[TypeDesc.isRow]at aT)) ?_) rfl ⟨rfl,?_⟩
 ·rw[Qx];simp[JZ,Da Q]
 ·have hn:=Da aE;exact(Da aC).trans ⟨rfl,rfl,rfl,by simp,fun j hj=>Bn u _ j _ (by omega)⟩
def Kd(db sb so:Nat)(nd:Nat->Int)(cl:Bool)(hd:Nat)(va:Value)(tp tx:Int)(vp:Value):F6:=
 [.pointer (some ⟨db,0,none⟩),.pointer (some ⟨sb,so,none⟩)]++GS nd++[.bool cl,.int .i64 hd,va,.int .i64 tp,.int .u64 tx,vp]
theorem Zn(b d so:Nat)(a:Nat->Int)(cl:Bool)(c:Nat)(g:Value)(e f:Int)(i:Value)(j:Nat)(h:j<96):(Kd b d so a cl c g e f i)[2+j]?=some (.int .i64 (a j)):=by
 unfold Kd;rw[Ar,AH (by simp),AP (by simp[Jv];omega),<-Qr a j h]
 congr 1;simp
theorem JI(f h so:Nat)(g:Nat->Int)(cl:Bool)(a:Nat)(d:Value)(b c:Int)(e:Value)(j:Nat):(Kd f h so g cl a d b c e)[98+j]? = [Value.bool cl,.int .i64 a,d,.int .i64 b,.int .u64 c,e][j]? := by
 unfold Kd;rw[AH (by simp[Jv])]
 congr 1;simp[Jv]
theorem UA(a d so:Nat)(c:Nat->Int)(cl:Bool)(b:Nat)(g:Value)(e f:Int)(h:Value)(j:Nat)(u:Value):(Kd a d so c cl b g e f h).set (98+j) u=[.pointer (some ⟨a,0,none⟩),.pointer (some ⟨d,so,none⟩)]++GS c++[Value.bool cl,.int .i64 b,g,.int .i64 e,.int .u64 f,h].set j u:=by
 unfold Kd;rw[Em _ _ (by simp[Jv])]
 congr 2;simp[Jv]
structure Gb(w:World)(pb db sb so:Nat)(nd:Nat->Int)(cl:Bool)(hd:Nat)(va:Value)(es:LI)(tp tx:Int)(vp:Value)(ps:LB):Prop where
 row:F0 w pb 184 (Kd db sb so nd cl hd va tp tx vp)
 sa:Sl w 350 2 va es.length (Ds es)
 sp:Ih w vp ps
 oa:¬F2 va pb
 op:¬F2 vp pb
 ap:∀k,F2 va k->¬F2 vp k
theorem Gb.below{w w':World}{pb c f so:Nat}{e:Nat->Int}{cl:Bool}{d:Nat}{j:Value}{es:LI}{g i:Int}{l:Value}{ps:LB}(h:Gb w pb c f so e cl d j es g i l ps)(a:Bw w w'):Gb w' pb c f so e cl d j es g i l ps:=
 ⟨(a.block _ h.row.lt).trans h.row,h.sa.kept (fun k b _=>a.block k b),Sl.kept h.sp (fun k b _=>a.block k b),h.oa,h.op,h.ap⟩
theorem Gb.cells{w:World}{pb a d so:Nat}{c:Nat->Int}{cl:Bool}{b:Nat}{e:Value}{es:LI}{i k:Int}{f:Value}{ps:LB}(h:Gb w pb a d so c cl b e es i k f ps):
  w.cell? ⟨pb,0,none⟩=some (.pointer (some ⟨a,0,none⟩))/\w.cell? ⟨pb,1,none⟩=some (.pointer (some ⟨d,so,none⟩))/\(∀j,j<96->w.cell? ⟨pb,2+j,none⟩=some (.int .i64 (c j)))/\w.cell? ⟨pb,98,none⟩=some (.bool cl)/\w.cell? ⟨pb,99,none⟩=some (.int .i64 b)/\w.cell? ⟨pb,100,none⟩=some e/\w.cell? ⟨pb,103,none⟩=some f:=
 ⟨(h.row.cell 0).trans rfl,(h.row.cell 1).trans rfl,fun j g=>(h.row.cell (2+j)).trans (Zn _ _ _ _ _ _ _ _ _ _ j g),(h.row.cell 98).trans (JI _ _ _ _ _ _ _ _ _ _ 0),(h.row.cell 99).trans (JI _ _ _ _ _ _ _ _ _ _ 1),(h.row.cell 100).trans (JI _ _ _ _ _ _ _ _ _ _ 2),(h.row.cell 103).trans (JI _ _ _ _ _ _ _ _ _ _ 5)⟩
theorem Gb.next{w w':World}{pb a d so:Nat}{c:Nat->Int}{cl:Bool}{n:Nat}{l:Value}{es:LI}{f i:Int}{m:Value}{ps:LB}(h:Gb w pb a d so c cl n l es f i m ps)(p:Nat)(q:F0 w' pb 184 ((Kd a d so c cl n l f i m).set 99 (.int .i64 ((p+1:Nat):Int))))(o:Fr (fun k=>k=pb) w w'):Gb w' pb a d so c cl (p+1) l es f i m ps:=
 ⟨by rw[UA (j:=1)]at q;exact q,h.sa.fr o (fun g b e=>h.oa (by rw[<-e];exact b)),Sl.fr h.sp o (fun g b e=>h.op (by rw[<-e];exact b)),h.oa,h.op,h.ap⟩
theorem Gb.piece{w w':World}{pb d q so:Nat}{o:Nat->Int}{cl:Bool}{f:Nat}{b:Value}{es:LI}{r s:Int}{c a:Value}{ps p:LB}(h:Gb w pb d q so o cl f b es r s c ps)(u:Ih w' a p)(i:Fr (F2 c) w w')(m:Dm w c a):Gb (w'.setCell ⟨pb,103,none⟩ a) pb d q so o cl f b es r s a p:=by
 have y:F0 w' pb 184 _:=h.row.fr i h.op;have z:Sl w' 350 2 b es.length (Ds es):=h.sa.fr i (fun g v=>h.ap g v);have n:¬F2 a pb:=fun e=>(m _ e).elim h.op (fun t=>by have:=h.row.lt;omega)
 refine⟨?_,z.setCell _ _ h.oa,Sl.setCell u _ _ n,h.oa,n,fun k l x=>(m _ x).elim (h.ap k l) (fun t=>by have:=h.sa.lt l;omega)⟩;have:=y.set 103 a;rw[UA (j:=5)]at this;exact this
theorem Gb.put{w w':World}{pb i q so:Nat}{p:Nat->Int}{cl:Bool}{l:Nat}{g a:Value}{es c:LI}{r s:Int}{t:Value}{ps:LB}(h:Gb w pb i q so p cl l g es r s t ps)(u:Sl w' 350 2 a c.length (Ds c))(o:Dm w g a)(m:IK w w' pb 100 g a):Gb w' pb i q so p cl l a c r s t ps:=by
 have v:¬F2 a pb:=fun e=>(o _ e).elim h.oa (fun d=>by have:=h.row.lt;omega)
 refine⟨?_,u,Sl.kept h.sp (fun k f e=>m.block k f (fun b=>h.op (by rw[<-b];exact e)) (fun b=>h.ap k b e)),v,h.op,fun k f n=>(o _ f).elim (fun d=>h.ap k d n) (fun d=>by have:=Sl.lt h.sp n;omega)⟩;have:=h.row.set 100 a;rw[UA (j:=2)]at this;exact m.head.trans this
theorem WL{P:Program}{o:Oper}{a:Act}(X:World)(t:TypeId)(i j:Nat)(x y:Operand)(ho:o.op = .build t #[(i,x),(j,y)])(u v:Value)(d:a.eval x=u)(f:a.eval y=v){b:Array Value}(c:P.built t [(i,u),(j,v)]=some b):(execOp a.eval o).run P X = .ok (.value (.agg b)) X:=by
 have e:((#[(i,x),(j,y)]:Array (Nat×Operand)).map fun (i,x)=>(i,a.eval x)) = #[(i,u),(j,v)]:=by simp[d,f]
 unfold execOp;simp only[ho,Cj,e];rw[run_build X t #[(i,u),(j,v)] b c]
 rfl
def Ug(w:World)(pb db sb so:Nat)(nd:Nat->Int)(cl:Bool)(va:Value)(es:LI)(tp tx:Int)(vp:Value)(ps:LB)(r:Nat)(s:By)(p:Nat)(e:Ending)(w':World):Prop:=
 e = .returned (.agg #[.int .i64 (p:Nat),.int .u64 (Dl s:Nat)])/\∃va' es' vp',Gb w' pb db sb so nd cl (p+1) va' es' tp tx vp' (ps++[(p,s)])/\Gz es'/\es'.length=es.length+1/\(∀x,x∈es'↔x=((r:Int),(p:Int))\/x∈es)/\Fr (fun k=>k=pb\/F2 va k\/F2 vp k) w w'/\Dm w va va'/\Dm w vp vp'
section
open Go.RowKit Go.Shelf
attribute [local go_sem] Oper.semAt_some
theorem Zkb{P:Program}{n l:Nat}{Q:Exit->Act->World->Prop}{o:Oper}{a:Act}{w:World}{K:Act->World->Prop}(g:∀c,o.op ≠ .defer c)(h:o.wp P a w K Q):o.wpIn (Fence.wide.inRound l) n P a w K Q:=by
 refine⟨fun f _=>AQ,?_⟩;have e:(o.semAt (Fence.wide.inRound l).round a.eval)=execOp a.eval o:=Oper.semAt_some l a.eval o g;rw[e];unfold Oper.wp at h;generalize (execOp a.eval o).run P w=r at *
 cases r with
 | ok x w'=>
  cases x with
  | enter f args=>exact⟨fun b=>(by cases b),Ec l (Bj.2 h)⟩
  | row row args=>exact⟨fun b=>(by cases b),fun c d _=>let ⟨v,w',r,s⟩:=h c d;⟨v,w',r,stepsIn_wide.2 s⟩⟩
  | _=>first|exact h|exact h.elim
 | halt x w'=>cases x<;>first|exact h|exact h.elim
theorem Xj{P:Program}{n l:Nat}{k:Region.Mode}{d:Array Oper}{Q:Exit->Act->World->Prop}(e:¬LetsOut Q)(g:∀(i:Nat) (o:Oper),d[i]?=some o->∀c,o.op ≠ .defer c):
  ∀(fuel:Nat) (listed:Array Bool) (a:Act) (w:World),wpAny P k d Q fuel listed a w->wpAnyIn (Fence.wide.inRound l) n P k d Q fuel listed a w
 | 0,_,_,_,h=>h
 | fuel+1,listed,a,w,h=>⟨h.1,fun i q=>by
  have b:=wpOp_mono (fun m w' p=>Xj e g (n:=n) (l:=l) fuel _ m w' p) (h.2 i q);unfold wpOp at b;unfold wpOpIn
  cases ho:d[i]? with
  | none=>rw[ho]at b;exact b
  | some o=>
   rw[ho]at b;simp only at b ⊢;by_cases j:Region.wanted o (yielded d a.tmps)=true
   ·rw[if_pos j]at b ⊢;rcases b with b|b
    ·exact Zkb (g i o ho) b
    ·exact absurd b.2 e
   ·rw[if_neg j]at b ⊢;exact⟨fun f _=>AQ,b⟩⟩
def Tj(ops:Array Oper):Bool:=ops.all fun o=>match o.op with | .defer _=>false|_=>true
theorem Zkk{a:Array Oper}(h:Tj a=true):∀(i:Nat) (o:Oper),a[i]?=some o->∀c,o.op ≠ .defer c:=fun i o ho c e=>by
 have:=Array.all_eq_true_iff_forall_mem.1 h o (Array.mem_of_getElem? ho);rw[e]at this;cases this
theorem RW{P:Program}{n l id:Nat}{b:Array Oper}{Q:Exit->Act->World->Prop}{a:Act}{w:World}(S:World->Prop)(e:P.follows .mixedOrders=true)(d:¬LetsOut Q)(f:Tj b=true)(c:S w.drew)
  (h:S w.drew->wpAnyH P .any b Q S b.size (Array.replicate b.size false) a w.drew):(Code.region id b true).wpIn (Fence.wide.inRound l) n P Q a w:=
 wpIn_region_any e (Xj d (Zkk f) _ _ _ _ (wpAny_of_held _ _ _ _ (h c)))
theorem NH(v:Value)(b:Nat)(h1:0<b)(hz:b<1000000)(n:Nat)(w:World)(d:∃a l c,v = .slice a l c):
  CallsIn Fence.wide n Tryz.prog 172 #[v,.int .i64 b] w fun e w'=>e = .returned (.func (.func 220) #[] #[.pointer (some ⟨w.heap.size,0,none⟩),.pointer (some ⟨w.heap.size+1,0,none⟩)])/\w'=(w.alloc (.cells #[v] 59)).alloc (.cells #[.int .i64 b] 3):=by
 obtain⟨a,l,c,rfl⟩:=d;refine Bj.2 ?_;have h2:¬((b:Int)<1):=by omega
 go_enter Tryz.func172,Tryz.ntmps172;go_wp2;go_ret;exact⟨rfl,rfl⟩
def II(g off sz len k:Nat):Value := .slice (some ⟨g,off+k*sz,none⟩) (min sz (len-k*sz)) (min sz (len-k*sz))
theorem RH(n:Nat)(hn:1<=n)(f j g off b c d:Nat)(h1:0<b)(hz:b<1000000)(an:c<=d)(hl:c<1000000)(N:Nat)(t:N=(c+b-1)/b)(w:World)(ac:f<w.heap.size)(ad:j<w.heap.size)
  (I:w.cell? ⟨f,0,none⟩=some (.slice (some ⟨g,off,none⟩) c d)) (K:w.cell? ⟨j,0,none⟩=some (.int .i64 b)) (E:World->World->Prop)
  (O:∀A B,E A B->A.cell? ⟨f,0,none⟩=some (.slice (some ⟨g,off,none⟩) c d)->A.cell? ⟨j,0,none⟩=some (.int .i64 b)->B.cell? ⟨f,0,none⟩=some (.slice (some ⟨g,off,none⟩) c d)/\B.cell? ⟨j,0,none⟩=some (.int .i64 b)):
  SeqStopsK Fence.wide n Tryz.prog 220 #[.pointer (some ⟨f,0,none⟩),.pointer (some ⟨j,0,none⟩)] (fun k:Nat => #[II g off b c k]) E (fun ys=>ys=List.range N) (fun ak=>ak <+: List.range N) N w:=fun l J Jx W u L _ R h0=>by
 have c1:=(u.cell (p:=⟨f,0,none⟩) ac).trans I;have c2:=(u.cell (p:=⟨j,0,none⟩) ad).trans K;have HY:=Db R;have Q:∀k,k<N->k*b<c:=fun k U=>by
  have h2:(k+1)*b<=N*b:=Nat.mul_le_mul_right _ U;have H:N*b<=c+b-1:=by rw[t];exact Nat.div_mul_le_self _ _
  rw[EW]at h2;omega
 have P:c<=N*b:=by
  have H:=Nat.lt_div_mul_add (a:=c+b-1) h1;rw[<-t]at H;omega
 have aa:=Db Q;have ab:=Db P;have Z:=Db O;have Y:=Db L;clear R u Q P I K t O L;refine CD Tryz.func220 rfl AQ ?_ rfl;simp only[Tryz.ntmps220,AR,Aq,AS,Nat.reduceAdd,Nat.reduceSub,AV,AU,A3,AY,AA,AI]
 gi_wp2
 gi_loopw [4] (fun i wr=>∃k:Nat,k<=N/\i = .int .i64 ((k*b:Nat):Int)/\wr.cell? ⟨f,0,none⟩=some (.slice (some ⟨g,off,none⟩) c d)/\wr.cell? ⟨j,0,none⟩=some (.int .i64 b)/\Hid (J (List.range k) wr))
  (fun i _=>c-(intOf i).toNat)
 case atStart=>exact⟨0,Aw _,by rw[Fj];rfl,c1,c2,h0⟩
 case round=>
  obtain⟨k,U,rfl,F,G,z⟩:=hrel;by_cases x:k<N
  ·have aj:=Da aa k x;obtain⟨q,y⟩:=ex (k*b);rw[<-y]at aj ⊢;obtain⟨m,V⟩:=ex (min b (c-q));have ao:0<m:=by omega
   have aq:m<=c-q:=by omega
   have ar:m<=b:=by omega
   have D:Hid (List.range (k+1)=List.range k++[k]):=Cu;have C:=Db y;have o:=Db V;have aw:(q:Int)<(c:Int):=by omega
   have av:¬d=q:=by omega
   have ax:q<=c:=by omega
   clear y V;have M:J (List.range k) wr.drew:=Da Y _ _ _ none (Da z) ⟨rfl,rfl,rfl,Aa _,fun _ _ _=>rfl⟩ (fun r e=>by cases e);have T:II g off b c k = .slice (some ⟨g,off+q,none⟩) m m:=by unfold II;rw[<-Da C,<-Da o]
   obtain⟨fn,tmps,assign,body,hy,hR⟩:=Da HY (List.range k) k wr.drew M (by rw[A2];exact x);rw[T]at hy;have ap:(if (b:Int)<=(c:Int)-(q:Int) then (b:Int) else (c:Int)-(q:Int))=(m:Int):=by
    have:=Da o
    split<;>omega
   clear M T
   gi_wp2
   refine BG.2 ?_;refine AD (S:=fun X=>X.cell? ⟨f,0,none⟩=some (.slice (some ⟨g,off,none⟩) c d)/\X.cell? ⟨j,0,none⟩=some (.int .i64 b)) (by kernel_rfl) ⟨F,G⟩ (fun ae=>?_);refine tk 0 ?_;try simp only[pE];refine tk 1 ?_;try simp only[pE];refine tk 2 ?_;try simp only[pE];refine tk 3 ?_;try simp only[pE];refine tk 4 ?_;try simp only[pE];refine A6 (i:=5) (v := .int .i64 (m:Nat)) rfl (by kernel_rfl) (by kernel_rfl) (by kernel_rfl) (fun _ _ _ h=>h) (Or.inl ⟨by rfl,?_⟩) (by assumption) ?_
   ·intro w ah;(try dsimp only at ah);go_simp;have s:=Da o;omega
   (try simp only[pE])
   refine tk 6 ?_;try simp only[pE];refine AW (by kernel_rfl) ?_ _;clear ae;have ay:q+m<=d:=by omega
   have az:q+m-q=m:=by omega
   have au:¬q+m=q:=by omega
   have aA:((q:Int)+(m:Int))<=(d:Int):=by omega
   gi_wp2
   refine hR.mono ?_;rintro e W3 (⟨rfl,af,ai⟩|⟨rfl,ag⟩)
   ·obtain⟨k1,k2⟩:=Da Z _ _ ai F G
    gi_wp2
    go_roundw
    case rel=>exact⟨k+1,by omega,by rw[EW,Nat.one_mul,<-Da C]<;>go_num,k1,k2,by show J _ _;rw[Da D];exact af⟩
    case measure=>simp[intOf];omega
   ·gi_wp2
    refine Ax (Ei rfl _ _ _) rfl ?_;exact⟨⟨_,rfl⟩,.inr ⟨_,by rw[<-Da D];(have s:=Fs (k+1) (List.range N);rw[List.take_range,BB x]at s;exact s),ag⟩⟩
  ·obtain rfl:k=N:=by omega
   have al:=Da ab;have am:¬(((k*b:Nat):Int)<(c:Int)):=by omega
   gi_wp2
   go_end0
   exact⟨⟨_,rfl⟩,.inl (Da z)⟩
end
section
open Go.RowKit Go.Shelf
attribute [local go_sem] Oper.semAt_some
def IJ(s:By)(sz x:Nat):By:=s.extract (x*sz) (x*sz+sz)
def Dw(kk:UInt8)(s:By)(sz x:Nat):By:=⟨#[kk]⟩++Dg (IJ s sz x) 63
theorem QJ(kk:UInt8)(s:By)(a x:Nat):(Dw kk s a x).size=64:=by unfold Dw;rw[Ai,Jc];rfl
theorem NG(s:By)(a x:Nat):(IJ s a x).size=min a (s.size-x*a):=by unfold IJ;rw[Af];omega
theorem Gy.chunk{w:World}{g off c f:Nat}{s:By}(h:Gy w (some ⟨g,off,none⟩) c f s)(b x:Nat):Gy w (some ⟨g,off+x*b,none⟩) (min b (c-x*b)) (min b (c-x*b)) (IJ s b x):=by
 refine⟨by rw[NG,h.1],fun e=>(by cases e),fun j v a=>⟨_,rfl,?_⟩⟩;unfold IJ at a;rw[Jt,Ao]at a
 split at a
 ·rw[Bc]at a;obtain⟨y,e,d⟩:=h.2.2 _ _ a
  cases e
  rw[AL]at d ⊢;rw[EM];exact d
 ·cases a
def Dd(kk below t:Nat):Nat:=kk*4294967296+below*65536+t
structure LU(M n0 pb:Nat)(kk:UInt8)(below:Nat)(s:By)(sz:Nat)(P X:List Nat->Nat->Nat)(St:List Nat->(Nat->Prop)->World->Prop):Prop where
 abides:∀pre O W W' row,St pre O W->W.grownBy W' row->(∀r,row=some r->∃o:Obj,W.heap[r]?=some o/\o.isCells=false)->St pre O W'
 keeps:∀pre O W W' (Z:Nat->Prop),St pre O W->Fr Z W W'->(∀j,Z j->¬O j/\n0<=j)->St pre O W'
 lt:∀pre O W,St pre O W->∀j,O j->j<W.heap.size
 put:∀pre x O W,pre.length<M->St pre O W->Cl 272 #[.pointer (some ⟨pb,0,none⟩),.int .u64 (Dd kk.toNat below pre.length:Nat),DB (Dw kk s sz x)] W fun e W'=>e = .returned (.agg #[.int .i64 (P pre x:Nat),.int .u64 (X pre x:Nat)])/\∃O',St (pre++[x]) O' W'/\Fr O W W'/\∀j,O' j->O j\/W.heap.size<=j
 cells:∀pre O W,St pre O W->∀j,O j->∃cs t,W.heap[j]?=some (.cells cs t (0,0))
 plt:∀pre x,P pre x<65536
 xlt:∀pre x,X pre x<18446744073709551616
structure Hf(w:World)(n1 B4 B5 B6 B10 B11 pb:Nat)(kk:UInt8)(below:Nat)(g off len cap:Nat)(s:By)(St:List Nat->(Nat->Prop)->World->Prop)(Yo:Nat->Prop)(RB:List Nat->By)(pre pre':List Nat)(v:Value)(O:Nat->Prop)(W:World):Prop where
 st:St pre' O W
 hO:∀j,O j->Yo j\/n1<=j
 b4:Boxed W B4 168 (.pointer (some ⟨pb,0,none⟩))
 b5:Boxed W B5 300 (.int .u8 (kk.toNat:Int))
 b6:Boxed W B6 3 (.int .i64 (below:Nat))
 b10:Boxed W B10 59 v
 b11:Boxed W B11 3 (.int .i64 (pre.length:Nat))
 rs:Gp n1 W v (RB pre)
 dis:∀j,O j->¬F2 v j
 rd:Gy W (some ⟨g,off,none⟩) len cap s
 fr:Fr Yo w W
 sz:n1<=W.heap.size
structure IA(w:World)(n1 B4 B5 B6 B10 B11 g len:Nat)(Yo:Nat->Prop):Prop where
 e4:B4=w.heap.size
 e5:B5=w.heap.size+1
 e6:B6=w.heap.size+2
 e10:B10=w.heap.size+3
 e11:B11=w.heap.size+4
 en:w.heap.size+5<=n1
 yo:∀j,Yo j->j<w.heap.size
 gy:¬Yo g
 gl:g<w.heap.size
theorem IA.nO{w:World}{a i k l d f g n:Nat}{b O:Nat->Prop}(h:IA w a i k l d f g n b)(m:∀j,O j->b j\/a<=j)(B:Nat)(h1:w.heap.size<=B)(h2:B<a):¬O B:=fun e=>by
 rcases m B e with c|c
 ·have:=h.yo B c;omega
 ·omega
theorem Hf.below{w:World}{M z t i j l d f pb:Nat}{kk:UInt8}{c:Nat}{g off q p:Nat}{s:By}{A:Nat}{P X:List Nat->Nat->Nat}{b:List Nat->(Nat->Prop)->World->Prop}{o:Nat->Prop}{m:List Nat->By}{u x:List Nat}{v:Value}{O:Nat->Prop}{W n:World}(L:LU M z pb kk c s A P X b)(h:Hf w t i j l d f pb kk c g off q p s b o m u x v O W)(a:Bw W n):Hf w t i j l d f pb kk c g off q p s b o m u x v O n:=
 ⟨L.abides _ _ _ _ none h.st ⟨a.os,a.tape,a.output,a.size,fun k y _=>a.block k y⟩ (fun r e=>by cases e),h.hO,(a.block _ h.b4.lt).trans h.b4,(a.block _ h.b5.lt).trans h.b5,(a.block _ h.b6.lt).trans h.b6,(a.block _ h.b10.lt).trans h.b10,(a.block _ h.b11.lt).trans h.b11,h.rs.below a,h.dis,h.rd.below a,h.fr.then (Fr.of_below a (X:=fun _=>False)) (fun _ _ e=>e.elim),Ag h.sz a.size⟩
theorem Hf.put{w:World}{M J z n o p l m pb:Nat}{kk:UInt8}{t:Nat}{g off y C:Nat}{s:By}{L:Nat}{P X:List Nat->Nat->Nat}{i:List Nat->(Nat->Prop)->World->Prop}{r:Nat->Prop}{A:List Nat->By}{H K:List Nat}{v:Value}{O:Nat->Prop}{W q:World}(b:IA w z n o p l m g y r)(_L:LU M J pb kk t s L P X i)(h:Hf w z n o p l m pb kk t g off y C s i r A H K v O W){G:List Nat}{O':Nat->Prop}(I:i G O' q)(c:Fr O W q)(D:∀j,O' j->O j\/W.heap.size<=j):Hf w z n o p l m pb kk t g off y C s i r A H G v O' q:=by
 have e4:=b.e4;have e5:=b.e5;have e6:=b.e6;have aa:=b.e10;have ab:=b.e11;have en:=b.en;have ac:=h.sz;have f:=fun B=>b.nO h.hO B
 refine⟨I,fun j u=>(D j u).elim (h.hO j) (fun a => .inr (by omega)),(c.block _ h.b4.lt (f _ (by omega) (by omega))).trans h.b4,(c.block _ h.b5.lt (f _ (by omega) (by omega))).trans h.b5,(c.block _ h.b6.lt (f _ (by omega) (by omega))).trans h.b6,(c.block _ h.b10.lt (f _ (by omega) (by omega))).trans h.b10,(c.block _ h.b11.lt (f _ (by omega) (by omega))).trans h.b11,⟨h.rs.1.fr c (fun k E d=>h.dis k d E),h.rs.2⟩,fun j u F=>(D j u).elim (fun a=>h.dis j a F) (fun a=>by have:=F2.lt h.rs F;omega),h.rd.fr c (fun x e hp d=>?_),h.fr.then c (fun k E d=>?_),Ag h.sz c.size⟩
 ·cases e
  rcases h.hO _ d with a|a
  ·exact b.gy a
  ·have:=b.gl;simp only at a;omega
 ·rcases h.hO k d with a|a
  ·exact a
  ·omega
theorem Hf.done{w:World}{M J i q r t b c pb:Nat}{kk:UInt8}{E:Nat}{g off G H:Nat}{s:By}{Z:Nat}{P X:List Nat->Nat->Nat}{C:List Nat->(Nat->Prop)->World->Prop}{D:Nat->Prop}{A:List Nat->By}{z:List Nat}{v:Value}{O:Nat->Prop}{W f:World}(d:IA w i q r t b c g G D)(ac:J<=w.heap.size)(L:LU M J pb kk E s Z P X C){p:List Nat}(h:Hf w i q r t b c pb kk E g off G H s C D A z p v O W)(N:p.length=z.length+1){n:Value}(F:Gp i f n (A p))(l:Fr (F2 v) W f)(Q:Dm W v n):Hf w i q r t b c pb kk E g off G H s C D A p p n O ((f.setCell ⟨b,0,none⟩ n).setCell ⟨c,0,none⟩ (.int .i64 ((z.length:Int)+1))):=by
 have e4:=d.e4;have e5:=d.e5;have e6:=d.e6;have aa:=d.e10;have ab:=d.e11;have en:=d.en;have ad:=h.sz;have m:∀B,B<i->¬F2 v B:=fun B d e=>by have:=h.rs.2 B e;omega
 have K:∀B,B<i->¬F2 n B:=fun B d e=>by have:=F.2 B e;omega
 have U:Boxed f q 168 _:=(l.block _ h.b4.lt (m _ (by omega))).trans h.b4;have V:Boxed f r 300 _:=(l.block _ h.b5.lt (m _ (by omega))).trans h.b5;have Y:Boxed f t 3 _:=(l.block _ h.b6.lt (m _ (by omega))).trans h.b6;have S:Boxed f b 59 _:=(l.block _ h.b10.lt (m _ (by omega))).trans h.b10;have T:Boxed f c 3 _:=(l.block _ h.b11.lt (m _ (by omega))).trans h.b11;have u:Fr (fun j=>F2 v j\/j=b\/j=c) W ((f.setCell ⟨b,0,none⟩ n).setCell ⟨c,0,none⟩ (.int .i64 ((z.length:Int)+1))):=
  (Fr.set (X:=fun j=>F2 v j\/j=b\/j=c) (Fr.then (Fr.refl _ W) l (fun _ _ e => .inl e)) ⟨b,0,none⟩ _ (.inr (.inl rfl))).set ⟨c,0,none⟩ _ (.inr (.inr rfl))
 have I:b≠c:=by omega
 refine⟨L.keeps _ _ _ _ _ h.st u (fun j y=>?_),h.hO,(U.other (by omega) _).other (by omega) _,(V.other (by omega) _).other (by omega) _,(Y.other (by omega) _).other (by omega) _,(S.set _).other I _,?_,⟨(F.1.setCell ⟨b,0,none⟩ _ (K b (by omega))).setCell ⟨c,0,none⟩ _ (K c (by omega)),F.2⟩,fun j y R=>?_,h.rd.fr u (fun x e hp o=>?_),h.fr.then u (fun k hk o=>?_),Ag h.sz u.size⟩
 ·rcases y with a|a|a
  ·exact⟨fun o=>h.dis j o a,by have:=h.rs.2 j a;omega⟩
  ·subst a;exact⟨d.nO h.hO _ (by omega) (by omega),by omega⟩
  ·subst a;exact⟨d.nO h.hO _ (by omega) (by omega),by omega⟩
 ·rw[N];exact(T.other (fun e=>I e.symm) _).set _
 ·rcases Q j R with a|a
  ·exact h.dis j y a
  ·have:=L.lt _ _ _ h.st j y;omega
 ·cases e
  have:=d.gl;rcases o with a|a|a
  ·exact m _ (by show g<i;omega) a
  ·simp only at a;omega
  ·simp only at a;omega
 ·rcases o with a|a|a
  ·have:=h.rs.2 k a;omega
  ·omega
  ·omega
theorem Hf.own{w:World}{M n0 l p u y m n pb:Nat}{kk:UInt8}{D:Nat}{g off G I:Nat}{s:By}{sz:Nat}{P X:List Nat->Nat->Nat}{A:List Nat->(Nat->Prop)->World->Prop}{C:Nat->Prop}{H:List Nat->By}{N Q:List Nat}{v:Value}{O:Nat->Prop}{W B:World}(L:LU M n0 pb kk D s sz P X A)(K:IA w l p u y m n g G C)(h:Hf w l p u y m n pb kk D g off G I s A C H N Q v O W){row:Option Nat}(a:W.grownBy B row)(i:∀r,row=some r->l<=r/\∃o:Obj,W.heap[r]?=some o/\o.isCells=false):Hf w l p u y m n pb kk D g off G I s A C H N Q v O B:=by
 have ne:∀(j:Nat) (b:Array Value) (t:TypeId) (z:Nat×Nat),W.heap[j]?=some (Obj.cells b t z)->some j≠row:=fun j b t z d e=>by
  obtain⟨o,J,V⟩:=(i j e.symm).2;rw[d]at J;cases J;cases V
 have c:∀(j:Nat) (b:Array Value) (t:TypeId) (z:Nat×Nat),W.heap[j]?=some (Obj.cells b t z)->B.heap[j]?=some (Obj.cells b t z):=fun j b t z d=>(a.block j (Ak.1 d).1 (ne j b t z d)).trans d
 have ab:=K.gl;have aa:=K.en;refine⟨L.abides _ _ _ _ row h.st a (fun r e=>(i r e).2),h.hO,c _ _ _ _ h.b4,c _ _ _ _ h.b5,c _ _ _ _ h.b6,c _ _ _ _ h.b10,c _ _ _ _ h.b11,⟨?_,h.rs.2⟩,h.dis,?_,?_,Ag h.sz a.size⟩
 ·rcases h.rs.1.2 with⟨e,U⟩|⟨T,S,R,e,Z,q⟩
  ·exact⟨h.rs.1.1,.inl ⟨e,U⟩⟩
  ·exact⟨h.rs.1.1,.inr ⟨T,S,R,e,c _ _ _ _ Z,q⟩⟩
 ·exact h.rd.fr (P:=fun j=>row=some j) ⟨a.os,a.tape,a.output,a.size,fun k f E=>a.block k f (fun e=>E e.symm)⟩ (fun x e _ F=>by cases e;have:=(i _ F).1;simp only at this;omega)
 ·exact h.fr.then (Y:=fun j=>row=some j) ⟨a.os,a.tape,a.output,a.size,fun k f E=>a.block k f (fun e=>E e.symm)⟩ (fun k f F=>by have:=(i _ F).1;omega)
def Lg(w:World)(n1 B4 B5 B6 B10 B11 pb:Nat)(kk:UInt8)(below:Nat)(g off len cap:Nat)(s:By)(St:List Nat->(Nat->Prop)->World->Prop)(Yo:Nat->Prop)(RB:List Nat->By)(pre:List Nat)(W:World):Prop:=∃v O,Hf w n1 B4 B5 B6 B10 B11 pb kk below g off len cap s St Yo RB pre pre v O W
def SO(w:World)(n1:Nat)(St:List Nat->(Nat->Prop)->World->Prop)(Yo:Nat->Prop)(RB:List Nat->By)(N:Nat)(e:Ending)(w':World):Prop:=
 ∃a' l' c' O,e = .returned (.slice a' l' c')/\Gp n1 w' (.slice a' l' c') (RB (List.range N))/\St (List.range N) O w'/\(∀j,O j->Yo j\/n1<=j)/\(∀j,O j->¬F2 (.slice a' l' c') j)/\Fr Yo w w'
end
end Go.Proofs.YtaieidcohdhgpaaGreatDoor
