/- Spoilt. -/
import Derived.Test.YtaieidcohdhgpaaGreatDoorXBG
namespace Go.Proofs.YtaieidcohdhgpaaGreatDoor
set_option maxHeartbeats 40000000
set_option maxRecDepth 100000
open Go.RowKit
theorem OD:Hu na ng=true:=by kernel_rfl
section
variable{w:World}{tb rd nb:Nat}{V:NV}{E:NS}{vi:Value}{I:LF}{C:IB}
theorem XI(d:TW w tb rd V E vi (G3 nb) I C):E rd=[(na,⟨some ⟨nb,0,none⟩,0⟩),(ng,⟨none,0⟩)]:=by
 have g:F4 (G3 nb) rd [] rd := .inl ⟨rfl,rfl⟩;refine(d.d.srt [] rd g).ext (fun j k x y ab f c=>?_) (fun x=>?_)
 ·have h:=(Ae.1 c).1;have aa:k<2:=h;obtain rfl:j=0:=by omega
  obtain rfl:k=1:=by omega
  simp at f c;rw[<-f,<-c];exact OD
 ·refine(d.d.en [] rd g x.1 x.2).trans ?_;rw[AA];constructor
  ·intro a;rcases AE.1 a with e|a
   ·rw[AT]at e;have b:=e.1;injection b with b;exact AE.2 (.inl (FP b e.2))
   rcases AE.1 a with e|a
   ·rw[AT]at e;have:=Ca List.length e.1;simp at this
   ·have e:=Ab.1 a;rw[AT]at e;have b:=e.1;injection b with b;exact AE.2 (.inr (Ab.2 (FP b e.2)))
  ·intro a;rcases AE.1 a with rfl|a
   ·exact A5
   ·rw[Ab.1 a];exact AF _ (AF _ A5)
theorem XJ(c:TW w tb rd V E vi (G3 nb) I C):E nb=[(nf,⟨none,0⟩)]:=by
 have d:F4 (G3 nb) rd [na] nb := .inr A5;refine(c.d.srt [na] nb d).ext (fun j k x y ab hj h=>?_) (fun x=>?_)
 ·have g:=(Ae.1 h).1;have aa:k<1:=g;omega
 ·refine(c.d.en [na] nb d x.1 x.2).trans ?_;constructor
  ·intro a;rcases AE.1 a with e|a
   ·rw[AT]at e;have:=Ca List.length e.1;simp at this
   rcases AE.1 a with e|a
   ·rw[AT]at e;have f:[na]++[x.1]=[na]++[nf]:=e.1;have b:=Ey f;injection b with b;exact Ab.2 (FP b e.2)
   ·have e:=Ab.1 a;rw[AT]at e;have:=Ca List.length e.1;simp at this
  ·intro a;rw[Ab.1 a];exact AF _ A5
def L3:List It:=[⟨[na],1,0⟩,⟨[na,nf],2,0⟩,⟨[ng],3,0⟩]
theorem Ni(a:TW w tb rd V E vi (G3 nb) I C):DD (Ja (G3 nb) rd E)=L3:=by
 have b:Ja (G3 nb) rd E []=[(na,none),(ng,some 0)]:=by
  unfold Ja;rw[if_pos rfl,XI a];rfl
 have c:Ja (G3 nb) rd E [na]=[(nf,some 0)]:=by
  unfold Ja;rw[if_neg (by simp),show Gr (G3 nb) [na]=some ⟨some ⟨nb,0,none⟩,0⟩ by kernel_rfl];show(E nb).map Jl=_;rw[XJ a];rfl
 unfold DD;simp[DY,GF,Hc,b,c,Ga.add,L3]
theorem XA(b:TW w tb rd V E vi (G3 nb) I C)(ho:One I 6 2)(m:C 0=s6):Lp w tb rd V E vi (G3 nb) I C (Ja (G3 nb) rd E) (IU I) (fun n=>C (n:Int)):=by
 have aa:=ho.1;have o:=ho;obtain⟨_,r,af,ae,q⟩:=o;have f:((0:Int),r)∈I:=(q _).2 rfl;refine⟨b.wk (Ly nb) (by show 3<=_;omega) (by omega) (fun x a p=>⟨0,r,?_,by omega,f⟩),?_,fun y e c=>?_⟩
 ·rcases AE.1 a with rfl|a
  ·cases p
  rcases AE.1 a with rfl|a
  ·rfl
  ·rw[Ab.1 a];rfl
 ·rw[Ni b];have d:∀x∈L3,x=⟨[na],1,0⟩\/x=⟨[na,nf],2,0⟩\/x=⟨[ng],3,0⟩:=fun x a=>by
   unfold L3 at a
   simpa using a
  refine⟨by show 3<=_;omega,fun x a=>?_,fun x a=>?_,fun x a=>?_,fun x a c=>?_,fun i j x y ac g h k l=>?_⟩
  ·rcases d x a with rfl|rfl|rfl
   ·exact .inl rfl
   ·exact .inr (.inl rfl)
   ·exact .inr (.inr rfl)
  ·rcases d x a with rfl|rfl|rfl
   ·show 2<=100;omega
   ·show 4<=100;omega
   ·show 2<=100;omega
  ·rcases d x a with rfl|rfl|rfl<;>(show 0<60;omega)
  ·rcases d x a with rfl|rfl|rfl
   ·cases c
   ·show(C ((0:Nat):Int)).size<=1280;rw[show C ((0:Nat):Int)=s6 from m];show 6<=1280;omega
   ·cases c
  ·have hl:L3.length=3:=rfl;have a1:=(Ae.1 g).1;have a2:=(Ae.1 h).1;have ab:i=1:=by
    have:i=0\/i=1\/i=2:=by omega
    rcases this with rfl|rfl|rfl
    ·cases g;cases k
    ·rfl
    ·cases g;cases k
   have ad:j=1:=by
    have:j=0\/j=1\/j=2:=by omega
    rcases this with rfl|rfl|rfl
    ·cases h;cases l
    ·rfl
    ·cases h;cases l
   omega
 ·rw[Ni b]at e;unfold L3 at e;simp only[AE,BD,or_false]at e;rcases e with rfl|rfl|rfl
  ·cases c
  ·exact⟨r.a,r.l,r.c,U6 b.si f,b.dat _ f⟩
  ·cases c
end
theorem MK{i:Nat}{j w:World}{c tb a b nb:Nat}{I:LF}{C:IB}(h:H0 i j w c tb a b (G3 nb) I C)(ho:One I 6 2)(u:C 0=s6):
  Cl 26 #[.pointer (some ⟨c,0,none⟩)] w fun e w'=>e = .returned (.int .i64 0)/\Hs w' c tb a b/\PS w' tb (G3 nb) I C/\Below i j w'/\Ib w w':=by
 refine LK w c tb a b h.vol (fun w'=>Hs w' c tb a b/\PS w' tb (G3 nb) I C/\Below i j w'/\Ib w w') (fun w' q=>q.1) ?_;have d:H0 i j w.drew c tb a b (G3 nb) I C:=h.below (Al _ _).drew;obtain⟨rd,V,E,vi,n⟩:=d.ps;obtain⟨s,vk,vf,y,vw,x,ps,ep,o,rfl,m,hC,h1,h2,h3,l,h5⟩:=d.st;obtain⟨l1,l2,v,l4⟩:=d.lo;refine(RV o m.ok m.part (XA n ho u) (by omega) (by omega) (by omega)).mono ?_;rintro e w' ⟨rfl,s',vk',ad,ac,ab,aa,g1,g2,g3,g4,g5,g6,g7,g,_⟩;have p:∀k t R,Ha b a y vw x k->F0 w.drew k t R->t=179\/t=204\/t=188\/t=207\/t=3:=fun k t R e f=>o.types e f
 have r:TW w' tb rd V E vi (G3 nb) I C:=n.fr g (fun e=>by have:=(l 0 e).1;omega) (fun k t R e f=>by
  rcases p k t R e f with rfl|rfl|rfl|rfl|rfl<;>decide)
 exact⟨rfl,F0.fr d.vol g (fun e=>(l _ e).2 rfl),⟨rd,V,E,vi,r⟩,UC d.bel g (fun k e=>(l k e).1) v,(Ib.below (Al _ _).drew).trans (Ib.fr g (fun k t R e f=>by
  rcases p k t R e f with rfl|rfl|rfl|rfl|rfl<;>decide))⟩
def Id(n0:Nat)(w:World)(vb stb db:Nat):Prop:=∃vk vf vn,GZ w stb db vk IG vf vn (.slice none 0 0) (.slice none 0 0) [] []/\Hp w vf Jn/\(∀k,F2 vf k->¬Ha stb db vn (.slice none 0 0) (.slice none 0 0) k/\n0<=k)/\(∀k,Ha stb db vn (.slice none 0 0) (.slice none 0 0) k->n0<=k/\k≠vb)/\∀k,F2 vk k->n0<=k
theorem Id.below{d:Nat}{w w':World}{f e a:Nat}(h:Id d w f e a)(c:Bw w w'):Id d w' f e a:=by
 obtain⟨m,l,n,g,b,i⟩:=h;exact⟨m,l,n,g.below c,⟨b.1.kept (fun k j _=>c.block k j),b.2⟩,i⟩
theorem Vl{w w':World}{e:Ending}(v:0<w.heap.size)(h:Rw w e w'):∃f tb b d,e = .returned (.pointer (some ⟨f,0,none⟩))/\H0 w.heap.size w w' f tb b d [] [] (fun _=>⟨#[]⟩)/\Id w.heap.size w' f d b:=by
 obtain⟨tb,w1,h1,o,h3,x,f,b,d,n,i,g,rfl,z,D,E,F,G,q6,q7,q8,H,A,B,s,C⟩:=h;have y:=o.size;have c:∀k,¬F2 (.slice none 0 0) k:=fun k e=>by simp[F2,Value.ownBlock]at e
 have q:GZ w' d b g IG n i (.slice none 0 0) (.slice none 0 0) [] []:=⟨D,F,fun k a e=>by
  obtain⟨_,j,l,t,_⟩:=s k a;rcases e with e|e|e|e|e
  ·exact j e
  ·exact l e
  ·exact t e
  ·exact c k e
  ·exact c k e⟩
 have p:∀k,Ha d b i (.slice none 0 0) (.slice none 0 0) k->w.heap.size<=k/\k≠f:=fun k a=>by
  rcases a with e|e|e|e|e
  ·exact⟨by omega,fun m=>A (m.symm.trans e)⟩
  ·exact⟨by omega,fun m=>H (m.symm.trans e)⟩
  ·have:=C k e;exact⟨by omega,this.2⟩
  ·exact absurd e (c k)
  ·exact absurd e (c k)
 have r:∀k,F2 g k->w.heap.size<=k:=fun k a=>by have:=(s k a).1;omega
 refine⟨f,tb,b,d,rfl,⟨z,x,⟨IG,g,n,i,_,_,[],[],q,rfl,XY,ks0_ck,Aa _,Aw _,Aw _,p,r⟩,o.trans (G.mono y),by omega,by omega,Aa _,v⟩,g,n,i,q,E,fun k a=>?_,p,r⟩;obtain⟨a1,j,l,_,u,_⟩:=B k a;refine⟨fun e=>?_,by omega⟩;rcases e with e|e|e|e|e
 ·exact j e
 ·exact l e
 ·exact u e
 ·exact c k e
 ·exact c k e
theorem Z2:GB (fun _=>none) IG:=
 ⟨fun _=>⟨#[]⟩,[],fun i j x y _ a=>(by cases a),fun x a=>(by cases a),⟨fun x a=>(by cases a),fun x a=>(by cases a),CC,CC,Aw _,fun x a=>(by cases a),fun x a=>(by cases a)⟩,Zkp _,fun x a=>(by cases a),fun i b t e=>(by cases e),fun i b e u c=>(by cases c)⟩
theorem H0.lg{b:Nat}{f w:World}{d tb a c:Nat}(h:H0 b f w d tb a c [] [] (fun _=>⟨#[]⟩)):GK 0 b f w d tb a c (fun _=>none) (GB (fun _=>none)):=
 ⟨h.vol,⟨[],[],_,h.ps,Gc.empty⟩,h.st.mono (fun s e=>by subst e;exact Z2),h.bel,h.lo⟩
def Rx(w:World)(e:Ending)(w':World):Prop:=∃vb tb db stb,e = .returned (.pointer (some ⟨vb,0,none⟩))/\GK 0 w.heap.size w w' vb tb db stb (fun _=>none) (GB (fun _=>none))/\Id w.heap.size w' vb stb db
theorem ZiW(w:World)(K:Gs w):Cl 23 #[] w (Rx w):=by
 have h0:0<w.heap.size:=by
  obtain⟨⟨m,hm⟩,_⟩:=K;exact Aj _ _ hm
 have Z:Hid (Cl 71 #[] w fun e X=>∃k:Nat,e = .returned (.pointer (some ⟨k,0,none⟩))/\Hid (Cl 71 #[] X fun e Y=>∃d:Nat,e = .returned (.pointer (some ⟨d,0,none⟩))/\
   Hid (Cl 58 #[.pointer (some ⟨d,0,none⟩),.string qa] Y fun e b=>e = .returned (.int .i64 0)/\∃f,(convert 59 59 (.slice (some ⟨b.heap.size,0,none⟩) 3 3)).run Tryz.prog (b.alloc (.cells #[.int .u8 120,.int .u8 121,.int .u8 122] 5)) = .ok (.slice (some ⟨b.heap.size,0,none⟩) 3 3) f/\
   Hid (Cl 59 #[.pointer (some ⟨d,0,none⟩),.string Hw,.int .i64 3,.slice (some ⟨b.heap.size,0,none⟩) 3 3] f fun e y=>e = .returned (.int .i64 0)/\
   Hid (Cl 55 #[.pointer (some ⟨d,0,none⟩),.string Hw,.int .i64 0,.int .i64 9] y fun e q=>∃x:Nat,e = .returned (.tuple #[.slice (some ⟨x,0,none⟩) 6 6,.int .i64 0])/\
   Hid (Cl 61 #[.pointer (some ⟨d,0,none⟩),.string Hw,.string qg] q fun e z=>e = .returned (.int .i64 0)/\
   Hid (Cl 63 #[.pointer (some ⟨d,0,none⟩),.string qa] z fun e A=>e = .returned (.int .i64 7)/\
   Hid (Cl 57 #[.pointer (some ⟨d,0,none⟩),.string qg] A fun e h=>e = .returned (.tuple #[.agg #[.string ng,.bool false,.int .i64 6,.int .i64 2],.int .i64 0])/\∃l,h.alloc (.cells #[.string ng,.bool false,.int .i64 6,.int .i64 2] 112)=l/\
   Hid (Cl 26 #[.pointer (some ⟨d,0,none⟩)] l fun e a=>e = .returned (.int .i64 0)/\a.cell? ⟨h.heap.size,2,none⟩=some (.int .i64 6)/\a.cell? ⟨h.heap.size,3,none⟩=some (.int .i64 2)/\(∀W,Bw a W->(convert 59 9 (.slice (some ⟨x,0,none⟩) 6 6)).run Tryz.prog W = .ok (.string ⟨#[0,0,0,120,121,122]⟩) W)/\
   Hid (∀W,Bw a W->Cl 34 #[.pointer (some ⟨d,0,none⟩)] W fun e c=>e = .returned (.int .i64 1)/\Bw W c/\Hid (Rx w (.returned (.pointer (some ⟨k,0,none⟩))) c))))))))))):=by
  refine(WO w K).mono ?_;intro e X hX;obtain⟨k,tb,db,aq,rfl,o,al⟩:=Vl h0 hX;refine⟨k,rfl,?_⟩;have au:=o.bel.size;have an:Gs X:=by
   obtain⟨rd,V,E,vi,G⟩:=o.ps;exact G.pk
  refine(WO X an).mono ?_;intro e Y hY;obtain⟨d,tx,dx,sx,rfl,hx,_⟩:=Vl (by omega) hY;refine⟨d,rfl,?_⟩;refine(XG hx).mono ?_;rintro e b ⟨rfl,nb,D⟩;obtain⟨f,B⟩:=ex (b.alloc (.cells #[.int .u8 120,.int .u8 121,.int .u8 122] 5 (3,4)));have b2:Bw b f:=by rw[B];exact(Al _ _).alloc (Aa _) _
  refine⟨rfl,f,by rw[B];exact FL b 59 5 _ 3 3 Tryz.underlying59 Tryz.underlying5,?_⟩;have hh:f.heap[b.heap.size]?=some (.cells #[.int .u8 120,.int .u8 121,.int .u8 122] 5 (3,4)):=by
   rw[B];show(b.heap.push _)[b.heap.size]? = _;exact Array.getElem?_push_size
  have ak:∀j,f.cell? ⟨b.heap.size,j,none⟩=(Dc d3)[j]? := fun j=>by
   unfold World.cell?;rw[hh,show Dc d3=(#[Value.int .u8 120,.int .u8 121,.int .u8 122]:Array Value).toList from rfl,Cm]
   rfl
  have ao:Gy f (some ⟨b.heap.size,0,none⟩) 3 3 d3:=⟨rfl,(fun e=>by cases e),fun j v o=>⟨_,rfl,by
   rw[AL,Av,ak];exact o⟩⟩
  refine(Xx (D.below b2) _ 3 ao).mono ?_;rintro e y ⟨rfl,I2,C2,r,ho,hc⟩;refine⟨rfl,?_⟩;refine(rdX' r ho hc).mono ?_;rintro e q ⟨x,rfl,hS,b4⟩;refine⟨x,rfl,?_⟩;have F:=r.below b4;refine(XH F ho).mono ?_;rintro e z ⟨rfl,⟨I3,h5,t⟩,k5⟩;refine⟨rfl,?_⟩;refine(XD h5 t).mono ?_;rintro e A ⟨rfl,h6,k6⟩;refine⟨rfl,?_⟩;refine(XC h6 t).mono ?_;rintro e h ⟨rfl,b7⟩;obtain⟨l,e8,x8,k8,z8,b8⟩:=De h [.string ng,.bool false,.int .i64 6,.int .i64 2] 112;refine⟨rfl,l,e8,?_⟩;have h8:=(h6.below b7).below b8;refine(MK h8 t hc).mono ?_;rintro e a ⟨rfl,ac,ah,aa,k9⟩;have r9:=k9 _ _ _ x8 (.inr rfl);have am:Ib q a:=((k5.trans k6).trans ((Ib.below b7).trans (Ib.below b8))).trans k9;have ai:∀W,Bw a W->Sl W 5 1 (.slice (some ⟨x,0,none⟩) 6 6) 6 (Dc s6):=fun W i=>by
   refine⟨hS.1,?_⟩;rcases hS.2 with⟨e,_⟩|⟨g,ag,L,e,hR,D,h2,r,F⟩
   ·cases e
   ·have ab:=am _ _ _ hR (.inl rfl);exact .inr ⟨g,ag,L,e,(i.block _ ab.lt).trans ab,D,h2,r,F⟩
  refine⟨rfl,(r9.cell 2).trans rfl,(r9.cell 3).trans rfl,fun W i=>U5 (ai W i) rfl,fun W i=>?_⟩;obtain⟨rd,V,E,vi,G⟩:=ah;refine(Xz (nb:=nb) (I:=I3) (C:=C2) (tb:=tx) ⟨dx,sx,(i.block _ (F0.lt ac)).trans ac⟩ ⟨rd,V,E,vi,G.below i (Aa _)⟩ t).mono ?_;rintro e c ⟨rfl,s⟩;refine⟨rfl,s,k,tb,db,aq,rfl,?_⟩;have ap:=aa.size;have av:=i.size;have ae:=aa.trans ((i.mono ap).trans (s.mono (by omega)));exact⟨o.lg.below ae,al.below ae⟩
 clear K h0;go_enter Tryz.func23,Tryz.ntmps23;go_upto_region 2 with(go_at_call 71;refine(Da Z).mono ?_;rintro e X ⟨k,rfl,N⟩);go_upto_region 3 with(go_at_call 71;refine(Da N).mono ?_;rintro e Y ⟨d,rfl,O⟩);clear Z N;go_upto_region 5 with fail;go_upto_region 6 with(go_at_call 58;refine(Da O).mono ?_;rintro e b ⟨rfl,f,aj,P⟩);clear O;go_upto_region 7 with(go_at_call 59;refine(Da P).mono ?_;rintro e y ⟨rfl,Q⟩);clear P;go_upto_region 8 with(go_at_call 55;refine(Da Q).mono ?_;rintro e q ⟨x,rfl,R⟩);clear Q;go_upto_region 9 with(go_at_call 61;refine(Da R).mono ?_;rintro e z ⟨rfl,S⟩);clear R;go_upto_region 10 with(go_at_call 63;refine(Da S).mono ?_;rintro e A ⟨rfl,T⟩);clear S;go_upto_region 11 with(go_at_call 57;refine(Da T).mono ?_;rintro e h ⟨rfl,l,ad,U⟩;have af:=Db ad;clear ad);rw[show h.alloc (.cells #[.string ng,.bool false,.int .i64 6,.int .i64 2] 112)=l from Da af];clear T;go_upto_region 12 with(go_at_call 26;refine(Da U).mono ?_;rintro e a ⟨rfl,c2,c3,J,M⟩);clear U;have n:Bw a a:=Al _ _;have ar:=J _ n;have HC:Hid (Cl 34 #[.pointer (some ⟨d,0,none⟩)] a fun e c=>e = .returned (.int .i64 1)/\c.cell? ⟨h.heap.size,2,none⟩=some (.int .i64 6)/\c.cell? ⟨h.heap.size,3,none⟩=some (.int .i64 2)/\(convert 59 9 (.slice (some ⟨x,0,none⟩) 6 6)).run Tryz.prog c = .ok (.string ⟨#[0,0,0,120,121,122]⟩) c/\Hid (Rx w (.returned (.pointer (some ⟨k,0,none⟩))) c)):=by
  refine(Da M _ n).mono ?_;rintro e c ⟨rfl,s,u⟩;have H:Bw a c:=n.trans (s.mono n.size);exact⟨rfl,(H.cell (p:=⟨h.heap.size,2,none⟩) (Aj _ _ c2)).trans c2,(H.cell (p:=⟨h.heap.size,3,none⟩) (Aj _ _ c3)).trans c3,J c H,u⟩
 clear J M n aj;go_wp2_with (go_at_call 34;refine(Da HC).mono ?_;rintro e c ⟨rfl,g2,g3,gc,u⟩);go_ret;exact Da u
section
variable{X:Nat->Prop}{N n0:Nat}{w0 w w':World}{vb tb db stb:Nat}{b:Nat->Option By}{kb:List (Nat->Option By)}{en:List Nat}
end
def Ji(b:Nat->Option By):Nat->Nat
 | 0=>0
 | k+1=>Ji b k+if (b k).isSome=true then 1 else 0
def D8(b:Nat->Option By):Nat->Nat
 | 0=>0
 | k+1=>D8 b k+if (b k).isSome=true then (((b k).getD ⟨#[]⟩).size+63)/64 else 0
def Lx(b:Nat->Option By)(k:Nat):List Nat:=(List.range k).filter (fun i=>(b i).isSome)
theorem SL(b:Nat->Option By):∀k,(Lx b k).length=Ji b k
 | 0=>rfl
 | k+1=>by
  unfold Lx Ji;rw[Cu,List.filter_append,Ad,<-SL b k];unfold Lx
  cases h:(b k).isSome<;>simp[h]
theorem SM(b:Nat->Option By):∀k,((Lx b k).map (fun i=>(((b i).getD ⟨#[]⟩).size+63)/64)).sum=D8 b k
 | 0=>rfl
 | k+1=>by
  unfold Lx D8;rw[Cu,List.filter_append,Bp,List.sum_append,<-SM b k];unfold Lx
  cases h:(b k).isSome<;>simp[h]
theorem SR(b:Nat->Option By):∀k,Ji b k<=k
 | 0=>Aa _
 | k+1=>by
  have:=SR b k;unfold Ji
  split<;>omega
section
variable{b:Nat->Option By}{G:Gh}{I:LF}{CI:IB}
def M7(G:Gh)(i:Nat):LY×VS:=([fn i],(Gr G [fn i]).getD ⟨none,0⟩)
theorem Gc.perm(h:Gc b G I CI):List.Perm ((Lx b 8).map (M7 G)) G:=by
 have q:∀{l:List (LY×VS)},(l.map (·.1)).Nodup->l.Nodup:=fun {l} p=>by
  rw[AM,Bg]at p;rw[AM];exact p.imp (fun {a b} t e=>t (by rw[e]))
 have n:∀i,i∈Lx b 8->i<8/\∃s,b i=some s:=fun i c=>by
  obtain⟨d,r⟩:=EJ.1 c;exact⟨BI.1 d,EZ.1 r⟩
 refine(Cn (q ?_) (q h.fl.nd)).2 (fun x=>?_)
 ·rw[Ce,AM,Bg];have:(Lx b 8).Nodup:=List.nodup_range.filter _;rw[AM]at this;refine this.imp_of_mem (fun {i j} c v u e=>u ?_);have m:[fn i]=[fn j]:=e;injection m with m;exact UT (n i c).1 (n j v).1 m
 ·constructor
  ·intro k;obtain⟨i,c,rfl⟩:=Au.1 k;obtain⟨g,s,y⟩:=n i c;obtain⟨f,d,_⟩:=h.yes i g s y;unfold M7;rw[K2 h.fl.nd d];exact d
  ·intro k;obtain⟨i,g,e⟩:=h.nm x k;have o:(x.1,x.2)∈G:=k;rw[e]at o;refine Au.2 ⟨i,EJ.2 ⟨BI.2 g,?_⟩,?_⟩
   ·cases hb:b i with
    | none=>exact absurd o (h.no i g hb _)
    | some s=>rfl
   ·unfold M7;rw[K2 h.fl.nd o];exact FP e.symm rfl
theorem Gc.glen(h:Gc b G I CI):G.length=Ji b 8:=by
 have:=h.perm.length_eq;rw[AK,SL]at this;exact this.symm
theorem Gc.pnum(h:Gc b G I CI)(j:Gn I):List.Perm (I.map (·.1)) (G.map (fun y=>y.2.f)):=by
 refine(Cn j.nd ?_).2 (fun f=>?_)
 ·rw[AM,Bg];have g:=h.fl.nd;rw[AM,Bg]at g;refine g.imp_of_mem (fun {x y} d a k e=>k ?_);rw[h.fl.inj x d y a e]
 ·constructor
  ·intro c;obtain⟨x,d,rfl⟩:=Au.1 c;obtain⟨_,_,y,a,e⟩:=h.fl.back x d;exact Au.2 ⟨y,a,e⟩
  ·intro c;obtain⟨y,a,rfl⟩:=Au.1 c;obtain⟨r,i⟩:=h.fl.num y a;exact Au.2 ⟨_,i,rfl⟩
theorem Gc.usage(h:Gc b G I CI)(l:Gn I):DN (I.map (·.2.l))=D8 b 8:=by
 have c:DN (I.map (·.2.l))=((I.map (·.1)).map (fun f=>((CI f).size+63)/64)).sum:=by
  unfold DN;rw[Ce,Ce]
  congr 1
  refine CJ (fun x m=>?_);show(x.2.l+63)/64=((CI x.1).size+63)/64;rw[(h.fl.back x m).2.1]
 rw[c,((h.pnum l).map _).sum_nat,Ce,<-(h.perm.map _).sum_nat,Ce,<-SM]
 congr 1
 refine CJ (fun i k=>?_);obtain⟨g,j⟩:=EJ.1 k;obtain⟨s,a⟩:=EZ.1 j;obtain⟨f,d,e⟩:=h.yes i (BI.1 g) s a;show((CI (M7 G i).2.f).size+63)/64=_;unfold M7;rw[K2 h.fl.nd d,a];show((CI (f:Int)).size+63)/64=_;rw[e];rfl
theorem Gc.elen(h:Gc b G I CI){w:World}{tb c:Nat}{V:NV}{E:NS}{p:Value}(g:TW w tb c V E p G I CI):(E c).length=Ji b 8:=by
 have j:F4 G c [] c := .inl ⟨rfl,rfl⟩;have k:=(g.d.srt [] c j).nodup;have m:=K8 ((E c).map (fun x=>([x.1],x.2))) G (by
  rw[AM,Bg]at k ⊢;refine k.imp (fun {a b} l e=>l ?_);rw[AT]at e;have:=e.1;injection this) (fun x i=>by
  obtain⟨y,d,rfl⟩:=Au.1 i;exact(h.fl.root g d).1)
 have o:=K8 (G.map (·.1)) ((E c).map (fun x=>[x.1])) h.fl.nd (fun x i=>by
  obtain⟨y,d,rfl⟩:=Au.1 i;obtain⟨n,f,rfl,_⟩:=h.fl.fil y d;exact Au.2 ⟨_,(g.d.en [] c j n _).2 d,rfl⟩)
 rw[AK]at m;rw[AK,AK]at o;have:=h.glen;omega
end
section
variable{w:World}{vb:Nat}{b:Nat->Option By}
def L4(w:World)(o:Option By)(e:Ending)(w':World):Prop:=
 ((o=none/\e = .returned (.tuple #[.slice none 0 0,.int .i64 3]))\/∃s x,o=some s/\e = .returned (.tuple #[.slice (some ⟨x,0,none⟩) s.size s.size,.int .i64 0])/\Sl w' 5 1 (.slice (some ⟨x,0,none⟩) s.size s.size) s.size (Dc s))/\Bw w w'
theorem ZK(s:By)(h:s.size<=1280):IV s 0 1280=s:=by
 unfold IV;have a:min (0:Int).toNat s.size=0:=by simp
 have c:min (1280:Int).toNat (s.size-0)=s.size:=by show min 1280 _=_;omega
 rw[a,c,Av];apply A7;rw[Cc,BY,EH];exact Ah (Ej AG)
theorem MS(h:Le w vb b){i:Nat}(j:i<8):Cl 55 #[.pointer (some ⟨vb,0,none⟩),.string (GJ i),.int .i64 0,.int .i64 1280] w (L4 w (b i)):=by
 obtain⟨tb,G,I,CI,F,⟨J,V,E,K,o⟩,a⟩:=h;have ab:=a.fl.le;have ac:=a.fl.ilen o.si;have r:∀e w',Qu w G CI (GJ i) 0 1280 e w'->L4 w (b i) e w':=by
  rintro e w' ⟨q,y⟩;refine⟨?_,y⟩;have k:I8 G (GJ i) 0 1280=DL G (GJ i) true:=rfl
  cases hbi:b i with
  | none=>
   have n:=a.nofile j hbi;rcases q with⟨_,rfl⟩|⟨c,_⟩
   ·refine .inl ⟨rfl,?_⟩;rw[k,n]
   ·rw[k,n]at c;cases c
  | some s=>
   have c:=a.file j hbi;obtain⟨f,t,v,l⟩:=a.at j hbi;rcases q with⟨B,_⟩|⟨_,u,p,_,x,m,rfl,_,d⟩
   ·exact absurd (k.trans c) B
   ·rw[t]at p
    cases p
    have D:s.size<=1280:=by have:=a.fl.sz _ v;rw[<-l];exact this
    have z:CI (f:Int)=s:=l;rw[show CI (VS.mk none (f:Int)).f=s from z,ZK s D]at d;have A:m=s.size:=by
     rcases d.2 with⟨e,_⟩|⟨g,aa,L,e,_,_,_,_,h4⟩
     ·cases e
     ·have:=d.1;rw[Dh]at this;omega
    subst A;exact .inr ⟨s,x,rfl,rfl,d⟩
 exact(LL w vb tb F (GJ i) 0 1280 (Qu w G CI (GJ i) 0 1280) (fun e w' C=>by
  rcases (r e w' C).1 with⟨_,rfl⟩|⟨s,x,_,rfl,_⟩
  ·exact⟨_,_,_,_,rfl⟩
  ·exact⟨_,_,_,_,rfl⟩) (Wb w tb J V E K G I CI o a.fl.gok (by omega) (by omega) a.fl.flok (fun x H=>(a.fl.csz H).1) (GJ i) (by have:=(Kf j).2.2;omega) 0 1280 (by omega) (by omega))).mono r
theorem Ma(h:Le w vb b):Cl 34 #[.pointer (some ⟨vb,0,none⟩)] w fun e w'=>e = .returned (.int .i64 (D8 b 8:Nat))/\Bw w w':=by
 obtain⟨tb,G,I,CI,f,⟨rd,V,E,i,a⟩,c⟩:=h;have aa:=c.fl.le;have ab:=c.fl.ilen a.si;refine Su w vb tb f _ (fun e w' d=>⟨_,d.1⟩) ?_;rw[<-c.usage a.si];exact NZ w tb _ i I a.t a.i (by omega) (fun x g=>by have:=(c.fl.csz g).2.1;omega)
theorem MY(h:Le w vb b):Cl 56 #[.pointer (some ⟨vb,0,none⟩),.string ⟨#[47]⟩] w fun e w'=>(∃a c,e = .returned (.tuple #[.slice a (Ji b 8) c,.int .i64 0]))/\Bw w w':=by
 obtain⟨tb,G,I,CI,t,⟨f,V,E,u,i⟩,d⟩:=h;have ab:=d.fl.le;have ac:=d.fl.ilen i.si;have j:Df ⟨#[47]⟩=[]:=by kernel_rfl
 have q:DU ⟨#[47]⟩=true:=by kernel_rfl
 have s:H3 G ⟨#[47]⟩=0:=by
  unfold H3 DM;rw[q,j]
  rfl
 have k:∀e w',Pa w G I (Df ⟨#[47]⟩) (E f) e w'->(∃a c,e = .returned (.tuple #[.slice a (Ji b 8) c,.int .i64 0]))/\Bw w w':=by
  rintro e w' ⟨⟨a,n,c,es,rfl,l,m⟩,o⟩;refine⟨?_,o⟩;have p:n=Ji b 8:=by
   rw[<-d.elen i,<-m.1];rcases l.2 with⟨e,h0⟩|⟨g,aa,L,e,_⟩
   ·simp only[Bl]at e;omega
   ·simp only[Bl]at e;exact e.2.1
  subst p;exact⟨a,c,rfl⟩
 exact(MX w vb tb t ⟨#[47]⟩ (Pa w G I (Df ⟨#[47]⟩) (E f)) (fun e w' r=>by
  obtain⟨⟨a,c,rfl⟩,_⟩:=k e w' r;exact⟨_,_,_,_,rfl⟩) (Zkl w tb f V E u G I CI i d.fl.gok (by omega) (by omega) d.fl.flok ⟨#[47]⟩ (by show 1<=_;omega) s f (.inl ⟨j,rfl⟩) (.inl j))).mono k
end
theorem Ts{b:Nat->Option By}(h:∀i,i<8->((b i).getD ⟨#[]⟩).size<=1280):∀k,k<=8->D8 b k<=20*k
 | 0,_=>Aa _
 | k+1,hk=>by
  have ih:=Ts h k (by omega);have:=h k (by omega);unfold D8
  split<;>omega
theorem Le.sizes{w:World}{g:Nat}{b:Nat->Option By}(h:Le w g b){i:Nat}(e:i<8):((b i).getD ⟨#[]⟩).size<=1280:=by
 obtain⟨tb,G,I,CI,_,_,a⟩:=h
 cases hb:b i with
 | none=>show 0<=1280;omega
 | some s=>
  obtain⟨f,c,d⟩:=a.yes i e s hb;have:=a.fl.sz _ c;show s.size<=1280;rw[<-d];exact this
theorem Zmm(w:World):(binOp .eql 59 (.slice none 0 0) (.slice none 0 0)).run Tryz.prog w = .ok (.bool true) w:=Lib.run_eql_slice_nil w 59 5 none 0 0 0 0 Tryz.underlying59
theorem ZkA(a:Addr)(l c:Nat)(w:World):(binOp .eql 59 (.slice (some a) l c) (.slice none 0 0)).run Tryz.prog w = .ok (.bool false) w:=Lib.run_eql_slice_nil w 59 5 (some a) l c 0 0 Tryz.underlying59
structure Lf(w:World)(sb so:Nat)(b:Nat->Option By)(vs:NV):Prop where
 cell:∀i,i<8->w.cell? ⟨sb,so+i,none⟩=some (vs i)
 at':∀i,i<8->GE w (b i) (vs i)
 sz:∀i,i<8->((b i).getD ⟨#[]⟩).size<=1280
theorem Lf.below{w w':World}{c so:Nat}{b:Nat->Option By}{vs:NV}(h:Lf w c so b vs)(d:Bw w w'):Lf w' c so b vs:=
 ⟨fun i a=>(d.cell (p:=⟨c,so+i,none⟩) (Aj _ _ (h.cell i a))).trans (h.cell i a),fun i a=>(h.at' i a).kp (GA.below d),h.sz⟩
def IZ(w:World)(b b':Nat->Option By)(e:Ending)(w':World):Prop:=∃r:Bool,e = .returned (.bool r)/\(r=true↔∀i,i<8->b i=b' i)/\Bw w w'
theorem IZ.no{w w':World}{b a:Nat->Option By}{k:Nat}(d:k<8)(h:¬b k=a k)(c:Bw w w'):IZ w b a (.returned (.bool false)) w':=⟨false,rfl,⟨fun e=>(by cases e),fun e=>absurd (e k d) h⟩,c⟩
theorem Zme{w:World}{A r so:Nat}{b j:Nat->Option By}{vs:NV}(h:Le w A b)(Q:Lf w r so j vs):
  Cl 29 #[.pointer (some ⟨r,so,none⟩),.pointer (some ⟨A,0,none⟩)] w (IZ w b j):=by
 have aa:Hid (∀i,i<8->((b i).getD ⟨#[]⟩).size<=1280):=fun i G=>h.sizes G
 have U:=Db Q;have V:=Db h;clear h Q;have ae:=Zmm;have af:=ZkA;go_enter Tryz.func29,Tryz.ntmps29;go_wp2
 go_loopw [5,6,7] (fun n us i wr=>∃k:Nat,k<=8/\n = .int .i64 (Ji b k:Nat)/\us = .int .i64 (D8 b k:Nat)/\i = .int .i64 k/\Hid (Bw w wr)/\Hid (∀i,i<k->b i=j i)) (fun _ _ i _=>8-(intOf i).toNat)
 case atStart=>exact⟨0,by omega,rfl,rfl,rfl,Al _ _,fun i G=>by omega⟩
 case round=>
  obtain⟨k,H,rfl,rfl,rfl,t,L⟩:=hrel;have y:=(Da V).below (Da t);have ah:=Ts (Da aa) k H;have ac:=SR b k;by_cases m:k<8
  ·have ad:(k:Int)<8:=by omega
   have T:Hid (Cl 72 #[.int .i64 k] wr fun e X=>e = .returned (.string (GJ k))/\Hid (Cl 55 #[.pointer (some ⟨A,0,none⟩),.string (GJ k),.int .i64 0,.int .i64 1280] X fun e Y=>Hid (Bw w Y)/\((b k=none/\e = .returned (.tuple #[.slice none 0 0,.int .i64 3]))\/∃s x,b k=some s/\e = .returned (.tuple #[.slice (some ⟨x,0,none⟩) s.size s.size,.int .i64 0])/\(convert 59 9 (.slice (some ⟨x,0,none⟩) s.size s.size)).run Tryz.prog Y.drew = .ok (.string s) Y.drew)/\
     ((j k=none/\Y.cell? ⟨r,so+k,none⟩=some (.slice none 0 0))\/∃s g,j k=some s/\s.size<=1280/\Y.cell? ⟨r,so+k,none⟩=some (.slice (some ⟨g,0,none⟩) s.size s.size)/\(convert 59 9 (.slice (some ⟨g,0,none⟩) s.size s.size)).run Tryz.prog Y.drew = .ok (.string s) Y.drew))):=by
    refine(N7 wr k m).mono ?_;rintro e X ⟨rfl,v⟩;refine⟨rfl,?_⟩;refine(MS (y.below v) m).mono ?_;rintro e Y ⟨hc,F⟩;have z:Bw w X:=(Da t).trans (v.mono (Da t).size);have R:Bw w Y:=z.trans (F.mono z.size);have I:=(Da U).below R;have O:Bw Y Y.drew:=(Al _ _).drew;refine⟨R,?_,?_⟩
    ·rcases hc with⟨d,rfl⟩|⟨s,x,d,rfl,hS⟩
     ·exact .inl ⟨d,rfl⟩
     ·exact .inr ⟨s,x,d,rfl,U5 (hS.kept (fun k H _=>O.block k H)) rfl⟩
    ·have N:=I.cell k m;rcases I.at' k m with⟨f,K⟩|⟨l,g,f,K,P⟩
     ·exact .inl ⟨f,by rw[<-K];exact N⟩
     ·have h2:l.size<=1280:=by
       have:=I.sz k m;rw[f]at this;exact this
      exact .inr ⟨l,g,f,h2,by rw[<-K];exact N,U5 ⟨by rw[Dh,BW],.inr ⟨g,l.size,_,rfl,(O.block _ P.lt).trans P,Aa _,by unfold maxLen;omega,by rw[Dh,BW],by rw[Ah (by rw[Dh];omega)]⟩⟩ rfl⟩
   have M:Hid (b k=j k->∀i,i<k+1->b i=j i):=fun e i G=>by
    rcases AO i k with q|q
    ·exact Da L i q
    ·rw[show i=k by omega];exact e
   clear y;go_upto_region 9 with(first|(go_at_call 72;refine(Da T).mono ?_;rintro e X ⟨rfl,B⟩)|(go_at_call 55;refine(Da B).mono ?_;rintro e Y ⟨p,⟨d,rfl⟩|⟨s,x,d,rfl,v1⟩,⟨f,Z⟩|⟨l,g,f,ag,Z,v2⟩⟩))
   ·have D:Ji b (k+1)=Ji b k:=by
     show Ji b k+(if (b k).isSome=true then 1 else 0)=_;rw[d];rfl
    have E:D8 b (k+1)=D8 b k:=by
     show D8 b k+(if (b k).isSome=true then _ else 0)=_;rw[d];rfl
    have C:Hid (∀i,i<k+1->b i=j i):=M (by rw[d,f]);go_wp2
    go_roundw
    case rel=>exact⟨k+1,by omega,by rw[D],by rw[E],by go_num,p,C⟩
    case measure=>simp[intOf];omega
   ·have o:¬b k=j k:=by rw[d,f];exact fun e=>by cases e
    have u:=Db o;clear o d f;go_upto_region 14 with fail
    go_quiet (fail)
    go_wp2;go_ret;exact IZ.no m (Da u) (below_drewN (Da p) _)
   ·have o:¬b k=j k:=by rw[d,f];exact fun e=>by cases e
    have u:=Db o;clear o d f;go_wp2;go_ret;exact IZ.no m (Da u) (Da p)
   ·by_cases J:s=l
    ·subst J;have D:Ji b (k+1)=Ji b k+1:=by
      show Ji b k+(if (b k).isSome=true then 1 else 0)=_;rw[d];rfl
     have E:D8 b (k+1)=D8 b k+(s.size+63)/64:=by
      show D8 b k+(if (b k).isSome=true then _ else 0)=_;rw[d];rfl
     have C:Hid (∀i,i<k+1->b i=j i):=M (by rw[d,f]);go_upto_region 14 with fail
     go_region_held3 (fun W=>W.cell? ⟨r,so+k,none⟩=some (.slice (some ⟨g,0,none⟩) s.size s.size)/\(convert 59 9 (.slice (some ⟨x,0,none⟩) s.size s.size)).run Tryz.prog W = .ok (.string s) W/\(convert 59 9 (.slice (some ⟨g,0,none⟩) s.size s.size)).run Tryz.prog W = .ok (.string s) W) (go_keep) (fail)
     go_wp2;refine⟨⟨k+1,by omega,Ca (Value.int .i64) (by rw[D];omega),Ca (Value.int .i64) (by rw[E];omega),by go_num,(Da p).drew,C⟩,by simp[intOf];omega⟩
    ·have o:¬b k=j k:=by rw[d,f];exact fun e=>J (BV e)
     have u:=Db o;have ab:(s.toList==l.toList)=false:=by
      rw[BK,CM,CM];exact fun e=>J (FB (Array.toList_inj.mp e))
     clear o d f;go_upto_region 14 with fail
     go_region_held3 (fun W=>W.cell? ⟨r,so+k,none⟩=some (.slice (some ⟨g,0,none⟩) l.size l.size)/\(convert 59 9 (.slice (some ⟨x,0,none⟩) s.size s.size)).run Tryz.prog W = .ok (.string s) W/\(convert 59 9 (.slice (some ⟨g,0,none⟩) l.size l.size)).run Tryz.prog W = .ok (.string l) W) (go_keep) (fail)
     go_wp2;go_ret;exact IZ.no m (Da u) (Da p).drew
  ·obtain rfl:k=8:=by omega
   have S:Hid (Cl 56 #[.pointer (some ⟨A,0,none⟩),.string ⟨#[47]⟩] wr fun e X=>∃a c,e = .returned (.tuple #[.slice a (Ji b 8) c,.int .i64 0])/\Hid (Cl 34 #[.pointer (some ⟨A,0,none⟩)] X fun e Y=>e = .returned (.int .i64 (D8 b 8:Nat))/\Hid (Bw w Y))):=by
    refine(MY y).mono ?_;rintro e X ⟨⟨a,c,rfl⟩,v⟩;refine⟨a,c,rfl,?_⟩;refine(Ma (y.below v)).mono ?_;rintro e Y ⟨rfl,F⟩;have z:Bw w X:=(Da t).trans (v.mono (Da t).size);exact⟨rfl,z.trans (F.mono z.size)⟩
   clear y;go_wp2_with (first|(go_at_call 56;refine(Da S).mono ?_;rintro e X ⟨a,c,rfl,B⟩)|(go_at_call 34;refine(Da B).mono ?_;rintro e Y ⟨rfl,p⟩));go_ret;exact⟨true,by simp,⟨fun _=>Da L,fun _=>rfl⟩,Da p⟩
def Xs(w:World)(a:OA)(xs:List Int):Prop:=∀(j:Nat) v,xs[j]?=some v->∃g f,a=some ⟨g,f,none⟩/\w.cell? ⟨g,f+j,none⟩=some (.int .i64 v)
theorem GK.pk{N d:Nat}{g w:World}{f tb a e:Nat}{b:Nat->Option By}{K:KS->Prop}(h:GK N d g w f tb a e b K):Gs w:=by
 obtain⟨G,I,CI,⟨rd,V,E,vi,c⟩,_⟩:=h.tr;exact c.pk
def YK(w:World)(e:Ending)(w':World):Prop:=e = .returned (.bool true)/\Bw w w'
section
variable{X:Nat->Prop}{N n0:Nat}{w0 w w':World}{vb tb db stb:Nat}{b:Nat->Option By}{kb:List (Nat->Option By)}{en:List Nat}
end
def J0(f:NV):F6:=(List.range 8).map f
theorem S2:∀(kv:List (NV)) (j i:Nat) (f:NV),kv[j]?=some f->i<8->(kv.flatMap J0)[j*8+i]?=some (f i)
 | [],j,i,f,h,_=>by simp at h
 | g::kv,0,i,f,h,hi=>by
  simp at h;subst h;rw[A9,Fj,Av,AP (by simp[J0];exact hi)];unfold J0;rw[Bv,C8 hi];rfl
 | g::kv,j+1,i,f,h,hi=>by
  have:=S2 kv j i f (by simpa using h) hi;rw[A9,AH (by simp[J0];omega),<-this]
  congr 1
  simp[J0];omega
structure Hm(w:World)(v:Value)(kb:List (Nat->Option By))(kv:List (NV)):Prop where
 len:kv.length=kb.length
 sl:Sl w 62 8 v kb.length (kv.flatMap J0)
 fl:∀(j:Nat) b f,kb[j]?=some b->kv[j]?=some f->∀i,i<8->GE w (b i) (f i)/\((b i).getD ⟨#[]⟩).size<=1280
section
variable{w w':World}{v:Value}{kb:List (Nat->Option By)}{kv:List (NV)}
theorem Hm.keep(h:Hm w v kb kv)(l:∀k t R,F0 w k t R->(t=62/\F2 v k\/t=5)->F0 w' k t R):Hm w' v kb kv:=by
 refine⟨h.len,⟨h.sl.1,?_⟩,fun j b f c d i e=>⟨?_,(h.fl j b f c d i e).2⟩⟩
 ·rcases h.sl.2 with q|⟨g,m,L,q,n,a⟩
  ·exact .inl q
  ·exact .inr ⟨g,m,L,q,l _ _ _ n (.inl ⟨rfl,by rw[q];rfl⟩),a⟩
 ·rcases (h.fl j b f c d i e).1 with q|⟨s,g,o,a,p⟩
  ·exact .inl q
  ·exact .inr ⟨s,g,o,a,l _ _ _ p (.inr rfl)⟩
theorem Hm.kp(h:Hm w v kb kv)(a:GA w w'):Hm w' v kb kv:=h.keep fun k t R c d=>a k t R c (d.elim (fun q => .inl q.1) (fun q => .inr (.inl q)))
theorem Hm.turn(h:Hm w v kb kv){a:Nat}(g:R5 a w w')(j:¬F2 v a){f:F6}(i:F0 w a 62 f):Hm w' v kb kv:=h.keep fun k t R c d=>by
 refine g k t R c ?_ (fun e=>?_)
 ·rcases d with⟨rfl,_⟩|rfl<;>decide
 ·subst e;rcases d with⟨_,q⟩|rfl
  ·exact j q
  ·exact absurd (i.type c) (by decide)
theorem Hm.set{a:OA}{l c:Nat}(h:Hm w (.slice a l c) kb kv){j:Nat}{b:Nat->Option By}(m:kb[j]?=some b):∃g f,a=some ⟨g,0,none⟩/\l=kb.length/\w.rangeAt g (j*8) (J0 f)/\Lf w g (j*8) b f:=by
 have q:=(Ae.1 m).1;obtain⟨f,n⟩:∃f,kv[j]?=some f:=⟨_,Ac (by rw[h.len];exact q)⟩;have r:=h.sl.len;rcases h.sl.2 with⟨_,h0⟩|⟨g,aa,L,e,p,q1,q2,q3,s⟩
 ·omega
 simp only[Bl]at e;obtain⟨rfl,_,rfl⟩:=e;have o:∀i,i<8->w.cell? ⟨g,j*8+i,none⟩=some (f i):=fun i d=>by
  have:=S2 kv j i f n d;rw[<-s,Ao]at this
  split at this
  ·rw[p.cell];exact this
  ·cases this
 refine⟨g,f,rfl,r,fun i u k=>?_,o,fun i d=>(h.fl j b f m n i d).1,fun i d=>(h.fl j b f m n i d).2⟩;unfold J0 at k;have d:i<8:=by have:=(Ae.1 k).1;simpa using this
 rw[Bv,C8 d]at k;rw[<-k];exact o i d
end
theorem Mg:(Tryz.prog.info? 62).map (fun i=>(i.zero,i.size,i.bytes))=some (some (.agg #[.slice none 0 0,.slice none 0 0,.slice none 0 0,.slice none 0 0,.slice none 0 0,.slice none 0 0,.slice none 0 0,.slice none 0 0]),8,192):=by kernel_rfl
theorem GE.one{w:World}{o:Option By}{v:Value}(h:GE w o v):v.oneCell'=true:=by
 rcases h with⟨_,rfl⟩|⟨s,g,_,rfl,_⟩<;>rfl
theorem OR{w:World}{v:Value}{kb:List (Nat->Option By)}{kv:List (NV)}(h:Hm w v kb kv)(hl:kb.length<=1000){b:Nat->Option By}{f:NV}(t:∀i,i<8->GE w (b i) (f i)/\((b i).getD ⟨#[]⟩).size<=1280)(J:∀k R,F2 v k->F0 w k 5 R->False)(nb:Nat)(I:F0 w nb 62 (J0 f)):
  ∃x w',(Builtin.append_ #[70,70] 70 #[v,.slice (some ⟨nb,0,none⟩) 1 1]).run Tryz.prog w = .ok x w'/\∃a n c,x = .slice a n c/\Hm w' (.slice a n c) (kb++[b]) (kv++[f])/\Fr (F2 v) w w'/\Dm w v (.slice a n c):=by
 obtain⟨O,F,K,L,M⟩:=BU Mg;obtain⟨x,w2,T,B,p,U⟩:=KQ (P:=Tryz.prog) w 70 70 62 O _ 8 192 (by kernel_rfl) F K L M rfl (by decide) v kb.length _ h.sl ⟨nb,0,none⟩ 1 1 (J0 f) (by simp[J0])
  (fun j u m=>by rw[AL,Av,I.cell];exact m) (fun u m=>by
   obtain⟨i,l,rfl⟩:=Au.1 m;exact(t i (BI.1 l)).1.one) (by unfold maxLen;omega) (by omega)
 obtain⟨a,n,c,rfl⟩:=B.shape;have y:Fr (F2 v) w w2:=⟨p.os,p.tape,p.output,p.size,fun k H E=>p.block k H (fun e=>E e.symm)⟩;have z:∀{o:Option By} {u:Value},GE w o u->GE w2 o u:=fun m=>by
  rcases m with q|⟨s,g,Q,S,A⟩
  ·exact .inl q
  ·exact .inr ⟨s,g,Q,S,A.fr y (fun e=>J g _ e A)⟩
 refine⟨_,w2,T,a,n,c,rfl,⟨by rw[Ad,Ad,h.len];rfl,?_,fun j C D d r i l=>?_⟩,y,U⟩
 ·rw[List.flatMap_append,Ad];have e:[f].flatMap J0=J0 f:=by simp
  rw[e];exact B
 ·rcases AO j kb.length with q|q
  ·rw[AP q]at d;rw[AP (by rw[h.len];exact q)]at r;have:=h.fl j C D d r i l;exact⟨z this.1,this.2⟩
  ·have G:j=kb.length:=by have:=(Ae.1 d).1;rw[Ad,Ba]at this;omega
   subst G;rw[AH (Aa _),Fk]at d;rw[AH (by rw[h.len];exact Aa _),h.len,Fk]at r
   cases d
   cases r
   exact⟨z (t i l).1,(t i l).2⟩
section
variable{X:Nat->Prop}{N n0:Nat}{w0 w w':World}{vb tb db stb:Nat}{b:Nat->Option By}{kb:List (Nat->Option By)}{en:List Nat}
end
section
variable{M n0:Nat}{w wr Y:World}{vb tb db stb sb:Nat}{b:Nat->Option By}{vs:NV}{vK vE:Value}{kb:List (Nat->Option By)}{kv:List (NV)}{en:List Nat}
end

section
variable{N n0:Nat}{w0 w:World}{vb tb db stb:Nat}{b:Nat->Option By}{K:KS->Prop}
theorem GZ.places{w:World}{stb db:Nat}{c:Value}{s:KS}{g i vw f:Value}{ps:LB}{d:List Int}(h:GZ w stb db c s g i vw f ps d)(a:Hh s):
  Cl 132 #[.pointer (some ⟨stb,1,none⟩)] w fun e w'=>e = .returned (.int .i64 (DS (Dj s.es) 96:Nat))/\Bw w w':=
 RU w stb 1 c s.es ((h.st.row.cell 1).trans rfl) h.sk ⟨a.len,a.srt,a.pl⟩
end
theorem OE(w:World)(f ho:Nat)(v:Value)(n:Nat)(xs:F6)(hc:w.cell? ⟨f,ho,none⟩=some v)(d:Sl w 350 2 v n xs):
  Cl 146 #[.pointer (some ⟨f,ho,none⟩)] w fun e w'=>e = .returned (.int .i64 n)/\w'=w:=by
 have g:∃a m c,v = .slice a m c/\m=n:=by
  rcases d.2 with⟨rfl,rfl⟩|⟨g',aa,L,rfl,hr,_⟩
  ·exact⟨_,_,_,rfl,rfl⟩
  ·exact⟨_,_,_,rfl,rfl⟩
 obtain⟨a,m,c,rfl,rfl⟩:=g;clear d;go_enter Tryz.func146,Tryz.ntmps146;go_wp2;go_ret;exact⟨rfl,rfl⟩
section
variable{w:World}{stb db:Nat}{vk:Value}{s:KS}{vf vn vw ve:Value}{ps:LB}{ep:List Int}
theorem GZ.live(h:GZ w stb db vk s vf vn vw ve ps ep)(d:s.es.length<=10000):
  Cl 83 #[.pointer (some ⟨stb,0,none⟩)] w fun e w'=>e = .returned (.int .i64 ((2+s.es.length:Nat):Int))/\Bw w w':=by
 have a:=OE w stb 1 vk _ _ ((h.st.row.cell 1).trans rfl) h.sk;obtain⟨n,c⟩:=ex s.es.length;rw[<-c]at a d ⊢;clear h c;go_enter Tryz.func83,Tryz.ntmps83;go_wp2_with (go_at_call 146;refine a.mono ?_;rintro e w' ⟨rfl,rfl⟩);go_ret;exact⟨by go_num,Al _ _⟩
theorem GZ.free(h:GZ w stb db vk s vf vn vw ve ps ep)(a:Hh s):
  Cl 84 #[.pointer (some ⟨stb,0,none⟩)] w fun e w'=>e = .returned (.int .i64 (DS (Dj s.es) 96:Nat))/\Bw w w':=by
 have d:=h.places a;clear h a;go_enter Tryz.func84,Tryz.ntmps84;go_wp2_with (go_at_call 132;refine d.mono ?_;rintro e w' ⟨rfl,c⟩);go_ret;exact⟨rfl,c⟩
end
section
variable{N n0:Nat}{w0 w:World}{vb tb db stb:Nat}{b:Nat->Option By}{K:KS->Prop}
end
theorem TA(E:F3)(C:NB):∀(last:By) (st:Pl) (L:List It),(∀x∈L,x.k=2)->(Dr E C last st L).2.puts.length=st.puts.length+(L.map (fun x=>Gg (C x.f))).sum
 | last,st,[],_=>rfl
 | last,st,x::L,h=>by
  show(Dr E C (jn x.ns) (Dt E C last st x).2 L).2.puts.length=_;have hk:=h x (A5 ..);have e:(Dt E C last st x).2=E.puts (Dd 4 x.f) (Gl (C x.f)) st 0 (List.range (Gg (C x.f))):=by
   unfold Dt;rw[if_neg (by omega),if_neg (by omega)]
  rw[TA E C _ _ L (fun y a=>h y (AF _ a)),e,puts_len,A2,Br,FA];omega
theorem SN(E:F3):∀(d below:Nat) (st:Pl) (s:By),st.puts.length<=(DE E d below st s).2.puts.length
 | 0,_,st,s=>Aa _
 | d+1,below,st,s=>by
  unfold DE
  split
  ·have h1:=Oa E 2 60 below st s;have ih:=SN E d (below+1) (Dz E 2 60 below st s).2 (Dz E 2 60 below st s).1;omega
  ·exact Aa _
theorem F7.cnt{C:NB}{L:List It}(h:F7 C L)(s:KS)(cl:Bool):(L.map (fun x=>Gg (C x.f))).sum<=(Do s cl C L).2.puts.length/\(Do s cl C L).2.puts.length<=(L.map (fun x=>Gg (C x.f))).sum+238:=by
 have d:=h.ok;have aa:=h.le;obtain⟨E,l⟩:=ex (Dk s.es cl s.tp s.D);obtain⟨T,g⟩:=ex (Dr E C ⟨#[]⟩ ⟨s.tp+1,[],[]⟩ L);obtain⟨t,i⟩:∃t:By,t=T.1++⟨#[0]⟩:=⟨_,rfl⟩;obtain⟨R,f⟩:=ex (Dz E 3 63 0 T.2 t);have k:Do s cl C L=DE E 8 1 R.2 R.1:=by rw[f,i,g,l];rfl
 obtain⟨t1,_⟩:=KP E C ⟨#[]⟩ ⟨s.tp+1,[],[]⟩ L (fun z a=>⟨d.path z a,d.size z a,d.kind z a⟩);have j:=TA E C ⟨#[]⟩ ⟨s.tp+1,[],[]⟩ L h.k2;rw[<-g]at t1 j;have m:(⟨s.tp+1,[],[]⟩:Pl).puts.length=0:=rfl;rw[m]at j;have e:=Oa E 3 63 0 T.2 t;have c:=Ql E 3 63 0 T.2 t;rw[<-f]at e c;have a:t.size=T.1.size+1:=by rw[i];exact Ai
 rw[k];generalize hn:(t.size+63-1)/63=n at e c
 have h3:=Rd E 8 1 R.2 R.1 n c (by omega);have h4:=SN E 8 1 R.2 R.1;omega
theorem Gc.sumL{b:Nat->Option By}{G:Gh}{I:LF}{a:IB}(h:Gc b G I a)(e:Gn I){C:NB}{L:List It}(d:Gx C L G I a):(L.map (fun x=>Gg (C x.f))).sum=D8 b 8:=by
 have g:DN (I.map (·.2.l))=((I.map (·.1)).map (fun f=>((a f).size+63)/64)).sum:=by
  unfold DN;rw[Ce,Ce]
  congr 1
  refine CJ (fun x c=>?_);show(x.2.l+63)/64=((a x.1).size+63)/64;rw[(h.fl.back x c).2.1]
 rw[<-h.usage e,g,((h.pnum e).map _).sum_nat,Ce,d.g,Ce]
 congr 1
 refine CJ (fun x c=>?_);show Gg (C x.f)=((a (x.f:Int)).size+63)/64;rw[d.c x c];rfl
theorem Gc.nodes{b:Nat->Option By}{G:Gh}{I:LF}{a:IB}(h:Gc b G I a)(e:Gn I):cD G []+I.length=1+Ji b 8:=by
 have c:G.countP (fun x=>x.2.p.isSome)=0:=C9.2 (fun x g=>by
  obtain⟨n,f,rfl,_⟩:=h.fl.fil x g;simp)
 have d:=(h.pnum e).length_eq;rw[AK,AK]at d;have:=h.glen;rw[Px h.fl.gok,c];omega
section
variable{w:World}{vb:Nat}{b:Nat->Option By}{s:KS}
theorem LW.cnt(h:LW w vb b s):D8 b 8<=s.es.length/\s.es.length<=D8 b 8+238:=by
 obtain⟨tb,db,aa,G,I,CI,C,L,va,vf,vn,h1,⟨rd,V,E,vi,f⟩,a,c,d,e,h7⟩:=h;rw[<-a.sumL f.si c,e.es.2.1];exact d.cnt s false
theorem LW.asks(h:LW w vb b s)(m:Gf s):∃tb f:Nat,∀X,Bw w X->X.cell? ⟨vb,1,none⟩=some (.pointer (some ⟨tb,0,none⟩))/\X.cell? ⟨vb,3,none⟩=some (.pointer (some ⟨f,0,none⟩))/\
  Cl 81 #[.pointer (some ⟨tb,0,none⟩)] X (fun e w'=>e = .returned (.int .i64 ((1+Ji b 8:Nat):Int))/\Bw w w')/\
  Cl 82 #[.pointer (some ⟨tb,0,none⟩)] X (fun e w'=>e = .returned (.int .i64 (D8 b 8:Nat))/\Bw w w')/\
  Cl 83 #[.pointer (some ⟨f,0,none⟩)] X (fun e w'=>e = .returned (.int .i64 ((2+s.es.length:Nat):Int))/\Bw w w')/\
  Cl 84 #[.pointer (some ⟨f,0,none⟩)] X (fun e w'=>e = .returned (.int .i64 (DS (Dj s.es) 96:Nat))/\Bw w w'):=by
 have h0:=h;obtain⟨tb,db,f,G,I,o,C,L,va,vf,vn,k,⟨r,V,E,n,g⟩,a,h4,h5,h6,l⟩:=h;refine⟨tb,f,fun X c=>?_⟩;have v:F0 X vb 41 _:=(c.block _ (F0.lt k)).trans k;have j:=g.below c (Aa _);have aa:=a.fl.le;have ab:=a.fl.ilen g.si;have i:∀{w'},Bw X w'->Bw w w':=fun d=>c.trans (d.mono c.size)
 refine⟨(v.cell 1).trans rfl,(v.cell 3).trans rfl,?_,?_,?_,?_⟩
 ·refine(V3 X tb r V E n G I o j a.fl.gok (by omega) (by omega)).mono ?_;rintro e w' ⟨rfl,d⟩;exact⟨by rw[a.nodes g.si],i d⟩
 ·refine(NZ X tb _ n I j.t j.i (by omega) (fun x p=>by have:=(a.fl.csz p).2.1;omega)).mono ?_;rintro e w' ⟨rfl,d⟩;exact⟨by rw[a.usage g.si],i d⟩
 ·exact((l.below c).live m.ok.len).mono fun e w' q=>⟨q.1,i q.2⟩
 ·exact((l.below c).free m.ok).mono fun e w' q=>⟨q.1,i q.2⟩
end
def MQ(b:Nat->Option By)(s:KS):Value := .agg #[.int .i64 ((1+Ji b 8:Nat):Int),.int .i64 (D8 b 8:Nat),.int .i64 ((2+s.es.length:Nat):Int),.int .i64 (DS (Dj s.es) 96:Nat)]
theorem Mp{s:KS}(G:Gf s)(R:GW s)(ac:s.tn+1<18446744073709551616){b:Nat->Option By}(S:GB b s)(w:World)(a:OA)(l c:Nat)(h:Sl w 5 1 (.slice a l c) (Jk s.D).size (Dc (Jk s.D)))(Q:∀x∈s.D,x.size=64)(ab:Gs w):
  Cl 32 #[.slice a l c] w fun e w'=>e = .returned (.tuple #[MQ b s,.int .i64 0])/\Bw w w'/\D8 b 8<=s.es.length/\s.es.length<=D8 b 8+238:=by
 unfold MQ;obtain⟨W,P,q,kW,sW,j⟩:=De w [.int .i64 0,.int .i64 0,.int .i64 0,.int .i64 0] 75;have O:Hid (Cl 27 #[.slice a l c] W fun e X=>∃d,e = .returned (.tuple #[.pointer (some ⟨d,0,none⟩),.int .i64 0])/\∃tb i:Nat,F0 X w.heap.size 75 [.int .i64 0,.int .i64 0,.int .i64 0,.int .i64 0]/\X.cell? ⟨d,1,none⟩=some (.pointer (some ⟨tb,0,none⟩))/\X.cell? ⟨d,3,none⟩=some (.pointer (some ⟨i,0,none⟩))/\d≠w.heap.size/\Hid (∀Y,Bw X Y->Y.cell? ⟨d,1,none⟩=some (.pointer (some ⟨tb,0,none⟩))/\Y.cell? ⟨d,3,none⟩=some (.pointer (some ⟨i,0,none⟩))/\
  Cl 81 #[.pointer (some ⟨tb,0,none⟩)] Y (fun e w'=>e = .returned (.int .i64 ((1+Ji b 8:Nat):Int))/\Bw X w')/\
  Cl 82 #[.pointer (some ⟨tb,0,none⟩)] Y (fun e w'=>e = .returned (.int .i64 (D8 b 8:Nat))/\Bw X w')/\
  Cl 83 #[.pointer (some ⟨i,0,none⟩)] Y (fun e w'=>e = .returned (.int .i64 ((2+s.es.length:Nat):Int))/\Bw X w')/\
  Cl 84 #[.pointer (some ⟨i,0,none⟩)] Y (fun e w'=>e = .returned (.int .i64 (DS (Dj s.es) 96:Nat))/\Bw X w'))/\Hid (Bw W X/\D8 b 8<=s.es.length/\s.es.length<=D8 b 8+238)):=by
  refine(LN G R ac S W a l c (h.kept (fun k J _=>j.block k J)) Q (ab.fr (Fr.of_below j) (X:=fun _=>False) (fun e=>e))).mono ?_;rintro e X ⟨d,rfl,H,I,_⟩;obtain⟨tb,i,hq⟩:=H.asks G;have p:=hq X (Al _ _);refine⟨d,rfl,tb,i,(I.block _ q.lt).trans q,p.1,p.2.1,fun e=>?_,hq,I,H.cnt⟩;have r1:F0 X w.heap.size 75 _:=(I.block _ q.lt).trans q;rw[<-e]at r1;obtain⟨_,_,_,_,_,_,_,_,_,_,_,r2,_⟩:=H;have:=F0.type r1 r2
  revert this;decide
 obtain⟨K,D⟩:∃n,n=1+Ji b 8:=⟨_,rfl⟩;obtain⟨n2,h2⟩:∃n,n=D8 b 8:=⟨_,rfl⟩;obtain⟨L,E⟩:∃n,n=2+s.es.length:=⟨_,rfl⟩;obtain⟨M,F⟩:∃n,n=DS (Dj s.es) 96:=⟨_,rfl⟩;rw[<-D,<-E,<-F];rw[<-D,<-E,<-F]at O;have HE:=Db P;clear h Q ab G R ac S D E F q kW sW P;go_enter Tryz.func32,Tryz.ntmps32;go_upto_region 1 with fail;rw[show w.alloc _=W from Da HE];go_upto_region 4 with(go_at_call 27;refine(Da O).mono ?_;rintro e X ⟨d,rfl,tb,i,p,c1,c3,aa,f,B⟩);have t:Bw X X:=Al _ _;have z:¬d=w.heap.size:=aa;have A:¬w.heap.size=d:=fun e=>aa e.symm
 go_region_held3 (fun Y=>Y.cell? ⟨d,1,none⟩=some (.pointer (some ⟨tb,0,none⟩))/\Y.cell? ⟨d,3,none⟩=some (.pointer (some ⟨i,0,none⟩))) (first|go_keep|(refine⟨?_,?_⟩<;>(rw[BR _ _ _ _ (by simp[z,A]),BR _ _ _ _ (by simp[z,A]),BR _ _ _ _ (by simp[z,A]),BR _ _ _ _ (by simp[z,A])]<;>assumption))) (first|(go_at_call 81;refine((Da f) _ (by first|assumption|exact t.drew)).2.2.1.mono ?_;rintro e Y1 ⟨rfl,T⟩;have r:=((Da f) _ T).1;have d3:=((Da f) _ T).2.1)|(go_at_call 82;refine((Da f) _ (by first|assumption|exact t.drew)).2.2.2.1.mono ?_;rintro e Y2 ⟨rfl,U⟩;have r:=((Da f) _ U).1;have d3:=((Da f) _ U).2.1)|(go_at_call 83;refine((Da f) _ (by first|assumption|exact t.drew)).2.2.2.2.1.mono ?_;rintro e Y3 ⟨rfl,V⟩;have r:=((Da f) _ V).1;have d3:=((Da f) _ V).2.1)|(go_at_call 84;refine((Da f) _ (by first|assumption|exact t.drew)).2.2.2.2.2.mono ?_;rintro e C ⟨rfl,u⟩;have g:F0 C w.heap.size 75 _:=(u.block _ p.lt).trans p;have b0:=g.cell 0;have b1:=g.cell 1;have b2:=g.cell 2;have b3:=g.cell 3;have g0:=g.frozen 0;have g1:=g.frozen 1;have g2:=g.frozen 2;have g3:=g.frozen 3;have r:=((Da f) _ u).1;have d3:=((Da f) _ u).2.1))
 have N:Hid (Bw w C):=j.trans (((Da B).1.mono j.size).trans (u.mono (Ag j.size (Da B).1.size)));obtain⟨Z,y⟩:=ex ((((C.setCell ⟨w.heap.size,0,none⟩ (.int .i64 K)).setCell ⟨w.heap.size,1,none⟩ (.int .i64 (D8 b 8:Nat))).setCell ⟨w.heap.size,2,none⟩ (.int .i64 L)).setCell ⟨w.heap.size,3,none⟩ (.int .i64 M));rw[<-y];have o:F0 Z w.heap.size 75 [.int .i64 K,.int .i64 (D8 b 8:Nat),.int .i64 L,.int .i64 M]:=by rw[y];exact(((g.set 0 _).set 1 _).set 2 _).set 3 _
 have z0:=o.cell 0;have z1:=o.cell 1;have z2:=o.cell 2;have z3:=o.cell 3;have HZ:Hid (Bw w Z):=by
  have m:Fr (fun k=>k=w.heap.size) w Z:=by
   rw[y];exact Fr.set (Fr.set (Fr.set (Fr.set (Fr.of_below (X:=fun k=>k=w.heap.size) (Da N)) ⟨w.heap.size,0,none⟩ _ rfl) ⟨w.heap.size,1,none⟩ _ rfl) ⟨w.heap.size,2,none⟩ _ rfl) ⟨w.heap.size,3,none⟩ _ rfl
  exact⟨m.os,m.tape,m.output,m.size,fun k J=>m.block k J (by omega)⟩
 clear y g o b0 b1 b2 b3 g0 g1 g2 g3 r d3 N;go_wp2;exact Ax (v := .tuple #[.agg #[.int .i64 K,.int .i64 (D8 b 8:Nat),.int .i64 L,.int .i64 M],.int .i64 0]) (by simp[results,Tryz.results32,go_sem,z0,z1,z2,z3]) rfl ⟨rfl,Da HZ,(Da B).2⟩
end Go.Proofs.YtaieidcohdhgpaaGreatDoor
