/- Long. -/
import Derived.Test.YtaieidcohdhgpaaGreatDoorPBO
namespace Go.Proofs.YtaieidcohdhgpaaGreatDoor
set_option maxHeartbeats 8000000
set_option maxRecDepth 100000
open Go.RowKit
theorem ltag:ltS na ng=true:=by kernel_rfl
section
variable{w:World}{tb rd nb:Nat}{V:NV}{E:NS}{vi:Value}{I:LF}{C:IB}
theorem er3(d:TW w tb rd V E vi (G3 nb) I C):E rd=[(na,⟨some ⟨nb,0,none⟩,0⟩),(ng,⟨none,0⟩)]:=by
 have g:IsDir (G3 nb) rd [] rd := .inl ⟨rfl,rfl⟩;refine(d.d.srt [] rd g).ext (fun j k x y ab f c=>?_) (fun x=>?_)
 ·have h:=(List.getElem?_eq_some_iff.1 c).1;have aa:k<2:=h;obtain rfl:j=0:=by omega
  obtain rfl:k=1:=by omega
  simp at f c;rw[<-f,<-c];exact ltag
 ·refine(d.d.en [] rd g x.1 x.2).trans ?_;rw[List.nil_append];constructor
  ·intro a;rcases List.mem_cons.1 a with e|a
   ·rw[Prod.mk.injEq]at e;have b:=e.1;injection b with b;exact List.mem_cons.2 (.inl (Prod.ext b e.2))
   rcases List.mem_cons.1 a with e|a
   ·rw[Prod.mk.injEq]at e;have:=congrArg List.length e.1;simp at this
   ·have e:=List.mem_singleton.1 a;rw[Prod.mk.injEq]at e;have b:=e.1;injection b with b;exact List.mem_cons.2 (.inr (List.mem_singleton.2 (Prod.ext b e.2)))
  ·intro a;rcases List.mem_cons.1 a with rfl|a
   ·exact List.mem_cons_self
   ·rw[List.mem_singleton.1 a];exact List.mem_cons_of_mem _ (List.mem_cons_of_mem _ List.mem_cons_self)
theorem ea3(c:TW w tb rd V E vi (G3 nb) I C):E nb=[(nf,⟨none,0⟩)]:=by
 have d:IsDir (G3 nb) rd [na] nb := .inr List.mem_cons_self;refine(c.d.srt [na] nb d).ext (fun j k x y ab hj h=>?_) (fun x=>?_)
 ·have g:=(List.getElem?_eq_some_iff.1 h).1;have aa:k<1:=g;omega
 ·refine(c.d.en [na] nb d x.1 x.2).trans ?_;constructor
  ·intro a;rcases List.mem_cons.1 a with e|a
   ·rw[Prod.mk.injEq]at e;have:=congrArg List.length e.1;simp at this
   rcases List.mem_cons.1 a with e|a
   ·rw[Prod.mk.injEq]at e;have f:[na]++[x.1]=[na]++[nf]:=e.1;have b:=List.append_cancel_left f;injection b with b;exact List.mem_singleton.2 (Prod.ext b e.2)
   ·have e:=List.mem_singleton.1 a;rw[Prod.mk.injEq]at e;have:=congrArg List.length e.1;simp at this
  ·intro a;rw[List.mem_singleton.1 a];exact List.mem_cons_of_mem _ List.mem_cons_self
def L3:List It:=[⟨[na],1,0⟩,⟨[na,nf],2,0⟩,⟨[ng],3,0⟩]
theorem all3(a:TW w tb rd V E vi (G3 nb) I C):DJ (JO (G3 nb) rd E)=L3:=by
 have b:JO (G3 nb) rd E []=[(na,none),(ng,some 0)]:=by
  unfold JO;rw[if_pos rfl,er3 a];rfl
 have c:JO (G3 nb) rd E [na]=[(nf,some 0)]:=by
  unfold JO;rw[if_neg (by simp),show atG (G3 nb) [na]=some ⟨some ⟨nb,0,none⟩,0⟩ by kernel_rfl];show(E nb).map Jr=_;rw[ea3 a];rfl
 unfold DJ;simp[D3,itL,stp,b,c,Seen.add,L3]
theorem tr3(b:TW w tb rd V E vi (G3 nb) I C)(ho:One I 6 2)(m:C 0=s6):TrW w tb rd V E vi (G3 nb) I C (JO (G3 nb) rd E) (dvOf I) (fun n=>C (n:Int)):=by
 have aa:=ho.1;have o:=ho;obtain⟨_,r,af,ae,q⟩:=o;have f:((0:Int),r)∈I:=(q _).2 rfl;refine⟨b.wk (gok3 nb) (by show 3<=_;omega) (by omega) (fun x a p=>⟨0,r,?_,by omega,f⟩),?_,fun y e c=>?_⟩
 ·rcases List.mem_cons.1 a with rfl|a
  ·cases p
  rcases List.mem_cons.1 a with rfl|a
  ·rfl
  ·rw[List.mem_singleton.1 a];rfl
 ·rw[all3 b];have d:∀x∈L3,x=⟨[na],1,0⟩\/x=⟨[na,nf],2,0⟩\/x=⟨[ng],3,0⟩:=fun x a=>by
   unfold L3 at a
   simpa using a
  refine⟨by show 3<=_;omega,fun x a=>?_,fun x a=>?_,fun x a=>?_,fun x a c=>?_,fun i j x y ac g h k l=>?_⟩
  ·rcases d x a with rfl|rfl|rfl
   ·exact .inl rfl
   ·exact .inr (.inl rfl)
   ·exact .inr (.inr rfl)
  ·rcases d x a with rfl|rfl|rfl
   ·show 2<=100;omega
   ·show 4<=100;omega
   ·show 2<=100;omega
  ·rcases d x a with rfl|rfl|rfl<;>(show 0<60;omega)
  ·rcases d x a with rfl|rfl|rfl
   ·cases c
   ·show(C ((0:Nat):Int)).size<=1280;rw[show C ((0:Nat):Int)=s6 from m];show 6<=1280;omega
   ·cases c
  ·have hl:L3.length=3:=rfl;have a1:=(List.getElem?_eq_some_iff.1 g).1;have a2:=(List.getElem?_eq_some_iff.1 h).1;have ab:i=1:=by
    have:i=0\/i=1\/i=2:=by omega
    rcases this with rfl|rfl|rfl
    ·cases g;cases k
    ·rfl
    ·cases g;cases k
   have ad:j=1:=by
    have:j=0\/j=1\/j=2:=by omega
    rcases this with rfl|rfl|rfl
    ·cases h;cases l
    ·rfl
    ·cases h;cases l
   omega
 ·rw[all3 b]at e;unfold L3 at e;simp only[List.mem_cons,List.not_mem_nil,or_false]at e;rcases e with rfl|rfl|rfl
  ·cases c
  ·exact⟨r.a,r.l,r.c,ZiD b.si f,b.dat _ f⟩
  ·cases c
end
theorem syncX{i:Nat}{j w:World}{c tb a b nb:Nat}{I:LF}{C:IB}(h:XtI i j w c tb a b (G3 nb) I C)(ho:One I 6 2)(u:C 0=s6):
  Calls Tryz.prog 26 #[.pointer (some ⟨c,0,none⟩)] w fun e w'=>e = .returned (.int .i64 0)/\VolR w' c tb a b/\PS w' tb (G3 nb) I C/\Below i j w'/\KpX w w':=by
 refine syncV w c tb a b h.vol (fun w'=>VolR w' c tb a b/\PS w' tb (G3 nb) I C/\Below i j w'/\KpX w w') (fun w' q=>q.1) ?_;have d:XtI i j w.drew c tb a b (G3 nb) I C:=h.below (Below.refl _ _).drew;obtain⟨rd,V,E,vi,n⟩:=d.ps;obtain⟨s,vk,vf,y,vw,x,ps,ep,o,rfl,m,hC,h1,h2,h3,l,h5⟩:=d.st;obtain⟨l1,l2,v,l4⟩:=d.lo;refine(ZcK o m.ok m.part (tr3 n ho u) (by omega) (by omega) (by omega)).mono ?_;rintro e w' ⟨rfl,s',vk',ad,ac,ab,aa,g1,g2,g3,g4,g5,g6,g7,g⟩;have p:∀k t R,StO b a y vw x k->RowIs w.drew k t R->t=179\/t=204\/t=188\/t=207\/t=3:=fun k t R e f=>o.types e f
 have r:TW w' tb rd V E vi (G3 nb) I C:=n.fr g (fun e=>by have:=(l 0 e).1;omega) (fun k t R e f=>by
  rcases p k t R e f with rfl|rfl|rfl|rfl|rfl<;>decide)
 exact⟨rfl,RowIs.fr d.vol g (fun e=>(l _ e).2 rfl),⟨rd,V,E,vi,r⟩,Uc d.bel g (fun k e=>(l k e).1) v,(KpX.below (Below.refl _ _).drew).trans (KpX.fr g (fun k t R e f=>by
  rcases p k t R e f with rfl|rfl|rfl|rfl|rfl<;>decide))⟩
theorem ZhL{w w':World}{e:Ending}(r:0<w.heap.size)(h:Zer w e w'):∃f tb b d,e = .returned (.pointer (some ⟨f,0,none⟩))/\XtI w.heap.size w w' f tb b d [] [] (fun _=>⟨#[]⟩):=by
 obtain⟨tb,w1,h1,i,h3,s,f,b,d,m,n,l,rfl,v,z,q3,A,B,q6,q7,q8,C,x,aa,j,y⟩:=h;have t:=i.size;have c:∀k,¬Own (.slice none 0 0) k:=fun k e=>by simp[Own,Value.ownBlock]at e
 have u:StK w' d b l ks0 m n (.slice none 0 0) (.slice none 0 0) [] []:=⟨z,A,fun k a e=>by
  obtain⟨_,o,p,q,_⟩:=j k a;rcases e with e|e|e|e|e
  ·exact o e
  ·exact p e
  ·exact q e
  ·exact c k e
  ·exact c k e⟩
 refine⟨f,tb,b,d,rfl,v,s,⟨ks0,l,m,n,_,_,[],[],u,rfl,Zn7,ks0_ck,Nat.le_refl _,Nat.zero_le _,Nat.zero_le _,fun k a=>?_,fun k a=>by have:=(j k a).1;omega⟩,i.trans (B.mono t),by omega,by omega,Nat.le_refl _,r⟩;rcases a with e|e|e|e|e
 ·exact⟨by omega,fun g=>x (g.symm.trans e)⟩
 ·exact⟨by omega,fun g=>C (g.symm.trans e)⟩
 ·have:=y k e;exact⟨by omega,this.2⟩
 ·exact absurd e (c k)
 ·exact absurd e (c k)
theorem XtI.lg{c:Nat}{g w:World}{f tb b d:Nat}(h:XtI c g w f tb b d [] [] (fun _=>⟨#[]⟩)):LgI 0 c g w f tb b d (fun _=>none) Km:=
 ⟨h.vol,⟨[],[],_,h.ps,SetT.empty⟩,h.st.mono (fun s e=>by
  subst e;exact⟨fun _=>⟨#[]⟩,[],⟨fun x a=>(by cases a),fun x a=>(by cases a),List.nodup_nil,List.nodup_nil,Nat.zero_le _,fun x a=>(by cases a),fun x a=>(by cases a)⟩,ZjN _⟩),h.bel,h.lo⟩
def Zeq(w:World)(e:Ending)(w':World):Prop:=∃vb tb db stb,e = .returned (.pointer (some ⟨vb,0,none⟩))/\LgI 0 w.heap.size w w' vb tb db stb (fun _=>none) Km
theorem Zio(w:World)(K:PkgOk w):Calls Tryz.prog 23 #[] w (Zeq w):=by
 have h0:0<w.heap.size:=by
  obtain⟨⟨m,hm⟩,_⟩:=K;exact World.block_lt_of_cell? _ _ hm
 have Z:Hid (Calls Tryz.prog 71 #[] w fun e X=>∃k:Nat,e = .returned (.pointer (some ⟨k,0,none⟩))/\Hid (Calls Tryz.prog 71 #[] X fun e Y=>∃d:Nat,e = .returned (.pointer (some ⟨d,0,none⟩))/\
   Hid (Calls Tryz.prog 58 #[.pointer (some ⟨d,0,none⟩),.string qa] Y fun e b=>e = .returned (.int .i64 0)/\∃f,(convert 59 59 (.slice (some ⟨b.heap.size,0,none⟩) 3 3)).run Tryz.prog (b.alloc (.cells #[.int .u8 120,.int .u8 121,.int .u8 122] 5)) = .ok (.slice (some ⟨b.heap.size,0,none⟩) 3 3) f/\
   Hid (Calls Tryz.prog 59 #[.pointer (some ⟨d,0,none⟩),.string qaf,.int .i64 3,.slice (some ⟨b.heap.size,0,none⟩) 3 3] f fun e y=>e = .returned (.int .i64 0)/\
   Hid (Calls Tryz.prog 55 #[.pointer (some ⟨d,0,none⟩),.string qaf,.int .i64 0,.int .i64 9] y fun e q=>∃x:Nat,e = .returned (.tuple #[.slice (some ⟨x,0,none⟩) 6 6,.int .i64 0])/\
   Hid (Calls Tryz.prog 61 #[.pointer (some ⟨d,0,none⟩),.string qaf,.string qg] q fun e z=>e = .returned (.int .i64 0)/\
   Hid (Calls Tryz.prog 63 #[.pointer (some ⟨d,0,none⟩),.string qa] z fun e A=>e = .returned (.int .i64 7)/\
   Hid (Calls Tryz.prog 57 #[.pointer (some ⟨d,0,none⟩),.string qg] A fun e h=>e = .returned (.tuple #[.agg #[.string ng,.bool false,.int .i64 6,.int .i64 2],.int .i64 0])/\∃l,h.alloc (.cells #[.string ng,.bool false,.int .i64 6,.int .i64 2] 112)=l/\
   Hid (Calls Tryz.prog 26 #[.pointer (some ⟨d,0,none⟩)] l fun e a=>e = .returned (.int .i64 0)/\a.cell? ⟨h.heap.size,2,none⟩=some (.int .i64 6)/\a.cell? ⟨h.heap.size,3,none⟩=some (.int .i64 2)/\(∀W,Below a.heap.size a W->(convert 59 9 (.slice (some ⟨x,0,none⟩) 6 6)).run Tryz.prog W = .ok (.string ⟨#[0,0,0,120,121,122]⟩) W)/\
   Hid (∀W,Below a.heap.size a W->Calls Tryz.prog 34 #[.pointer (some ⟨d,0,none⟩)] W fun e c=>e = .returned (.int .i64 1)/\Below W.heap.size W c/\Hid (Zeq w (.returned (.pointer (some ⟨k,0,none⟩))) c))))))))))):=by
  refine(Zfv w K).mono ?_;intro e X hX;obtain⟨k,tb,db,ao,rfl,o⟩:=ZhL h0 hX;refine⟨k,rfl,?_⟩;have aq:=o.bel.size;have al:PkgOk X:=by
   obtain⟨rd,V,E,vi,G⟩:=o.ps;exact G.pk
  refine(Zfv X al).mono ?_;intro e Y hY;obtain⟨d,tx,dx,sx,rfl,hx⟩:=ZhL (by omega) hY;refine⟨d,rfl,?_⟩;refine(mkX hx).mono ?_;rintro e b ⟨rfl,nb,D⟩;obtain⟨f,B⟩:∃f,f=b.alloc (.cells #[.int .u8 120,.int .u8 121,.int .u8 122] 5 (3,4)):=⟨_,rfl⟩;have b2:Below b.heap.size b f:=by rw[B];exact(Below.refl _ _).alloc (Nat.le_refl _) _
  refine⟨rfl,f,by rw[B];exact Lib.run_convert_bytes_const b 59 5 _ 3 3 Tryz.underlying59 Tryz.underlying5,?_⟩;have hh:f.heap[b.heap.size]?=some (.cells #[.int .u8 120,.int .u8 121,.int .u8 122] 5 (3,4)):=by
   rw[B];show(b.heap.push _)[b.heap.size]? = _;exact Array.getElem?_push_size
  have aj:∀j,f.cell? ⟨b.heap.size,j,none⟩=(Dc d3)[j]? := fun j=>by
   unfold World.cell?;rw[hh,show Dc d3=(#[Value.int .u8 120,.int .u8 121,.int .u8 122]:Array Value).toList from rfl,Array.getElem?_toList]
   rfl
  have am:RdB f (some ⟨b.heap.size,0,none⟩) 3 3 d3:=⟨rfl,(fun e=>by cases e),fun j v o=>⟨_,rfl,by
   rw[Addr.add_lit,Nat.zero_add,aj];exact o⟩⟩
  refine(wrX (D.below b2) _ 3 am).mono ?_;rintro e y ⟨rfl,I2,C2,r,ho,hc⟩;refine⟨rfl,?_⟩;refine(rdX' r ho hc).mono ?_;rintro e q ⟨x,rfl,hS,b4⟩;refine⟨x,rfl,?_⟩;have F:=r.below b4;refine(lnX F ho).mono ?_;rintro e z ⟨rfl,⟨I3,h5,t⟩,k5⟩;refine⟨rfl,?_⟩;refine(rmX h5 t).mono ?_;rintro e A ⟨rfl,h6,k6⟩;refine⟨rfl,?_⟩;refine(stX h6 t).mono ?_;rintro e h ⟨rfl,b7⟩;obtain⟨l,e8,x8,k8,z8,b8⟩:=De h [.string ng,.bool false,.int .i64 6,.int .i64 2] 112;refine⟨rfl,l,e8,?_⟩;have h8:=(h6.below b7).below b8;refine(syncX h8 t hc).mono ?_;rintro e a ⟨rfl,ac,ag,aa,k9⟩;have r9:=k9 _ _ _ x8 (.inr rfl);have ak:KpX q a:=((k5.trans k6).trans ((KpX.below b7).trans (KpX.below b8))).trans k9;have ah:∀W,Below a.heap.size a W->Sl W 5 1 (.slice (some ⟨x,0,none⟩) 6 6) 6 (Dc s6):=fun W i=>by
   refine⟨hS.1,?_⟩;rcases hS.2 with⟨e,_⟩|⟨g,af,L,e,hR,D,h2,r,F⟩
   ·cases e
   ·have ab:=ak _ _ _ hR (.inl rfl);exact .inr ⟨g,af,L,e,(i.block _ ab.lt).trans ab,D,h2,r,F⟩
  refine⟨rfl,(r9.cell 2).trans rfl,(r9.cell 3).trans rfl,fun W i=>UH (ah W i) rfl,fun W i=>?_⟩;obtain⟨rd,V,E,vi,G⟩:=ag;refine(usX (nb:=nb) (I:=I3) (C:=C2) (tb:=tx) ⟨dx,sx,(i.block _ (RowIs.lt ac)).trans ac⟩ ⟨rd,V,E,vi,G.below i (Nat.le_refl _)⟩ t).mono ?_;rintro e c ⟨rfl,s⟩;refine⟨rfl,s,k,tb,db,ao,rfl,?_⟩;have an:=aa.size;have ar:=i.size;exact o.lg.below (aa.trans ((i.mono an).trans (s.mono (by omega))))
 clear K h0;go_enter Tryz.func23,Tryz.ntmps23;go_upto_region 2 with(go_at_call 71;refine(Da Z).mono ?_;rintro e X ⟨k,rfl,N⟩);go_upto_region 3 with(go_at_call 71;refine(Da N).mono ?_;rintro e Y ⟨d,rfl,O⟩);clear Z N;go_upto_region 5 with fail;go_upto_region 6 with(go_at_call 58;refine(Da O).mono ?_;rintro e b ⟨rfl,f,ai,P⟩);clear O;go_upto_region 7 with(go_at_call 59;refine(Da P).mono ?_;rintro e y ⟨rfl,Q⟩);clear P;go_upto_region 8 with(go_at_call 55;refine(Da Q).mono ?_;rintro e q ⟨x,rfl,R⟩);clear Q;go_upto_region 9 with(go_at_call 61;refine(Da R).mono ?_;rintro e z ⟨rfl,S⟩);clear R;go_upto_region 10 with(go_at_call 63;refine(Da S).mono ?_;rintro e A ⟨rfl,T⟩);clear S;go_upto_region 11 with(go_at_call 57;refine(Da T).mono ?_;rintro e h ⟨rfl,l,ad,U⟩;have ae:=Db ad;clear ad);rw[show h.alloc (.cells #[.string ng,.bool false,.int .i64 6,.int .i64 2] 112)=l from Da ae];clear T;go_upto_region 12 with(go_at_call 26;refine(Da U).mono ?_;rintro e a ⟨rfl,c2,c3,J,M⟩);clear U;have n:Below a.heap.size a a:=Below.refl _ _;have ap:=J _ n;have HC:Hid (Calls Tryz.prog 34 #[.pointer (some ⟨d,0,none⟩)] a fun e c=>e = .returned (.int .i64 1)/\c.cell? ⟨h.heap.size,2,none⟩=some (.int .i64 6)/\c.cell? ⟨h.heap.size,3,none⟩=some (.int .i64 2)/\(convert 59 9 (.slice (some ⟨x,0,none⟩) 6 6)).run Tryz.prog c = .ok (.string ⟨#[0,0,0,120,121,122]⟩) c/\Hid (Zeq w (.returned (.pointer (some ⟨k,0,none⟩))) c)):=by
  refine(Da M _ n).mono ?_;rintro e c ⟨rfl,s,u⟩;have H:Below a.heap.size a c:=n.trans (s.mono n.size);exact⟨rfl,(H.cell (p:=⟨h.heap.size,2,none⟩) (World.block_lt_of_cell? _ _ c2)).trans c2,(H.cell (p:=⟨h.heap.size,3,none⟩) (World.block_lt_of_cell? _ _ c3)).trans c3,J c H,u⟩
 clear J M n ai;go_wp2_with (go_at_call 34;refine(Da HC).mono ?_;rintro e c ⟨rfl,g2,g3,gc,u⟩);go_ret;exact Da u
def VlW(w:World)(vb:Nat)(b:Nat->Option By):Prop:=∃tb G I CI,VolW w vb tb/\PS w tb G I CI/\SetT b G I CI
theorem VlW.below{w w':World}{e:Nat}{b:Nat->Option By}(h:VlW w e b)(a:Below w.heap.size w w'):VlW w' e b:=by
 obtain⟨tb,G,I,f,⟨d,s,c⟩,⟨j,V,E,k,g⟩,i⟩:=h;exact⟨tb,G,I,f,⟨d,s,(a.block _ (RowIs.lt c)).trans c⟩,⟨j,V,E,k,g.below a (Nat.le_refl _)⟩,i⟩
theorem LgI.vl{N g:Nat}{j w:World}{a tb d i:Nat}{b:Nat->Option By}{K:KS->Prop}(h:LgI N g j w a tb d i b K):VlW w a b:=by
 obtain⟨G,I,c,e,f⟩:=h.tr;exact⟨tb,G,I,c,h.vol.vol,e,f⟩
theorem KeptB.set{b:Nat->Option By}{C:NB}{es:LS}(o:∀x∈es,∃f:Nat,x.2=⟨none,(f:Int)⟩)(p:FlatL C (es.map itE))(q:∀x∈es,∃i,i<8/\x.1=fn i)(r:∀i,i<8->∀t,b i=some t->∃f:Nat,(fn i,(⟨none,(f:Int)⟩:VS))∈es/\C f=t)(s:∀i,i<8->b i=none->∀u,(fn i,u)∉es)
  {G:Gh} {I:LF} {l:IB} (h:TreeOf C (es.map itE) G I l):SetT b G I l:=by
 have k:=h.g;rw[List.map_map]at k;have m:∀x∈G,∃y∈es,x=([y.1],y.2):=fun x d=>by
  rw[k]at d;obtain⟨y,a,rfl⟩:=List.mem_map.1 d;obtain⟨f,v⟩:=o y a;refine⟨y,a,?_⟩;show([y.1],(⟨none,((y.2.f.toNat:Nat):Int)⟩:VS))=([y.1],y.2);rw[v];simp
 refine⟨h.flt p,fun x d=>?_,fun i c t j=>?_,fun i c j u w=>?_⟩
 ·obtain⟨y,a,rfl⟩:=m x d;obtain⟨i,c,e⟩:=q y a;exact⟨i,c,by show [y.1]=_;rw[e]⟩
 ·obtain⟨f,n,z⟩:=r i c t j;refine⟨f,?_,?_⟩
  ·rw[k];exact List.mem_map.2 ⟨_,n,rfl⟩
  ·have:=h.c (itE (fn i,⟨none,(f:Int)⟩)) (List.mem_map.2 ⟨_,n,rfl⟩);rw[<-z];exact this
 ·obtain⟨y,a,e⟩:=m _ w;rw[Prod.mk.injEq]at e;have g:=e.1;injection g with g;refine s i c j y.2 ?_;rw[g];exact a
theorem openL{s:KS}(i:InvS s)(v:InvC s)(L:s.tn+1<18446744073709551616){b:Nat->Option By}(z:KeptB b s)(w:World)(a:OA)(l c:Nat)(h:Sl w 5 1 (.slice a l c) (JP s.D).size (Dc (JP s.D)))(u:∀x∈s.D,x.size=64)(n:PkgOk w):
  Calls Tryz.prog 27 #[.slice a l c] w fun e w'=>∃d,e = .returned (.tuple #[.pointer (some ⟨d,0,none⟩),.int .i64 0])/\VlW w' d b/\Below w.heap.size w w':=by
 obtain⟨C,es,M,o,p,N,O,P,Q⟩:=z;refine openV w a l c (fun w' d=>VlW w' d b/\Below w.heap.size w w') ?_;refine(ZnV w a l c s.D h i.ok.dl u).mono ?_;rintro e X ⟨g,U,r,R,t,rfl,y,K,ab,ac,f⟩;refine⟨g,rfl,?_⟩;have h0:0<w.heap.size:=by
  obtain⟨⟨m,J⟩,_⟩:=n;exact World.block_lt_of_cell? _ _ J
 refine(Zhs i v L M o p N X g U r R t y K (n.fr (Fr.of_below f) (X:=fun _=>False) (fun e=>e))).mono ?_;rintro e Y ⟨T,tb,va,rfl,_,⟨G,I,q,A,D⟩,j,_,_,_⟩;refine⟨T,tb,rfl,fun Z F k=>?_⟩;have H:=f.size;have aa:=j.size;refine⟨⟨tb,G,I,q,F.vol,?_,KeptB.set o p O P Q D⟩,f.trans ((j.mono H).trans (k.mono (by omega)))⟩;obtain⟨S,V,E,W,B⟩:=A;exact⟨S,V,E,W,B.below k (Nat.le_refl _)⟩
theorem Zir(w:World)(a:OA)(l c:Nat)(s:By)(h:RdB w a l c s)(n:Nat):
  ∀W:World,W.ownsRow 0 5 1 (.slice (some ⟨w.heap.size,0,none⟩) n n) n (madeCells (Value.int .u8 0).cells (n*1)).toList->w.grownBy W none->∃f k,(Builtin.copy_ #[59,59] 3 #[.slice (some ⟨w.heap.size,0,none⟩) n n,.slice a l c]).run Tryz.prog W = .ok (goInt k) f/\Hid (Sl f 5 1 (.slice (some ⟨w.heap.size,0,none⟩) n n) n (Dc (Di s n))/\Below w.heap.size w f):=by
 intro W F I;have m:=Sl.of_owns F;have i:=KI I;have z:(madeCells (Value.int .u8 0).cells (n*1)).toList=List.replicate n (.int .u8 0):=by rw[Nat.mul_one];exact toList_madeCells_one (.int .u8 0) n
 rw[z]at m;have K:=h.below i
 cases a with
 | none=>
  have r:s.size=0:=by
   rcases Nat.eq_zero_or_pos s.size with e|e
   ·exact e
   ·obtain⟨x,N,_⟩:=h.2.2 0 ((Dc s)[0]'(by rw[Dg];exact e)) (List.getElem?_eq_getElem _)
    cases N
  have J:l=0:=by rw[h.1,r]
  have G:=h.2.1 rfl;subst J G;refine⟨W,0,ZgO W _ _ _,?_,i⟩;have:Dc (Di s n)=List.replicate n (.int .u8 0):=by
   have M:s=⟨#[]⟩:=by
    apply WideShapes.bytes_inj;have:s.data.toList.length=0:=by rw[<-r];exact Array.length_toList
    rw[List.eq_nil_of_length_eq_zero this]
   unfold Di;by_cases t:n<=s.size
   ·rw[if_pos t];have:n=0:=by omega
    subst this;rw[Jk];simp
   ·rw[if_neg t,Jt,Ko,r,M];simp[Dc]
  rw[this];exact m
 | some x=>
  rcases m.2 with⟨e,_⟩|⟨g,aa,L,e,E,h1,A,B,C⟩
  ·cases e
  ·cases e
   have D:L=List.replicate n (.int .u8 0):=by
    rw[<-C,List.take_of_length_le (by omega)]
   have o:((Dc s).take (Nat.min l n)).length=Nat.min l n*1:=by
    rw[List.length_take,Dg,h.1,Nat.mul_one];exact Nat.min_eq_left (Nat.min_le_left _ _)
   obtain⟨f,Q,u,R⟩:=JH (P:=Tryz.prog) W 59 59 3 5 1 w.heap.size 0 n n x l c L 5 ((Dc s).take (Nat.min l n)) Tryz.underlying59 QP E o
    (fun j v d=>by
     rw[List.getElem?_take]at d
     split at d
     ·obtain⟨y,e,O⟩:=K.2.2 j v d;cases e;exact O
     ·cases d) (by rw[o,B];have:Nat.min l n<=n:=Nat.min_le_right _ _;omega) (fun v d=>Kc s v (List.mem_of_mem_take d))
   refine⟨f,_,Q,?_,?_⟩
   ·have H:spl L 0 ((Dc s).take (Nat.min l n))=Dc (Di s n):=by
     unfold spl;rw[o,D,List.take_zero,List.nil_append,Nat.zero_add,Nat.mul_one,List.drop_replicate];unfold Di;by_cases q:n<=s.size
     ·have p:Nat.min l n=n:=by rw[h.1];exact Nat.min_eq_right q
      rw[if_pos q,Jk,p];simp
     ·have p:Nat.min l n=s.size:=by rw[h.1];exact Nat.min_eq_left (by omega)
      rw[if_neg q,Jt,Ko,p,List.take_of_length_le (by rw[Dg];exact Nat.le_refl _)]
    rw[H]at u;refine⟨by rw[Dg,Ja];omega,.inr ⟨w.heap.size,n,_,rfl,u,Nat.le_refl _,A,by rw[Dg,Ja];omega,by rw[List.take_of_length_le (by rw[Dg,Ja];omega)]⟩⟩
   ·exact i.grown R i.size (fun k e=>by cases e;exact Nat.le_refl _)
theorem ZeB(w:World)(a:OA)(l c:Nat)(s:By)(h:RdB w a l c s)(n:Nat)(W:World)(m:W.ownsRow 0 5 1 (.slice (some ⟨w.heap.size,0,none⟩) n n) n (madeCells (Value.int .u8 0).cells (n*1)).toList)(o:w.grownBy W none):
  ∃d k,(Builtin.copy_ #[59,59] 3 #[.slice (some ⟨w.heap.size,0,none⟩) n n,.slice a l c]).run Tryz.prog W = .ok (goInt k) d/\RowIs d w.heap.size 5 (Dc (Di s n))/\Below w.heap.size w d:=by
 obtain⟨d,k,p,i⟩:=Zir w a l c s h n W m o;refine⟨d,k,p,?_,(Da i).2⟩;rcases (Da i).1.2 with⟨e,_⟩|⟨g,aa,L,e,j,h1,h2,h3,f⟩
 ·cases e
 ·simp only[Value.slice.injEq,Option.some.injEq,Addr.mk.injEq]at e;obtain⟨⟨rfl,-,-⟩,-,rfl⟩:=e;rw[List.take_of_length_le (by omega)]at f;rw[<-f];exact j
theorem Zf9(s:By):Di s s.size=s:=by
 unfold Di;rw[if_pos (Nat.le_refl _)];apply WideShapes.bytes_inj;rw[Lib.extract_data,List.drop_zero,Nat.sub_zero];exact List.take_of_length_le (Nat.le_of_eq Array.length_toList)
theorem Zmp(s d:By)(p m:Nat)(hm:m=max s.size (p+d.size)):spl (Dc (Di s m)) p (Dc d)=Dc (wrR s p d):=by
 unfold spl wrR;rw[Jt,Jt,Dg];by_cases h:p+d.size<=s.size
 ·rw[show m=s.size by omega,Zf9];have a:(Dc s).take p=Dc (Di s p):=by
   unfold Di;rw[if_pos (by omega),Jk,List.drop_zero,Nat.sub_zero]
  rw[a]
  congr 1
  split
  ·rw[Jk,List.take_of_length_le (by rw[List.length_drop,Dg];exact Nat.le_refl _)]
  ·rw[List.drop_of_length_le (by rw[Dg];omega)];rfl
 ·have aa:m=p+d.size:=by omega
  have e:Dc (Di s m)=Dc s++List.replicate (m-s.size) (.int .u8 0):=by
   unfold Di;rw[if_neg (by omega),Jt,Ko]
  rw[e,if_neg (by omega)];have a:(Dc s++List.replicate (m-s.size) (Value.int .u8 0)).take p=Dc (Di s p):=by
   unfold Di;by_cases c:p<=s.size
   ·rw[if_pos c,Jk,List.drop_zero,Nat.sub_zero,List.take_append_of_le_length (by rw[Dg];exact c)]
   ·rw[if_neg c,Jt,Ko,List.take_append,List.take_of_length_le (by rw[Dg];omega),Dg,List.take_replicate]
    congr 2
    omega
  rw[a,List.drop_of_length_le (by rw[List.length_append,Dg,List.length_replicate];omega)]
  rfl
def FileW(w:World)(o:Option By)(v:Value):Prop:=(o=none/\v = .slice none 0 0)\/∃s g,o=some s/\v = .slice (some ⟨g,0,none⟩) s.size s.size/\RowIs w g 5 (Dc s)
structure SetW(n0:Nat)(w:World)(sb:Nat)(b:Nat->Option By)(vs:NV):Prop where
 row:RowIs w sb 62 ((List.range 8).map vs)
 at':∀i,i<8->FileW w (b i) (vs i)
 lo:n0<=sb
theorem FileW.kp{w w':World}{o:Option By}{v:Value}(h:FileW w o v)(e:Kp62 w w'):FileW w' o v:=by
 rcases h with h|⟨s,g,a,c,d⟩
 ·exact .inl h
 ·exact .inr ⟨s,g,a,c,e g 5 _ d (.inr rfl)⟩
theorem FileW.rd{w:World}{o:Option By}{v:Value}(h:FileW w o v):∃a l c,v = .slice a l c/\RdB w a l c (o.getD ⟨#[]⟩):=by
 rcases h with⟨rfl,rfl⟩|⟨s,g,rfl,rfl,f⟩
 ·exact⟨none,0,0,rfl,rfl,fun _=>rfl,fun j v d=>by simp[Dc]at d⟩
 ·refine⟨_,_,_,rfl,rfl,(fun e=>by cases e),fun j v d=>⟨_,rfl,?_⟩⟩;rw[Addr.add_lit,Nat.zero_add,f.cell];exact d
section
variable{n0:Nat}{w w':World}{sb:Nat}{b:Nat->Option By}{vs:NV}
theorem SetW.kp(h:SetW n0 w sb b vs)(a:Kp62 w w'):SetW n0 w' sb b vs:=⟨a sb 62 _ h.row (.inl rfl),fun i c=>(h.at' i c).kp a,h.lo⟩
theorem SetW.cell(h:SetW n0 w sb b vs){i:Nat}(a:i<8):w.cell? ⟨sb,i,none⟩=some (vs i):=by
 rw[h.row.cell,List.getElem?_map,List.getElem?_range a];rfl
theorem SetW.set(h:SetW n0 w sb b vs){i:Nat}(m:i<8){o:Option By}{v:Value}(x:FileW w o v):SetW n0 (w.setCell ⟨sb,i,none⟩ v) sb (JJ b i o) (fun j=>if j=i then v else vs j):=by
 have r:∀g L,RowIs w g 5 L->RowIs (w.setCell ⟨sb,i,none⟩ v) g 5 L:=fun g L l=>by
  have t:g≠sb:=fun e=>by
   subst e;have:=l.type h.row
   revert this;decide
  exact l.fr ((Fr.of_below (X:=fun k=>k=sb) (Below.refl _ _)).set ⟨sb,i,none⟩ v rfl) t
 have f:∀{o:Option By} {u:Value},FileW w o u->FileW (w.setCell ⟨sb,i,none⟩ v) o u:=fun d=>by
  rcases d with d|⟨s,g,n,p,q⟩
  ·exact .inl d
  ·exact .inr ⟨s,g,n,p,r g _ q⟩
 refine⟨?_,fun j a=>?_,h.lo⟩
 ·have:=h.row.set i v;have e:((List.range 8).map vs).set i v=(List.range 8).map (fun j=>if j=i then v else vs j):=by
   apply List.ext_getElem?;intro j;rw[List.getElem?_set,List.getElem?_map,List.getElem?_map,List.length_map,List.length_range];by_cases c:i=j
   ·subst c;rw[if_pos rfl,if_pos m,List.getElem?_range m];simp
   ·rw[if_neg c];by_cases a:j<8
    ·rw[List.getElem?_range a];simp[show ¬j=i from fun e=>c e.symm]
    ·rw[List.getElem?_eq_none (by rw[List.length_range];omega)]
     rfl
  rw[e]at this;exact this
 ·show FileW _ (if j=i then o else b j) (if j=i then v else vs j)
  split
  ·exact f x
  ·exact f (h.at' j a)
theorem LgI.setS{N:Nat}{j:World}{g tb c f:Nat}{K:KS->Prop}{a:Nat->Option By}(h:LgI N n0 j w g tb c f a K)(d:SetW n0 w sb b vs)(i:Nat)(v:Value):LgI N n0 j (w.setCell ⟨sb,i,none⟩ v) g tb c f a K:=by
 refine h.fr62 (X:=fun k=>k=sb) ?_ (fun k t R e l=>?_) (fun k e=>by rw[e];exact d.lo)
 ·exact(Fr.of_below (Below.refl _ _)).set ⟨sb,i,none⟩ v rfl
 ·subst e;exact l.type d.row
end
def JA(b:Nat->Option By):Nat->Nat
 | 0=>0
 | k+1=>JA b k+if (b k).isSome=true then 1 else 0
def JN(b:Nat->Option By):Nat->Nat
 | 0=>0
 | k+1=>JN b k+if (b k).isSome=true then (((b k).getD ⟨#[]⟩).size+63)/64 else 0
def idB(b:Nat->Option By)(k:Nat):List Nat:=(List.range k).filter (fun i=>(b i).isSome)
theorem Zlo(b:Nat->Option By):∀k,(idB b k).length=JA b k
 | 0=>rfl
 | k+1=>by
  unfold idB JA;rw[List.range_succ,List.filter_append,List.length_append,<-Zlo b k];unfold idB
  cases h:(b k).isSome<;>simp[h]
theorem Zln(b:Nat->Option By):∀k,((idB b k).map (fun i=>(((b i).getD ⟨#[]⟩).size+63)/64)).sum=JN b k
 | 0=>rfl
 | k+1=>by
  unfold idB JN;rw[List.range_succ,List.filter_append,List.map_append,List.sum_append,<-Zln b k];unfold idB
  cases h:(b k).isSome<;>simp[h]
theorem ZlL(b:Nat->Option By):∀k,JA b k<=k
 | 0=>Nat.le_refl _
 | k+1=>by
  have:=ZlL b k;unfold JA
  split<;>omega
section
variable{b:Nat->Option By}{G:Gh}{I:LF}{CI:IB}
def enB(G:Gh)(i:Nat):LY×VS:=([fn i],(atG G [fn i]).getD ⟨none,0⟩)
theorem SetT.perm(h:SetT b G I CI):List.Perm ((idB b 8).map (enB G)) G:=by
 have q:∀{l:List (LY×VS)},(l.map (·.1)).Nodup->l.Nodup:=fun {l} p=>by
  rw[List.nodup_iff_pairwise_ne,List.pairwise_map]at p;rw[List.nodup_iff_pairwise_ne];exact p.imp (fun {a b} t e=>t (by rw[e]))
 have n:∀i,i∈idB b 8->i<8/\∃s,b i=some s:=fun i c=>by
  obtain⟨d,r⟩:=List.mem_filter.1 c;exact⟨List.mem_range.1 d,Option.isSome_iff_exists.1 r⟩
 refine(List.perm_ext_iff_of_nodup (q ?_) (q h.fl.nd)).2 (fun x=>?_)
 ·rw[List.map_map,List.nodup_iff_pairwise_ne,List.pairwise_map];have:(idB b 8).Nodup:=List.nodup_range.filter _;rw[List.nodup_iff_pairwise_ne]at this;refine this.imp_of_mem (fun {i j} c v u e=>u ?_);have m:[fn i]=[fn j]:=e;injection m with m;exact Uw (n i c).1 (n j v).1 m
 ·constructor
  ·intro k;obtain⟨i,c,rfl⟩:=List.mem_map.1 k;obtain⟨g,s,y⟩:=n i c;obtain⟨f,d,_⟩:=h.yes i g s y;unfold enB;rw[KW h.fl.nd d];exact d
  ·intro k;obtain⟨i,g,e⟩:=h.nm x k;have o:(x.1,x.2)∈G:=k;rw[e]at o;refine List.mem_map.2 ⟨i,List.mem_filter.2 ⟨List.mem_range.2 g,?_⟩,?_⟩
   ·cases hb:b i with
    | none=>exact absurd o (h.no i g hb _)
    | some s=>rfl
   ·unfold enB;rw[KW h.fl.nd o];exact Prod.ext e.symm rfl
theorem SetT.glen(h:SetT b G I CI):G.length=JA b 8:=by
 have:=h.perm.length_eq;rw[List.length_map,Zlo]at this;exact this.symm
theorem SetT.usage(h:SetT b G I CI)(t:SrtI I):DP (I.map (·.2.l))=JN b 8:=by
 have v:List.Perm (I.map (·.1)) (G.map (fun y=>y.2.f)):=by
  refine(List.perm_ext_iff_of_nodup t.nd ?_).2 (fun f=>?_)
  ·rw[List.nodup_iff_pairwise_ne,List.pairwise_map];have j:=h.fl.nd;rw[List.nodup_iff_pairwise_ne,List.pairwise_map]at j;refine j.imp_of_mem (fun {x y} a c u e=>u ?_);rw[h.fl.inj x a y c e]
  ·constructor
   ·intro d;obtain⟨x,a,rfl⟩:=List.mem_map.1 d;obtain⟨_,_,y,c,e⟩:=h.fl.back x a;exact List.mem_map.2 ⟨y,c,e⟩
   ·intro d;obtain⟨y,c,rfl⟩:=List.mem_map.1 d;obtain⟨r,q⟩:=h.fl.num y c;exact List.mem_map.2 ⟨_,q,rfl⟩
 have k:DP (I.map (·.2.l))=((I.map (·.1)).map (fun f=>((CI f).size+63)/64)).sum:=by
  unfold DP;rw[List.map_map,List.map_map]
  congr 1
  refine List.map_congr_left (fun x a=>?_);show(x.2.l+63)/64=((CI x.1).size+63)/64;rw[(h.fl.back x a).2.1]
 rw[k,(v.map _).sum_nat,List.map_map,<-(h.perm.map _).sum_nat,List.map_map,<-Zln]
 congr 1
 refine List.map_congr_left (fun i p=>?_);obtain⟨n,o⟩:=List.mem_filter.1 p;obtain⟨s,g⟩:=Option.isSome_iff_exists.1 o;obtain⟨f,l,m⟩:=h.yes i (List.mem_range.1 n) s g;show((CI (enB G i).2.f).size+63)/64=_;unfold enB;rw[KW h.fl.nd l,g];show((CI (f:Int)).size+63)/64=_;rw[m];rfl
theorem SetT.elen(h:SetT b G I CI){w:World}{tb c:Nat}{V:NV}{E:NS}{p:Value}(g:TW w tb c V E p G I CI):(E c).length=JA b 8:=by
 have j:IsDir G c [] c := .inl ⟨rfl,rfl⟩;have k:=(g.d.srt [] c j).nodup;have m:=Qe ((E c).map (fun x=>([x.1],x.2))) G (by
  rw[List.nodup_iff_pairwise_ne,List.pairwise_map]at k ⊢;refine k.imp (fun {a b} l e=>l ?_);rw[Prod.mk.injEq]at e;have:=e.1;injection this) (fun x i=>by
  obtain⟨y,d,rfl⟩:=List.mem_map.1 i;exact(h.fl.root g d).1)
 have o:=Qe (G.map (·.1)) ((E c).map (fun x=>[x.1])) h.fl.nd (fun x i=>by
  obtain⟨y,d,rfl⟩:=List.mem_map.1 i;obtain⟨n,f,rfl,_⟩:=h.fl.fil y d;exact List.mem_map.2 ⟨_,(g.d.en [] c j n _).2 d,rfl⟩)
 rw[List.length_map]at m;rw[List.length_map,List.length_map]at o;have:=h.glen;omega
end
section
variable{w:World}{vb:Nat}{b:Nat->Option By}
def ReadL(w:World)(o:Option By)(e:Ending)(w':World):Prop:=
 ((o=none/\e = .returned (.tuple #[.slice none 0 0,.int .i64 3]))\/∃s x,o=some s/\e = .returned (.tuple #[.slice (some ⟨x,0,none⟩) s.size s.size,.int .i64 0])/\Sl w' 5 1 (.slice (some ⟨x,0,none⟩) s.size s.size) s.size (Dc s))/\Below w.heap.size w w'
theorem ZmL(s:By)(h:s.size<=1280):cutR s 0 1280=s:=by
 unfold cutR;have a:min (0:Int).toNat s.size=0:=by simp
 have c:min (1280:Int).toNat (s.size-0)=s.size:=by show min 1280 _=_;omega
 rw[a,c,Nat.zero_add];apply WideShapes.bytes_inj;rw[Lib.extract_data,List.drop_zero,Nat.sub_zero];exact List.take_of_length_le (Nat.le_of_eq Array.length_toList)
theorem readL(h:VlW w vb b){i:Nat}(j:i<8):Calls Tryz.prog 55 #[.pointer (some ⟨vb,0,none⟩),.string (pth i),.int .i64 0,.int .i64 1280] w (ReadL w (b i)):=by
 obtain⟨tb,G,I,CI,F,⟨J,V,E,K,o⟩,a⟩:=h;have ab:=a.fl.le;have ac:=a.fl.ilen o.si;have r:∀e w',Qj w G CI (pth i) 0 1280 e w'->ReadL w (b i) e w':=by
  rintro e w' ⟨q,y⟩;refine⟨?_,y⟩;have k:rdE G (pth i) 0 1280=DG G (pth i) true:=rfl
  cases hbi:b i with
  | none=>
   have n:=a.nofile j hbi;rcases q with⟨_,rfl⟩|⟨c,_⟩
   ·refine .inl ⟨rfl,?_⟩;rw[k,n]
   ·rw[k,n]at c;cases c
  | some s=>
   have c:=a.file j hbi;obtain⟨f,t,v,l⟩:=a.at j hbi;rcases q with⟨B,_⟩|⟨_,u,p,_,x,m,rfl,_,d⟩
   ·exact absurd (k.trans c) B
   ·rw[t]at p
    cases p
    have D:s.size<=1280:=by have:=a.fl.sz _ v;rw[<-l];exact this
    have z:CI (f:Int)=s:=l;rw[show CI (VS.mk none (f:Int)).f=s from z,ZmL s D]at d;have A:m=s.size:=by
     rcases d.2 with⟨e,_⟩|⟨g,aa,L,e,_,_,_,_,h4⟩
     ·cases e
     ·have:=d.1;rw[Dg]at this;omega
    subst A;exact .inr ⟨s,x,rfl,rfl,d⟩
 exact(readV w vb tb F (pth i) 0 1280 (Qj w G CI (pth i) 0 1280) (fun e w' C=>by
  rcases (r e w' C).1 with⟨_,rfl⟩|⟨s,x,_,rfl,_⟩
  ·exact⟨_,_,_,_,rfl⟩
  ·exact⟨_,_,_,_,rfl⟩) (Zf2 w tb J V E K G I CI o a.fl.gok (by omega) (by omega) a.fl.flok (fun x H=>(a.fl.csz H).1) (pth i) (by have:=(J7 j).2.2;omega) 0 1280 (by omega) (by omega))).mono r
theorem usageL(h:VlW w vb b):Calls Tryz.prog 34 #[.pointer (some ⟨vb,0,none⟩)] w fun e w'=>e = .returned (.int .i64 (JN b 8:Nat))/\Below w.heap.size w w':=by
 obtain⟨tb,G,I,CI,f,⟨rd,V,E,i,a⟩,c⟩:=h;have aa:=c.fl.le;have ab:=c.fl.ilen a.si;refine Znb w vb tb f _ (fun e w' d=>⟨_,d.1⟩) ?_;rw[<-c.usage a.si];exact Zd4 w tb _ i I a.t a.i (by omega) (fun x g=>by have:=(c.fl.csz g).2.1;omega)
theorem listL(h:VlW w vb b):Calls Tryz.prog 56 #[.pointer (some ⟨vb,0,none⟩),.string ⟨#[47]⟩] w fun e w'=>(∃a c,e = .returned (.tuple #[.slice a (JA b 8) c,.int .i64 0]))/\Below w.heap.size w w':=by
 obtain⟨tb,G,I,CI,t,⟨f,V,E,u,i⟩,d⟩:=h;have ab:=d.fl.le;have ac:=d.fl.ilen i.si;have j:Df ⟨#[47]⟩=[]:=by kernel_rfl
 have q:DR ⟨#[47]⟩=true:=by kernel_rfl
 have s:thE G ⟨#[47]⟩=0:=by
  unfold thE DI;rw[q,j]
  rfl
 have k:∀e w',Zl1 w G I (Df ⟨#[47]⟩) (E f) e w'->(∃a c,e = .returned (.tuple #[.slice a (JA b 8) c,.int .i64 0]))/\Below w.heap.size w w':=by
  rintro e w' ⟨⟨a,n,c,es,rfl,l,m⟩,o⟩;refine⟨?_,o⟩;have p:n=JA b 8:=by
   rw[<-d.elen i,<-m.1];rcases l.2 with⟨e,h0⟩|⟨g,aa,L,e,_⟩
   ·simp only[Value.slice.injEq]at e;omega
   ·simp only[Value.slice.injEq]at e;exact e.2.1
  subst p;exact⟨a,c,rfl⟩
 exact(listV w vb tb t ⟨#[47]⟩ (Zl1 w G I (Df ⟨#[47]⟩) (E f)) (fun e w' r=>by
  obtain⟨⟨a,c,rfl⟩,_⟩:=k e w' r;exact⟨_,_,_,_,rfl⟩) (ZjK w tb f V E u G I CI i d.fl.gok (by omega) (by omega) d.fl.flok ⟨#[47]⟩ (by show 1<=_;omega) s f (.inl ⟨j,rfl⟩) (.inl j))).mono k
end
theorem Zkl{b:Nat->Option By}(h:∀i,i<8->((b i).getD ⟨#[]⟩).size<=1280):∀k,k<=8->JN b k<=20*k
 | 0,_=>Nat.le_refl _
 | k+1,hk=>by
  have ih:=Zkl h k (by omega);have:=h k (by omega);unfold JN
  split<;>omega
theorem VlW.sizes{w:World}{g:Nat}{b:Nat->Option By}(h:VlW w g b){i:Nat}(e:i<8):((b i).getD ⟨#[]⟩).size<=1280:=by
 obtain⟨tb,G,I,CI,_,_,a⟩:=h
 cases hb:b i with
 | none=>show 0<=1280;omega
 | some s=>
  obtain⟨f,c,d⟩:=a.yes i e s hb;have:=a.fl.sz _ c;show s.size<=1280;rw[<-d];exact this
theorem Zlw(w:World):(binOp .eql 59 (.slice none 0 0) (.slice none 0 0)).run Tryz.prog w = .ok (.bool true) w:=Lib.run_eql_slice_nil w 59 5 none 0 0 0 0 Tryz.underlying59
theorem ZjY(a:Addr)(l c:Nat)(w:World):(binOp .eql 59 (.slice (some a) l c) (.slice none 0 0)).run Tryz.prog w = .ok (.bool false) w:=Lib.run_eql_slice_nil w 59 5 (some a) l c 0 0 Tryz.underlying59
theorem Zge{S:Nat}{w:World}{r q:Nat}{b:Nat->Option By}{vs:NV}(h:VlW w r b)(I:SetW S w q b vs):
  Calls Tryz.prog 29 #[.pointer (some ⟨q,0,none⟩),.pointer (some ⟨r,0,none⟩)] w fun e w'=>e = .returned (.bool true)/\Below w.heap.size w w':=by
 have C:Hid (∀i,i<8->((b i).getD ⟨#[]⟩).size<=1280):=fun i R=>h.sizes R
 have E:=Db I;have N:=Db h;clear h I;have ac:=Zlw;have ad:=ZjY;go_enter Tryz.func29,Tryz.ntmps29;go_wp2
 go_loopw [5,6,7] (fun n T i wr=>∃k:Nat,k<=8/\n = .int .i64 (JA b k:Nat)/\T = .int .i64 (JN b k:Nat)/\i = .int .i64 k/\Hid (Below w.heap.size w wr)) (fun _ _ i _=>8-(intOf i).toNat)
 case atStart=>exact⟨0,by omega,rfl,rfl,rfl,Below.refl _ _⟩
 case round=>
  obtain⟨k,A,rfl,rfl,rfl,l⟩:=hrel;have o:=(Da N).below (Da l);have J:=(Da E).kp (Kp62.below (Da l));have af:=Zkl (Da C) k A;have aa:=ZlL b k;by_cases j:k<8
  ·have ab:(k:Int)<8:=by omega
   have M:Hid (Calls Tryz.prog 72 #[.int .i64 k] wr fun e X=>e = .returned (.string (pth k))/\Hid (Calls Tryz.prog 55 #[.pointer (some ⟨r,0,none⟩),.string (pth k),.int .i64 0,.int .i64 1280] X fun e Y=>Hid (Below w.heap.size w Y)/\((b k=none/\e = .returned (.tuple #[.slice none 0 0,.int .i64 3])/\Y.cell? ⟨q,k,none⟩=some (.slice none 0 0))\/∃s x g,b k=some s/\e = .returned (.tuple #[.slice (some ⟨x,0,none⟩) s.size s.size,.int .i64 0])/\Y.cell? ⟨q,k,none⟩=some (.slice (some ⟨g,0,none⟩) s.size s.size)/\(convert 59 9 (.slice (some ⟨x,0,none⟩) s.size s.size)).run Tryz.prog Y.drew = .ok (.string s) Y.drew/\(convert 59 9 (.slice (some ⟨g,0,none⟩) s.size s.size)).run Tryz.prog Y.drew = .ok (.string s) Y.drew))):=by
    refine(Vh wr k j).mono ?_;rintro e X ⟨rfl,m⟩;refine⟨rfl,?_⟩;refine(readL (o.below m) j).mono ?_;rintro e Y ⟨Q,z⟩;have p:Below w.heap.size w X:=(Da l).trans (m.mono (Da l).size);have K:Below w.heap.size w Y:=p.trans (z.mono p.size);have B:=(Da E).kp (Kp62.below K);refine⟨K,?_⟩;have F:=B.cell j;rcases Q with⟨d,rfl⟩|⟨s,x,d,rfl,P⟩
    ·rcases B.at' k j with⟨_,D⟩|⟨s,g,f,_⟩
     ·exact .inl ⟨d,rfl,by rw[<-D];exact F⟩
     ·rw[d]at f;cases f
    ·rcases B.at' k j with⟨f,_⟩|⟨s',g,f,D,H⟩
     ·rw[d]at f;cases f
     ·rw[d]at f
      cases f
      have G:Below Y.heap.size Y Y.drew:=(Below.refl _ _).drew;refine .inr ⟨s,x,g,d,rfl,by rw[<-D];exact F,UH (P.kept (fun k A _=>G.block k A)) rfl,UH ⟨by rw[Dg,Nat.mul_one],.inr ⟨g,s.size,_,rfl,(G.block _ H.lt).trans H,Nat.le_refl _,?_,by rw[Dg,Nat.mul_one],by rw[List.take_of_length_le (by rw[Dg];omega)]⟩⟩ rfl⟩;have:=Da C k j;rw[d]at this;have h2:s.size<=1280:=this;unfold maxLen;omega
   clear o J;go_upto_region 9 with(first|(go_at_call 72;refine(Da M).mono ?_;rintro e X ⟨rfl,u⟩)|(go_at_call 55;refine(Da u).mono ?_;rintro e Y ⟨t,⟨d,rfl,O⟩|⟨s,x,g,d,rfl,O,v1,v2⟩⟩))
   ·have v:JA b (k+1)=JA b k:=by
     show JA b k+(if (b k).isSome=true then 1 else 0)=_;rw[d];rfl
    have y:JN b (k+1)=JN b k:=by
     show JN b k+(if (b k).isSome=true then _ else 0)=_;rw[d];rfl
    go_wp2
    go_roundw
    case rel=>exact⟨k+1,by omega,by rw[v],by rw[y],by go_num,t⟩
    case measure=>simp[intOf];omega
   ·have ae:s.size<=1280:=by
     have:=Da C k j;rw[d]at this;exact this
    have v:JA b (k+1)=JA b k+1:=by
     show JA b k+(if (b k).isSome=true then 1 else 0)=_;rw[d];rfl
    have y:JN b (k+1)=JN b k+(s.size+63)/64:=by
     show JN b k+(if (b k).isSome=true then _ else 0)=_;rw[d];rfl
    go_upto_region 14 with fail
    go_region_held3 (fun W=>W.cell? ⟨q,k,none⟩=some (.slice (some ⟨g,0,none⟩) s.size s.size)/\(convert 59 9 (.slice (some ⟨x,0,none⟩) s.size s.size)).run Tryz.prog W = .ok (.string s) W/\(convert 59 9 (.slice (some ⟨g,0,none⟩) s.size s.size)).run Tryz.prog W = .ok (.string s) W) (go_keep) (fail)
    go_wp2;refine⟨⟨k+1,by omega,congrArg (Value.int .i64) (by rw[v];omega),congrArg (Value.int .i64) (by rw[y];omega),by go_num,(Da t).drew⟩,by simp[intOf];omega⟩
  ·obtain rfl:k=8:=by omega
   have L:Hid (Calls Tryz.prog 56 #[.pointer (some ⟨r,0,none⟩),.string ⟨#[47]⟩] wr fun e X=>∃a c,e = .returned (.tuple #[.slice a (JA b 8) c,.int .i64 0])/\Hid (Calls Tryz.prog 34 #[.pointer (some ⟨r,0,none⟩)] X fun e Y=>e = .returned (.int .i64 (JN b 8:Nat))/\Hid (Below w.heap.size w Y))):=by
    refine(listL o).mono ?_;rintro e X ⟨⟨a,c,rfl⟩,m⟩;refine⟨a,c,rfl,?_⟩;refine(usageL (o.below m)).mono ?_;rintro e Y ⟨rfl,z⟩;have p:Below w.heap.size w X:=(Da l).trans (m.mono (Da l).size);exact⟨rfl,p.trans (z.mono p.size)⟩
   clear o J;go_wp2_with (first|(go_at_call 56;refine(Da L).mono ?_;rintro e X ⟨a,c,rfl,u⟩)|(go_at_call 34;refine(Da u).mono ?_;rintro e Y ⟨rfl,t⟩));go_ret;exact⟨by simp,Da t⟩
end Go.Proofs.YtaieidcohdhgpaaGreatDoor
