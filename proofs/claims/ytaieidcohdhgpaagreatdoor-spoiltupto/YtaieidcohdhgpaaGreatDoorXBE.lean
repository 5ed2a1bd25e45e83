/- Spoilt. -/
import Derived.Test.YtaieidcohdhgpaaGreatDoorXBD
namespace Go.Proofs.YtaieidcohdhgpaaGreatDoor
set_option maxHeartbeats 40000000
set_option maxRecDepth 100000
open Go.RowKit
def Ja(G:Gh)(rd:Nat)(E:NS)(ns:LY):List Ek:=
 if ns=[] then (E rd).map Jl else
 match Gr G ns with
 | some ⟨some ⟨b,_,_⟩,_⟩=>(E b).map Jl
 | _=>[]
def IU(I:LF)(n:Nat):Value:=
 match I.find? (fun x=>x.1==(n:Int)) with
 | some x => .slice x.2.a x.2.l x.2.c
 | none => .slice none 0 0
theorem Gn.key{es:LF}(h:Gn es){x y:Int×VF}(d:x∈es)(f:y∈es)(e:x.1=y.1):x=y:=by
 obtain⟨i,c⟩:=Cd.1 d;obtain⟨j,b⟩:=Cd.1 f;rcases Cz i j with a|a|a
 ·have:=h i j x y a c b;rw[e,Kq]at this;cases this
 ·subst a;rw[c]at b;exact BV b
 ·have:=h j i y x a b c;rw[e,Kq]at this;cases this
theorem U6{I:LF}(h:Gn I){n:Nat}{r:VF}(b:((n:Int),r)∈I):IU I n = .slice r.a r.l r.c:=by
 unfold IU
 cases e:I.find? (fun x=>x.1==(n:Int)) with
 | none=>
  have:=CR.1 e _ b;simp at this
 | some x=>
  have a:=FJ e;simp only[Fc]at a;have:=h.key (Er e) b a;rw[this]
theorem TW.wk{w:World}{tb rd:Nat}{V:NV}{E:NS}{vi:Value}{G:Gh}{I:LF}{CI:IB}(h:TW w tb rd V E vi G I CI)(c:Gt G)(e:G.length<=10000)(l:I.length<=10000)(i:∀x∈G,x.2.p=none->∃(n:Nat) (r:VF),x.2.f=n/\n<60/\((n:Int),r)∈I):Lz w tb rd V E vi G I CI (Ja G rd E) (IU I):=by
 refine⟨h,c,e,l,fun ns b a=>?_,fun x k j=>?_⟩
 ·unfold Ja;rcases a with⟨rfl,rfl⟩|a
  ·rw[if_pos rfl]
  ·rw[if_neg (c.ne _ a),K2 c.nd a]
 ·obtain⟨n,r,f,g,d⟩:=i x k j;exact⟨n,r,f,g,d,U6 h.si d⟩
def Io(x:By×VS):It:=⟨[x.1],2,x.2.f.toNat⟩
theorem Vp(a:LY->Ga->List It×Ga):∀(l:LS) (S:Ga),(∀x∈l,x.2.p=none)->(∀x∈l,S x.2.f.toNat=false)->(l.map (fun x=>x.2.f.toNat)).Nodup->(GF a [] (l.map Jl) S).1=l.map Io
 | [],_,_,_,_=>rfl
 | x::l,S,h1,h2,h3=>by
  have f:=h1 x (by simp);have g:=h2 x (by simp);have c:Jl x=(x.1,some x.2.f.toNat):=by unfold Jl;rw[f];rfl
  have d:Hc a [] S (Jl x)=([⟨[x.1],2,x.2.f.toNat⟩],S.add x.2.f.toNat):=by
   rw[c];unfold Hc;show(if S x.2.f.toNat=true then _ else _)=_;rw[g,if_neg (by decide)]
   rfl
  rw[Br,Cv]at h3;show(Hc a [] S (Jl x)).1++(GF a [] (l.map Jl) (Hc a [] S (Jl x)).2).1=_;rw[d];show [_]++(GF a [] (l.map Jl) (S.add x.2.f.toNat)).1=_;rw[Vp a l (S.add x.2.f.toNat) (fun y b=>h1 y (AF _ b)) (fun y b=>?_) h3.2]
  ·rfl
  ·unfold Ga.add;rw[if_neg (fun e=>h3.1 (Au.2 ⟨y,b,e⟩))];exact h2 y (AF _ b)
theorem K8{α : Type}:∀(J K:List α),J.Nodup->(∀x∈J,x∈K)->J.length<=K.length
 | [],K,_,_=>Aw _
 | a::J,K,hnd,hs=>by
  rw[Cv]at hnd;obtain⟨s,t,rfl⟩:=List.append_of_mem (hs a (by simp));have ih:=K8 J (s++t) hnd.2 (fun x b=>by
   rcases Ap.1 (hs x (by simp[b])) with h|h
   ·exact A0 _ h
   ·rcases AE.1 h with rfl|h
    ·exact absurd b hnd.1
    ·exact Bo _ h)
  simp only[Ad,Aq]at ih ⊢;omega
structure Iw(G:Gh)(I:LF)(CI:IB):Prop where
 fil:∀x∈G,∃n,∃f:Nat,x=([n],⟨none,(f:Int)⟩)/\DX n=true/\f<60
 nd:(G.map (·.1)).Nodup
 inj:∀x∈G,∀y∈G,x.2.f=y.2.f->x=y
 le:G.length<=8
 num:∀x∈G,∃r,(x.2.f,r)∈I
 sz:∀x∈G,(CI x.2.f).size<=1280
 back:∀x∈I,x.2.f=1/\x.2.l=(CI x.1).size/\∃y∈G,y.2.f=x.1
theorem Iw.gok{G:Gh}{I:LF}{CI:IB}(h:Iw G I CI):Gt G:=by
 refine⟨fun x a=>?_,fun x a=>?_,fun x a=>?_,h.nd,fun ns n u b=>?_⟩
 ·obtain⟨n,f,rfl,ho,_⟩:=h.fil x a;exact fun m b=>by rw[Ab.1 b];exact ho
 ·obtain⟨n,f,rfl,ho,_⟩:=h.fil x a;exact fun e=>by cases e
 ·obtain⟨n,f,rfl,ho,_⟩:=h.fil x a;show 1<=6;omega
 ·obtain⟨m,f,e,ho,_⟩:=h.fil _ b;rw[AT]at e;have:=Ca List.length e.1;simp at this;exact .inl this
section
variable{w:World}{tb rd:Nat}{V:NV}{E:NS}{vi:Value}{G:Gh}{I:LF}{CI:IB}
theorem Iw.root(h:Iw G I CI)(c:TW w tb rd V E vi G I CI){x:By×VS}(g:x∈E rd):([x.1],x.2)∈G/\x.2.p=none/\DX x.1=true/\∃f:Nat,x.2=⟨none,(f:Int)⟩/\f<60:=by
 have a:=(c.d.en [] rd (.inl ⟨rfl,rfl⟩) x.1 x.2).1 g;rw[AA]at a;obtain⟨n,f,e,ho,d⟩:=h.fil _ a;rw[AT]at e;have b:x.1=n:=by have:=e.1;injection this
 exact⟨a,by rw[e.2],by rw[b];exact ho,f,e.2,d⟩
theorem Iw.its(h:Iw G I CI)(c:TW w tb rd V E vi G I CI):DD (Ja G rd E)=(E rd).map Io:=by
 have p:F4 G rd [] rd := .inl ⟨rfl,rfl⟩;have d:=(c.d.srt [] rd p).nodup;show(GF (DY (Ja G rd E) 6) [] (Ja G rd E []) (fun _=>false)).1=_;have e:Ja G rd E []=(E rd).map Jl:=by unfold Ja;rw[if_pos rfl]
 rw[e];refine Vp _ _ _ (fun x q=>(h.root c q).2.1) (fun _ _=>rfl) ?_;rw[AM,Bg]at d ⊢;refine d.imp_of_mem (fun {a b} m o n e=>n ?_);obtain⟨i,_,_,f,j,_⟩:=h.root c m;obtain⟨k,_,_,g,l,_⟩:=h.root c o;have:=h.inj _ i _ k (by show a.2.f=b.2.f;rw[j,l]at e ⊢;show(f:Int)=(g:Int);have e2:(f:Int).toNat=(g:Int).toNat:=e;omega);rw[AT]at this;have:=this.1;injection this
theorem Iw.len(h:Iw G I CI)(c:TW w tb rd V E vi G I CI):(E rd).length<=8:=by
 have g:F4 G rd [] rd := .inl ⟨rfl,rfl⟩;have d:=(c.d.srt [] rd g).nodup;have:=K8 ((E rd).map (fun x=>([x.1],x.2))) G (by
  rw[AM,Bg]at d ⊢;refine d.imp (fun {a b} f e=>f ?_);rw[AT]at e;have:=e.1;injection this) (fun x i=>by
  obtain⟨y,j,rfl⟩:=Au.1 i;exact(h.root c j).1)
 rw[AK]at this;have:=h.le;omega
theorem Iw.keep(h:Iw G I CI)(c:TW w tb rd V E vi G I CI):F7 (fun n=>CI (n:Int)) ((E rd).map Io)/\Lp w tb rd V E vi G I CI (Ja G rd E) (IU I) (fun n=>CI (n:Int)):=by
 have k:F4 G rd [] rd := .inl ⟨rfl,rfl⟩;have p:=(c.d.srt [] rd k).nodup;have s:F7 (fun n=>CI (n:Int)) ((E rd).map Io):=by
  refine⟨fun x d=>?_,fun x d=>?_,?_,?_,by rw[AK];exact h.len c,fun x d=>?_,fun x d=>?_⟩
  ·obtain⟨y,i,rfl⟩:=Au.1 d;rfl
  ·obtain⟨y,i,rfl⟩:=Au.1 d;exact⟨y.1,rfl,(h.root c i).2.2.1⟩
  ·rw[Ce,AM,Bg];rw[AM,Bg]at p;refine p.imp (fun {a b} q e=>q ?_);have m:[a.1]=[b.1]:=e;injection m
  ·rw[Ce,AM,Bg];rw[AM,Bg]at p;refine p.imp_of_mem (fun {a b} v A q e=>q ?_);obtain⟨l,_,_,f,j,_⟩:=h.root c v;obtain⟨t,_,_,g,u,_⟩:=h.root c A;have m:a.2.f.toNat=b.2.f.toNat:=e;have:=h.inj _ l _ t (by show a.2.f=b.2.f;rw[j,u]at m ⊢;show(f:Int)=(g:Int);have e2:(f:Int).toNat=(g:Int).toNat:=m;omega);rw[AT]at this;have:=this.1;injection this
  ·obtain⟨y,i,rfl⟩:=Au.1 d;obtain⟨l,_,_,f,j,_⟩:=h.root c i;have:=h.sz _ l;show(CI ((y.2.f.toNat:Nat):Int)).size<=_;have e:((y.2.f.toNat:Nat):Int)=y.2.f:=by rw[j];simp
   rw[e];exact this
  ·obtain⟨y,i,rfl⟩:=Au.1 d;obtain⟨l,_,_,f,j,o⟩:=h.root c i;show y.2.f.toNat<60;rw[j];simpa using o
 have aa:I.length<=8:=by
  have:=K8 (I.map (·.1)) (G.map (fun y=>y.2.f)) c.si.nd (fun x d=>by
   obtain⟨y,i,rfl⟩:=Au.1 d;obtain⟨_,_,z,B,e⟩:=h.back y i;exact Au.2 ⟨z,B,e⟩)
  rw[AK,AK]at this;have:=h.le;omega
 refine⟨s,c.wk h.gok (by have:=h.le;omega) (by omega) (fun x d _=>?_),by rw[h.its c];exact s.ok,fun y i _=>?_⟩
 ·obtain⟨n,f,rfl,_,o⟩:=h.fil x d;obtain⟨r,k⟩:=h.num _ d;exact⟨f,r,rfl,o,k⟩
 ·rw[h.its c]at i;obtain⟨x,d,rfl⟩:=Au.1 i;obtain⟨l,_,_,f,j,o⟩:=h.root c d;obtain⟨r,k⟩:=h.num _ l;have e:((x.2.f.toNat:Nat):Int)=x.2.f:=by rw[j];simp
  have ab:((x.2.f.toNat:Nat):Int)=x.2.f/\(x.2.f,r)∈I:=⟨e,k⟩;refine⟨r.a,r.l,r.c,U6 c.si (by show(((x.2.f.toNat:Nat):Int),r)∈I;rw[e];exact k),?_⟩;have:=c.dat _ k;show Sl w 5 1 (.slice r.a r.l r.c) r.l (Dc (CI ((x.2.f.toNat:Nat):Int)));rw[e];exact this
end
theorem Gm.ext{a b:LS}(g:Gm a)(k:Gm b)(h:∀x,x∈a↔x∈b):a=b:=by
 have m:∀{l:LS},Gm l->l.Nodup:=fun {l} q=>by
  have:=q.nodup;rw[AM,Bg]at this;rw[AM];exact this.imp (fun {a b} p e=>p (by rw[e]))
 have r:List.Perm a b:=(Cn (m g) (m k)).2 h;refine List.Perm.eq_of_pairwise (le:=fun x y=>Hu x.1 y.1=true) (fun x y _ _ n o=>?_) ?_ ?_ r
 ·have:=Rf n o;rw[Uv]at this;cases this
 ·rw[Bm];exact fun i j c f d=>g i j _ _ d (Ac c) (Ac f)
 ·rw[Bm];exact fun i j c f d=>k i j _ _ d (Ac c) (Ac f)
theorem Gx.flt{C:NB}{L:List It}(c:F7 C L){G:Gh}{I:LF}{CI:IB}(h:Gx C L G I CI):Iw G I CI:=by
 have f:=h.g;have d:∀x∈G,∃z∈L,x=(z.ns,(⟨none,(z.f:Int)⟩:VS)):=fun x b=>by
  rw[f]at b;obtain⟨z,a,rfl⟩:=Au.1 b;exact⟨z,a,rfl⟩
 have aa:=c.fd;refine⟨fun x b=>?_,?_,fun x b y r e=>?_,by rw[f,AK];exact c.le,fun x b=>?_,fun x b=>?_,fun x b=>?_⟩
 ·obtain⟨z,a,rfl⟩:=d x b;obtain⟨n,p,ho⟩:=c.ns z a;exact⟨n,z.f,by rw[p],ho,c.num z a⟩
 ·rw[f,Ce];exact c.nd
 ·obtain⟨z,a,rfl⟩:=d x b;obtain⟨u,q,rfl⟩:=d y r;have e':((z.f:Nat):Int)=((u.f:Nat):Int):=e;obtain⟨i,l⟩:=Cd.1 a;obtain⟨j,g⟩:=Cd.1 q;have:=c.fresh l g (by omega);subst this;rw[l]at g;rw[BV g]
 ·obtain⟨z,a,rfl⟩:=d x b;exact h.i2 z a
 ·obtain⟨z,a,rfl⟩:=d x b;show(CI (z.f:Int)).size<=_;rw[h.c z a];exact c.sz z a
 ·obtain⟨m,z,a,k,o⟩:=h.i1 x b;refine⟨m,by rw[o,k,h.c z a],(z.ns,⟨none,(z.f:Int)⟩),?_,k.symm⟩;rw[f];exact Au.2 ⟨z,a,rfl⟩
theorem Gx.same{C:NB}{es:LS}(n:Gm es)(g:∀x∈es,∃f:Nat,x.2=⟨none,(f:Int)⟩){G:Gh}{I:LF}{CI:IB}(h:Gx C (es.map Io) G I CI)
  {w:World} {tb rd:Nat} {V:NV} {E:NS} {vi:Value} (d:TW w tb rd V E vi G I CI):E rd=es:=by
 have j:F4 G rd [] rd := .inl ⟨rfl,rfl⟩;refine(d.d.srt [] rd j).ext n (fun x=>?_);have i:=d.d.en [] rd j x.1 x.2;rw[AA]at i;refine i.trans ?_;rw[h.g,Ce];constructor
 ·intro a;obtain⟨y,k,e⟩:=Au.1 a;obtain⟨f,c⟩:=g y k;have b:([y.1],(⟨none,((y.2.f.toNat:Nat):Int)⟩:VS))=([x.1],x.2):=e;rw[AT]at b;have l:y.1=x.1:=by have:=b.1;injection this
  have m:y.2=x.2:=by rw[<-b.2,c];simp
  have:x=y:=FP l.symm m.symm;rw[this];exact k
 ·intro a;obtain⟨f,c⟩:=g x a;refine Au.2 ⟨x,a,?_⟩;show([x.1],(⟨none,((x.2.f.toNat:Nat):Int)⟩:VS))=([x.1],x.2);rw[c];simp
structure Iq(S S':Ga)(L:List It):Prop where
 mono:∀n,S n=true->S' n=true
 kind:∀y∈L,y.k=1\/y.k=2\/y.k=3
 told:∀y∈L,y.k=2->S y.f=false/\S' y.f=true
 fresh:L.Pairwise (fun x y=>x.k=2->y.k=2->x.f≠y.f)
theorem Iq.nil(S:Ga):Iq S S []:=⟨fun _ h=>h,fun _ h=>absurd h BD,fun _ h=>absurd h BD,List.Pairwise.nil⟩
theorem Iq.app{S f g:Ga}{A B:List It}(h:Iq S f A)(k:Iq f g B):Iq S g (A++B):=by
 refine⟨fun n l=>k.mono n (h.mono n l),fun y a=>?_,fun y a c=>?_,List.pairwise_append.2 ⟨h.fresh,k.fresh,fun x m y a d b e=>?_⟩⟩
 ·exact(Ap.1 a).elim (h.kind y) (k.kind y)
 ·rcases Ap.1 a with e|e
  ·exact⟨(h.told y e c).1,k.mono _ (h.told y e c).2⟩
  ·refine⟨?_,(k.told y e c).2⟩
   cases hs:S y.f with
   | false=>rfl
   | true=>
    have d:=h.mono _ hs;have b:=(k.told y e c).1;rw[d]at b;cases b
 ·have i:=(h.told x m d).2;have j:=(k.told y a b).1;rw[e,j]at i;cases i
theorem Iq.stp{c:LY->Ga->List It×Ga}(g:∀ns S,Iq S (c ns S).2 (c ns S).1)(ns:LY)(S:Ga)(x:Ek):Iq S (Hc c ns S x).2 (Hc c ns S x).1:=by
 unfold Go.Proofs.YtaieidcohdhgpaaGreatDoor.Hc
 split
 ·have h:=g (ns++[x.1]) S;have d:Iq S S [⟨ns++[x.1],1,0⟩]:=⟨fun _ h=>h,fun y a=>by rw[Ab.1 a];exact .inl rfl,fun y a b=>by (rw[Ab.1 a]at b;cases b),CY _ _⟩;exact d.app h
 ·rename_i f _
  split
  ·exact⟨fun _ h=>h,fun y a=>by rw[Ab.1 a];exact .inr (.inr rfl),fun y a b=>by (rw[Ab.1 a]at b;cases b),CY _ _⟩
  ·rename_i i;refine⟨fun n e=>?_,fun y a=>by rw[Ab.1 a];exact .inr (.inl rfl),fun y a b=>?_,CY _ _⟩
   ·show(if n=f then true else S n)=true
    split
    ·rfl
    ·exact e
   ·rw[Ab.1 a];exact⟨by simpa using i,by show(if f=f then true else S f)=true;rw[if_pos rfl]⟩
theorem Iq.itL{a:LY->Ga->List It×Ga}(b:∀ns S,Iq S (a ns S).2 (a ns S).1)(ns:LY):∀(l:List Ek) (S:Ga),Iq S (GF a ns l S).2 (GF a ns l S).1
 | [],S=>Iq.nil S
 | x::l,S=>(Iq.stp b ns S x).app (Iq.itL b ns l _)
theorem PM(ch:LY->List Ek):∀(d:Nat) (ns:LY) (S:Ga),Iq S (DY ch d ns S).2 (DY ch d ns S).1
 | 0,_,S=>Iq.nil S
 | d+1,ns,S=>Iq.itL (PM ch d) ns (ch ns) S
theorem ZkO(ch:LY->List Ek)(i j:Nat)(x y:It)(d:i<j)(f:(DD ch)[i]?=some x)(g:(DD ch)[j]?=some y)(a:x.k=2)(b:y.k=2):x.f≠y.f:=by
 obtain⟨c,rfl⟩:=Ae.1 f;obtain⟨e,rfl⟩:=Ae.1 g;exact Bm.1 (PM ch 7 [] (fun _=>false)).fresh i j c e d a b
theorem ZmP(ch:LY->List Ek):∀x∈DD ch,x.k=1\/x.k=2\/x.k=3:=(PM ch 7 [] (fun _=>false)).kind
def ME(R:LY->Prop)(ch:LY->List Ek)(y:It):Prop:=
 ∃ds x,R ds/\x∈ch ds/\y.ns=ds++[x.1]/\((x.2=none/\y.k=1/\y.f=0)\/(x.2=some y.f/\(y.k=2\/y.k=3)))
theorem Si{R:LY->Prop}{ch:LY->List Ek}{c:LY->Ga->List It×Ga}(h:∀ns S,R ns->∀y∈(c ns S).1,ME R ch y)(g:∀ns x,R ns->x∈ch ns->x.2=none->R (ns++[x.1])){ns:LY}(b:R ns):∀(l:List Ek) (S:Ga),(∀x∈l,x∈ch ns)->∀y∈(GF c ns l S).1,ME R ch y
 | [],S,_,y,hy=>absurd hy BD
 | x::l,S,hl,y,hy=>by
  have d:=hl x A5;rcases Ap.1 (show y∈(Hc c ns S x).1++(GF c ns l (Hc c ns S x).2).1 from hy) with e|e
  ·unfold Hc at e
   split at e
   ·rename_i a;rcases AE.1 e with rfl|e
    ·exact⟨ns,x,b,d,rfl,.inl ⟨a,rfl,rfl⟩⟩
    ·exact h _ S (g ns x b d a) y e
   ·rename_i f a
    split at e
    ·rw[Ab.1 e];exact⟨ns,x,b,d,rfl,.inr ⟨a,.inr rfl⟩⟩
    ·rw[Ab.1 e];exact⟨ns,x,b,d,rfl,.inr ⟨a,.inl rfl⟩⟩
  ·exact Si h g b l _ (fun z i=>hl z (AF _ i)) y e
theorem TR{R:LY->Prop}{ch:LY->List Ek}(a:∀ns x,R ns->x∈ch ns->x.2=none->R (ns++[x.1])):∀(d:Nat) (ns:LY) (S:Ga),R ns->∀y∈(DY ch d ns S).1,ME R ch y
 | 0,_,_,_,_,hy=>absurd hy BD
 | d+1,ns,S,hn,y,hy=>Si (TR a d) a hn (ch ns) S (fun _ h=>h) y hy
structure R6(ns:LY)(L:List It):Prop where
 pre:∀y∈L,∃t,t≠[]/\y.ns=ns++t
 nd:L.Pairwise (fun x y=>x.ns≠y.ns)
theorem stp_n{b:LY->Ga->List It×Ga}(f:∀ns S,R6 ns (b ns S).1)(ns:LY)(S:Ga)(x:Ek):(∀y∈(Hc b ns S x).1,∃t,y.ns=ns++x.1::t)/\(Hc b ns S x).1.Pairwise (fun x y=>x.ns≠y.ns):=by
 unfold Hc
 split
 ·have h:=f (ns++[x.1]) S;refine⟨fun y a=>?_,cO.2 ⟨fun y a e=>?_,h.nd⟩⟩
  ·rcases AE.1 a with rfl|a
   ·exact⟨[],rfl⟩
   ·obtain⟨t,_,e⟩:=h.pre y a;exact⟨t,by rw[e,Ar];rfl⟩
  ·obtain⟨t,g,d⟩:=h.pre y a;have c:ns++[x.1]=y.ns:=e;rw[d]at c;have e4:(ns++[x.1]).length=(ns++[x.1]).length+t.length:=by rw[<-Ad];exact Ca List.length c
   exact g (Ay (by omega))
 ·split
  ·exact⟨fun y a=>⟨[],by rw[Ab.1 a]⟩,CY _ _⟩
  ·exact⟨fun y a=>⟨[],by rw[Ab.1 a]⟩,CY _ _⟩
theorem itL_n{a:LY->Ga->List It×Ga}(i:∀ns S,R6 ns (a ns S).1)(ns:LY):∀(l:List Ek) (S:Ga),l.Pairwise (fun x y=>x.1≠y.1)->(∀y∈(GF a ns l S).1,∃x∈l,∃t,y.ns=ns++x.1::t)/\(GF a ns l S).1.Pairwise (fun x y=>x.ns≠y.ns)
 | [],S,_=>⟨fun _ h=>absurd h BD,List.Pairwise.nil⟩
 | x::l,S,hl=>by
  obtain⟨p,n⟩:=cO.1 hl;obtain⟨f,j⟩:=stp_n i ns S x;obtain⟨g,k⟩:=itL_n i ns l (Hc a ns S x).2 n;refine⟨fun y c=>?_,List.pairwise_append.2 ⟨j,k,fun y c z d e=>?_⟩⟩
  ·rcases Ap.1 (show y∈(Hc a ns S x).1++(GF a ns l (Hc a ns S x).2).1 from c) with e|e
   ·obtain⟨t,b⟩:=f y e;exact⟨x,A5,t,b⟩
   ·obtain⟨z,d,t,b⟩:=g y e;exact⟨z,AF _ d,t,b⟩
  ·obtain⟨t,b⟩:=f y c;obtain⟨r,q,t2,o⟩:=g z d;rw[b,o]at e;have m:=Ey e;injection m with e3 _;exact p r q e3
theorem Tc(ch:LY->List Ek)(a:∀ns,(ch ns).Pairwise (fun x y=>x.1≠y.1)):∀(d:Nat) (ns:LY) (S:Ga),R6 ns (DY ch d ns S).1
 | 0,_,_=>⟨fun _ h=>absurd h BD,List.Pairwise.nil⟩
 | d+1,ns,S=>by
  obtain⟨b,c⟩:=itL_n (Tc ch a d) ns (ch ns) S (a ns);refine⟨fun y f=>?_,c⟩;obtain⟨x,_,t,e⟩:=b y f;exact⟨x.1::t,by simp,e⟩
theorem Yt(ch:LY->List Ek)(a:∀ns,(ch ns).Pairwise (fun x y=>x.1≠y.1)):((DD ch).map (·.ns)).Nodup:=Bg.2 (Tc ch a 7 [] (fun _=>false)).nd
section
variable{w:World}{tb rd:Nat}{V:NV}{E:NS}{vi:Value}{G:Gh}{I:LF}{CI:IB}
theorem PP(d:TW w tb rd V E vi G I CI)(_:Gt G)(ns:LY):Ja G rd E ns=[]\/∃b,F4 G rd ns b/\Ja G rd E ns=(E b).map Jl:=by
 by_cases a:ns=[]
 ·exact .inr ⟨rd,.inl ⟨a,rfl⟩,by unfold Ja;rw[if_pos a]⟩
 ·cases e:Gr G ns with
  | none=>exact .inl (by unfold Ja;rw[if_neg a,e])
  | some u=>
   have c:=KE e;rcases d.d.shp _ c with h|⟨b,f⟩
   ·refine .inl ?_;unfold Ja;rw[if_neg a,e];obtain⟨up,uf⟩:=u;have i:up=none:=h;subst i;rfl
   ·have g:u=⟨some ⟨b,0,none⟩,0⟩:=f;subst g;exact .inr ⟨b,.inr c,by unfold Ja;rw[if_neg a,e]⟩
theorem Sr(f:TW w tb rd V E vi G I CI)(h:TG G I):Lp w tb rd V E vi G I CI (Ja G rd E) (IU I) (fun n=>CI (n:Int)):=by
 have ac:=h.gl;have ad:=h.nd;have A:∀x∈G,x.2.p=none->∃(n:Nat) (r:VF),x.2.f=n/\n<60/\((n:Int),r)∈I:=fun x c i=>by
  obtain⟨r,j⟩:=h.fl x c i;obtain⟨L,N,_⟩:=h.rg _ j;have M:0<=x.2.f:=L;have aa:x.2.f<60:=N;exact⟨x.2.f.toNat,r,by omega,by omega,by rw[Int.toNat_of_nonneg M];exact j⟩
 have U:∀ns,(Ja G rd E ns).Pairwise (fun x y=>x.1≠y.1):=fun ns=>by
  rcases PP f h.ok ns with e|⟨b,l,e⟩
  ·rw[e];exact List.Pairwise.nil
  ·rw[e,Bg];exact Bg.1 (f.d.srt ns b l).nodup
 have q:∀y∈DD (Ja G rd E),∃v:VS,(y.ns,v)∈G/\(y.k=1/\y.f=0\/v.p=none/\y.f=v.f.toNat):=fun y d=>by
  obtain⟨C,x,⟨b,Q⟩,c,X,Y⟩:=TR (R:=fun ns=>∃b,F4 G rd ns b) (ch:=Ja G rd E) (fun ns x ⟨b,Q⟩ c D=>by
   rcases PP f h.ok ns with e|⟨s,l,e⟩
   ·rw[e]at c;exact absurd c BD
   ·rw[e]at c;obtain⟨z,B,rfl⟩:=Au.1 c;have m:=(f.d.en ns s l z.1 z.2).1 B;rcases f.d.shp _ m with i|⟨O,S⟩
    ·have W:z.2.p=none:=i;have:(Jl z).2=some z.2.f.toNat:=by unfold Jl;rw[W];rfl
     rw[this]at D;cases D
    ·refine⟨O,.inr ?_⟩;have T:z.2=_:=S;rw[T]at m;exact m) 7 [] (fun _=>false) ⟨rd,.inl ⟨rfl,rfl⟩⟩ y d
  rcases PP f h.ok C with e|⟨s,l,e⟩
  ·rw[e]at c;exact absurd c BD
  ·rw[e]at c;obtain⟨z,B,rfl⟩:=Au.1 c;have m:=(f.d.en C s l z.1 z.2).1 B;refine⟨z.2,by rw[X];exact m,?_⟩;rcases Y with⟨_,K,P⟩|⟨o,_⟩
   ·exact .inl ⟨K,P⟩
   ·refine .inr ?_;unfold Jl at o
    cases i:z.2.p with
    | none=>rw[i]at o;exact⟨rfl,(BV o).symm⟩
    | some a=>rw[i]at o;cases o
 have J:∀y∈DD (Ja G rd E),y.k=2->∃r:VF,((y.f:Int),r)∈I:=fun y d p=>by
  obtain⟨v,k,⟨K,_⟩|⟨i,H⟩⟩:=q y d
  ·omega
  ·obtain⟨n,r,g,_,F⟩:=A _ k i;have t:v.f=n:=g;exact⟨r,by rw[H,t];exact F⟩
 refine⟨f.wk h.ok (by omega) (by omega) A,⟨?_,ZmP _,fun y d=>?_,fun y d=>?_,fun y d p=>?_,ZkO _⟩,fun y d p=>?_⟩
 ·have:=K8 ((DD (Ja G rd E)).map (·.ns)) (G.map (·.1)) (Yt _ U) (fun x c=>by
   obtain⟨y,d,rfl⟩:=Au.1 c;obtain⟨v,k,_⟩:=q y d;exact Au.2 ⟨_,k,rfl⟩)
  rw[AK,AK]at this;omega
 ·obtain⟨v,k,_⟩:=q y d;have g:=OW y.ns (h.ok.nms _ k);have u:y.ns.length<=6:=h.ok.le _ k;omega
 ·obtain⟨v,k,⟨_,f0⟩|⟨i,H⟩⟩:=q y d
  ·omega
  ·obtain⟨n,r,g,u,_⟩:=A _ k i;have t:v.f=n:=g;omega
 ·obtain⟨r,j⟩:=J y d p;have g:=(f.dat _ j).1;have u:=(h.rg _ j).2.2.1;rw[Dh]at g;show(CI (y.f:Int)).size<=1280;have t:(CI (y.f:Int)).size=r.l:=by
   have F:(CI (y.f:Int)).size=r.l*1:=by first|exact g|exact g.symm|(rw[BW];exact g)|(rw[BW];exact g.symm)
   omega
  have ab:r.l<=1280:=u;omega
 ·obtain⟨r,j⟩:=J y d p;exact⟨r.a,r.l,r.c,U6 f.si j,f.dat _ j⟩
end
theorem Zkw(W:World)(f m a:Nat)(H n J I:Value)(es:LI)(k:F0 W f 179 [H,n,.int .i64 (a:Nat),J,I])(u:Sl W 350 2 n es.length (Ds es))(w:Ui es)(af:a<1536)(tk:Nat->Bool)(L:F6)(s:F0 W m 197 L)(t:∀p,p<1536->L[4+p]?=some (.bool (tk p))):
  Cl 137 #[.pointer (some ⟨f,0,none⟩),.pointer (some ⟨m,4,none⟩)] W fun e w'=>∃b:Bool,e = .returned (.bool b)/\Bw W w'/\(b=true↔512<=DS (Dj es) 96/\∀p,a<p->p/16=a/16->tk p=false):=by
 have c2:=(k.cell 2).trans (show _=some (Value.int .i64 (a:Nat)) from rfl);obtain⟨N,d⟩:=ex (DS (Dj es) 96);have A:Hid (Cl 132 #[.pointer (some ⟨f,1,none⟩)] W fun e w'=>e = .returned (.int .i64 (N:Nat))/\Bw W w'):=by
  rw[d];exact RU W f 1 n es ((k.cell 1).trans rfl) u w
 have D:Hid (∀p,a<p->p/16=a/16->W.cell? ⟨m,4+p,none⟩=some (.bool (tk p))):=fun p c q=>(s.cell _).trans (t p (by omega))
 have aa:N<=1536:=by rw[d];exact NK _ _
 clear t s w u k;go_enter Tryz.func137,Tryz.ntmps137;go_wp2
 go_loopw [5] (fun i wr=>∃p:Nat,a<p/\p<=(a/16+1)*16/\Hid (∀j,a<j->j<p->tk j=false)/\i = .int .i64 (p:Nat)/\wr=W) (fun i _=>3000-(intOf i).toNat)
 case atStart=>exact⟨a+1,by omega,by omega,fun j c q=>by omega,by go_num,rfl⟩
 case round=>
  obtain⟨p,c,q,g,rfl,rfl⟩:=hrel;obtain⟨r,x⟩:=ex (p%16);have y:(p:Int).tmod 16=(r:Int):=by rw[Co (by omega)];omega
  by_cases l:r=0
  ·have z:Hid (∀j,a<j->j/16=a/16->tk j=false):=fun j h E=>Da g j h (by omega)
   have ae:(p:Int).tmod 16=0:=by rw[y,l];rfl
   clear y x l;go_wp2_with (go_at_call 132;refine(Da A).mono ?_;rintro e w' ⟨rfl,F⟩);go_ret;exact⟨_,rfl,F,⟨fun e=>⟨by rw[<-d];simp at e;omega,Da z⟩,fun e=>by rw[<-d]at e;simp;omega⟩⟩
  ·have v:=Da D p c (by omega);have ab:(p:Int)<1536:=by omega
   have ac:¬(r:Int)=0:=by omega
   have ad:((r:Int)==0)=false:=by simpa using l
   have C:Hid (p/16=a/16):=by show p/16=a/16;omega
   have G:p+1<=(a/16+1)*16:=by omega
   clear x
   cases htk:tk p with
   | true=>
    rw[htk]at v;go_wp2;go_ret;exact⟨false,rfl,Al _ _,(fun e=>by cases e),fun e=>by rw[e.2 p c (Da C)]at htk;cases htk⟩
   | false=>
   rw[htk]at v;have B:Hid (∀j,a<j->j<p+1->tk j=false):=fun j h E=>by
    rcases AO j p with o|o
    ·exact Da g j h o
    ·rw[show j=p by omega];exact htk
   clear g;go_wp2;exact⟨⟨p+1,by omega,G,B,by go_num,AQ⟩,by simp[intOf];omega⟩
theorem Zkh{w:World}{a c:Nat}{vk:Value}{s:KS}{vf vn vw Z:Value}{ps:LB}{T:List Int}{tb Y:Nat}{V:NV}{O:NS}{vi:Value}{G:Gh}{I:LF}{N:IB}{ch:LY->List Ek}{R:NV}{C:NB}
  (h:GZ w a c vk s vf vn vw Z ps T) (H:Hh s) (F:∃j,j<96/\Dj s.es j<=0) (z:Lp w tb Y V O vi G I N ch R C):
  Cl 138 #[.pointer (some ⟨a,0,none⟩),.pointer (some ⟨tb,0,none⟩)] w fun e w'=>∃b:Bool,e = .returned (.bool b)/\Bw w w'/\(b=true↔Gu (Do s false C (DD ch)).1=s.tp/\GD (Do s false C (DD ch)).1=s.tx):=by
 have W:w.cell? ⟨a,0,none⟩=some (.pointer (some ⟨c,0,none⟩)):=(h.st.row.cell 0).trans rfl;have B:w.cell? ⟨a,2,none⟩=some (.int .i64 (s.tp:Nat)):=(h.st.row.cell 2).trans rfl;have D:w.cell? ⟨a,3,none⟩=some (.int .u64 (s.tx:Nat)):=(h.st.row.cell 3).trans rfl;obtain⟨o,m⟩:∃t,t=s.tp:=⟨_,rfl⟩;obtain⟨p,n⟩:∃t,t=s.tx:=⟨_,rfl⟩;rw[<-m]at B;rw[<-n]at D;obtain⟨y,u⟩:∃t,t=Gu (Do s false C (DD ch)).1:=⟨_,rfl⟩;obtain⟨ty,x⟩:∃t,t=GD (Do s false C (DD ch)).1:=⟨_,rfl⟩;have Q:Hid (Cl 131 #[.pointer (some ⟨c,0,none⟩),.pointer (some ⟨a,1,none⟩),.pointer (some ⟨tb,0,none⟩),.bool false] w.drew fun e X=>∃pb,e = .returned (.pointer (some ⟨pb,0,none⟩))/\(X.cell? ⟨a,0,none⟩=some (.pointer (some ⟨c,0,none⟩))/\X.cell? ⟨a,2,none⟩=some (.int .i64 (o:Nat))/\X.cell? ⟨a,3,none⟩=some (.int .u64 (p:Nat)))/\X.cell? ⟨pb,101,none⟩=some (.int .i64 (y:Nat))/\X.cell? ⟨pb,102,none⟩=some (.int .u64 (ty:Nat))/\Hid (Bw w X)):=by
  have L:Bw w w.drew:=(Al _ _).drew;refine((h.below L).newPlan H F (z.below L) false).mono ?_;rintro e X ⟨pb,O',rfl,ae,aa,⟨va,es,vp,M,_⟩,f,hO⟩;have J:Bw w X:=⟨f.os,f.tape,f.output,f.size,f.block⟩;have r:=(h.below J).st.row;exact⟨pb,rfl,⟨(r.cell 0).trans rfl,by rw[m];exact(r.cell 2).trans rfl,by rw[n];exact(r.cell 3).trans rfl⟩,by rw[u];exact(M.row.cell 101).trans (JI _ _ _ _ _ _ _ _ _ _ 3),by rw[x];exact(M.row.cell 102).trans (JI _ _ _ _ _ _ _ _ _ _ 4),J⟩
 rw[<-u,<-x,<-m,<-n];clear h H F z m n u x;obtain⟨k,A⟩:∃b,b=decide (y=o/\ty=p):=⟨_,rfl⟩;have g:=Db A;clear A;go_enter Tryz.func138,Tryz.ntmps138;go_upto_region 1 with fail;refine AD (S:=fun X=>X.cell? ⟨a,0,none⟩=some (.pointer (some ⟨c,0,none⟩))/\X.cell? ⟨a,2,none⟩=some (.int .i64 (o:Nat))/\X.cell? ⟨a,3,none⟩=some (.int .u64 (p:Nat))) (by kernel_rfl) ⟨W,B,D⟩ (fun ad=>?_);refine tk 0 ?_;try simp only[pE];refine tk 1 ?_;try simp only[pE];refine tk 2 ?_;try simp only[pE];refine tk 3 ?_;try simp only[pE];refine tk 4 ?_;try simp only[pE];refine tk 5 ?_;try simp only[pE];refine tk 6 ?_;try simp only[pE];refine tk 7 ?_;try simp only[pE];refine tk 13 ?_;try simp only[pE];refine tk 14 ?_;try simp only[pE];refine tk 15 ?_;try simp only[pE];refine tk 16 ?_;try simp only[pE];refine tk 17 ?_;try simp only[pE];refine rk 8 (fun K d=>?_);go_simp;go_at_call 131;refine(Da Q).mono ?_;rintro e X ⟨pb,rfl,E,p1,p2,P⟩;go_wp2_with fail;refine d.out _ _ E (fun ac=>?_);clear d K
 (try simp only[pE])
 refine tk 9 ?_;try simp only[pE];refine tk 10 ?_;try simp only[pE];refine tk 11 ?_;try simp only[pE];refine rk 12 (fun K d=>?_);go_simp;refine d.out _ _ E (fun ab=>?_);clear d K
 (try simp only[pE])
 refine A6 (i:=18) (v := .bool k) rfl (by kernel_rfl) (by kernel_rfl) (by kernel_rfl) (fun _ _ _ h=>h) (Or.inl ⟨by rfl,?_⟩) (by assumption) ?_
 ·intro w U
  (try dsimp only at U)
  go_simp;by_cases l:y=o
  ·by_cases q:ty=p
   ·rw[if_pos (by rw[l]),if_pos (by rw[q]),show k=true from (Da g).trans (Cs ⟨l,q⟩)]
   ·rw[if_pos (by rw[l]),if_neg (by omega),show k=false from (Da g).trans (B2 (fun e=>q e.2))]
  ·rw[if_neg (by omega),show k=false from (Da g).trans (B2 (fun e=>l e.1))]
 (try simp only[pE])
 refine tk 19 ?_;try simp only[pE];refine AW (by kernel_rfl) ?_ _;go_wp2;go_ret;exact⟨_,rfl,Da P,by rw[Da g];exact decide_eq_true_iff⟩
def LO:Ending := .returned (.tuple #[.pointer none,.pointer none,.bool false])
def OY(w:World)(db:Nat)(Q:Ending->World->Prop):Prop:=
 Cl 135 #[.pointer (some ⟨db,0,none⟩)] w fun e X=>∃(tn tp tx:Nat) (ok:Bool),e = .returned (.tuple #[.agg #[.int .u64 (tn:Nat),.int .i64 (tp:Nat),.int .u64 (tx:Nat)],.bool ok])/\∃Y,X.alloc (.cells #[.int .u64 (tn:Nat),.int .i64 (tp:Nat),.int .u64 (tx:Nat)] 191)=Y/\Hid (ok=false->Q LO Y)/\
  Hid (ok=true->∃Y2,Y.alloc (.cells (Ig (.pointer none)).toArray 197)=Y2/\F0 Y2 Y.heap.size 197 (Ig (.pointer none))/\∃W,Y2.setRow Y.heap.size (Ig (.pointer (some ⟨db,0,none⟩))).toArray=W/\W.cell? ⟨X.heap.size,1,none⟩=some (.int .i64 (tp:Nat))/\W.cell? ⟨X.heap.size,2,none⟩=some (.int .u64 (tx:Nat))/\
   Hid (Cl 136 #[.pointer (some ⟨Y.heap.size,0,none⟩),.agg #[.int .i64 (tp:Nat),.int .u64 (tx:Nat)]] W fun e X5=>∃(tb a1:OA) (l1 c1 tp1 tx1:Nat) (ok:Bool),e = .returned (.tuple #[.pointer tb,.bool ok])/\X5.cell? ⟨Y.heap.size,1,none⟩=some (.slice a1 l1 c1)/\X5.cell? ⟨Y.heap.size,2,none⟩=some (.int .i64 (tp1:Nat))/\X5.cell? ⟨Y.heap.size,3,none⟩=some (.int .u64 (tx1:Nat))/\X5.cell? ⟨X.heap.size,0,none⟩=some (.int .u64 (tn:Nat))/\
    ∃W6,X5.alloc (.cells #[.pointer (some ⟨db,0,none⟩),.slice a1 l1 c1,.int .i64 (tp1:Nat),.int .u64 (tx1:Nat),.int .u64 (tn:Nat)] 179)=W6/\Hid (ok=false->Q LO W6)/\
    Hid (ok=true->Cl 137 #[.pointer (some ⟨X5.heap.size,0,none⟩),.pointer (some ⟨Y.heap.size,4,none⟩)] W6 fun e X7=>∃b:Bool,e = .returned (.bool b)/\Hid (b=false->Q LO X7)/\
     Hid (b=true->Cl 138 #[.pointer (some ⟨X5.heap.size,0,none⟩),.pointer tb] X7 fun e X8=>∃b:Bool,e = .returned (.bool b)/\Hid (b=false->Q LO X8)/\Hid (b=true->Q (.returned (.tuple #[.pointer (some ⟨X5.heap.size,0,none⟩),.pointer tb,.bool true])) X8)))))
theorem ZlB(w:World)(a:Nat)(Q:Ending->World->Prop)(h:OY w a Q):Cl 76 #[.pointer (some ⟨a,0,none⟩)] w Q:=by
 unfold OY at h;obtain⟨Z,c⟩:=ex (Ig (.pointer (some ⟨a,0,none⟩)));obtain⟨l,d⟩:∃Z,Z=Ig (.pointer none):=⟨_,rfl⟩;have I:Z.length=1549:=by rw[c];exact Wa _
 have H:l.length=1549:=by rw[d];exact Wa _
 have m:Tryz.prog.built 197 [(0,.pointer (some ⟨a,0,none⟩))]=some Z.toArray:=by rw[c];exact Z9 a
 have o:∀w,(zeroValue 197).run Tryz.prog w = .ok (.agg l.toArray) w:=by rw[d];exact YY
 have n:Z.toArray.all (·.oneCell')=true:=by rw[c];exact Y5 a
 rw[<-c,<-d]at h;have f:=Db h;clear h c d;have q:=Db I;have M:=Db H;clear I H;have s:Hid (∀X,Q LO X->Q (.returned (.tuple #[.pointer none,.pointer none,.bool false])) X):=fun X h=>h
 go_enter Tryz.func76,Tryz.ntmps76;go_upto_region 2 with(go_at_call 135;refine(Da f).mono ?_;rintro e X ⟨J,tp,tx,p,rfl,Y,E,j,k⟩;have z:=Db E;clear E);rw[show X.alloc (.cells #[.int .u64 (J:Nat),.int .i64 (tp:Nat),.int .u64 (tx:Nat)] 191)=Y from Da z]
 cases p
 ·have g:=Db (Da s _ (Da j rfl));clear j k f m o n;go_wp2;exact Da g
 obtain⟨B,F,G,W,C,S,T,t⟩:=Da k rfl;have A:=Db F;have v:=Db C;have y:=Db G;clear F C G k j;go_upto_region 4 with fail;refine A1 ?_;refine WH rfl _ rfl ?_;refine RS rfl 197 0 _ rfl (.pointer (some ⟨a,0,none⟩)) rfl m ?_;refine Ju rfl 197 rfl o ?_;rw[show Y.alloc (.cells l.toArray 197)=B from Da A];refine Bs rfl 197 _ _ rfl Y.heap.size Z.toArray rfl rfl 197 _ (Da y) ?_ ?_ n ?_
 ·rw[Ze,AR,Da q]
 ·rw[AR,AR,Da q,Da M]
 refine EL ?_;rw[show B.setRow Y.heap.size Z.toArray=W from Da v];clear m o n f;go_upto_region 6 with(go_at_call 136;refine(Da t).mono ?_;rintro e P ⟨tb,R,l1,k1,aa,ab,p,rfl,V,d2,d3,U,O,D,r,i⟩;have x:=Db D;clear D);go_upto_region 7 with fail;rw[show P.alloc (.cells #[.pointer (some ⟨a,0,none⟩),.slice R l1 k1,.int .i64 (aa:Nat),.int .u64 (ab:Nat),.int .u64 (J:Nat)] 179)=O from Da x];clear U V d2 d3 S T x t v z A y
 cases p
 ·have g:=Db (Da s _ (Da r rfl));clear r i;go_wp2;exact Da g
 go_wp2_with (first|(go_at_call 137;refine(Da i (by first|rfl|trivial)).mono ?_;rintro e X7 ⟨b,rfl,K,u⟩;clear i;cases b)|(go_at_call 138;refine(Da u (by first|rfl|trivial)).mono ?_;rintro e X8 ⟨b,rfl,L,N⟩;clear u;cases b))
 all_goals first|exact Da K (by first|rfl|trivial)|exact Da L (by first|rfl|trivial)|exact Da N (by first|rfl|trivial)
theorem Oh(f:Nat->Int):∀k,0<DS f k->∃j,j<k/\f j=0
 | 0,h=>by simp[DS]at h
 | k+1,h=>by
  unfold DS at h;by_cases e:f k=0
  ·exact⟨k,by omega,e⟩
  ·rw[if_neg e]at h;obtain⟨j,hj,a⟩:=Oh f k (by omega);exact⟨j,by omega,a⟩
def Oz(T:F5->By->By->Gh->LF->(IB)->Prop)(s':KS)(q:F5)(G:Gh)(I:LF)(CI:IB)(L':List It):Prop:=
 QG q/\Hb q.ins s'.es/\Hh s'/\(∃x last,DA (BL (Dg x 1))=0/\T q x last G I CI)/\GQ (fun n=>CI (n:Int)) L'/\∃W tb rd V Ed vi,TW W tb rd V Ed vi G I CI/\L'=DD (Ja G rd Ed)
def R4(s':KS)(q:F5)(CI:IB)(L':List It):Prop:=
 512<=DS (Dj s'.es) 96/\(∀p,s'.tp<p->p/16=s'.tp/16->q.tk p=false)/\Gu (Do s' false (fun n=>CI (n:Int)) L').1=s'.tp/\GD (Do s' false (fun n=>CI (n:Int)) L').1=s'.tx
def OpP(A:Prop)(T:F5->By->By->Gh->LF->(IB)->Prop)(D:LY)(o:Option (Nat×Nat×Nat))(tn tp tx:Nat)(w:World)(db:Nat)(vf vn:Value)(e:Ending)(w':World):Prop:=
 (e=LO/\Bw w w'/\(A->o≠none->∃es' q G I CI L',Oz T ⟨es',tp,tx,tn,D⟩ q G I CI L'/\¬R4 ⟨es',tp,tx,tn,D⟩ q CI L'))\/
 ∃stb tb va es' q G I CI L',e = .returned (.tuple #[.pointer (some ⟨stb,0,none⟩),.pointer (some ⟨tb,0,none⟩),.bool true])/\o≠none/\Oz T ⟨es',tp,tx,tn,D⟩ q G I CI L'/\R4 ⟨es',tp,tx,tn,D⟩ q CI L'/\GZ w' stb db va ⟨es',tp,tx,tn,D⟩ vf vn (.slice none 0 0) (.slice none 0 0) [] []/\PS w' tb G I CI/\Bw w w'/\w.heap.size<tb/\w.heap.size<=stb/\∀k,F2 va k->w.heap.size<=k
theorem TZ{A:Prop}{T:F5->By->By->Gh->LF->(IB)->Prop}{D:LY}{s i n:Nat}(ar:i<1536)(aN:Mx A T D i n){M N:By}(aO:D[0]?=some M)(aP:D[1]?=some N)(L:J4 M N=none\/J4 M N=some (s,i,n))
  (w:World) (d:Nat) (E:Value) (a:OA) (l c:Nat) (f:DV w d E (.slice a l c) (.slice none 0 0) (.slice none 0 0) D) (aK:¬F2 (.slice a l c) d) (aM:Gs w):
  Cl 76 #[.pointer (some ⟨d,0,none⟩)] w (OpP A T D (J4 M N) s i n w d E (.slice a l c)):=by
 refine ZlB w d _ ?_;unfold OY;refine(Zg9 w d E _ _ a l c D f M N aO aP).mono ?_;rintro e X ⟨rfl,hX⟩;have am:=hX.size;rcases L with L|L
 ·obtain⟨Y,eY,B,kY,sY,bY⟩:=De X [.int .u64 0,.int .i64 0,.int .u64 0] 191;rw[L];exact⟨0,0,0,false,rfl,Y,eY,fun _ => .inl ⟨rfl,hX.trans (bY.mono am),fun _ e=>absurd rfl e⟩,fun e=>by cases e⟩
 rw[L];have r:∀k,¬F2 (.slice none 0 0) k:=fun k e=>by simp[F2,Value.ownBlock]at e
 obtain⟨Y,eY,B,kY,sY,bY⟩:=De X [.int .u64 (s:Nat),.int .i64 (i:Nat),.int .u64 (n:Nat)] 191;obtain⟨P,aA,ay,aX,aY,az⟩:=De Y (Ig (.pointer none)) 197;have C:Bw w Y:=hX.trans (bY.mono am);refine⟨s,i,n,true,rfl,Y,eY,(fun e=>by cases e),fun _=>⟨P,aA,ay,_,rfl,?_⟩⟩;obtain⟨W,z⟩:=ex (P.setRow Y.heap.size (Ig (.pointer (some ⟨d,0,none⟩))).toArray);have xW:F0 W Y.heap.size 197 (Ig (.pointer (some ⟨d,0,none⟩))):=by rw[z];exact BQ P _ _ _ 197 _ ay
 have Q:Bw Y W:=az.trans ⟨by rw[z];rfl,by rw[z];rfl,by rw[z];rfl,by rw[z];simp,fun j hj=>by rw[z];exact Bn P _ j _ (by omega)⟩;rw[<-z];have lW:F0 W X.heap.size 191 _:=(Q.block _ B.lt).trans B;refine⟨(lW.cell 1).trans rfl,(lW.cell 2).trans rfl,?_⟩;have aC:DV Y d E (.slice a l c) (.slice none 0 0) (.slice none 0 0) D:=⟨(C.block _ f.1.lt).trans f.1,⟨f.2.1.1.kept (fun k g _=>C.block k g),f.2.1.2⟩,f.2.2⟩;have aT:=f.1.lt;have ad:=C.size;have ag:∀k,F2 (.slice a l c) k->k<w.heap.size:=fun k g=>f.2.1.1.lt g
 have aL:Gs W:=aM.fr (Fr.of_below (C.trans (Q.mono ad))) (X:=fun _=>False) (fun e=>e);refine(aN W Y Y.heap.size Y.heap.size d _ _ (Gd.start xW Q (Aa _) (Aa _)) aC ⟨by omega,fun k g=>by have:=ag k g;omega⟩ (by omega) aL).mono ?_;intro e m hR;rcases hR with⟨rfl,S,aJ⟩|⟨tb,q,va,vt,hq,rfl,H,⟨G,I,O,aD,al,x,aR,aQ,hT⟩,aU,aW⟩
 ·obtain⟨t,v,u,aw,ax,r1,r2,r3⟩:=S.row;have aj:=S.bel.size;have l5:F0 m X.heap.size 191 _:=(S.bel.block _ B.lt).trans B;obtain⟨o,aa,ai,av,aS,F⟩:=De m [.pointer (some ⟨d,0,none⟩),.slice t v u,.int .i64 (aw:Nat),.int .u64 (ax:Nat),.int .u64 (s:Nat)] 179;exact⟨none,t,v,u,aw,ax,false,rfl,r1,r2,r3,(l5.cell 0).trans rfl,o,aa,fun _ => .inl ⟨rfl,C.trans ((S.bel.mono ad).trans (F.mono (by omega))),fun hA=>absurd hA aJ⟩,fun e=>by cases e⟩
 obtain⟨L5,r0,r1,r2,r3,r4,r5,r6,r7⟩:=H.row;obtain⟨h,an,af⟩:=H.es;obtain⟨t,v,u,rfl⟩:=af.shape;have ae:=H.bel;have aj:=ae.size;have l5:F0 m X.heap.size 191 _:=(ae.block _ B.lt).trans B;obtain⟨o,aa,ai,av,aS,F⟩:=De m [.pointer (some ⟨d,0,none⟩),.slice t v u,.int .i64 (i:Nat),.int .u64 (n:Nat),.int .u64 (s:Nat)] 179;have aG:Bw Y o:=ae.trans (F.mono aj);have Z:Bw w o:=C.trans (aG.mono ad);refine⟨some ⟨tb,0,none⟩,t,v,u,i,n,true,rfl,(r0.cell 1).trans r2,(r0.cell 2).trans r3,(r0.cell 3).trans r4,(l5.cell 0).trans rfl,o,aa,(fun e=>by cases e),fun _=>?_⟩;have aB:DV o d E (.slice a l c) (.slice none 0 0) (.slice none 0 0) D:=⟨(Z.block _ f.1.lt).trans f.1,⟨f.2.1.1.kept (fun k g _=>Z.block k g),f.2.1.2⟩,f.2.2⟩;have ap:Sl o 350 2 (.slice t v u) h.length (Ds h):=af.kept (fun k g _=>F.block k g);have aq:GZ o m.heap.size d (.slice t v u) ⟨h,i,n,s,D⟩ E (.slice a l c) (.slice none 0 0) (.slice none 0 0) [] []:=by
  refine⟨⟨ai,aB,Ih.nil _,⟨rfl,.inl ⟨rfl,rfl⟩⟩,by omega,⟨fun e=>by have:=ag _ e;omega,r _,r _⟩,⟨aK,r _,r _⟩,fun k _=>r k,fun k _=>r k,fun k _=>r k⟩,ap,fun k g e=>?_⟩;have h1:=(H.oa k g).1;have h2:=af.lt g;rcases e with e|e|e|e|e
  ·omega
  ·omega
  ·have:=ag k e;omega
  ·exact r k e
  ·exact r k e
 have U:Ui h:=an.places (by have:=hq.len;omega) (fun y hy=>(hq.pl y hy).2.1);have ao:Hh ⟨h,i,n,s,D⟩:=⟨U.2.1,U.1,ar,f.2.2,U.2.2⟩;obtain⟨rd,V,Ed,vi,ac⟩:=aD;have aF:=Sr ac al;have ab:Oz T ⟨h,i,n,s,D⟩ q G I O (DD (Ja G rd Ed)):=⟨hq,an,ao,⟨x,aR,aQ,hT⟩,aF.ok,m,tb,rd,V,Ed,vi,ac,rfl⟩;refine(Zkw o m.heap.size Y.heap.size i _ _ _ _ h ai ap U ar q.tk L5 (av _ _ _ r0) r5).mono ?_;rintro e X7 ⟨b,rfl,R,J⟩;have ah:Bw w X7:=Z.trans (R.mono Z.size);refine⟨b,rfl,fun p => .inl ⟨rfl,ah,fun _ _=>⟨h,q,G,I,O,_,ab,fun K=>?_⟩⟩,fun p=>?_⟩
 ·rw[J.2 ⟨K.1,K.2.1⟩]at p;cases p
 obtain⟨aI,aH⟩:=J.1 p;have aE:Bw m X7:=F.trans (R.mono (by omega));have ak:=ac.below aE (Aa _);obtain⟨jj,q1,q2⟩:=Oh (Dj h) 96 (by omega);refine(Zkh (aq.below R) ao ⟨jj,q1,by show Dj h jj<=0;omega⟩ (Sr ak al)).mono ?_;rintro e X8 ⟨b,rfl,h8,J⟩;have au:Bw w X8:=ah.trans (h8.mono ah.size);refine⟨b,rfl,fun p => .inl ⟨rfl,au,fun _ _=>⟨h,q,G,I,O,_,ab,fun K=>?_⟩⟩,fun p=>?_⟩
 ·rw[J.2 ⟨K.2.2.1,K.2.2.2⟩]at p;cases p
 have aV:Y.heap.size<=W.heap.size:=Q.size;exact .inr ⟨m.heap.size,tb,.slice t v u,h,q,G,I,O,_,rfl,(fun e=>by cases e),ab,⟨aI,aH,J.1 p⟩,(aq.below R).below h8,⟨rd,V,Ed,vi,ak.below h8 (Aa _)⟩,au,by omega,by omega,fun k g=>by have:=(H.oa k g).1;omega⟩
theorem Gf.part{s:KS}(h:Gf s):∃j,j<96/\Dj s.es j<=0:=by
 obtain⟨j,a,e⟩:=Oh (Dj s.es) 96 (by have:=h.fr;omega);exact⟨j,a,by omega⟩
theorem ZkD{E:F3}{C a:NB}{b:By}{st:Pl}{x:It}(h:C x.f=a x.f):Dt E C b st x=Dt E a b st x:=by
 unfold Dt;rw[h]
theorem Wg{E:F3}{C a:NB}:∀(L:List It) (last:By) (st:Pl),(∀y∈L,C y.f=a y.f)->Dr E C last st L=Dr E a last st L
 | [],_,_,_=>rfl
 | x::xs,last,st,h=>by
  unfold Dr;rw[ZkD (h x (by simp)),Wg xs _ _ (fun y b=>h y (AF _ b))]
theorem ZiU{s:KS}{cl:Bool}{C a:NB}{L:List It}(h:∀y∈L,C y.f=a y.f):Do s cl C L=Do s cl a L:=by
 unfold Do Js;rw[Wg L _ _ h]
def YM(w:World)(db:Nat)(s:KS)(C:NB)(L:List It)(vf vn:Value)(e:Ending)(w':World):Prop:=
 ∃stb tb va,e = .returned (.tuple #[.pointer (some ⟨stb,0,none⟩),.pointer (some ⟨tb,0,none⟩),.bool true])/\GZ w' stb db va s vf vn (.slice none 0 0) (.slice none 0 0) [] []/\(∃G I CI,PS w' tb G I CI/\Gx C L G I CI)/\Bw w w'/\w.heap.size<tb/\w.heap.size<=stb/\∀k,F2 va k->w.heap.size<=k
theorem Zh3{s:KS}(g:Gf s)(O:GW s)(al:s.tn+1<18446744073709551616){es:LS}(aa:Gm es)(Y:∀x∈es,∃f:Nat,x.2=⟨none,(f:Int)⟩){C:NB}(m:F7 C (es.map Io))(o:Ge s C (es.map Io))
  (w:World) (k:Nat) (D:Value) (a:OA) (l c:Nat) (P:DV w k D (.slice a l c) (.slice none 0 0) (.slice none 0 0) s.D) (ad:¬F2 (.slice a l c) k) (af:Gs w):
  Cl 76 #[.pointer (some ⟨k,0,none⟩)] w (YM w k s C (es.map Io) D (.slice a l c)):=by
 obtain⟨t,B,Q,_⟩:=o.on g.w m.ok m.k2;obtain⟨s0,s1,ai,aj,H⟩:=O.last g.ok.tp al;obtain⟨T,ah,ac⟩:=Y9 g m Q;have L:∀d q G I b j,Oz T ⟨d,s.tp,s.tx,s.tn,s.D⟩ q G I b j->d=s.es/\Gx C (es.map Io) G I b/\R4 ⟨d,s.tp,s.tx,s.tn,s.D⟩ q b j:=by
  rintro d q G I b j ⟨_,F,_,⟨x,an,am,S⟩,_,W,tb,rd,V,M,vi,E,rfl⟩;obtain⟨i,J,ag⟩:=ac q x an G I b S am;have ab:d=s.es:=F.1.ext g.ok.srt (fun x=>by
   have Z:=F.2.2 x;rw[Z];constructor
   ·rintro⟨y,u,rfl⟩;exact(J y).1 u
   ·intro K;obtain⟨y,u,rfl⟩:=(o.es.2.2 x).1 K;exact⟨y,(J y).2 K,rfl⟩)
  subst ab;refine⟨rfl,i,g.fr,fun p v z=>?_,?_⟩
  ·cases hk:q.tk p with
   | false=>rfl
   | true=>
    obtain⟨r,hr⟩:=ag p hk;have:=g.cur _ hr (by simp only[Bz];exact z);simp only[Bz]at this;have ap:s.tp<p:=v;omega
  ·have U:DD (Ja G rd M)=es.map Io:=by rw[(i.flt m).its E,i.same aa Y E]
   rw[U];have ae:Do s false (fun n=>b (n:Int)) (es.map Io)=Do s false C (es.map Io):=ZiU (fun y u=>i.c y u);show Gu (Do s false _ _).1=s.tp/\GD (Do s false _ _).1=s.tx;rw[ae];exact⟨o.tp,o.tx⟩
 refine(TZ g.ok.tp ah ai aj (.inr H) w k D a l c P ad af).mono ?_;intro e w' hp;rcases hp with⟨_,_,h⟩|⟨ao,tb,va,d,q,G,I,b,j,rfl,_,A,_,ak,R,X,v,z,N⟩
 ·obtain⟨d,q,G,I,b,j,A,hn⟩:=h AQ (by rw[H];exact fun e=>by cases e);exact absurd (L _ _ _ _ _ _ A).2.2 hn
 ·obtain⟨rfl,i,_⟩:=L _ _ _ _ _ _ A;exact⟨ao,tb,va,rfl,ak,⟨G,I,b,R,i⟩,X,v,z,N⟩
def QP(E:F3)(q:F5):Prop:=∀y∈q.ins,y.2=F9 E y.1
theorem Yj{E:F3}{q:F5}(h:QP E q)(r:Nat):QP E (q.putO r (F9 E r)):=fun y a=>by
 rcases T2 a with rfl|a
 ·rfl
 ·exact h y a
theorem Rj{q:F5}{r p a:Nat}(h:a=r\/∃y∈q.ins,y.1=a):∃y∈(q.putO r p).ins,y.1=a:=by
 by_cases e:a=r
 ·subst e;show ∃y∈(if ∃y∈q.ins,y.1=a then q.ins.map (fun y=>if y.1=a then (a,p) else y) else q.ins++[(a,p)]),y.1=a
  split
  ·rename_i d;obtain⟨y,b,e⟩:=d;exact⟨(a,p),Au.2 ⟨y,b,if_pos e⟩,rfl⟩
  ·exact⟨(a,p),Bo _ (Ab.2 rfl),rfl⟩
 ·obtain⟨y,b,c⟩:=h.resolve_left e;exact⟨y,SZ b (by rw[c];exact e),c⟩
theorem SE{E:F3}{q:F5}(h:QP E q)(f:Nat)(P:Nat->Nat):∀K,(∀i,i<K->P i=F9 E (Dd 4 f i))->QP E (Jf q f P K)/\(∀a,(∃y∈q.ins,y.1=a)->∃y∈(Jf q f P K).ins,y.1=a)/\∀i,i<K->∃y∈(Jf q f P K).ins,y.1=Dd 4 f i
 | 0,_=>⟨h,fun _ h=>h,fun i b=>by omega⟩
 | K+1,hP=>by
  obtain⟨g,j,l⟩:=SE h f P K (fun i b=>hP i (by omega));have e:Jf q f P (K+1)=((Jf q f P K).take (P K)).putO (Dd 4 f K) (F9 E (Dd 4 f K)):=by rw[<-hP K (by omega)];rfl
  rw[e];refine⟨Yj (q:=(Jf q f P K).take (P K)) g _,fun a d=>Rj (q:=(Jf q f P K).take (P K)) (.inr (j a d)),fun i b=>?_⟩;by_cases c:i=K
  ·exact Rj (q:=(Jf q f P K).take (P K)) (.inl (by rw[c]))
  ·exact Rj (q:=(Jf q f P K).take (P K)) (.inr (l i (by omega)))
def L6(E:F3)(C:NB)(L:List It)(z:Nat)(q:F5)(s last:By):Prop:=
 ∃k,k<=L.length/\s=Lt E C L z k/\last=Qp (fun j=>jn (gi L j).ns) k/\QP E q/\∀k',k'<k->∀i,i<Gg (C (gi L k').f)->∃y∈q.ins,y.1=Dd 4 (gi L k').f i
theorem L6.step{D:LY}{E:F3}{C:NB}{L:List It}(hF:F7 C L)(hlt:∀r,F9 E r<1536)(hdat:∀x∈L,∀k,k<Gg (C x.f)->16<=F9 E (Dd 4 x.f k)/\F9 E (Dd 4 x.f k)<1536/\D[F9 E (Dd 4 x.f k)]?=some (Gl (C x.f) k))(z:Nat){q o:F5}{s n p t:By}{m:Nat}(h:L6 E C L z q s n)(G:Ll q s n m p o t)(g:m≠0):L6 E C L z o t p:=by
 obtain⟨k,ab,j,H,B,F⟩:=h;obtain⟨c,_,v⟩:=G;obtain⟨w,_,y⟩:=v g;rcases AO k L.length with a|a
 ·obtain⟨M,_,N,O,u5,P,u,Q⟩:=Qs hF hlt hdat z a j H;obtain⟨b,d⟩:=y (c.trans M);rw[u,O]at b;rw[u]at d;obtain⟨I,J,K⟩:=SE B (gi L k).f (eQ s) (Gg (C (gi L k).f)) P;refine⟨k+1,a,d.trans Q,w.trans N,by rw[b];exact I,fun l aa i e=>?_⟩;rw[b];by_cases A:l=k
  ·subst A;exact K i e
  ·exact J _ (F l (by omega) i e)
 ·exfalso;refine g ?_;rw[c,j];exact Ve E C L z a
theorem L6.fin{D:LY}{E:F3}{C:NB}{L:List It}(hF:F7 C L)(hlt:∀r,F9 E r<1536)(hdat:∀x∈L,∀k,k<Gg (C x.f)->16<=F9 E (Dd 4 x.f k)/\F9 E (Dd 4 x.f k)<1536/\D[F9 E (Dd 4 x.f k)]?=some (Gl (C x.f) k))(z:Nat){q:F5}{s u:By}(h:L6 E C L z q s u)(h0:DA (BL (Dg s 1))=0):∀x∈L,∀i,i<Gg (C x.f)->(Dd 4 x.f i,F9 E (Dd 4 x.f i))∈q.ins:=by
 obtain⟨k,aa,p,o,g,l⟩:=h;rcases AO k L.length with b|b
 ·exfalso;have:=(Qs hF hlt hdat z b p o).1;omega
 ·intro x t i m;obtain⟨j,n,d⟩:=CW.1 t;have a:gi L j=x:=by unfold gi;rw[Ac n,d];rfl
  obtain⟨y,c,e⟩:=l j (by omega) i (by rw[a];exact m);rw[a]at e;have:=g y c;rw[<-e,<-this];exact c
def RX(s:KS)(C:NB)(L:List It)(t:By)(B z j:Nat)(D':LY)(q:F5)(x last:By):Prop:=
 (∃b g,Jb D' 1537 s.tp D2=some (b,g)/\∀y∈g.ins,y∈q.ins)/\((∀b k,b<=B->k<nR (Dk s.es false s.tp s.D) t b->F9 (Dk s.es false s.tp s.D) (Dy b k)≠j)->L6 (Dk s.es false s.tp s.D) C L z q x last)
theorem Zlc{s:KS}(hI:Gf s){C:NB}{L:List It}(hF:F7 C L){t:By}{B:Nat}(I:MH s C L t B){z j:Nat}{F:LY}(_:F.length=1536)(au:∀p,p≠j->F[p]?=s.D[p]?)(aj:∀y S,s.D[j]?=some y->F[j]?=some S->Dl S≠Dl y)(aC:∃r:Int,(r,(j:Int))∈s.es)
  {q:F5} {x aJ:By} (hT:RX s C L t B z j F q x aJ) (aI:DA (BL (Dg x 1))=0) (hq:QG q) {o:LI} (az:Hb q.ins o) {N:KS} (am:N=⟨o,s.tp,s.tx,s.tn,F⟩) (aF:Hh N) (aL:512<=DS (Dj o) 96) (ax:∀p,s.tp<p->p/16=s.tp/16->q.tk p=false)
  {A:NB} {G:List It} (v:GQ A G) (R:Gu (Do N false A G).1=s.tp) (aq:GD (Do N false A G).1=s.tx):False:=by
 obtain⟨⟨b0,g,hg,aA⟩,ak⟩:=hT;obtain⟨E,hE⟩:=ex (Dk s.es false s.tp s.D);have ab:=hI.ok.env false;have W:=I.rows;have ao:=I.tab;have hdat:=I.dat;have ag:=I.es;have Y:=I.tp;have ap:=I.tx;rw[<-hE]at ab W ao hdat ag Y ap ak;have hlt:∀r,F9 E r<1536:=fun r=>by
  unfold F9
  cases e:E.at r with
  | none=>show 0<_;omega
  | some q=>exact(ab.at_some e).2
 obtain⟨a,J⟩:=ex (Dk o false s.tp F);have aH:=hI.ok.tp;have K:Lo a:=by
  obtain⟨jj,i,l⟩:=Oh (Dj o) 96 (by omega);have:=aF.env false;rw[am]at this;rw[J];exact⟨this,jj,i,by show Dj o jj<=0;omega⟩
 have P:a.D=F:=by rw[J];rfl
 have ae:a.bt=s.tp:=by rw[J];rfl
 have aE:a.nd=Dj o:=by rw[J];rfl
 have ac:∀r p,(r,p)∈q.ins->¬Nx a p:=fun r p H hn=>by
  have M:=(hq.pl _ H).2.2;have aD:((r:Int),(p:Int))∈o:=(az.2.2 _).2 ⟨(r,p),H,rfl⟩;rcases hn with e|⟨e1,e2⟩
  ·have:=Q4 aD;simp only[Bz]at this;rw[aE]at e;omega
  ·rw[ae]at e1 e2;have:=ax p e2 e1;rw[M]at this
   cases this
 obtain⟨T,Q⟩:=ex (Dr a A ⟨#[]⟩ ⟨s.tp+1,[],[]⟩ G);obtain⟨d,X⟩:∃d:By,d=T.1++⟨#[0]⟩:=⟨_,rfl⟩;have h0:Hx a (s.tp+1):=by
  refine⟨aH,?_⟩;rw[ae];by_cases e:(s.tp+1)%16=0
  ·exact .inl e
  ·exact .inr (.inr ⟨by omega,by omega⟩)
 have an:Hx a T.2.hd:=by rw[Q];exact Sq K A _ _ _ h0
 have V:Do N false A G=DE a 8 (0+1) (gR a d T.2 (0+1)).2 (gR a d T.2 (0+1)).1:=by
  rw[X,Q,J,am];rfl
 obtain⟨t1,_⟩:=KP a A ⟨#[]⟩ ⟨s.tp+1,[],[]⟩ G (fun z hz=>⟨v.path z hz,v.size z hz,v.kind z hz⟩);rw[<-Q]at t1;have aO:=v.len;have aQ:d.size=T.1.size+1:=by rw[X];exact Ai
 have ai:gN a d T.2 0=(d.size+63-1)/63:=rfl;have aw:(6:Nat) ^ 8=1679616:=by decide
 obtain⟨m,aa,eB⟩:=idx_gR a d T.2 8 0 (by rw[U8,ai,aw];omega) (by rw[ai];omega);rw[eB]at V;have aM:=(O5 K d an m 0).1;have al:(gR a d T.2 (m+1)).1=DI (gP a d T.2 m 0) (Dl (gB a d T.2 m 0)):=Kn (by
  rw[O6,aa,Ub];unfold DR DR;rw[AA])
 rw[V,al,Uc _ _ (by omega)]at R;rw[V,al,Vb _ _ (JS _)]at aq;have af:=ON W (fun _ _=>rfl) K an (j:=j) (fun p R=>by rw[P];exact au p R) (fun y S i l=>aj y S i (by rw[<-P];exact l)) (f:=1537) (b0:=b0) (q0:=D2) (g:=g) (by rw[P,<-Y];exact hg) (fun r p H=>ac r p (aA _ H)) aa (R.trans Y) (aq.trans ap);have ah:∀b k,b<=B->k<nR E t b->F9 E (Dy b k)≠j:=fun b k hb M=>((af (B-b) b (by omega)).2 k M).2.2.1
 have ay:=L6.fin hF hlt hdat z (ak ah) aI;obtain⟨d1,U⟩:=af B 0 (by omega);have aP:=W.pos B 0 (by omega);have ar:m-B=0:=by
  obtain⟨_,_,_,c4,_⟩:=U 0 (by omega);rcases BC (m-B) with h|h
  ·exact h
  ·exfalso;obtain⟨c,hc⟩:∃c,m-B=c+1:=⟨m-B-1,by omega⟩;have i:=Qm (G0 0) (GN E t 0) (GR 0) 0;rw[<-c4,hc]at i;have l:(gB a d T.2 (c+1) 0).data[0]?=some (G0 (c+1)):=Qm _ _ _ _;rw[l,K7]at i
   revert i;decide
 rw[ar]at U;have aK:GN E t 0=t:=rfl;have av:nR E t 0=(t.size+63-1)/63:=rfl;obtain⟨r,hr⟩:=Rt (t1:=t) (t0:=d) (n:=nR E t 0) (by rw[av];omega) (fun k M=>((U k M).2.2.2.1).symm);have ad:BL (DW E C ⟨#[]⟩ L)++0::r=BL T.1++0::List.replicate (63*nR E t 0) 0:=by
  have b1:BL t=BL (DW E C ⟨#[]⟩ L)++[0]:=by rw[ao];exact DO _ _
  have b2:BL d=BL T.1++[0]:=by rw[X];exact DO _ _
  rw[b1,b2,Ar,Ar]at hr;exact hr
 rw[Q]at ad;have aG:=Tr (fun r=>by have:=hlt r;omega) K L G ⟨#[]⟩ ⟨#[]⟩ ⟨s.tp+1,[],[]⟩ r _ h0 (fun x w=>⟨by have:=(hF.path w).2.2;omega,hF.num x w,hF.sz x w⟩) (fun x w=>⟨v.path x w,v.num x w,v.size x w,v.kind x w⟩) ad;obtain⟨rr,aB⟩:=aC;rcases (ag _).1 aB with⟨u,Z,k,i,l⟩|⟨b,k,i,l,h3⟩
 ·rw[AT]at l;have O:j=F9 E (Dd 4 u.f k):=by have:=l.2;omega
  obtain⟨st,r0,bb,p1,p2,p3⟩:=aG u Z k i;have H:=ay u Z k i;rw[<-O]at p2 H;rcases (UX K p1 r0 bb).2.2 with e|e
  ·rw[p2,P]at e;have hd:=(hdat u Z k i).2.2;rw[<-O]at hd;exact aj _ _ hd e p3
  ·rw[p2]at e;exact ac _ _ H e
 ·rw[AT]at h3;have O:j=F9 E (Dy b k):=by have:=h3.2;omega
  exact ah b k i l O.symm
end Go.Proofs.YtaieidcohdhgpaaGreatDoor
