/- Dumps. -/
import Derived.Test.YtaieidcohdhgpaaGreatDoorZAK
namespace Go.Proofs.YtaieidcohdhgpaaGreatDoor
set_option maxHeartbeats 40000000
set_option maxRecDepth 100000
open Go.RowKit
structure Rl(G:Gh)(I:LF)(C:IB)(ρ : Int->Nat)(L:List (By×Int))(F:LY):Prop where
 eqL:L=G.map (vw ρ)
 ok:F0 G
 num:GA I ρ L F
 fl:∀x∈G,x.2.p=none->∃r,(x.2.f,r)∈I
 con:∀x∈I,F[ρ x.1]?=some (C x.1)
 pos:∀x∈I,0<=x.1
 lG:G.length<=100
 lI:I.length<=60
 sz:∀s∈F,s.size<=1280
theorem Rl.C_le{G:Gh}{I:LF}{C:IB}{ρ : Int->Nat}{L:List (By×Int)}{F:LY}(h:Rl G I C ρ L F):∀x∈I,(C x.1).size<=1280:=fun x a=>h.sz _ (An (h.con x a))
theorem Rl.l_eq{G:Gh}{I:LF}{C:IB}{ρ : Int->Nat}{L:List (By×Int)}{F:LY}(h:Rl G I C ρ L F):∀x∈I,x.2.l=(C x.1).size:=fun x a=>by
 rw[h.num.size x a,h.con x a];rfl
theorem Rl.lL{G:Gh}{I:LF}{C:IB}{ρ : Int->Nat}{L:List (By×Int)}{F:LY}(h:Rl G I C ρ L F):L.length=G.length:=by rw[h.eqL,A7]
theorem Rl.flOk{G:Gh}{I:LF}{C:IB}{ρ : Int->Nat}{L:List (By×Int)}{F:LY}(h:Rl G I C ρ L F):Hx G I:=fun x e d=>by
 obtain⟨r,a⟩:=h.fl x e d;refine⟨r,a,?_,?_⟩
 ·have b:=h.num.links _ a;have c:=h.num.live _ a;simp only at b c;omega
 ·have b:=h.num.links _ a;have c:L.countP (Dz (ρ x.2.f))<=L.length:=Bj;have h3:=h.lL;have h4:=h.lG;simp only at b;omega
theorem Kg{p:By}(h:Df p=true):(p.toList==[47])=true↔Dc p=[]:=by
 constructor
 ·exact Q3
 ·intro a
  cases hr:(p.toList==[47]) with
  | true=>rfl
  | false=>exact absurd a (Qx h hr).2.2.1
theorem O8{p:By}(_h:Df p=true)(a:Dc p≠[]):(p.toList==[47])=false:=by
 cases hr:(p.toList==[47]) with
 | true=>exact absurd (Q3 hr) a
 | false=>rfl
theorem Kq{p:By}(h:Df p=true)(c:Dc p≠[]):p=jn (Dc p)/\Ga (Dc p):=by
 obtain⟨a,b,_,_⟩:=Qx h (O8 h c);exact⟨a,b⟩
section
variable{G:Gh}{I:LF}{C:IB}{ρ : Int->Nat}{L:List (By×Int)}{F:LY}
theorem Rl.ah(h:Rl G I C ρ L F){p:By}(b:Df p=true):DD L p=F8 G (Ds [] (Dc p)):=by
 by_cases a:Dc p=[]
 ·rw[a,Zje L p ((Kg b).2 a)];rfl
 ·obtain⟨e,c⟩:=Kq b a;have:=Yw h.ok ρ c a;rw[h.eqL];rw[<-e]at this;exact this
theorem Rl.ask(h:Rl G I C ρ L F)(p:By):J1 L p=if Df p=false then 1 else F8 G (Ds [] (Dc p)):=by
 unfold J1
 cases hp:Df p with
 | false=>rfl
 | true=>
  have:=h.ah hp;unfold DD at this;simp only[EZ,this,B3,E0]
theorem Rl.lk(h:Rl G I C ρ L F){p:By}(c:Df p=true)(b:Dc p≠[]):FT L p=(FQ G (Dc p)).map (DF ρ):=by
 obtain⟨e,a⟩:=Kq c b;have:=Sa h.ok ρ a;rw[h.eqL];rw[<-e]at this;exact this
theorem Rl.dir(h:Rl G I C ρ L F){ns:LY}(a:Ga ns):L.countP (Dx (jn ns))=G.countP (GF ns):=by rw[h.eqL,dir_vw h.ok ρ a]
theorem Ps{p:By}(f:Df p=true)(c:Dc p≠[]):Jd p=jn (Dc p).dropLast/\Ga (Dc p).dropLast:=by
 obtain⟨e,a⟩:=Kq f c;obtain⟨d,n,b⟩:=Qk c;rw[b]at e a;rw[b,CJ];refine⟨?_,a.left⟩
 conv=>lhs;rw[e]
 exact Ul d n (K7 (a n (by simp)))
theorem Rl.nodes(h:Rl G I C ρ L F):Qe L F=cD G []+I.length:=by
 unfold Qe;rw[OS h.ok,<-h.num.length]
 congr 2
 rw[h.eqL,WG]
theorem Rl.room(h:Rl G I C ρ L F){p:By}(d:Df p=true)(c:Dc p≠[])(n:Nat):JJ L F p n=decide (G.countP (GF (Dc p).dropLast)<20/\G.length<100/\cD G []+I.length+n<=60):=by
 obtain⟨a,b⟩:=Ps d c;unfold JJ;rw[a,h.dir b,h.lL,h.nodes]
theorem Rl.may(h:Rl G I C ρ L F){p:By}(e:Df p=true)(d:Dc p≠[]):JJ L F p 1=Ja G I (Dc p).dropLast:=by
 rw[h.room e d,Ja,Eo];constructor
 ·rintro⟨a,b,c⟩;exact⟨⟨a,b⟩,by omega⟩
 ·rintro⟨⟨a,b⟩,c⟩;exact⟨a,b,by omega⟩
theorem Rl.mayLink(h:Rl G I C ρ L F){p:By}(e:Df p=true)(d:Dc p≠[])(aa:cD G []+I.length<=60):JJ L F p 0=JP G (Dc p).dropLast:=by
 rw[h.room e d,JP,Eo];constructor
 ·rintro⟨a,b,c⟩;exact⟨a,b⟩
 ·rintro⟨a,b⟩;exact⟨a,b,by omega⟩
theorem Rl.gap(h:Rl G I C ρ L F){p:By}(b:Df p=true):DU G (Dc p)=if DD L p≠0 then DD L p else if (p.toList==[47])=true\/(FT L p).isSome=true then 6 else 0:=by
 unfold DU;rw[h.ah b];by_cases c:F8 G (Ds [] (Dc p))=0
 ·have f:¬(F8 G (Ds [] (Dc p))≠0):=by simpa using c
  rw[if_neg f,if_neg f];by_cases d:Dc p=[]
  ·rw[if_pos (.inl d),if_pos (.inl ((Kg b).2 d))]
  ·have e:((Dc p=[]\/(FQ G (Dc p)).isSome=true)↔((p.toList==[47])=true\/(FT L p).isSome=true)):=by
    rw[h.lk b d,Kg b,Option.isSome_map]
   by_cases a:Dc p=[]\/(FQ G (Dc p)).isSome=true
   ·rw[if_pos a,if_pos (e.1 a)]
   ·rw[if_neg a,if_neg (fun h=>a (e.2 h))]
 ·rw[if_pos c,if_pos c]
theorem Rl.mkdirE(h:Rl G I C ρ L F)(p:By):G2 G I p=(DS L F p).1/\(G2 G I p≠0->(DS L F p).2=L)/\(G2 G I p=0->(DS L F p).2=L++[(p,-1)]/\Df p=true/\Dc p≠[]/\FQ G (Dc p)=none/\DU G (Dc p)=0/\Ja G I (Dc p).dropLast=true):=by
 unfold G2 DS J1
 cases hp:Df p with
 | false=>simp
 | true=>
  have a:=h.gap hp;have d:JV L (Jl p (p.size-1) 1)=DD L p:=rfl;simp only[EZ,d,B3,E0];by_cases b:DD L p=0
  ·rw[if_neg (show ¬DD L p≠0 by simpa using b)]at a ⊢;by_cases c:(p.toList==[47])=true\/(FT L p).isSome=true
   ·rw[if_pos c]at a ⊢;rw[a];simp
   ·rw[if_neg c]at a ⊢;rw[a];have f:Dc p≠[]:=fun e=>c (.inl ((Kg hp).2 e))
    have g:FQ G (Dc p)=none:=by
     cases d:FQ G (Dc p) with
     | none=>rfl
     | some u=>exact absurd (.inr (by rw[h.lk hp f,d];rfl)) c
    rw[h.may hp f]
    cases hm:Ja G I (Dc p).dropLast with
    | false=>simp
    | true=>simp[f,g]
  ·rw[if_pos b]at a;rw[a,if_pos b,if_pos b];exact⟨rfl,fun _=>rfl,fun e=>absurd e b⟩
end
theorem Ru{G:Gh}{b:LY}{n:By}(h:F8 G (Ds [] (b++[n]))=0):b=[]\/∃v,(b,v)∈G/\v.p.isSome=true:=by
 by_cases d:b=[]
 ·exact .inl d
 ·right;have i:∀(A:List (LY)) (q:LY),F8 G (A++[q])=0->∃v,FQ G q=some v/\v.p.isSome=true:=by
   intro A q
   induction A with
   | nil=>
    intro h;rw[AJ,F8]at h
    cases ha:FQ G q with
    | none=>rw[ha]at h;simp at h
    | some u=>
     rw[ha]at h;by_cases c:u.p.isSome=true
     ·exact⟨u,rfl,c⟩
     ·simp[c]at h
   | cons a A ih=>
    intro h;rw[AL,F8]at h
    cases ha:FQ G a with
    | none=>rw[ha]at h;simp at h
    | some u=>
     rw[ha]at h;by_cases c:u.p.isSome=true
     ·simp only[c,EZ]at h;exact ih h
     ·simp[c]at h
  rw[Ux [] b n [] d]at h;have e:Ds ([]++b) [n]=[]:=rfl;rw[e,AJ]at h;obtain⟨v,g,f⟩:=i _ _ h;exact⟨v,Ko g,f⟩
theorem GA.congrL{I:LF}{ρ : Int->Nat}{L c:List (By×Int)}{F:LY}(h:GA I ρ L F)(a:∀f:Nat,c.countP (Dz (f:Int))=L.countP (Dz (f:Int))):GA I ρ c F:=
 ⟨h.nd,h.inj,h.lt,fun x b=>by rw[a];exact h.live x b,fun f d e=>h.all f d (by rw[<-a];exact e),h.size,fun x b=>by rw[a];exact h.links x b⟩
section
variable{G:Gh}{I:LF}{C:IB}{ρ : Int->Nat}{L:List (By×Int)}{F:LY}
theorem Rl.gokAdd(h:Rl G I C ρ L F){p:By}(f:Df p=true)(d:Dc p≠[])(g:FQ G (Dc p)=none)(a:DU G (Dc p)=0)(u:VS):F0 (G++[(Dc p,u)]):=by
 have c:F8 G (Ds [] (Dc p))=0:=by
  unfold DU at a;by_cases b:F8 G (Ds [] (Dc p))=0
  ·exact b
  ·rw[if_pos b]at a;exact a
 refine h.ok.add (Kq f d).2 d (QB f) g (fun ds n e=>?_) u;rw[e]at c;exact Ru c
theorem Rl.addDir(h:Rl G I C ρ L F){p:By}(k:G2 G I p=0)(g:Nat):Rl (G++[(Dc p,⟨some ⟨g,0,none⟩,0⟩)]) I C ρ (L++[(p,-1)]) F:=by
 obtain⟨_,e,d,i,j,c⟩:=(h.mkdirE p).2.2 k;refine⟨?_,h.gokAdd e d i j _,h.num.congrL (fun f=>?_),fun x a b=>?_,h.con,h.pos,?_,h.lI,h.sz⟩
 ·rw[Bo,h.eqL]
  congr 1
  show [(p,(-1:Int))]=[(jn (Dc p),DF ρ ⟨some ⟨g,0,none⟩,0⟩)];rw[<-(Kq e d).1];rfl
 ·rw[Ck];have:List.countP (Dz (f:Int)) [(p,(-1:Int))]=0:=by
   simp[Dz]
  omega
 ·rcases As.1 a with a|a
  ·exact h.fl x a b
  ·rw[Av.1 a]at b;cases b
 ·unfold Ja at c;have:=(Ba c).1.2;simp;omega
theorem Rl.fE(h:Rl G I C ρ L F){p:By}:FR G p true=(if Df p=false then 1 else if DD L p≠0 then DD L p else if (p.toList==[47])=true then 5 else match FT L p with|none=>3|some f=>if f<0 then 5 else 0):=by
 unfold Go.Proofs.YtaieidcohdhgpaaGreatDoor.FR D2
 cases hp:Df p with
 | false=>simp
 | true=>
  have g:=h.ah hp;simp only[B3,E0,g];by_cases c:F8 G (Ds [] (Dc p))=0
  ·have d:¬(F8 G (Ds [] (Dc p))≠0):=by simpa using c
   rw[if_neg d,if_neg d];by_cases a:Dc p=[]
   ·rw[if_pos a,if_pos ((Kg hp).2 a)]
   ·rw[if_neg a,if_neg (fun e=>a ((Kg hp).1 e)),h.lk hp a]
    cases hat:FQ G (Dc p) with
    | none=>rfl
    | some u=>
     simp only[Cn];by_cases b:u.p.isSome=true
     ·rw[if_pos b,if_pos ((K3 ρ u).2 b)]
     ·rw[if_neg b,if_neg (fun e=>b ((K3 ρ u).1 e))]
  ·rw[if_pos c,if_pos c]
theorem Rl.linkE(h:Rl G I C ρ L F)(s:cD G []+I.length<=60)(p q:By):LU G p q=(DL L F p q).1/\(LU G p q≠0->(DL L F p q).2=L)/\
  (LU G p q=0->∀u,FQ G (Dc p)=some u->u.p=none->(DL L F p q).2=L++[(q,(ρ u.f:Int))]/\Df q=true/\Dc q≠[]/\FQ G (Dc q)=none/\DU G (Dc q)=0/\JP G (Dc q).dropLast=true):=by
 unfold LU DL
 cases hq:Df q with
 | false=>simp
 | true=>
  cases hp:Df p with
  | false=>
   have:Go.Proofs.YtaieidcohdhgpaaGreatDoor.FR G p true=1:=by rw[h.fE,if_pos hp]
   rw[this];simp
  | true=>
   have a:=h.fE (p:=p);rw[if_neg (by rw[hp];simp)]at a;simp only[Bool.and_self,B3,E0];by_cases c:DD L p=0
   ·have o:¬(DD L p≠0):=by simpa using c
    rw[if_neg o]at a ⊢;by_cases j:(p.toList==[47])=true
    ·rw[if_pos j]at a ⊢;rw[a];simp
    ·rw[if_neg j]at a ⊢;have n:Dc p≠[]:=fun e=>j ((Kg hp).2 e)
     have g:=h.lk hp n
     cases hat:FQ G (Dc p) with
     | none=>
      rw[hat]at g;rw[g]at a ⊢;simp only[Option.map_none]at a ⊢;rw[a];simp
     | some u=>
      rw[hat]at g;rw[g]at a ⊢;simp only[Cn]at a ⊢;by_cases k:DF ρ u<0
      ·rw[if_pos k]at a ⊢;rw[a];simp
      ·rw[if_neg k]at a ⊢;rw[a];have b:=h.gap hq;have l:¬((0:Int)≠0):=by simp
       rw[if_neg l];by_cases d:DD L q=0
       ·have r:¬(DD L q≠0):=by simpa using d
        rw[if_neg r]at b ⊢;by_cases f:(q.toList==[47])=true\/(FT L q).isSome=true
        ·rw[if_pos f]at b ⊢;rw[b];simp
        ·rw[if_neg f]at b ⊢;rw[b,if_neg l];have i:Dc q≠[]:=fun e=>f (.inl ((Kg hq).2 e))
         have m:FQ G (Dc q)=none:=by
          cases ha:FQ G (Dc q) with
          | none=>rfl
          | some v=>exact absurd (.inr (by rw[h.lk hq i,ha];rfl)) f
         rw[h.mayLink hq i s]
         cases hm:JP G (Dc q).dropLast with
         | false=>simp
         | true=>
          simp only[B3,E0];refine⟨by simp,by simp,fun _ v t w=>?_⟩
          cases t
          have e:DF ρ u=(ρ u.f:Int):=by unfold DF;rw[w];rfl
          simp[e,i,m]
       ·rw[if_pos d]at b;rw[b,if_pos d,if_pos d];exact⟨rfl,fun _=>rfl,fun e=>absurd e d⟩
   ·rw[if_pos c]at a;rw[a,if_pos c,if_pos c];exact⟨rfl,fun _=>rfl,fun e=>absurd e c⟩
theorem FX.keys{I a:LF}{n:Int}{r g:VF}(h:FX I a n r)(b:(n,g)∈I):(∀x∈a,∃y∈I,y.1=x.1)/\(∀y∈I,∃x∈a,x.1=y.1):=by
 refine⟨fun x c=>?_,fun y f=>?_⟩
 ·rcases (h.2 x).1 c with rfl|⟨d,_⟩
  ·exact⟨_,b,rfl⟩
  ·exact⟨x,d,rfl⟩
 ·by_cases e:y.1=n
  ·exact⟨_,(h.2 _).2 (.inl rfl),e.symm⟩
  ·exact⟨y,(h.2 y).2 (.inr ⟨f,e⟩),rfl⟩
theorem Rl.addLink(h:Rl G I C ρ L F){q:By}(v:Df q=true)(u:Dc q≠[])(z:FQ G (Dc q)=none)(A:DU G (Dc q)=0)(s:JP G (Dc q).dropLast=true){f:Int}{r:VF}(j:(f,r)∈I){m:LF}(k:FX I m f ⟨r.a,r.l,r.c,r.f+1⟩)(D:(m.map (·.1)).Nodup):
  Rl (G++[(Dc q,⟨none,f⟩)]) m C ρ (L++[(q,(ρ f:Int))]) F:=by
 obtain⟨i,w⟩:=k.keys j;have o:∀g:Nat,(L++[(q,(ρ f:Int))]).countP (Dz (g:Int))=L.countP (Dz (g:Int))+if g = ρ f then 1 else 0:=fun g=>by
  rw[Ck,Ce]
  congr 1
  unfold Dz;by_cases e:g = ρ f
  ·simp[e]
  ·have:¬((ρ f:Int)=(g:Int)):=fun p=>e (by omega)
   simp[e,this]
 refine⟨?_,h.gokAdd v u z A _,?_,fun x a K=>?_,fun x a=>?_,fun x a=>?_,?_,?_,h.sz⟩
 ·rw[Bo,h.eqL]
  congr 1
  show [(q,(ρ f:Int))]=[(jn (Dc q),DF ρ ⟨none,f⟩)];rw[<-(Kq v u).1];rfl
 ·refine⟨D,fun x a y l e=>?_,fun x a=>?_,fun x a=>?_,fun g B t=>?_,fun x a=>?_,fun x a=>?_⟩
  ·obtain⟨d,b,c⟩:=i x a;obtain⟨N,M,n⟩:=i y l;rw[<-c,<-n]at e ⊢;exact h.num.inj d b N M e
  ·obtain⟨d,b,c⟩:=i x a;rw[<-c];exact h.num.lt d b
  ·obtain⟨d,b,c⟩:=i x a;rw[<-c,o];have:=h.num.live d b;omega
  ·rw[o]at t;have:∃y∈I,ρ y.1=g:=by
    by_cases e:g = ρ f
    ·exact⟨_,j,e.symm⟩
    ·rw[if_neg e]at t;exact h.num.all g B (by omega)
   obtain⟨y,l,e⟩:=this;obtain⟨x,a,n⟩:=w y l;exact⟨x,a,by rw[n];exact e⟩
  ·rcases (k.2 x).1 a with rfl|⟨b,_⟩
   ·have:=h.num.size (f,r) j;exact this
   ·exact h.num.size x b
  ·rw[o];rcases (k.2 x).1 a with rfl|⟨b,E⟩
   ·have:=h.num.links _ j;simp only[EZ]at this ⊢;omega
   ·have H:¬ ρ x.1 = ρ f:=fun e=>E (h.num.inj x b _ j e)
    rw[if_neg H];exact h.num.links x b
 ·rcases As.1 a with a|a
  ·obtain⟨r',J⟩:=h.fl x a K;obtain⟨y,l,e⟩:=w _ J;exact⟨y.2,by have p:y.1=x.2.f:=e;rw[<-p];exact l⟩
  ·rw[Av.1 a];exact⟨_,(k.2 _).2 (.inl rfl)⟩
 ·obtain⟨d,b,c⟩:=i x a;rw[<-c];exact h.con d b
 ·obtain⟨d,b,c⟩:=i x a;rw[<-c];exact h.pos d b
 ·unfold JP at s;have:=(Ba s).2;simp;omega
 ·rw[k.1];exact h.lI
end
section
variable{G:Gh}{I:LF}{C:IB}{ρ : Int->Nat}{L:List (By×Int)}{F:LY}
end
section
variable{G:Gh}{I:LF}{C:IB}{ρ : Int->Nat}{L:List (By×Int)}{F:LY}
end
theorem PK{α : Type}:∀(J K:List α),J.Nodup->(∀x∈J,x∈K)->K.length<=J.length->List.Perm J K
 | [],K,_,_,hl=>by
  have:K=[]:=Ak (by simpa using hl);rw[this]
 | a::J,K,hnd,hs,hl=>by
  rw[Cx]at hnd;obtain⟨s,t,rfl⟩:=Fz (hs a (by simp));have ih:=PK J (s++t) hnd.2 (fun x b=>by
   have:=hs x (by simp[b]);rcases As.1 this with h|h
   ·exact BM _ h
   ·rcases AG.1 h with rfl|h
    ·exact absurd b hnd.1
    ·exact Cb _ h) (by simp at hl ⊢;omega)
  exact(ih.cons a).trans List.perm_middle.symm
theorem FX.nd{I a:LF}{n:Int}{r j:VF}(h:FX I a n r)(d:(I.map (·.1)).Nodup)(_hin:(n,j)∈I):(a.map (·.1)).Nodup:=by
 have c:((I.map (fun x=>if x.1=n then (n,r) else x)).map (·.1))=I.map (·.1):=by
  rw[Ee];refine Cc (fun x _=>?_);show(if x.1=n then (n,r) else x).1=x.1
  split
  ·rename_i e;exact e.symm
  ·rfl
 have b:((I.map (fun x=>if x.1=n then (n,r) else x)).map (·.1)).Nodup:=by rw[c];exact d
 have f:=PK _ a (UD b) (fun x g=>by
  obtain⟨y,i,rfl⟩:=A2.1 g;by_cases e:y.1=n
  ·rw[if_pos e];exact(h.2 _).2 (.inl rfl)
  ·rw[if_neg e];exact(h.2 _).2 (.inr ⟨i,e⟩)) (by rw[A7,h.1];exact Aa _)
 exact(f.map (·.1)).nodup b
theorem Ot(I:LF):D4 (I.map (·.2.l))=IQ I:=by unfold D4 IQ;rw[Ee];rfl
section
variable{G:Gh}{I:LF}{C:IB}{ρ : Int->Nat}{L:List (By×Int)}{F:LY}
theorem Rl.fEb(h:Rl G I C ρ L F){p:By}(b:Bool):FR G p b=(if Df p=false then 1 else if b=false then 2 else if DD L p≠0 then DD L p else if (p.toList==[47])=true then 5 else match FT L p with|none=>3|some f=>if f<0 then 5 else 0):=by
 cases b with
 | true=>
  rw[h.fE];simp only[B3,E0]
 | false=>
  unfold Go.Proofs.YtaieidcohdhgpaaGreatDoor.FR D2
  cases hp:Df p<;>simp
theorem Rl.file0(h:Rl G I C ρ L F){p:By}{b:Bool}(k:FR G p b=0){u:VS}(d:FQ G (Dc p)=some u)(j:u.p=none):b=true/\Df p=true/\Dc p≠[]/\DD L p=0/\FT L p=some (ρ u.f:Int)/\F[ρ u.f]?=some (C u.f):=by
 have l:=Pv k;subst l;have a:=h.fE (p:=p);rw[k]at a
 cases hp:Df p with
 | false=>rw[if_pos hp]at a;exact absurd a (by decide)
 | true=>
  rw[if_neg (by rw[hp];simp)]at a;by_cases c:DD L p=0
  ·have m:¬(DD L p≠0):=by simpa using c
   rw[if_neg m]at a;by_cases i:(p.toList==[47])=true
   ·rw[if_pos i]at a;exact absurd a (by decide)
   ·have g:Dc p≠[]:=fun e=>i ((Kg hp).2 e)
    have f:=h.lk hp g;rw[d]at f;have e:DF ρ u=(ρ u.f:Int):=by unfold DF;rw[j];rfl
    obtain⟨r,n⟩:=h.fl _ (Ko d) j;exact⟨rfl,rfl,g,c,by rw[f];show some (DF ρ u)=_;rw[e],h.con _ n⟩
  ·rw[if_pos c]at a;exact absurd a.symm c
theorem Rl.readE(h:Rl G I C ρ L F)(p:By)(i n:Int):Ic G p i n=(Jw L F p i n).2/\(Ic G p i n≠0->(Jw L F p i n).1=⟨#[]⟩)/\(Ic G p i n=0->∀u,FQ G (Dc p)=some u->u.p=none->(Jw L F p i n).1=Qp (C u.f) i n):=by
 have m:=h.fEb (p:=p) (decide (0<=i/\0<=n));have g:Ic G p i n=(Jw L F p i n).2/\(Ic G p i n≠0->(Jw L F p i n).1=⟨#[]⟩):=by
  unfold Ic Jw;rw[m]
  cases d:Df p with
  | false=>simp
  | true=>
   simp only[B3,E0];by_cases e:i<0\/n<0
   ·have:decide (0<=i/\0<=n)=false:=BW (by omega);rw[this,if_pos rfl,if_pos e];simp
   ·have:decide (0<=i/\0<=n)=true:=CN (by omega);rw[this,if_neg e];simp only[B3,E0];by_cases a:DD L p≠0
    ·rw[if_pos a,if_pos a];simp
    ·rw[if_neg a,if_neg a];by_cases c:(p.toList==[47])=true
     ·rw[if_pos c,if_pos c];simp
     ·rw[if_neg c,if_neg c]
      cases hl:FT L p with
      | none=>simp
      | some f=>
       simp only;by_cases b:f<0
       ·rw[if_pos b,if_pos b];simp
       ·rw[if_neg b,if_neg b];simp
 refine⟨g.1,g.2,fun s u k r=>?_⟩;obtain⟨l,d,q,a,o,j⟩:=h.file0 s k r;have aa:=Ba l;unfold Jw;rw[if_neg (by rw[d];simp),if_neg (by omega),if_neg (by simpa using a),if_neg (by rw[O8 d q];simp),o];simp only;rw[if_neg (by omega)];simp[j]
end
section
variable{G:Gh}{I:LF}{C:IB}{ρ : Int->Nat}{L:List (By×Int)}{F:LY}
theorem Rl.val_lt(h:Rl G I C ρ L F):∀x∈L,x.2<F.length:=fun x b=>by
 rw[h.eqL]at b;obtain⟨y,d,rfl⟩:=A2.1 b;show DF ρ y.2<_;unfold DF;by_cases a:y.2.p.isSome=true
 ·rw[if_pos a];omega
 ·rw[if_neg a];obtain⟨r,c⟩:=h.fl y d (by simpa using a);have:=h.num.lt _ c;simp only at this;omega
theorem WP{F:LY}{f:Nat}{s:By}(b:F[f]?=some s)(i:Int)(d:By):Jh F f i.toNat d=F.set f (Mb s i d):=by
 unfold Jh Mb;rw[b];by_cases a:d.size=0
 ·rw[if_neg (by omega),if_pos a];exact(YO F f s b).symm
 ·rw[if_pos (by omega),if_neg a];rfl
theorem WO(F:LY)(i:Int)(d:By):Jh (F++[⟨#[]⟩]) F.length i.toNat d=F++[Mb ⟨#[]⟩ i d]:=by
 rw[WP (s:=⟨#[]⟩) (by simp)];rw[EC _ _ (Aa _)];simp
theorem Xp{I b:LF}(h:(I.map (·.1)).Nodup){f:Int}{r:VF}(d:∀x∈I,x.1≠f)(hl:b.length=I.length+1)(g:∀x,x∈b↔x=(f,r)\/x∈I):(b.map (·.1)).Nodup:=by
 have c:(((f,r)::I).map (·.1)).Nodup:=by
  rw[BK,Cx];refine⟨fun a=>?_,h⟩;obtain⟨x,a,e⟩:=A2.1 a;exact d x a e
 have i:=PK ((f,r)::I) b (UD c) (fun x a=>(g x).2 (by simpa using a)) (by simp;omega);exact(i.map (·.1)).nodup c
theorem Rl.made(h:Rl G I C ρ L F){p:By}(J:Df p=true)(E:Dc p≠[])(P:FQ G (Dc p)=none)(Q:DU G (Dc p)=0)(T:Ja G I (Dc p).dropLast=true){f:Nat}(v:∀x∈I,x.1≠(f:Int)){o q:LF}(B:o.length=I.length+1)(z:∀x,x∈o↔x=((f:Int),⟨none,0,0,1⟩)\/x∈I)
  {a:OA} {c:Nat} {s:By} (X:s.size<=1280) (w:FX o q f ⟨a,s.size,c,1⟩) {C2:IB} (O:C2 f=s) (N:∀x∈I,C2 x.1=C x.1):
  Rl (G++[(Dc p,⟨none,(f:Int)⟩)]) q C2 (fun k=>if k=(f:Int) then F.length else ρ k) (L++[(p,(F.length:Int))]) (F++[s]):=by
 have U:=Xp h.num.nd v B z;have S:((f:Int),(⟨none,0,0,1⟩:VF))∈o:=(z _).2 (.inl rfl);have V:=w.nd U S;have i:∀x,x∈q↔x=((f:Int),⟨a,s.size,c,1⟩)\/x∈I:=fun x=>by
  rw[w.2 x,z x];constructor
  ·rintro(e|⟨e|b,H⟩)
   ·exact .inl e
   ·rw[e]at H;exact absurd rfl H
   ·exact .inr b
  ·rintro(e|b)
   ·exact .inl e
   ·exact .inr ⟨.inr b,v x b⟩
 have hρ : ∀x∈I,(if x.1=(f:Int) then F.length else ρ x.1) = ρ x.1:=fun x b=>if_neg (v x b)
 have u:∀g:Nat,(L++[(p,(F.length:Int))]).countP (Dz (g:Int))=L.countP (Dz (g:Int))+if g=F.length then 1 else 0:=fun g=>by
  rw[Ck,Ce]
  congr 1
  unfold Dz;by_cases e:g=F.length
  ·simp[e]
  ·have:¬((F.length:Int)=(g:Int)):=fun e'=>e (by omega)
   simp[e,this]
 have W:L.countP (Dz (F.length:Int))=0:=by
  rw[EW];intro x b;have:=h.val_lt x b;unfold Dz;simp;omega
 have aa:=Ba T;refine⟨?_,h.gokAdd J E P Q _,⟨V,fun x b y m e=>?_,fun x b=>?_,fun x b=>?_,fun g R D=>?_,fun x b=>?_,fun x b=>?_⟩,fun x b j=>?_,fun x b=>?_,fun x b=>?_,by simp;omega,by rw[w.1,B];omega,fun t l=>?_⟩
 ·rw[Bo,h.eqL]
  congr 1
  ·refine Cc (fun x b=>?_);show(jn x.1,DF ρ x.2)=(jn x.1,DF _ x.2)
   congr 1
   unfold DF;by_cases j:x.2.p.isSome=true
   ·rw[if_pos j,if_pos j]
   ·rw[if_neg j,if_neg j];obtain⟨r,A⟩:=h.fl x b (by simpa using j);have:=hρ _ A;simp only at this;show _=((if x.2.f=(f:Int) then F.length else ρ x.2.f:Nat):Int);rw[this]
  ·show [(p,(F.length:Int))]=[(jn (Dc p),DF _ ⟨none,(f:Int)⟩)];rw[<-(Kq J E).1];unfold DF;simp
 ·rcases (i x).1 b with rfl|d
  ·rcases (i y).1 m with rfl|n
   ·rfl
   ·simp only[EZ]at e;rw[hρ y n]at e;have:=h.num.lt y n;omega
  ·rcases (i y).1 m with rfl|n
   ·simp only[EZ]at e;rw[hρ x d]at e;have:=h.num.lt x d;omega
   ·(try simp only at e)
    rw[hρ x d,hρ y n]at e;exact h.num.inj x d y n e
 ·rw[Ab];rcases (i x).1 b with rfl|d
  ·simp
  ·(try simp only)
   rw[hρ x d];have:=h.num.lt x d;omega
 ·rw[u];rcases (i x).1 b with rfl|d
  ·simp
  ·(try simp only)
   rw[hρ x d];have:=h.num.live x d;omega
 ·rw[Ab,Bh]at R;rw[u]at D;by_cases e:g=F.length
  ·exact⟨_,(i _).2 (.inl rfl),by simp[e]⟩
  ·rw[if_neg e]at D;obtain⟨y,m,K⟩:=h.num.all g (by omega) (by omega);exact⟨y,(i y).2 (.inr m),by (try simp only);rw[hρ y m];exact K⟩
 ·rcases (i x).1 b with rfl|d
  ·simp
  ·(try simp only)
   rw[hρ x d,AU (h.num.lt x d)];exact h.num.size x d
 ·rw[u];rcases (i x).1 b with rfl|d
  ·simp only[EZ,W];rfl
  ·(try simp only)
   rw[hρ x d];have M:=h.num.links x d;have h2:=h.num.lt x d;rw[if_neg (by omega)];exact M
 ·rcases As.1 b with b|b
  ·obtain⟨r,A⟩:=h.fl x b j;exact⟨r,(i _).2 (.inr A)⟩
  ·rw[Av.1 b];exact⟨_,(i _).2 (.inl rfl)⟩
 ·rcases (i x).1 b with rfl|d
  ·simp[O]
  ·(try simp only)
   rw[hρ x d,AU (h.num.lt x d),N x d];exact h.con x d
 ·rcases (i x).1 b with rfl|d
  ·simp
  ·exact h.pos x d
 ·rcases As.1 l with l|l
  ·exact h.sz t l
  ·rw[Av.1 l];exact X
theorem Rl.statE(h:Rl G I C ρ L F)(p:By):GB G p=(JR L F p).2/\(GB G p≠0->(JR L F p).1=Kw)/\
  (GB G p=0->∀v,((Dc p=[]/\v=Qq ⟨#[]⟩ (G.countP (GF [])))\/∃b n u,Dc p=b++[n]/\FQ G (Dc p)=some u/\KW G I (Dc p) n u v)->(JR L F p).1=v):=by
 unfold GB D2 JR;rw[h.ask p]
 cases hp:Df p with
 | false=>simp
 | true=>
  simp only[B3,E0];by_cases c:F8 G (Ds [] (Dc p))=0
  ·have q:¬(F8 G (Ds [] (Dc p))≠0):=by simpa using c
   rw[if_neg q,if_neg q];by_cases a:Dc p=[]
   ·have g:=(Kg hp).2 a;rw[if_pos g,if_neg (fun e=>e.1 a)];refine⟨rfl,fun e=>absurd rfl e,fun _ v i=>?_⟩;rcases i with⟨_,rfl⟩|⟨b,n,u,e,_⟩
    ·have:=h.dir (ns:=[]) (fun n a=>by cases a);show Value.agg #[.string ⟨#[]⟩,.bool true,.int .i64 (L.countP (Dx ⟨#[]⟩):Nat),.int .i64 1]=_;have f:jn []=⟨#[]⟩:=rfl;rw[f]at this;rw[this];rfl
    ·rw[a]at e;simp at e
   ·have g:¬(p.toList==[47])=true:=fun e=>a ((Kg hp).1 e)
    rw[if_neg g,h.lk hp a];obtain⟨j,m⟩:=Kq hp a
    cases hat:FQ G (Dc p) with
    | none=>
     rw[if_pos ⟨a,rfl⟩];simp
    | some u=>
     rw[if_neg (fun e=>by cases e.2)];simp only[Cn];refine⟨by simp,fun e=>absurd rfl e,fun _ v i=>?_⟩;rcases i with⟨e,_⟩|⟨b,n,u',e,y,x⟩
     ·exact absurd e a
     ·cases y
      have w:KZ p=n:=by
       have o:=m;rw[e]at o;have:=TR b n (K7 (o n (by simp)));rw[<-e,<-j]at this;exact this
      have t:L.countP (Dx p)=G.countP (GF (Dc p)):=by have:=h.dir m;rw[<-j]at this;exact this
      unfold KA;simp only;rw[w];rcases x with⟨d,rfl⟩|⟨d,r,s,rfl⟩
      ·rw[if_pos ((K3 ρ u).2 d),t];rfl
      ·have f:DF ρ u=(ρ u.f:Int):=by unfold DF;rw[d];rfl
       rw[if_neg (fun e=>by have:=(K3 ρ u).1 e;rw[d]at this;cases this),f];have k:=h.num.size _ s;have l:=h.num.links _ s;simp only at k l;unfold Il;rw[k,l,BB]
  ·rw[if_pos c,if_pos c];exact⟨rfl,fun _=>rfl,fun e=>absurd e c⟩
end
theorem Lk:(Tryz.prog.info? 350).map (fun i=>(i.zero,i.size,i.bytes))=some (some (.agg #[.int .u64 0,.int .i64 0]),2,16):=by kernel_rfl
theorem UR:(Tryz.prog.info? 350).map (fun i=>i.size)=some 2:=by kernel_rfl
theorem Xh(w:World)(v:Value)(n:Nat)(xs:LV)(vb:Nat)(b:LV)(l:Sl w 350 2 v n xs)(hn:n<=10000)
  (r:FH w vb 350 b) (aa:b.length=2) (p:∀u∈b,u.oneCell'=true):
  Cl 274 #[v,.int .i64 n,.slice (some ⟨vb,0,none⟩) 1 1] w fun e w'=>∃c,e = .returned c/\Sl w' 350 2 c (n+1) (xs++b)/\w.grownBy w' v.ownBlock/\Dh w v c:=by
 obtain⟨A,q,x,y,z⟩:=Bn Lk;have o:=fun B=>JZ (P:=Tryz.prog) w 170 B 350 A _ 2 16 Tryz.underlying170 q x y z rfl (by decide) v n xs l ⟨vb,0,none⟩ 1 1 b (by omega)
  (fun j u s=>by rw[AF,Au,r.cell];exact s) p (by unfold maxLen;omega) (by omega)
 obtain⟨c,w',m,d,i,k⟩:=o 170;have t:(v = .slice none 0 0/\n=0)\/∃g a,v = .slice (some ⟨g,0,none⟩) n a/\n<=a:=by
  rcases l.2 with h|⟨g,a,L,h,_,f,_⟩
  ·exact .inl h
  ·exact .inr ⟨g,a,h,f⟩
 clear o;rcases t with⟨rfl,rfl⟩|⟨g,a,rfl,f⟩
 ·go_enter Tryz.func274,Tryz.ntmps274;go_wp2_with (at_builtin;refine Aj _ rfl _ _ 170 170 rfl _ _ rfl rfl _ _ m ?_);go_ret;exact⟨_,rfl,d,i,k⟩
 ·go_enter Tryz.func274,Tryz.ntmps274;go_wp2_with (at_builtin;refine Aj _ rfl _ _ 170 170 rfl _ _ rfl rfl _ _ m ?_)
  all_goals (go_ret;exact⟨_,rfl,d,i,k⟩)
theorem Xi(w:World)(g n a:Nat)(xs L:LV)(i vb:Nat)(c:LV)(f:FH w g 350 L)(v:L.length=a*2)(o:L.take (n*2)=xs)(hi:i<n)(ae:n+1<=a)(z:a<=maxLen)(hn:n<=10000)
  (d:FH w vb 350 c) (k:c.length=2) (t:∀u∈xs,u.oneCell'=true) (s:∀u∈c,u.oneCell'=true) (B:vb≠g):
  Cl 274 #[.slice (some ⟨g,0,none⟩) n a,.int .i64 i,.slice (some ⟨vb,0,none⟩) 1 1] w fun e w'=>e = .returned (.slice (some ⟨g,0,none⟩) (n+1) a)/\FH w' g 350 (FM (FM L ((i+1)*2) (xs.drop (i*2))) (i*2) c)/\w.grownBy w' (some g):=by
 have D:xs.length=n*2:=by rw[<-o,Ar];omega
 have h:(xs.drop (i*2)).length=(n-i)*2:=by rw[AK,D];omega
 obtain⟨p,G,x,m⟩:=J5 (P:=Tryz.prog) w.drew 170 170 3 350 2 g ((i+1)*2) (n-i) (a-(i+1)) ⟨g,i*2,none⟩ (n+1-i) (a-i) L 350 (xs.drop (i*2)) Tryz.underlying170 UR f
  (by rw[h];simp only[CU];split<;>omega)
  (fun j u b=>by
   rw[AF,show(w.drew.cell? ⟨g,i*2+j,none⟩)=L[i*2+j]? from f.cell _];rw[A3,<-o,Ap]at b
   split at b
   ·exact b
   ·cases b) (by rw[h];omega) (fun u b=>t u (BH b))
 have C:FH p vb 350 c:=(show FH w.drew vb 350 c from d).kept m (by simpa using B);obtain⟨q,H,y,A⟩:=J5 (P:=Tryz.prog) p 170 170 3 350 2 g (i*2) (n+1-i) (a-i) ⟨vb,0,none⟩ 1 1 _ 350 c Tryz.underlying170 UR x
  (by rw[k];simp only[CU];split<;>omega)
  (fun j u b=>by rw[AF,Au,C.cell];exact b) (by rw[DP (by rw[h];omega),k];omega) s
 have F:∀lb l,(callFunc 306 #[.slice (some ⟨vb,0,none⟩) 1 1,.slice (some ⟨g,(i+1)*2,none⟩) lb l]).run Tryz.prog w = .ok (.value (.bool false)) w:=fun lb l=>by
  rw[Fk Tryz.func306 (by kernel_rfl) (by kernel_rfl) (by kernel_rfl) (e:=Extern.SlicesOverlaps.overlaps #[170,170] #[4]) (by kernel_rfl),
   E9 w 170 4 350 Tryz.underlying170 2 (fun _=>by kernel_rfl) ⟨vb,0,none⟩ ⟨g,(i+1)*2,none⟩ 1 1 lb l B 350 350 2 (a*2) (by unfold World.shape?;rw[d];simp[k]) (by unfold World.shape?;rw[f];simp[v]) (by omega) (d.frozen 0) (d.frozen 2)]
  rfl
 have af:a<=9223372036854775807:=by unfold maxLen at z;omega
 have r:FH q g 350 (FM (FM L ((i+1)*2) (xs.drop (i*2))) (i*2) c)/\w.grownBy q (some g):=⟨y,JY (show w.grownBy w.drew (some g) from QY (QZ _ _)) (JY m A)⟩;have E:=Db r;clear r x y m A C t s z o h D v k d f;have ai:IntKind.i64.wrap ((i:Int)+1)=(i:Int)+1:=by rw[BD];omega
 have aa:(0:Int)<=(i:Int)+1:=by omega
 have ag:i<=n:=by omega
 have ah:((i:Int)+1).toNat=i+1:=by omega
 have ab:¬(a=i+1):=by omega
 have ac:(i:Int)<=(n:Int)+1:=by omega
 have ad:¬(a=i):=by omega
 go_enter Tryz.func274,Tryz.ntmps274;go_wp2_with (simp only[F])
 go_region_law (refine KU rfl _ _ 170 170 rfl _ _ (by simp[Act.eval,Act.put]) (by simp[Act.eval,Act.put]) G ?_)
 go_wp2_with (at_builtin;refine Qm _ rfl _ _ 170 170 rfl _ _ rfl rfl H ?_);go_ret;exact⟨rfl,Da E⟩
theorem X7(w:World)(g n b:Nat)(xs L:LV)(i vb:Nat)(c:LV)(d:FH w g 350 L)(ae:L.length=b*2)(s:L.take (n*2)=xs)(hi:i<n)(ap:n<=b)(am:b<n+1)(hn:n<=10000)
  (C:FH w vb 350 c) (r:c.length=2) (J:∀u∈xs,u.oneCell'=true) (I:∀u∈c,u.oneCell'=true):
  Cl 274 #[.slice (some ⟨g,0,none⟩) n b,.int .i64 i,.slice (some ⟨vb,0,none⟩) 1 1] w fun e w'=>∃G Z,e = .returned (.slice (some ⟨w.heap.size,0,none⟩) (n+1) G)/\n+1<=G/\G<=maxLen/\(xs.take (i*2)++Z).length=G*2/\
   FH w' w.heap.size 350 (FM (FM (xs.take (i*2)++Z) (i*2) c) ((i+1)*2) (xs.drop (i*2)))/\w.grownBy w' (some w.heap.size):=by
 have X:xs.length=n*2:=by rw[<-s,Ar];omega
 have z:(xs.drop (i*2)).length=(n-i)*2:=by rw[AK,X];omega
 obtain⟨i0,R,Y,aa,D⟩:=Bn Lk;have W:∀j u,xs[j]?=some u->w.cell? ⟨g,j,none⟩=some u:=fun j u a=>by
  rw[d.cell];rw[<-s,Ap]at a
  split at a
  ·exact a
  ·cases a
 have U:(Builtin.firstCells i0.size i (.slice (some ⟨g,0,none⟩) i b)).run Tryz.prog w.drew = .ok (xs.take (i*2)).toArray w.drew:=by
  rw[aa];exact EP w.drew 2 i ⟨g,0,none⟩ i b (xs.take (i*2)) (by rw[Ar];omega) (fun j v q=>by
   rw[AF,Au];rw[Ap]at q
   split at q
   ·exact W j v q
   ·cases q)
 have B:i+(n+1-i)=n+1:=by omega
 have S:(n:Int)+1-(i:Int)=((n+1-i:Nat):Int):=by omega
 obtain⟨G,p⟩:=ex (grownCap w (n+1) b 350);obtain⟨Z,y⟩:∃Z:Array Value,Z=Builtin.zeroCells (Value.agg #[.int .u64 0,.int .i64 0]).cells (n+1-i)++Builtin.zeroCells (Value.agg #[.int .u64 0,.int .i64 0]).cells (G-(n+1)):=⟨_,rfl⟩;have V:∀E,(Builtin.append_ #[170,3] E #[.slice (some ⟨g,0,none⟩) i b,.int .i64 ((n:Int)+1-(i:Int))]).run Tryz.prog w =
   .ok (.slice (some ⟨w.heap.size,0,none⟩) (n+1) G) (w.drew.alloc (.cells (xs.take (i*2)++Z.toList).toArray 350)):=fun E=>by
  have h:=EL w 170 3 E 350 i0 _ .i64 .i64 Tryz.underlying170 Tryz.underlying3 R Y (some ⟨g,0,none⟩) i b (xs.take (i*2)) U (n+1-i) (by omega) (by omega) (by omega) (by omega) (by rw[D];omega) (by rw[D,B];exact Fb (by omega) (by omega));rw[B,<-p]at h;rw[S,h,y]
  congr 2
  simp[Array.append_assoc]
 have ad:n+1<=G:=by rw[p];exact grownCap_ge w _ _ _
 have t:G<=maxLen:=by rw[p];exact Ew w _ _ _ (by unfold maxLen;omega)
 have f:(xs.take (i*2)++Z.toList).length=G*2:=by
  have e1:Z.size=(n+1-i)*2+(G-(n+1))*2:=by rw[y,EH,C7,C7];rfl
  have e2:Z.toList.length=Z.size:=Az;rw[Ab,Ar,e2,e1];omega
 have x:FH (w.drew.alloc (.cells (xs.take (i*2)++Z.toList).toArray 350)) w.heap.size 350 (xs.take (i*2)++Z.toList):=Bs w.drew _;have l:w.grownBy (w.drew.alloc (.cells (xs.take (i*2)++Z.toList).toArray 350)) (some w.heap.size):=⟨rfl,rfl,rfl,by simp,fun k hk _=>BE w.drew _ k hk⟩;obtain⟨m,O⟩:=ex (w.drew.alloc (.cells (xs.take (i*2)++Z.toList).toArray 350));rw[<-O]at V x l;have T:FH m vb 350 c:=C.kept l (by have:=C.lt;simp;omega);obtain⟨o,af,M,A⟩:=J5 (P:=Tryz.prog) m 170 170 3 350 2 w.heap.size (i*2) (n+1-i) (G-i) ⟨vb,0,none⟩ 1 1 _ 350 c Tryz.underlying170 UR x
  (by rw[r];simp only[CU];split<;>omega)
  (fun j u a=>by rw[AF,Au,T.cell];exact a) (by rw[f,r];omega) I
 have K:FH o g 350 L:=(d.kept l (by have:=d.lt;simp;omega)).kept A (by have:=d.lt;simp;omega);obtain⟨F,ag,N,Q⟩:=J5 (P:=Tryz.prog) o.drew 170 170 3 350 2 w.heap.size ((i+1)*2) (n-i) (G-(i+1)) ⟨g,i*2,none⟩ (n-i) (b-i) _ 350 (xs.drop (i*2)) Tryz.underlying170 UR M
  (by rw[z];simp only[CU];split<;>omega)
  (fun j u a=>by
   rw[AF,show(o.drew.cell? ⟨g,i*2+j,none⟩)=L[i*2+j]? from K.cell _];rw[A3,<-s,Ap]at a
   split at a
   ·exact a
   ·cases a) (by rw[DP (by rw[f,r];omega),f,z];omega) (fun u a=>J u (BH a))
 have H:(xs.take (i*2)++Z.toList).length=G*2/\FH F w.heap.size 350 (FM (FM (xs.take (i*2)++Z.toList) (i*2) c) ((i+1)*2) (xs.drop (i*2)))/\w.grownBy F (some w.heap.size):=
  ⟨f,N,JY l (JY A (JY (QY (QZ o _)) Q))⟩
 have ab:=Db H;have aj:G<=9223372036854775807:=by unfold maxLen at t;omega
 have ah:¬(G=i):=by omega
 have ai:¬(G=i+1):=by omega
 have an:¬(b=i):=by omega
 have ar:IntKind.i64.wrap ((i:Int)+1)=(i:Int)+1:=by rw[BD];omega
 have ak:(0:Int)<=(i:Int)+1:=by omega
 have ao:i<=n:=by omega
 have aq:((i:Int)+1).toNat=i+1:=by omega
 have al:(i:Int)<=(n:Int):=by omega
 clear H f x M N l A Q T K J I s z X ae r C d W U O p y B S R Y aa D;have ac:=Db t;clear t;go_enter Tryz.func274,Tryz.ntmps274;go_wp2_with (first
  | (at_builtin;refine Aj _ rfl _ _ _ _ rfl _ _ rfl rfl _ _ (V _) ?_)
  | (at_builtin;refine Qm _ rfl _ _ 170 170 rfl _ _ rfl rfl af ?_))
 go_region_law (refine KU rfl _ _ 170 170 rfl _ _ (by simp[Act.eval,Act.put]) (by simp[Act.eval,Act.put]) ag ?_)
 go_wp2;go_ret;exact⟨G,Z.toList,rfl,ad,Da ac,Da ab⟩
theorem Od(s:Int)(w:World):Cl 320 #[.int .u64 s] w fun e w'=>e = .returned (.bool false)/\w'=w:=by
 go_enter Tryz.func320,Tryz.ntmps320;go_wp2;go_ret;exact⟨by simp,rfl⟩
theorem XK(a b:Int)(w:World):Cl 305 #[.int .u64 a,.int .u64 b] w fun e w'=>e = .returned (.int .i64 (Ks a b))/\w'=w:=by
 have c:Ks a b=if a<b then -1 else if a=b then 0 else 1:=rfl
 have H:=Db c;clear c;by_cases d:a<b
 ·go_enter Tryz.func305,Tryz.ntmps305;go_wp2_with (go_at_call 320;refine(Od _ _).mono ?_;rintro e w' ⟨rfl,rfl⟩);go_ret;exact⟨by rw[Da H,if_pos d];rfl,rfl⟩
 ·by_cases h2:b<a
  ·go_enter Tryz.func305,Tryz.ntmps305;go_wp2_with (go_at_call 320;refine(Od _ _).mono ?_;rintro e w' ⟨rfl,rfl⟩);go_ret;exact⟨by rw[Da H,if_neg (by omega),if_neg (by omega)];rfl,rfl⟩
  ·go_enter Tryz.func305,Tryz.ntmps305;go_wp2_with (go_at_call 320;refine(Od _ _).mono ?_;rintro e w' ⟨rfl,rfl⟩);go_ret;exact⟨by rw[Da H,if_neg (by omega),if_pos (by omega)];rfl,rfl⟩
def GM(x:Int×Int):LV:=[.int .u64 x.1,.int .i64 x.2]
def Dq(es:LI):LV:=es.flatMap GM
theorem ZgY(b:LI):(Dq b).length=b.length*2:=by
 induction b with
 | nil=>rfl
 | cons a l ih=>simp[Dq,GM]at ih ⊢;omega
theorem ZgZ(a b:LI):Dq (a++b)=Dq a++Dq b:=by simp[Dq]
theorem Zi1(b:LI)(i:Nat):(Dq b).take (i*2)=Dq (b.take i):=by
 induction b generalizing i with
 | nil=>simp[Dq]
 | cons a l ih=>
  cases i with
  | zero=>simp[Dq]
  | succ i=>
   have:=ih i;simp only[Dq,AW,ES]at this ⊢;rw[<-this,show(i+1)*2=(GM a).length+i*2 by simp[GM];omega,Ca]
theorem Zi2(b:LI)(i:Nat):(Dq b).drop (i*2)=Dq (b.drop i):=by
 induction b generalizing i with
 | nil=>simp[Dq]
 | cons a l ih=>
  cases i with
  | zero=>simp[Dq]
  | succ i=>
   have:=ih i;simp only[Dq,AW,El]at this ⊢;rw[<-this,show(i+1)*2=(GM a).length+i*2 by simp[GM];omega,Cd]
theorem Pq(b:LI):∀u∈Dq b,u.oneCell'=true:=by
 intro u a;simp only[Dq,Cz,GM,AG,EO,or_false]at a;obtain⟨x,_,rfl|rfl⟩:=a<;>simp[Value.oneCell']
theorem M9(b:LI)(k:Nat)(x:Int×Int)(h:b[k]?=some x):(Dq b)[k*2]?=some (.int .u64 x.1)/\(Dq b)[k*2+1]?=some (.int .i64 x.2):=by
 induction b generalizing k with
 | nil=>simp at h
 | cons a l ih=>
  cases k with
  | zero=>simp at h;subst h;simp[Dq,GM]
  | succ k=>
   simp at h;have:=ih k h;simp only[Dq,AW]at this ⊢;have e:∀r,(GM a++List.flatMap GM l)[(k+1)*2+r]?=(List.flatMap GM l)[k*2+r]? := fun r=>by
    rw[AD (by simp[GM];omega)];congr 1;simp[GM];omega
   have c:=e 0;simp only[Ct]at c;rw[c,e 1];exact this
def Gi(es:LI):Prop:=∀(j k:Nat) (x y:Int×Int),j<k->es[j]?=some x->es[k]?=some y->Gn x.1 y.1=true
def Lg(es:LI)(t:Int)(i:Nat)(b:Bool):Prop:=
 i<=es.length/\(∀k x,k<i->es[k]?=some x->Gn x.1 t=true)/\(∀k x,i<=k->es[k]?=some x->Gn x.1 t=false)/\(b=true↔∃x,es[i]?=some x/\x.1=t)
theorem P6(x:Int×Int)(a:Int)(w:World):Cl 304 #[.agg #[.int .u64 x.1,.int .i64 x.2],.int .u64 a] w fun e w'=>e = .returned (.int .i64 (Ks x.1 a))/\Bw w w':=by
 go_enter Tryz.func304,Tryz.ntmps304;go_wp2_with (go_at_call 305;refine(XK _ _ _).mono ?_;rintro e w' ⟨rfl,rfl⟩);go_ret;exact⟨rfl,(Ag _ _).alloc (Aa _) _⟩
theorem MB(g n I:Nat)(c:Nat->Int×Int)(f:Int)(w:World)(hn:n<=10000)
 (l:∀k,k<n->w.cell? ⟨g,k*2,none⟩=some (.int .u64 (c k).1))
 (m:∀k,k<n->w.cell? ⟨g,k*2+1,none⟩=some (.int .i64 (c k).2))
 (F:∀j k,j<k->k<n->Gn (c j).1 (c k).1=true):
  Cl 303 #[.slice (some ⟨g,0,none⟩) n I,.int .u64 f,.func (.func 304) #[] #[]] w fun e w'=>∃(i:Nat) (b:Bool),e = .returned (.tuple #[.int .i64 i,.bool b])/\
   (i<=n/\(∀k,k<i->Gn (c k).1 f=true)/\(∀k,i<=k->k<n->Gn (c k).1 f=false)/\(b=true↔i<n/\(c i).1=f))/\Bw w w':=by
 have A:=Db F;clear F;go_enter Tryz.func303,Tryz.ntmps303;go_wp2_with fail
 go_loopw [9,10] (fun i j wr=>∃a b:Nat,i = .int .i64 a/\j = .int .i64 b/\a<=b/\b<=n/\Hid (∀k,k<a->Gn (c k).1 f=true)/\Hid (∀k,b<=k->k<n->Gn (c k).1 f=false)/\Bw w wr) (fun i j _=>(intOf j-intOf i).toNat)
 case atStart=>exact⟨0,n,rfl,rfl,Aw _,Aa _,fun _ h=>absurd h (CT _),fun k J v=>absurd v (by omega),Ag _ _⟩
 case round=>
  obtain⟨a,b,rfl,rfl,aa,x,z,y,d⟩:=hrel;by_cases ab:a<b
  ·have u:(a+b)/2<n:=by omega
   have r:g<w.heap.size:=Al _ _ (l _ u);have K:=(d.cell (p:=⟨g,(a+b)/2*2,none⟩) r).trans (l _ u);have L:=(d.cell (p:=⟨g,(a+b)/2*2+1,none⟩) r).trans (m _ u);have B:=Db l;have C:=Db m;clear l m;go_wp2_with fail;refine(P6 (c ((a+b)/2)) _ _).mono ?_;rintro e w' ⟨rfl,t⟩;by_cases D:Ks (c ((a+b)/2)).1 f<0
   ·have s:=(U7 _ _).1 D;have o:=Db s;clear s;go_wp2
    go_roundw
    case rel=>
     refine⟨(a+b)/2+1,b,by go_num,rfl,by omega,x,fun k hk=>?_,y,d.trans (t.mono d.size)⟩;rcases Bk k ((a+b)/2) with h|h
     ·exact Nc (Da A _ _ h u) (Da o)
     ·obtain rfl:k=(a+b)/2:=by omega
      exact Da o
    case measure=>simp[intOf];omega
   ·have s:Gn (c ((a+b)/2)).1 f=false:=by
     cases h:Gn (c ((a+b)/2)).1 f with
     | false=>rfl
     | true=>exact absurd ((U7 _ _).2 h) D
    have o:=Db s;clear s;go_wp2
    go_roundw
    case rel=>
     refine⟨a,(a+b)/2,rfl,by go_num,by omega,by omega,z,fun k J v=>?_,d.trans (t.mono d.size)⟩;rcases Bk ((a+b)/2) k with h|h
     ·cases E:Gn (c k).1 f with
      | false=>rfl
      | true=>exact absurd (Nc (Da A _ _ h v) E) (by rw[Da o];simp)
     ·obtain rfl:k=(a+b)/2:=by omega
      exact Da o
    case measure=>simp[intOf];omega
  ·obtain rfl:a=b:=by omega
   by_cases q:a<n
   ·have r:g<w.heap.size:=Al _ _ (l _ q);have K:=(d.cell (p:=⟨g,a*2,none⟩) r).trans (l _ q);have L:=(d.cell (p:=⟨g,a*2+1,none⟩) r).trans (m _ q);have B:=Db l;have C:=Db m;clear l m;go_wp2_with fail;refine(P6 (c a) _ _).mono ?_;rintro e w' ⟨rfl,t⟩;have G:=Tt (c a).1 f;have H:=Db G;clear G;go_wp2
    go_ret2
    refine⟨a,_,rfl,⟨x,z,y,?_⟩,d.trans (t.mono d.size)⟩;simp[Da H,q]
   ·have E:decide (((a:Nat):Int)<(n:Int))=false:=by simp;omega
    have B:=Db l;have C:=Db m;clear l m;go_wp2
    go_ret2
    exact⟨a,_,rfl,⟨x,z,y,by simp[q]⟩,d⟩
theorem L6(v:Value)(a:LI)(m:Int)(w:World)(C:Sl w 350 2 v a.length (Dq a))(G:a.length<=10000)(H:Gi a):
  Cl 303 #[v,.int .u64 m,.func (.func 304) #[] #[]] w fun e w'=>∃(i:Nat) (b:Bool),e = .returned (.tuple #[.int .i64 i,.bool b])/\Lg a m i b/\Bw w w':=by
 rcases C.2 with⟨rfl,A⟩|⟨g,r,L,rfl,B,hc,aa,hL,D⟩
 ·have:a=[]:=Ak A;subst this;go_enter Tryz.func303,Tryz.ntmps303;go_wp2_with fail
  go_loopw [9,10] (fun i j wr=>i = .int .i64 0/\j = .int .i64 0/\wr=w) (fun _ _ _=>0)
  case atStart=>exact⟨rfl,rfl,rfl⟩
  case round=>
   obtain⟨rfl,rfl,rfl⟩:=hrel;go_wp2
   go_ret2
   exact⟨0,false,rfl,⟨Aw _,fun k x h _=>absurd h (CT _),fun k x _ h=>by simp at h,by simp⟩,Ag _ _⟩
 ·have z:∀j u,(Dq a)[j]?=some u->w.cell? ⟨g,j,none⟩=some u:=fun j u l=>by
   rw[B.cell];rw[<-D,Ap]at l
   split at l
   ·exact l
   ·cases l
  cases hes:a with
  | nil=>
   subst hes;refine(MB g 0 r (fun _=>(0,0)) m w (by omega) (fun k h=>absurd h (by omega)) (fun k h=>absurd h (by omega)) (fun j k _ h=>absurd h (by omega))).mono ?_;rintro e w' ⟨i,b,rfl,⟨s,t,y,n⟩,o⟩;obtain rfl:i=0:=by omega
   exact⟨0,b,rfl,⟨Aa _,fun k x h _=>absurd h (by omega),fun k x _ h=>by simp at h,by rw[n];simp⟩,o⟩
  | cons x0 l0=>
   rw[<-hes];have f:∀k,k<a.length->a[k]?=some (a.getD k x0):=fun k c=>by simp[List.getD,List.getElem?_eq_getElem c]
   refine(MB g a.length r (fun k=>a.getD k x0) m w G (fun k c=>z _ _ (M9 a k _ (f k c)).1) (fun k c=>z _ _ (M9 a k _ (f k c)).2)
    (fun j k F c=>H j k _ _ F (f j (by omega)) (f k c))).mono ?_
   rintro e w' ⟨i,b,rfl,⟨s,t,y,n⟩,o⟩;have p:∀k x,a[k]?=some x->k<a.length:=fun k x h=>(Ad.1 h).1
   have q:∀k x,a[k]?=some x->x=a.getD k x0:=fun k x h=>by have:=f k (p k x h);rw[h]at this;exact BG this
   refine⟨i,b,rfl,⟨s,fun k x c d=>?_,fun k x c d=>?_,?_⟩,o⟩
   ·rw[q k x d];exact t k c
   ·rw[q k x d];exact y k c (p k x d)
   ·rw[n];constructor
    ·rintro⟨E,e⟩;exact⟨_,f i E,e⟩
    ·rintro⟨x,d,e⟩;exact⟨p i x d,by rw[<-e,q i x d]⟩
end Go.Proofs.YtaieidcohdhgpaaGreatDoor
