/- Dumps. -/
import Derived.Test.YtaieidcohdhgpaaGreatDoorZAG
import Derived.RangeFuncNested
import Derived.RangeFuncBound
import Derived.Shelf.RegionOpen
import Derived.OwnWalkIn
import Derived.LoopNIn
import Derived.LoopIn
namespace Go.Proofs.YtaieidcohdhgpaaGreatDoor
set_option maxHeartbeats 40000000
set_option maxRecDepth 100000
open Go.RowKit
theorem ZC(w:World):(Builtin.append_ #[87,87] 87 #[.slice none 0 0,.slice none 0 0]).run Tryz.prog w = .ok (.slice none 0 0) w:=by
 obtain⟨i0,a,aa,ab,ac⟩:=Bn Q9;simp[Builtin.append_,run_underlying Tryz.underlying87,sizeOf,typeInfo,a,Builtin.lenOf,Builtin.firstCells]
theorem Vl(w:World)(z:Nat)(vl vf:Value)(L:List (By×Int))(F:LY)(h:FN w z vl vf L F)(hL:L.length+1<=2000000)(d:By):
  Cl 163 #[.pointer (some ⟨z,0,none⟩),.string d] w fun e w'=>∃v,e = .returned v/\Sl w' 103 2 v (Dv L d L.length).length (Dr (Dv L d L.length))/\Bw w w'/\∀j,v.ownBlock=some j->w.heap.size<=j:=by
 obtain⟨av,cv,rfl,ao⟩:=h.sl.rdL;have aq:=Db ao;have V:=Db h;have HO:=Db h.ok;clear h ao;go_enter Tryz.func163,Tryz.ntmps163;go_wp2
 go_loopw [5,6,7,8] (fun l i _ _ wr=>LM w wr L d l i) (fun _ i _ _ _=>L.length-(intOf i).toNat)
 case atStart=>exact⟨0,Aw _,rfl,⟨rfl,.inl ⟨rfl,rfl⟩⟩,Ag _ _,fun j Z=>by simp[Value.ownBlock]at Z⟩
 case round=>
  obtain⟨k,hk,rfl,Y,b,hn⟩:=hrel;have ad:=(Da V).at b;have ag:=ad.c.c0;have aH:=ad.nl;clear ad;by_cases ab:k<L.length
  ·obtain⟨x,hx⟩:∃x,L[k]?=some x:=⟨_,Ac ab⟩;obtain⟨g,rfl,q0,q1⟩:=Da aq k _ hx;have R:g<w.heap.size:=(Da V).sl.lt rfl;have ap:=(b.cell (p:=⟨g,k*2,none⟩) R).trans q0;have ae:=(b.cell (p:=⟨g,k*2+1,none⟩) R).trans q1;obtain⟨aD,aC⟩:=Da HO x (An hx);clear q0 q1;have aa:Hid (Dv L d (k+1)=if Dx d x=true then JF (Dv L d k) x else Dv L d k):=by unfold Hid;rw[Dv,hx]
   have r:=Db Y;have HN:=Db hn;have aj:=fun W=>Uh x.1 W aD aC
   have af:=Db aj;clear hx Y hn aj
   cases hq:((Jd x.1).toList==d.toList) with
   | false=>
    have A:Hid (Dv L d (k+1)=Dv L d k):=by show _=_;rw[Da aa,if_neg (show ¬Dx d x=true by unfold Dx;rw[hq];simp)]
    have aB:((Jd x.1).toList != d.toList)=true:=by simp only[bne,hq];rfl
    go_wp2_with (go_at_call 148;refine(Da af _).mono ?_;rintro e w' ⟨rfl,S⟩;rw[S];clear S)
    go_roundw
    case rel=>exact⟨k+1,by omega,by go_num,by rw[Da A];exact Da r,b,Da HN⟩
    case measure=>simp[intOf];omega
   | true=>
    have aB:((Jd x.1).toList != d.toList)=false:=by simp only[bne,hq];rfl
    have A:Hid (Dv L d (k+1)=JF (Dv L d k) x):=by show _=_;rw[Da aa,if_pos (show Dx d x=true from hq)]
    go_wp2_with (go_at_call 148;refine(Da af _).mono ?_;rintro e w' ⟨rfl,S⟩;rw[S];clear S);obtain⟨n,aE⟩:=ex wr;subst aE;obtain⟨l,hl⟩:=ex (Dv L d k);have an:l.length<=k:=by rw[hl];exact Q1 L d k
    rw[<-hl]at r A;have ac:=VR x l;clear hl aa;rcases (Da r).2 with⟨rfl,h0⟩|⟨u,t,R5,rfl,au,ah,ai,ar,aw⟩
    ·have az:l=[]:=Ak (by omega);subst az;clear h0 an ac;have K:Hid (JF [] x=[x]):=rfl
     go_loopw [7] (fun P w6=>P = .int .i64 0/\Bw n w6) (fun _ _=>0)
     case atStart=>exact⟨rfl,Ag _ _⟩
     case round=>
      obtain⟨rfl,a⟩:=hrel;have N:z<n.heap.size:=Ao (Da V).hd.lt b.size;have f:g<n.heap.size:=Ao R b.size;have x0:=(a.cell (p:=⟨z,0,none⟩) N).trans ag;have x1:=(a.cell (p:=⟨g,k*2,none⟩) f).trans ap;have x2:=(a.cell (p:=⟨g,k*2+1,none⟩) f).trans ae;obtain⟨a2,n2,c2,w2,q,c,m⟩:=Mk wr.drew x;have o:=ZC wr.drew;have C:=Db m;clear m;go_wp2_with fail
      go_region
      all_goals
       go_wp2_with (first|(at_builtin;refine Aj _ rfl _ _ 87 87 rfl _ _ rfl rfl _ _ o ?_;clear o)|(at_builtin;refine Aj _ rfl _ _ 87 87 rfl _ _ rfl rfl _ _ q ?_;clear q)|(at_builtin;refine Aj _ rfl _ _ 87 87 rfl _ _ rfl rfl _ _ c ?_;clear c))
       go_roundw
       case rel=>
        obtain⟨E,G,H⟩:=Da (Da C);refine⟨k+1,by omega,by go_num,?_,b.trans ((a.drew.trans (G.mono a.size)).mono b.size),fun i D=>?_⟩
        ·rw[Da A,Da K];exact E
        ·have:=H i D;have:=b.size;have:=a.drew.size;omega
       case measure=>simp[intOf];omega
    ·clear au ar aw;have ak:u<n.heap.size:=(Da r).lt rfl;have N:z<n.heap.size:=Ao (Da V).hd.lt b.size;have f:g<n.heap.size:=Ao R b.size
     go_loopw [7] (fun P w6=>∃j:Nat,P = .int .i64 j/\j<=JU x l/\Bw n w6) (fun P _=>l.length-(intOf P).toNat)
     case atStart=>exact⟨0,rfl,Aw _,Ag _ _⟩
     case round=>
      obtain⟨j,rfl,Z,a⟩:=hrel;have x0:=(a.cell (p:=⟨z,0,none⟩) N).trans ag;have x1:=(a.cell (p:=⟨g,k*2,none⟩) f).trans ap;by_cases al:j<l.length
      ·have O:l[j]?=some l[j]:=Ac al;obtain⟨y,hy⟩:=ex (l[j]);rw[<-hy]at O;have y0:=(Da r).cellAt (a.block u ak) (Po l j y O).1;by_cases am:j<JU x l
       ·have aA:Op.bytesLess y.1.toList x.1.toList=true:=VT x l j y am O;clear O hy;go_wp2_with fail
        go_region
        all_goals
         go_wp2
         go_roundw
         case rel=>exact⟨j+1,by go_num,by omega,a.drew⟩
         case measure=>simp[intOf];omega
       ·have M:JU x l=j:=by omega
        have aA:Op.bytesLess y.1.toList x.1.toList=false:=VQ x l y (by rw[M];exact O);have K:=Db M;clear O hy M am Z ac;have x2:=(a.cell (p:=⟨g,k*2+1,none⟩) f).trans ae;have Q:Sl wr.drew 103 2 (.slice (some ⟨u,0,none⟩) l.length t) l.length (Dr l):=(Da r).fr (X:=fun _=>False) (Fr.of_below a.drew) (fun _ _=>id);obtain⟨a1,n1,c1,w1,o,s,a2,n2,c2,w2,q,b2,T⟩:=Ml wr.drew u t l Q (by omega) j (by omega) x;have u0:=(s.cell (p:=⟨z,0,none⟩) (Ao N a.size)).trans x0;have u1:=(s.cell (p:=⟨g,k*2,none⟩) (Ao f a.size)).trans x1;have u2:=(s.cell (p:=⟨g,k*2+1,none⟩) (Ao f a.size)).trans x2;have B:=Db T;clear T Q s b2;go_wp2_with fail
        go_region
        all_goals
         obtain⟨a3,n3,c3,w3,c,m⟩:=Da B ⟨u,j*2,none⟩ (t-j) (fun _=>rfl);have C:=Db m;clear m B;go_wp2_with (first|(at_builtin;refine Aj _ rfl _ _ 87 87 rfl _ _ rfl rfl _ _ o ?_;clear o)|(at_builtin;refine Aj _ rfl _ _ 87 87 rfl _ _ rfl rfl _ _ q ?_;clear q)|(at_builtin;refine Aj _ rfl _ _ 87 87 rfl _ _ rfl rfl _ _ c ?_;clear c))
         go_roundw
         case rel=>
          obtain⟨E,G,H⟩:=Da (Da C);refine⟨k+1,by omega,by go_num,?_,b.trans ((a.drew.trans (G.mono a.size)).mono b.size),fun i D=>?_⟩
          ·rw[Da A,UG];unfold JF;rw[Da K];exact E
          ·have:=H i D;have:=b.size;have:=a.drew.size;omega
         case measure=>simp[intOf];omega
      ·obtain rfl:j=l.length:=by omega
       have M:JU x l=l.length:=by omega
       have K:=Db M;clear M Z ac al;have x2:=(a.cell (p:=⟨g,k*2+1,none⟩) f).trans ae;have Q:Sl wr.drew 103 2 (.slice (some ⟨u,0,none⟩) l.length t) l.length (Dr l):=(Da r).fr (X:=fun _=>False) (Fr.of_below a.drew) (fun _ _=>id);obtain⟨a1,n1,c1,w1,o,s,a2,n2,c2,w2,q,b2,T⟩:=Ml wr.drew u t l Q (by omega) l.length (Aa _) x;have u0:=(s.cell (p:=⟨z,0,none⟩) (Ao N a.size)).trans x0;have u1:=(s.cell (p:=⟨g,k*2,none⟩) (Ao f a.size)).trans x1;have u2:=(s.cell (p:=⟨g,k*2+1,none⟩) (Ao f a.size)).trans x2;have B:=Db T;have I:=Db b;have J:=Db a;have U:=Db ab;have aG:(k:Int)<L.length:=by omega
       have ax:(l.length:Int)<=t:=by omega
       clear T Q s b2 b a ab an hk R N f ak;by_cases ay:t=l.length
       ·subst ay;obtain⟨a3,n3,c3,w3,c,m⟩:=Da B ⟨u,0,none⟩ 0 (fun h=>absurd (CO _) h);rw[CO]at c;have C:=Db m;clear m B ax ah ai;go_wp2_with fail
        go_region
        all_goals
         go_wp2_with (first|(at_builtin;refine Aj _ rfl _ _ 87 87 rfl _ _ rfl rfl _ _ o ?_;clear o)|(at_builtin;refine Aj _ rfl _ _ 87 87 rfl _ _ rfl rfl _ _ q ?_;clear q)|(at_builtin;refine Aj _ rfl _ _ 87 87 rfl _ _ rfl rfl _ _ c ?_;clear c))
         go_roundw
         case rel=>
          obtain⟨E,G,H⟩:=Da (Da C);refine⟨k+1,by have:=Da U;omega,by go_num,?_,(Da I).trans (((Da J).drew.trans (G.mono (Da J).size)).mono (Da I).size),fun i D=>?_⟩
          ·rw[Da A,UG];unfold JF;rw[Da K];exact E
          ·have:=H i D;have:=(Da I).size;have:=(Da J).drew.size;omega
         case measure=>simp[intOf];have:=Da U;omega
       ·have aF:¬(t:Int)=l.length:=by omega
        obtain⟨a3,n3,c3,w3,c,m⟩:=Da B ⟨u,l.length*2,none⟩ (t-l.length) (fun _=>rfl);rw[CO]at c;have C:=Db m;clear m B ah ai;go_wp2_with fail
        go_region
        all_goals
         go_wp2_with (first|(at_builtin;refine Aj _ rfl _ _ 87 87 rfl _ _ rfl rfl _ _ o ?_;clear o)|(at_builtin;refine Aj _ rfl _ _ 87 87 rfl _ _ rfl rfl _ _ q ?_;clear q)|(at_builtin;refine Aj _ rfl _ _ 87 87 rfl _ _ rfl rfl _ _ c ?_;clear c))
         go_roundw
         case rel=>
          obtain⟨E,G,H⟩:=Da (Da C);refine⟨k+1,by have:=Da U;omega,by go_num,?_,(Da I).trans (((Da J).drew.trans (G.mono (Da J).size)).mono (Da I).size),fun i D=>?_⟩
          ·rw[Da A,UG];unfold JF;rw[Da K];exact E
          ·have:=H i D;have:=(Da I).size;have:=(Da J).drew.size;omega
         case measure=>simp[intOf];have:=Da U;omega
  ·obtain rfl:k=L.length:=by omega
   have r:=Db Y;have HN:=Db hn;clear Y hn;go_wp2;go_ret;exact⟨_,rfl,Da r,b,Da HN⟩
def jl(ns:LY):List UInt8:=ns.flatMap (fun n=>47::n.data.toList)
def jn(ns:LY):By:=⟨(jl ns).toArray⟩
def Hd(n:By):Prop:=(47:UInt8)∉n.data.toList
theorem Hd.at{n:By}(h:Hd n)(j:Nat):n.data.toList[j]? ≠ some 47:=fun e=>h (An e)
theorem K7{n:By}(h:DC n=true):Hd n:=fun a=>by
 simp only[DC,A8]at h;have:=BC.1 h.2 _ a
 revert this;decide
theorem TZ{n:By}(h:DC n=true):n.data.toList≠[]:=fun e=>by
 simp[DC,ByteArray.toList_eq,e]at h
theorem Ke(ns:LY):(jn ns).data.toList=jl ns:=by simp[jn]
theorem QR(ns:LY):(jn ns).toList=jl ns:=by rw[BV,Ke]
theorem QI:jl []=[]:=rfl
theorem JS(n:By)(ns:LY):jl (n::ns)=47::n.data.toList++jl ns:=by simp[jl]
theorem KT(a b:LY):jl (a++b)=jl a++jl b:=by simp[jl]
theorem KY(n:By):jl [n]=47::n.data.toList:=by simp[jl]
theorem K4{a b:By}(h:a.data.toList=b.data.toList):a=b:=AY h
theorem Vc(ns:LY):(jn ns).size=(jl ns).length:=by show(jn ns).data.size=_;simp[jn]
theorem Pz:∀(a b:LY),(∀n∈a,Hd n)->(∀n∈b,Hd n)->jl a=jl b->a=b
 | [],[],_,_,_=>rfl
 | [],n::b,_,_,h=>by simp[JS,QI]at h
 | n::a,[],_,_,h=>by simp[JS,QI]at h
 | n::a,m::b,ha,hb,h=>by
  rw[JS,JS]at h;have q:n.data.toList++jl a=m.data.toList++jl b:=by simpa using h
  have r:∀(x y:List UInt8) (u v:List UInt8),(47:UInt8)∉x->(47:UInt8)∉y->(u=[]\/∃t,u=47::t)->(v=[]\/∃t,v=47::t)->x++u=y++v->x=y/\u=v:=by
   intro x
   induction x with
   | nil=>
    intro y u v _ j g i e
    cases y with
    | nil=>exact⟨rfl,by simpa using e⟩
    | cons c y=>
     rcases g with rfl|⟨t,rfl⟩
     ·simp at e
     ·simp at e;exact absurd (by simp[e.1]) j
   | cons c x ih=>
    intro y u v f j g i e
    cases y with
    | nil=>
     rcases i with rfl|⟨t,rfl⟩
     ·simp at e
     ·simp at e;exact absurd (by simp[e.1]) f
    | cons d y=>
     simp only[AL,List.cons.injEq]at e;obtain⟨s,w⟩:=ih y u v (fun h=>f (AA _ h)) (fun h=>j (AA _ h)) g i e.2;exact⟨by rw[e.1,s],w⟩
  have k:∀l:LY,jl l=[]\/∃t,jl l=47::t:=fun l=>by
   cases l with
   | nil=>exact .inl rfl
   | cons x l=>exact .inr ⟨_,by rw[JS];rfl⟩
  obtain⟨o,p⟩:=r _ _ _ _ (ha n (by simp)) (hb m (by simp)) (k a) (k b) q;rw[K4 o,Pz a b (fun x f=>ha x (by simp[f])) (fun x f=>hb x (by simp[f])) p]
def Ga(ns:LY):Prop:=∀n∈ns,DC n=true
theorem Ga.nosl{ns:LY}(h:Ga ns):∀n∈ns,Hd n:=fun n a=>K7 (h n a)
theorem Ga.left{a b:LY}(h:Ga (a++b)):Ga a:=fun n c=>h n (BM _ c)
theorem Ua{a b:LY}(c:Ga a)(d:Ga b)(h:jn a=jn b):a=b:=Pz a b c.nosl d.nosl (by rw[<-Ke,<-Ke,h])
theorem pc_jl(n:By)(ns:LY)(b:∀m∈n::ns,Hd m)(s:By)(a:s.data.toList=n.data.toList++jl ns):pc s=n::ns:=by
 induction ns generalizing n s with
 | nil=>
  have:s=n:=K4 (by simpa [QI] using a);subst this;exact QL s (b s (by simp)).at
 | cons m ms ih=>
  have e:=b n (by simp);rw[UV s n.size (fun j f=>by rw[a,AU (by simpa using f)];exact e.at j) (by rw[a,JS,AD (by simp)];simp)];have c:s.extract 0 n.size=n:=K4 (by rw[BO,a];simp);have d:(s.extract (n.size+1) s.size).data.toList=m.data.toList++jl ms:=by
   rw[KG,a,JS,List.drop_append];simp
  rw[c,ih m (fun x g=>b x (AA _ g)) _ d]
theorem Sx{ns:LY}(h:Ga ns)(b:ns≠[]):Dc (jn ns)=ns:=by
 cases ns with
 | nil=>exact absurd rfl b
 | cons n ns=>
  unfold Dc;rw[if_neg (by
   rw[QR,JS];have:=TZ (h n (by simp));simp[this])]
  exact pc_jl n ns (fun m a=>K7 (h m a)) _ (by rw[KG,Ke,JS];simp)
theorem jl_pc:∀(k:Nat) (s:By),s.size<=k->jl (pc s)=47::s.data.toList:=by
 intro k
 induction k with
 | zero=>
  intro s l;have c:s.data.toList=[]:=Ak (by have:s.data.toList.length=s.size:=Az;omega);rw[QL s (fun j=>by rw[c];simp),KY]
 | succ k ih=>
  intro s l;rcases SF s.data.toList with h|⟨i,d,a⟩
  ·rw[QL s h,KY]
  ·have hi:i<s.size:=(Ad.1 a).1;rw[UV s i d a,JS,ih _ (by simp[ByteArray.size_extract];omega),KG,BO];have f:s.data.toList.drop i=47::s.data.toList.drop (i+1):=by
    obtain⟨g,e⟩:=Ad.1 a;rw[BY g,e]
   have b:s.data.toList=s.data.toList.take i++s.data.toList.drop i:=(BT _ _).symm;rw[f]at b;simp only[CP,Nat.sub_zero];rw[AL,List.cons.injEq];exact⟨rfl,b.symm⟩
theorem Qx{p:By}(h:Df p=true)(d:(p.toList==[47])=false):p=jn (Dc p)/\Ga (Dc p)/\Dc p≠[]/\(Dc p).length<=6:=by
 unfold Df at h;rw[d,Bool.false_or]at h;simp only[A8,AM]at h;have g:Dc p=pc (p.extract 1 p.size):=by unfold Dc;rw[d];simp
 have b:=jl_pc _ (p.extract 1 p.size) (Aa _);rw[<-g]at h b;refine⟨?_,fun n f=>BC.1 h.2 n f,fun e=>by rw[e]at b;simp[QI]at b,h.1.2⟩;refine K4 ?_;rw[Ke,b,KG];have a:p.data.toList[0]?=some 47:=by simpa using h.1.1
 obtain⟨hl,e⟩:=Ad.1 a
 cases hp:p.data.toList with
 | nil=>rw[hp]at a;simp at a
 | cons c l=>rw[hp]at a;simp at a;simp[a]
theorem Vm{ns:LY}(h:Ga ns)(a:ns≠[]):((jn ns).toList==[47])=false:=by
 cases ns with
 | nil=>exact absurd rfl a
 | cons n ns=>
  rw[QR,JS];have:=TZ (h n (by simp));simp[this]
theorem Xu{ns:LY}(h:Ga ns)(b:ns≠[])(c:ns.length<=6):Df (jn ns)=true:=by
 have a:=Sx h b;unfold Dc at a;rw[Vm h b]at a;simp only[Bool.false_eq_true,E0]at a;unfold Df;rw[Vm h b,a,Ke]
 cases ns with
 | nil=>exact absurd rfl b
 | cons n ns=>
  simp only[Bool.false_or,JS,A8,AM];exact⟨⟨by simp,c⟩,BC.2 h⟩
theorem Q3{p:By}(a:(p.toList==[47])=true):Dc p=[]:=by unfold Dc;rw[a];rfl
theorem Zkw(x y:List UInt8)(b:(47:UInt8)∉y):JX (x++47::y)=some x.length:=by
 induction x with
 | nil=>
  have:∀l:List UInt8,(47:UInt8)∉l->JX l=none:=by
   intro l
   induction l with
   | nil=>intro _;rfl
   | cons c l ih=>
    intro h;unfold JX;rw[ih (fun a=>h (AA _ a))];exact if_neg (fun e=>h (by simp[e]))
  show JX (47::y)=_;unfold JX;rw[this y b];rfl
 | cons c x ih=>
  show JX (c::(x++47::y))=_;unfold JX;rw[ih];rfl
theorem Ul(ns:LY)(n:By)(h:Hd n):Jd (jn (ns++[n]))=jn ns:=by
 unfold Jd;rw[Ke,KT,KY,Zkw _ _ h];refine K4 ?_;rw[BO,Ke,KT,Ke];simp
theorem TR(ns:LY)(n:By)(h:Hd n):KZ (jn (ns++[n]))=n:=by
 unfold KZ;rw[Ul ns n h];refine K4 ?_;rw[KG,Ke,KT,KY,Vc,List.drop_append];simp
theorem Pj(p:By):∀(n i m:Nat),(∀j,i<=j->j<i+m->p.data.toList[j]? ≠ some 47)->m<=n->Jl p n i=Jl p (n-m) (i+m)
 | n,i,0,_,_=>rfl
 | 0,i,m+1,_,h=>by omega
 | n+1,i,m+1,h,hm=>by
  rw[Jl,if_neg (h i (Aa _) (by omega)),Pj p n (i+1) m (fun j h1 h2=>h j (by omega) (by omega)) (by omega)]
  congr 1<;>omega
def Ds:LY->LY->List (LY)
 | _,[]=>[]
 | _,[_]=>[]
 | d,n::m::ns=>(d++[n])::Ds (d++[n]) (m::ns)
theorem YB(d:LY)(n:By)(ns:LY)(h:∀m∈n::ns,Hd m)(p:By)(a:p.data.toList=jl (d++n::ns)):
  Jl p (n.size+(jl ns).length) ((jl d).length+1)=(Ds d (n::ns)).map jn:=by
 induction ns generalizing d n with
 | nil=>
  rw[Pj p _ _ n.size (fun j g i=>by
   rw[a,KT,KY,AD (by omega)];obtain⟨k,rfl⟩:∃k,j=(jl d).length+(k+1):=⟨j-(jl d).length-1,by omega⟩;rw[Cf,BU];exact(h n (by simp)).at k) (by omega)]
  simp[QI,Jl,Ds]
 | cons m ms ih=>
  rw[Pj p _ _ n.size (fun j g i=>by
   rw[a,KT,JS,AD (by omega)];obtain⟨k,rfl⟩:∃k,j=(jl d).length+(k+1):=⟨j-(jl d).length-1,by omega⟩;rw[Cf,AL,BU,AU (by have:n.data.toList.length=n.size:=Az;omega)];exact(h n (by simp)).at k) (by omega)]
  have c:n.size+(jl (m::ms)).length-n.size=(m.size+(jl ms).length)+1:=by
   rw[JS];have:m.data.toList.length=m.size:=Az;simp only[Ab,Af];omega
  have e:(jl d).length+1+n.size=(jl (d++[n])).length:=by
   rw[KT,KY];have:n.data.toList.length=n.size:=Az;simp only[Ab,Af];omega
  have b:p.data.toList=jl (d++[n])++jl (m::ms):=by rw[a,<-KT];simp
  rw[c,e,Jl,if_pos (by rw[b,AD (Aa _),JS];simp)];have f:p.extract 0 (jl (d++[n])).length=jn (d++[n]):=K4 (by rw[BO,b,Ke];simp);rw[f,ih (d++[n]) m (fun x l=>h x (AA _ l)) (by rw[a];simp)];simp[Ds]
theorem YC{ns:LY}(h:Ga ns)(b:ns≠[]):Jl (jn ns) ((jn ns).size-1) 1=(Ds [] ns).map jn:=by
 cases ns with
 | nil=>exact absurd rfl b
 | cons n ns=>
  rw[<-YB [] n ns (fun m a=>K7 (h m a)) (jn (n::ns)) (by rw[Ke];rfl)];have:n.data.toList.length=n.size:=Az;rw[Vc,JS];simp only[QI,Ab,Af,Ay,this];congr 1;omega
abbrev Gh:=List (LY×VS)
def DF(ρ : Int->Nat)(u:VS):Int:=if u.p.isSome=true then -1 else (ρ u.f:Int)
def vw(ρ : Int->Nat)(x:LY×VS):By×Int:=(jn x.1,DF ρ x.2)
def FQ(G:Gh)(ns:LY):Option VS:=(G.find? (fun x=>decide (x.1=ns))).map (·.2)
structure F0(G:Gh):Prop where
 nms:∀x∈G,Ga x.1
 ne:∀x∈G,x.1≠[]
 le:∀x∈G,x.1.length<=6
 nd:(G.map (·.1)).Nodup
 up:∀ns n u,(ns++[n],u)∈G->ns=[]\/∃v,(ns,v)∈G/\v.p.isSome=true
theorem K3(ρ : Int->Nat)(u:VS):DF ρ u<0↔u.p.isSome=true:=by
 unfold DF;by_cases h:u.p.isSome=true
 ·simp[h]
 ·simp only[h,Bool.false_eq_true,E0,iff_false];omega
theorem ST{α β : Type}(f : α -> β)(p : β -> Bool)(q : α -> Bool):∀(l:List α),(∀x∈l,p (f x)=q x)->(l.map f).find? p=(l.find? q).map f
 | [],_=>rfl
 | a::l,h=>by
  rw[BK,List.find?_cons,List.find?_cons,h a (by simp),ST f p q l (fun x b=>h x (by simp[b]))]
  cases q a<;>rfl
theorem Sa{G:Gh}(h:F0 G)(ρ : Int->Nat){ns:LY}(a:Ga ns):FT (G.map (vw ρ)) (jn ns)=(FQ G ns).map (DF ρ):=by
 unfold FT FQ;rw[ST (vw ρ) _ (fun x=>decide (x.1=ns)) G (fun x b=>by
  rw[Eo];exact⟨fun e=>Ua (h.nms x b) a e,fun e=>by show jn x.1=_;rw[e]⟩)]
 cases G.find? (fun x=>decide (x.1=ns))<;>rfl
def F8(G:Gh):List (LY)->Int
 | []=>0
 | q::r=>match FQ G q with
  | none=>3
  | some u=>if u.p.isSome=true then F8 G r else 4
theorem Td{G:Gh}(h:F0 G)(ρ : Int->Nat):∀(qs:List (LY)),(∀q∈qs,Ga q)->JV (G.map (vw ρ)) (qs.map jn)=F8 G qs
 | [],_=>rfl
 | q::r,hq=>by
  rw[BK,JV,F8,Sa h ρ (hq q (by simp)),Td h ρ r (fun x b=>hq x (by simp[b]))]
  cases FQ G q with
  | none=>rfl
  | some u=>
   simp only[Cn];by_cases a:u.p.isSome=true
   ·rw[if_pos a,if_neg (by have:=(K3 ρ u).2 a;omega)]
   ·rw[if_neg a,if_pos (by rcases Int.lt_or_le (DF ρ u) 0 with h|h;exact absurd ((K3 ρ u).1 h) a;exact h)]
theorem T6:∀(d ns:LY),Ga (d++ns)->∀q∈Ds d ns,Ga q
 | d,[],_,q,a=>by simp[Ds]at a
 | d,[n],_,q,a=>by simp[Ds]at a
 | d,n::m::ns,h,q,a=>by
  rw[Ds]at a;rcases AG.1 a with rfl|a
  ·exact Ga.left (b:=m::ns) (by rw[AC];exact h)
  ·exact T6 (d++[n]) (m::ns) (by rw[AC];exact h) q a
theorem Yw{G:Gh}(h:F0 G)(ρ : Int->Nat){ns:LY}(a:Ga ns)(b:ns≠[]):DD (G.map (vw ρ)) (jn ns)=F8 G (Ds [] ns):=by
 unfold DD;rw[YC a b,Td h ρ _ (T6 [] ns a)]
theorem Zje(L:List (By×Int))(p:By)(c:(p.toList==[47])=true):DD L p=0:=by
 have b:p.toList=[47]:=by simpa using c
 have:p.size=1:=by
  have a:p.toList.length=p.size:=by rw[BV];exact Az
  rw[b]at a;simpa using a.symm
 unfold DD;rw[this];rfl
theorem Ko{G:Gh}{ns:LY}{u:VS}(h:FQ G ns=some u):(ns,u)∈G:=by
 unfold FQ at h
 cases hf:G.find? (fun x=>decide (x.1=ns)) with
 | none=>rw[hf]at h;cases h
 | some x=>
  rw[hf]at h;have b:=CB hf;have a:=Fp hf;simp at h a;rw[<-h,<-a];exact b
theorem QS{α β : Type}{G:List (α × β)}(h:(G.map (·.1)).Nodup){a : α}{u v : β}(g:(a,u)∈G)(i:(a,v)∈G):u=v:=by
 induction G with
 | nil=>cases g
 | cons x G ih=>
  rw[BK,Cx]at h;rcases AG.1 g with d|e
  ·rcases AG.1 i with b|c
   ·rw[<-d]at b;exact(Eg b).2.symm
   ·exact absurd (Ei (f:=(·.1)) c) (by rw[<-d]at h;exact h.1)
  ·rcases AG.1 i with b|c
   ·exact absurd (Ei (f:=(·.1)) e) (by rw[<-b]at h;exact h.1)
   ·exact ih h.2 e c
theorem Ut{G:Gh}(h:(G.map (·.1)).Nodup){ns:LY}{u:VS}(a:(ns,u)∈G):FQ G ns=some u:=by
 cases ha:FQ G ns with
 | none=>
  unfold FQ at ha;rw[E8,Ex]at ha;exact absurd (by simp:decide ((ns,u).1=ns)=true) (ha _ a)
 | some v=>rw[QS h a (Ko ha)]
theorem Uq{G:Gh}{ns:LY}(h:FQ G ns=none)(u:VS):(ns,u)∉G:=fun a=>by
 unfold FQ at h;rw[E8,Ex]at h;exact absurd (by simp:decide ((ns,u).1=ns)=true) (h _ a)
def GF(ns:LY)(x:LY×VS):Bool:=decide (x.1.dropLast=ns)
theorem Qk{ns:LY}(h:ns≠[]):∃d n,ns=d++[n]:=⟨ns.dropLast,ns.getLast h,(List.dropLast_concat_getLast h).symm⟩
theorem PE{α β : Type}(f : α -> β)(p : β -> Bool)(q : α -> Bool):∀(l:List α),(∀x∈l,p (f x)=q x)->(l.map f).countP p=l.countP q
 | [],_=>rfl
 | a::l,h=>by
  rw[BK,Es,Es,h a (by simp),PE f p q l (fun x b=>h x (by simp[b]))]
theorem dir_vw{G:Gh}(h:F0 G)(ρ : Int->Nat){ns:LY}(c:Ga ns):(G.map (vw ρ)).countP (Dx (jn ns))=G.countP (GF ns):=
 PE _ _ _ G (fun x b=>by
  obtain⟨d,n,e⟩:=Qk (h.ne x b);have a:=h.nms x b;unfold Dx GF vw;rw[e]at a ⊢;rw[Ul d n (K7 (a n (by simp))),CJ];rw[EE,CE,AM,QR,QR];exact⟨fun e=>Pz _ _ a.left.nosl c.nosl e,fun e=>by rw[e]⟩)
theorem WG(G:Gh)(ρ : Int->Nat):(G.map (vw ρ)).countP qD=G.countP (fun x=>x.2.p.isSome):=
 PE _ _ _ G (fun x _=>by
  unfold qD vw;rw[EE,AM];exact K3 ρ x.2)
def GP(G:Gh)(ns:LY)(es:LS):Prop:=∀n u,(n,u)∈es↔(ns++[n],u)∈G
theorem Sb(a:By):Gu a a=false:=by
 unfold Gu
 cases h:Op.bytesLess a.toList a.toList with
 | false=>rfl
 | true=>
  have:∀l:List UInt8,Op.bytesLess l l=false:=by
   intro l
   induction l with
   | nil=>rfl
   | cons c l ih=>simp[Op.bytesLess,ih]
  rw[this]at h;cases h
theorem FZ.nodup{a:LS}(h:FZ a):(a.map (·.1)).Nodup:=by
 unfold List.Nodup;rw[BQ];intro i j b d c e;have ab:j<a.length:=by simpa using d
 have aa:i<a.length:=by simpa using b
 rw[Er,Er]at e;have:=h i j a[i] a[j] c (Ac _) (Ac _);rw[e,Sb]at this;cases this
theorem Zfo{α : Type}{a b:List α}(c:a.Nodup)(d:b.Nodup)(h:∀x,x∈a↔x∈b):a.length=b.length:=((Fs c d).2 h).length_eq
theorem UD{α β : Type}{G:List (α × β)}(h:(G.map (·.1)).Nodup):G.Nodup:=by
 induction G with
 | nil=>exact EK
 | cons x G ih=>
  rw[BK,Cx]at h;exact Cx.2 ⟨fun a=>h.1 (Ei (f:=(·.1)) a),ih h.2⟩
theorem Wd{α β : Type}(f : α -> β){l:List α}(h:l.Nodup)(d:∀x∈l,∀y∈l,f x=f y->x=y):(l.map f).Nodup:=by
 induction l with
 | nil=>exact EK
 | cons a l ih=>
  rw[Cx]at h;rw[BK,Cx];refine⟨fun g=>?_,ih h.2 (fun x i y j=>d x (by simp[i]) y (by simp[j]))⟩;obtain⟨b,c,e⟩:=A2.1 g;have:=d b (by simp[c]) a (by simp) e;rw[this]at c;exact h.1 c
theorem GP.length{G:Gh}{ns:LY}{a:LS}(c:F0 G)(m:FZ a)(h:GP G ns a):a.length=G.countP (GF ns):=by
 have k:(a.map (fun x=>(ns++[x.1],x.2))).Nodup:=Wd _ (UD m.nodup) (fun x _ y _ e=>by
  obtain⟨g,j⟩:=Eg e;have i:x.1=y.1:=by simpa using g
  exact Prod.ext i j)
 have l:(G.filter (GF ns)).Nodup:=(UD c.nd).filter _;rw[Fi,<-Zfo k l,A7];intro x;rw[A2,List.mem_filter];constructor
 ·rintro⟨y,o,rfl⟩;exact⟨(h y.1 y.2).1 o,by simp[GF]⟩
 ·rintro⟨f,b⟩;obtain⟨d,n,e⟩:=Qk (c.ne x f);unfold GF at b;rw[e,CJ,AM]at b;obtain rfl:=b;refine⟨(n,x.2),(h n x.2).2 (by rw[<-e];exact f),by rw[<-e]⟩
def qB(ns:LY)(x:LY×VS):Bool:=decide (ns.length<x.1.length/\ns <+: x.1)
def qP(ns:LY)(x:LY×VS):Bool:=decide (ns <+: x.1)
theorem PT{α : Type}(p q : α -> Bool):∀(l:List α),(∀x∈l,¬(p x=true/\q x=true))->l.countP (fun x=>p x || q x)=l.countP p+l.countP q
 | [],_=>rfl
 | a::l,h=>by
  rw[Es,Es,Es,PT p q l (fun x b=>h x (by simp[b]))];have:=h a (by simp)
  cases hp:p a<;>cases hq:q a<;>simp[hp,hq]at this ⊢ <;> omega
theorem Nx{α : Type}{p q : α -> Bool}{l:List α}(h:∀x∈l,p x=q x):l.countP p=l.countP q:=List.countP_congr (fun x a=>by rw[h x a])
def Kx(G:Gh)(r:LY×VS->Bool)(ns:LY)(ks:LY):Nat:=G.countP (fun x=>r x && ks.any (fun n=>qP (ns++[n]) x))
theorem YA{ns:LY}{n m:By}{x:LY}(a:ns++[n] <+: x)(b:ns++[m] <+: x):n=m:=by
 obtain⟨r,rfl⟩:=a;obtain⟨s,e⟩:=b;rw[AC,AC]at e;have:=E6 e;simp at this;exact this.1.symm
theorem Zq(G:Gh)(r:LY×VS->Bool)(ns:LY)(c:LY)(n:By)(f:n∉c):
  Kx G r ns (c++[n])=Kx G r ns c+G.countP (fun x=>r x && qP (ns++[n]) x):=by
 unfold Kx;rw[<-PT]
 ·refine Nx (fun x _=>?_);rw[List.any_append]
  cases r x<;>simp
 ·rintro x _ ⟨d,e⟩;simp only[A8,List.any_eq_true]at d e;obtain⟨_,m,g,b⟩:=d;have a:=e.2;unfold qP at b a;rw[AM]at b a;rw[YA a b]at f;exact f g
theorem ZkJ{G:Gh}(a:(G.map (·.1)).Nodup)(r:LY×VS->Bool){ns:LY}{u:VS}(h:(ns,u)∈G):G.countP (fun x=>r x && decide (x.1=ns))=if r (ns,u)=true then 1 else 0:=by
 induction G with
 | nil=>cases h
 | cons y G ih=>
  rw[BK,Cx]at a;rw[Es];rcases AG.1 h with rfl|h
  ·have:G.countP (fun x=>r x && decide (x.1=ns))=0:=by
    rw[EW];intro x b;have:x.1≠ns:=fun e=>a.1 (by rw[<-e];exact Ei (f:=(·.1)) b)
    simp[this]
   rw[this]
   cases hr:r (ns,u)<;>simp
  ·rw[ih a.2 h];have:y.1≠ns:=fun e=>a.1 (by rw[e];exact Ei (f:=(·.1)) h)
   simp[this]
theorem Zs{G:Gh}(f:(G.map (·.1)).Nodup)(r:LY×VS->Bool){ns:LY}{u:VS}(h:(ns,u)∈G):
  G.countP (fun x=>r x && qP ns x)=(if r (ns,u)=true then 1 else 0)+G.countP (fun x=>r x && qB ns x):=by
 rw[<-ZkJ f r h,<-PT]
 ·refine Nx (fun x _=>?_);have:qP ns x=(decide (x.1=ns) || qB ns x):=by
   unfold qP qB;rw[EE,ED,AM,AM,AM];constructor
   ·intro a;rcases Bk ns.length x.1.length with b|b
    ·exact .inr ⟨b,a⟩
    ·exact .inl (a.eq_of_length_le b).symm
   ·rintro(e|⟨_,a⟩)
    ·rw[e];exact List.prefix_refl _
    ·exact a
  rw[this]
  cases r x<;>simp
 ·rintro x _ ⟨c,d⟩;simp only[A8,AM,qB]at c d;rw[c.2]at d;omega
theorem F0.pre{G:Gh}(h:F0 G):∀(k:Nat) (x:LY×VS),x∈G->∀ns,ns≠[]->ns <+: x.1->x.1.length=ns.length+k->0<k->∃v,(ns,v)∈G/\v.p.isSome=true:=by
 intro k
 induction k with
 | zero=>intro _ _ _ _ _ _ h0;omega
 | succ k ih=>
  intro x j ns f g a _;obtain⟨d,n,e⟩:=Qk (h.ne x j);have p:(d++[n],x.2)∈G:=by rw[<-e];exact j
  have b:ns <+: d:=by
   rw[e]at g a;exact List.prefix_of_prefix_length_le g (List.prefix_append d [n]) (by simp at a;omega)
  have l:d≠[]:=fun c=>by rw[c]at b;exact f (List.prefix_nil.1 b)
  rcases h.up d n x.2 p with c|⟨v,i,m⟩
  ·exact absurd c l
  ·have o:d.length=ns.length+k:=by rw[e]at a;simp at a;omega
   cases k with
   | zero=>exact⟨v,by rw[b.eq_of_length_le (by omega)];exact i,m⟩
   | succ k=>exact ih (d,v) i ns f b o (by omega)
theorem F0.pre'{G:Gh}(h:F0 G){x:LY×VS}(c:x∈G){ns:LY}(b:ns≠[])(a:qB ns x=true):∃v,(ns,v)∈G/\v.p.isSome=true:=by
 unfold qB at a;rw[AM]at a;exact h.pre (x.1.length-ns.length) x c ns b a.2 (by omega) (by omega)
theorem T9{G:Gh}(h:F0 G)(r:LY×VS->Bool){ns:LY}{u:VS}(c:(ns,u)∈G)(d:u.p=none):G.countP (fun x=>r x && qB ns x)=0:=by
 rw[EW];intro x f a;rw[A8]at a;obtain⟨v,e,b⟩:=h.pre' f (h.ne _ c) a.2;rw[QS h.nd e c,d]at b;cases b
def GS(es:LS):LY:=es.map (·.1)
theorem XI{G:Gh}(h:F0 G)(r:LY×VS->Bool){ns:LY}{c:LS}(i:GP G ns c):Kx G r ns (GS c)=G.countP (fun x=>r x && qB ns x):=by
 unfold Kx;refine Nx (fun x g=>?_);have:(GS c).any (fun n=>qP (ns++[n]) x)=qB ns x:=by
  rw[EE,List.any_eq_true];unfold qB qP;constructor
  ·rintro⟨n,hn,d⟩;rw[AM]at d ⊢;have a:=d.length_le;simp at a;exact⟨by omega,(List.prefix_append ns [n]).trans d⟩
  ·intro e;rw[AM]at e;obtain⟨a,t,b⟩:=e
   cases t with
   | nil=>rw[<-b]at a;simp at a
   | cons n t=>
    refine⟨n,?_,by rw[AM,<-b];exact⟨t,by simp⟩⟩;have:∃u,(ns++[n],u)∈G:=by
     by_cases f:t=[]
     ·subst f;exact⟨x.2,by rw[b];exact g⟩
     ·obtain⟨v,k,_⟩:=h.pre' g (ns:=ns++[n]) (by simp) (by
       unfold qB;rw[AM,<-b];refine⟨?_,⟨t,by simp⟩⟩
       cases t with
       | nil=>exact absurd rfl f
       | cons m t=>simp)
      exact⟨v,k⟩
    obtain⟨u,j⟩:=this;exact A2.2 ⟨(n,u),(i n u).2 j,rfl⟩
 rw[this]
def cD(G:Gh)(ns:LY):Nat:=1+G.countP (fun x=>x.2.p.isSome && qB ns x)
def cE(G:Gh)(ns:LY):Nat:=G.countP (fun x=>true && qB ns x)
theorem Z8(a:LS)(k:Nat)(h:k<a.length):GS (a.take (k+1))=GS (a.take k)++[a[k].1]:=by
 unfold GS;have:a.take (k+1)=a.take k++[a[k]]:=by rw[Bg,Ac h];rfl
 rw[this,Bo];rfl
theorem Xn{a:LS}(g:FZ a)(k:Nat)(h:k<a.length):a[k].1∉GS (a.take k):=fun b=>by
 unfold GS at b;obtain⟨y,i,e⟩:=A2.1 b;obtain⟨j,d,c⟩:=List.getElem_of_mem i;have f:j<k:=by simp at d;omega
 have:=g j k y a[k] f (by rw[<-c,List.getElem_take];exact Ac _) (Ac h);rw[e,Sb]at this;cases this
theorem SP{G:Gh}(b:F0 G)(r:LY×VS->Bool){ns:LY}{a:LS}(d:FZ a)(c:GP G ns a)(k:Nat)(h:k<a.length):
  Kx G r ns (GS (a.take (k+1)))=Kx G r ns (GS (a.take k))+((if r (ns++[a[k].1],a[k].2)=true then 1 else 0)+G.countP (fun x=>r x && qB (ns++[a[k].1]) x)):=by
 rw[Z8 a k h,Zq _ _ _ _ _ (Xn d k h),Zs b.nd r ((c a[k].1 a[k].2).1 (Cq h))]
theorem WD{G:Gh}(h:F0 G):cE G []=G.length:=by
 unfold cE;refine List.countP_eq_length.2 (fun x b=>?_);have:=h.ne x b;simp only[qB,Bool.true_and,AM];exact⟨by cases hx1:x.1 with
  | nil=>exact absurd hx1 this
  | cons a l=>simp,List.nil_prefix⟩
theorem OS{G:Gh}(h:F0 G):cD G []=1+G.countP (fun x=>x.2.p.isSome):=by
 unfold cD
 congr 1
 refine Nx (fun x b=>?_);have:=h.ne x b;have:qB [] x=true:=by
  simp only[qB,AM];exact⟨by cases hx1:x.1 with
   | nil=>exact absurd hx1 this
   | cons a l=>simp,List.nil_prefix⟩
 rw[this,Bool.and_true]
structure GA(I:LF)(ρ : Int->Nat)(L:List (By×Int))(F:LY):Prop where
 nd:(I.map (·.1)).Nodup
 inj:∀x∈I,∀y∈I,ρ x.1 = ρ y.1->x.1=y.1
 lt:∀x∈I,ρ x.1<F.length
 live:∀x∈I,0<L.countP (Dz (ρ x.1))
 all:∀f:Nat,f<F.length->0<L.countP (Dz f)->∃x∈I,ρ x.1=f
 size:∀x∈I,x.2.l=(F[ρ x.1]?.getD ⟨#[]⟩).size
 links:∀x∈I,x.2.f=(L.countP (Dz (ρ x.1)):Nat)
theorem GA.perm{I:LF}{ρ : Int->Nat}{L:List (By×Int)}{F:LY}(h:GA I ρ L F):
  List.Perm (I.map (fun x => ρ x.1)) ((List.range F.length).filter (fun f:Nat=>decide (0<L.countP (Dz (f:Int))))):=by
 refine(Fs (Wd _ (UD h.nd) (fun x b y d e=>?_)) (List.nodup_range.filter _)).2 (fun f=>?_)
 ·have c:=h.inj x b y d e;have:x.2=y.2:=QS h.nd (a:=x.1) b (by rw[c];exact d);exact Prod.ext c this
 ·rw[A2,List.mem_filter,BX,AM];constructor
  ·rintro⟨x,b,rfl⟩;exact⟨h.lt x b,h.live x b⟩
  ·rintro⟨g,i⟩;obtain⟨x,b,e⟩:=h.all f g i;exact⟨x,b,e⟩
theorem GA.length{I:LF}{ρ : Int->Nat}{L:List (By×Int)}{F:LY}(h:GA I ρ L F):I.length=Kb L F.length:=by
 unfold Kb;rw[Fi,<-h.perm.length_eq,A7]
theorem Yr(L:List (By×Int))(F:LY)(k:Nat):JH L F k=(((List.range k).filter (fun f:Nat=>decide (0<L.countP (Dz (f:Int))))).map (fun f=>((F[f]?.getD ⟨#[]⟩).size+63)/64)).sum:=by
 induction k with
 | zero=>rfl
 | succ k ih=>
  rw[JH,ih,E5,List.filter_append,Bo,List.sum_append];by_cases h:0<L.countP (Dz (k:Int))
  ·simp[h]
  ·simp[h]
def IQ(I:LF):Nat:=(I.map (fun x=>(x.2.l+63)/64)).sum
theorem GA.usage{I:LF}{ρ : Int->Nat}{L:List (By×Int)}{F:LY}(h:GA I ρ L F):IQ I=Kn L F:=by
 unfold IQ Kn;rw[Yr,<-(h.perm.map _).sum_nat,Ee]
 congr 1
 refine Cc (fun x a=>?_);show(x.2.l+63)/64=_;rw[h.size x a];rfl
section
open Go.RowKit Go.Shelf
attribute [local go_sem] Oper.semAt_some
abbrev Bl:=@World.putObj_heap_other
abbrev Bq:=@callsIn_of_wp_marks
abbrev Bz:=@wpAnyIn_ready
abbrev BS:=@run_takeDeferred
abbrev B2:=@World.alloc_heap_new
abbrev Cp:=@CallsIn.inRound
abbrev CA:=@KeepsOthers.setCell
abbrev CS:=@wpIn_rangeFunc_ownF
abbrev Eb:=@KeepsOthers.alloc
abbrev Ez:=@enters_of
abbrev Fg:=@Oper.semAt_plain
abbrev Fj:=@wpIn_rangeFunc_ownH
abbrev Fl:=@grownBy_putObj'
abbrev Fx:=@belowK_b
theorem Nk(w:World)(o:Obj):w.grownBy (w.alloc o) none:=⟨rfl,rfl,rfl,by simp,fun k a _=>BE w o k a⟩
theorem Wl{W a:World}(h:Bw W a):KeepsOthers W a:=⟨h.size,fun k _o b _=>(h.block k (Ah.1 b).1).trans b⟩
theorem ME(F:Fence)(n:Nat)(M:F.fn 222)(Q:F.round=none)(hn:1<=n)(l w m B ho g D:Nat){α : Type}(b : α -> By×VS)(a:List α)(ab:a.length<=10000)(t:g<m)(J z:List α -> World->Prop)
  (W:World) (G:AbidesFrom W.heap.size J)
  (L:∀pre x W,J pre W->pre.length<a.length->YieldAt F (n-1) Tryz.prog l #[.string (b x).1,.agg #[.pointer (b x).2.p,.int .i64 (b x).2.f]] W fun e c=>
   (e = .returned (.bool true)/\J (pre++[x]) c/\Below m W c)\/(e = .returned (.bool false)/\z (pre++[x]) c))
  (aa:W.cell? ⟨w,0,none⟩=some (.pointer (some ⟨B,ho,none⟩))) (hc:W.cell? ⟨B,ho,none⟩=some (.slice (some ⟨g,0,none⟩) a.length D))
  (f:∀j u,(Di (a.map b))[j]?=some u->W.cell? ⟨g,j,none⟩=some u) (P:m<=W.heap.size) (E:J [] W):
  CallsIn F n Tryz.prog 222 #[.func (.yield l) #[] #[],.pointer (some ⟨w,0,none⟩)] W fun e c=>(∃v,e = .returned v)/\
   ((∃ys,ys=a/\J ys c)\/(∃pre,pre <+: a/\z pre c)):=by
 refine Cv Tryz.func222 rfl M ?_ Q;simp only[Tryz.ntmps222,AQ,Af,Ay,Nat.reduceAdd,Nat.reduceSub,AP,AO,AV,AR,AJ,AL]
 gi_wp2
 gi_loopw [10] (fun i wr=>∃k:Nat,k<=a.length/\i = .int .i64 k/\J (a.take k) wr/\Below m W wr)
  (fun i _=>a.length-(intOf i).toNat)
 case atStart=>exact⟨0,Aw _,rfl,E,Ag _ _⟩
 case round=>
  obtain⟨k,hk,rfl,s,d⟩:=hrel;by_cases O:k<a.length
  ·obtain⟨x,h⟩:∃x,a[k]?=some x:=⟨_,Ac O⟩;have y:Hid (a.take (k+1)=a.take k++[x]):=by show _=_;rw[Bg,h];rfl
   have q:=QP (a.map b) k (b x) (by rw[Be,h];rfl);have q0:=(d.cell (p:=⟨g,k*3,none⟩) t).trans (f _ _ q.1);have q1:=(d.cell (p:=⟨g,k*3+1,none⟩) t).trans (f _ _ q.2.1);have q2:=(d.cell (p:=⟨g,k*3+2,none⟩) t).trans (f _ _ q.2.2);have C:(a.take k).length<a.length:=by rw[Ar];omega
   have A:∀o,J (a.take k) (wr.alloc o):=fun o=>G _ _ _ none s (Nk wr o) (fun r e=>by cases e)
   obtain⟨fn,tmps,assign,body,hy,K⟩:=L _ x (wr.alloc (.cells #[.string (b x).1,.pointer (b x).2.p,.int .i64 (b x).2.f] 310)) (A _) C;have HX:=Db h;clear q h C A f
   gi_wp2
   refine K.mono ?_;rintro e W3 (⟨rfl,H,N⟩|⟨rfl,I⟩)
   ·gi_wp2
    go_roundw
    case rel=>exact⟨k+1,by omega,by go_num,by rw[Da y];exact H,(d.alloc (Ae P d.size) _).trans N⟩
    case measure=>simp[intOf];omega
   ·gi_wp2
    refine Aq (CZ rfl _ _ _) rfl ?_;exact⟨⟨_,rfl⟩,.inr ⟨_,by rw[<-Da y];exact Fh _ _,I⟩⟩
  ·obtain rfl:k=a.length:=by omega
   gi_wp2
   go_end0
   exact⟨⟨_,rfl⟩,.inl ⟨_,rfl,by rw[BN]at s;exact s⟩⟩
theorem Ti(F:Fence)(n:Nat)(g:F.fn 222)(h:F.round=none)(l a b ho:Nat){α : Type}(J:List α -> World->Prop)(W:World)
  (aa:W.cell? ⟨a,0,none⟩=some (.pointer (some ⟨b,ho,none⟩))) (hc:W.cell? ⟨b,ho,none⟩=some (.slice none 0 0)) (d:J [] W):
  CallsIn F n Tryz.prog 222 #[.func (.yield l) #[] #[],.pointer (some ⟨a,0,none⟩)] W fun e c=>(∃v,e = .returned v)/\J [] c:=by
 refine Cv Tryz.func222 rfl g ?_ h;simp only[Tryz.ntmps222,AQ,Af,Ay,Nat.reduceAdd,Nat.reduceSub,AP,AO,AV,AR,AJ,AL]
 gi_wp2
 gi_loopw [10] (fun i wr=>i = .int .i64 0/\J [] wr) (fun _ _=>0)
 case atStart=>exact⟨rfl,d⟩
 case round=>
  obtain⟨rfl,f⟩:=hrel
  gi_wp2
  go_end0
  exact⟨⟨_,rfl⟩,f⟩
theorem Ou(F:Fence)(n:Nat)(b:F.fn 179)(c:F.round=none)(a:OA)(w:World):
  CallsIn F n Tryz.prog 179 #[.pointer a] w fun e w'=>e = .returned (.func (.func 222) #[] #[.pointer (some ⟨w.heap.size,0,none⟩)])/\w'=w.alloc (.cells #[.pointer a] 307):=by
 refine Cv Tryz.func179 rfl b ?_ c;simp only[Tryz.ntmps179,AQ,Af,Ay,Nat.reduceAdd,Nat.reduceSub,AP,AO,AV,AR,AJ,AL]
 gi_wp2
 go_ret;exact⟨rfl,rfl⟩
theorem T7(F:Fence)(n:Nat)(s:F.fn 222)(t:F.round=none)(M:1<=n)(b i c ho:Nat)(v:Value){α : Type}(d : α -> By×VS)(a:List α)(K:a.length<=10000)(w:World)(B:b<w.heap.size)(H:c<w.heap.size)(N:i<=w.heap.size)
  (A:w.cell? ⟨b,0,none⟩=some (.pointer (some ⟨c,ho,none⟩))) (I:w.cell? ⟨c,ho,none⟩=some v) (D:Sl w 310 3 v a.length (Di (a.map d))) (O:∀g,v.ownBlock=some g->g<i):
  SeqStopsK F n Tryz.prog 222 #[.pointer (some ⟨b,0,none⟩)] (fun x : α => #[.string (d x).1,.agg #[.pointer (d x).2.p,.int .i64 (d x).2.f]]) (Below i) (fun Q=>Q=a) (fun P=>P <+: a) a.length w:=fun l J y W f C _ G m=>by
 have o:=(f.cell (p:=⟨b,0,none⟩) B).trans A;have r:=(f.cell (p:=⟨c,ho,none⟩) H).trans I;rcases D.2 with⟨rfl,k⟩|⟨g,z,R,rfl,q,_,_,_,E⟩
 ·obtain rfl:a=[]:=Ak k;exact(Ti F n s t l b c ho J W o r m).mono fun e W' ⟨k,L⟩=>⟨k,.inl ⟨_,rfl,L⟩⟩
 ·exact ME F n s t M l b i c ho g z d a K (O g rfl) J y W C G o r (fun j u h=>by
   rw[f.cell (p:=⟨g,j,none⟩) q.lt,q.cell];rw[<-E,Ap]at h
   split at h
   ·exact h
   ·cases h) (Ae N f.size) m
theorem MH(F:Fence)(n:Nat)(M:F.fn 204)(Q:F.round=none)(hn:1<=n)(l w m B ho g D:Nat){α : Type}(b : α -> Int×VF)(a:List α)(ab:a.length<=10000)(t:g<m)(J z:List α -> World->Prop)
  (W:World) (G:AbidesFrom W.heap.size J)
  (L:∀pre x W,J pre W->pre.length<a.length->YieldAt F (n-1) Tryz.prog l #[.int .i64 (b x).1,.agg #[.slice (b x).2.a (b x).2.l (b x).2.c,.int .i64 (b x).2.f]] W fun e c=>
   (e = .returned (.bool true)/\J (pre++[x]) c/\Below m W c)\/(e = .returned (.bool false)/\z (pre++[x]) c))
  (aa:W.cell? ⟨w,0,none⟩=some (.pointer (some ⟨B,ho,none⟩))) (hc:W.cell? ⟨B,ho,none⟩=some (.slice (some ⟨g,0,none⟩) a.length D))
  (f:∀j u,(Dm (a.map b))[j]?=some u->W.cell? ⟨g,j,none⟩=some u) (P:m<=W.heap.size) (E:J [] W):
  CallsIn F n Tryz.prog 204 #[.func (.yield l) #[] #[],.pointer (some ⟨w,0,none⟩)] W fun e c=>(∃v,e = .returned v)/\
   ((∃ys,ys=a/\J ys c)\/(∃pre,pre <+: a/\z pre c)):=by
 refine Cv Tryz.func204 rfl M ?_ Q;simp only[Tryz.ntmps204,AQ,Af,Ay,Nat.reduceAdd,Nat.reduceSub,AP,AO,AV,AR,AJ,AL]
 gi_wp2
 gi_loopw [10] (fun i wr=>∃k:Nat,k<=a.length/\i = .int .i64 k/\J (a.take k) wr/\Below m W wr)
  (fun i _=>a.length-(intOf i).toNat)
 case atStart=>exact⟨0,Aw _,rfl,E,Ag _ _⟩
 case round=>
  obtain⟨k,hk,rfl,s,d⟩:=hrel;by_cases O:k<a.length
  ·obtain⟨x,h⟩:∃x,a[k]?=some x:=⟨_,Ac O⟩;have y:Hid (a.take (k+1)=a.take k++[x]):=by show _=_;rw[Bg,h];rfl
   have q:=QO (a.map b) k (b x) (by rw[Be,h];rfl);have q0:=(d.cell (p:=⟨g,k*3,none⟩) t).trans (f _ _ q.1);have q1:=(d.cell (p:=⟨g,k*3+1,none⟩) t).trans (f _ _ q.2.1);have q2:=(d.cell (p:=⟨g,k*3+2,none⟩) t).trans (f _ _ q.2.2);have C:(a.take k).length<a.length:=by rw[Ar];omega
   have A:∀o,J (a.take k) (wr.alloc o):=fun o=>G _ _ _ none s (Nk wr o) (fun r e=>by cases e)
   obtain⟨fn,tmps,assign,body,hy,K⟩:=L _ x (wr.alloc (.cells #[.int .i64 (b x).1,.slice (b x).2.a (b x).2.l (b x).2.c,.int .i64 (b x).2.f] 293)) (A _) C;have HX:=Db h;clear q h C A f
   gi_wp2
   refine K.mono ?_;rintro e W3 (⟨rfl,H,N⟩|⟨rfl,I⟩)
   ·gi_wp2
    go_roundw
    case rel=>exact⟨k+1,by omega,by go_num,by rw[Da y];exact H,(d.alloc (Ae P d.size) _).trans N⟩
    case measure=>simp[intOf];omega
   ·gi_wp2
    refine Aq (CZ rfl _ _ _) rfl ?_;exact⟨⟨_,rfl⟩,.inr ⟨_,by rw[<-Da y];exact Fh _ _,I⟩⟩
  ·obtain rfl:k=a.length:=by omega
   gi_wp2
   go_end0
   exact⟨⟨_,rfl⟩,.inl ⟨_,rfl,by rw[BN]at s;exact s⟩⟩
theorem Yx(F:Fence)(n:Nat)(g:F.fn 204)(h:F.round=none)(l a b ho:Nat){α : Type}(J:List α -> World->Prop)(W:World)
  (aa:W.cell? ⟨a,0,none⟩=some (.pointer (some ⟨b,ho,none⟩))) (hc:W.cell? ⟨b,ho,none⟩=some (.slice none 0 0)) (d:J [] W):
  CallsIn F n Tryz.prog 204 #[.func (.yield l) #[] #[],.pointer (some ⟨a,0,none⟩)] W fun e c=>(∃v,e = .returned v)/\J [] c:=by
 refine Cv Tryz.func204 rfl g ?_ h;simp only[Tryz.ntmps204,AQ,Af,Ay,Nat.reduceAdd,Nat.reduceSub,AP,AO,AV,AR,AJ,AL]
 gi_wp2
 gi_loopw [10] (fun i wr=>i = .int .i64 0/\J [] wr) (fun _ _=>0)
 case atStart=>exact⟨rfl,d⟩
 case round=>
  obtain⟨rfl,f⟩:=hrel
  gi_wp2
  go_end0
  exact⟨⟨_,rfl⟩,f⟩
theorem Wy(F:Fence)(n:Nat)(b:F.fn 145)(c:F.round=none)(a:OA)(w:World):
  CallsIn F n Tryz.prog 145 #[.pointer a] w fun e w'=>e = .returned (.func (.func 204) #[] #[.pointer (some ⟨w.heap.size,0,none⟩)])/\w'=w.alloc (.cells #[.pointer a] 290):=by
 refine Cv Tryz.func145 rfl b ?_ c;simp only[Tryz.ntmps145,AQ,Af,Ay,Nat.reduceAdd,Nat.reduceSub,AP,AO,AV,AR,AJ,AL]
 gi_wp2
 go_ret;exact⟨rfl,rfl⟩
theorem ZkV(F:Fence)(n:Nat)(s:F.fn 204)(t:F.round=none)(M:1<=n)(c i d ho:Nat)(v:Value){α : Type}(b : α -> Int×VF)(a:List α)(K:a.length<=10000)(w:World)(B:c<w.heap.size)(H:d<w.heap.size)(N:i<=w.heap.size)
  (A:w.cell? ⟨c,0,none⟩=some (.pointer (some ⟨d,ho,none⟩))) (I:w.cell? ⟨d,ho,none⟩=some v) (D:Sl w 293 3 v a.length (Dm (a.map b))) (O:∀g,v.ownBlock=some g->g<i):
  SeqStopsK F n Tryz.prog 204 #[.pointer (some ⟨c,0,none⟩)] (fun x : α => #[.int .i64 (b x).1,.agg #[.slice (b x).2.a (b x).2.l (b x).2.c,.int .i64 (b x).2.f]]) (Below i) (fun Q=>Q=a) (fun P=>P <+: a) a.length w:=fun l J y W f C _ G m=>by
 have o:=(f.cell (p:=⟨c,0,none⟩) B).trans A;have r:=(f.cell (p:=⟨d,ho,none⟩) H).trans I;rcases D.2 with⟨rfl,k⟩|⟨g,z,R,rfl,q,_,_,_,E⟩
 ·obtain rfl:a=[]:=Ak k;exact(Yx F n s t l c d ho J W o r m).mono fun e W' ⟨k,L⟩=>⟨k,.inl ⟨_,rfl,L⟩⟩
 ·exact MH F n s t M l c i d ho g z b a K (O g rfl) J y W C G o r (fun j u h=>by
   rw[f.cell (p:=⟨g,j,none⟩) q.lt,q.cell];rw[<-E,Ap]at h
   split at h
   ·exact h
   ·cases h) (Ae N f.size) m
end
section
open Go.RowKit Go.Shelf
attribute [local go_sem] Oper.semAt_some
theorem UB{β : Type}(B:Nat)(t:TypeId)(f : β -> LV):Own (fun s W=>FH W B t (f s)):=fun s X Y row a d e=>
 a.kept d (fun b=>by obtain⟨o,ho,c⟩:=e B b.symm;rw[show X.heap[B]? = _ from a]at ho;cases ho;cases c)
theorem Jj(w:World)(L:LV)(e:TypeId):FH (w.alloc (.cells L.toArray e)) w.heap.size e L:=B2 w _
def D4(l:List Nat):Nat:=(l.map (fun n=>(n+63)/64)).sum
theorem Zk5(l:List Nat)(n:Nat):D4 (l++[n])=D4 l+(n+63)/64:=by simp[D4]
theorem Sq(l:List Nat)(h:∀n∈l,n<=2000000):D4 l<=l.length*40000:=by
 induction l with
 | nil=>simp[D4]
 | cons a l ih=>
  have h1:=ih (fun n c=>h n (by simp[c]));have h2:=h a (by simp);have b:D4 (a::l)=(a+63)/64+D4 l:=by simp[D4]
  rw[b,Af];omega
theorem VD(w:World)(tb:Nat)(T m:Value)(I:LF)(G:FH w tb 214 [T,m])(B:Sl w 293 3 m I.length (Dm I))(v:I.length<=10000)(E:∀x∈I,x.2.l<=2000000):
  Cl 82 #[.pointer (some ⟨tb,0,none⟩)] w fun e w'=>e = .returned (.int .i64 (D4 (I.map (·.2.l)):Nat))/\Bw w w':=by
 refine(A0 (n:=3)).1 ?_;refine Bq Tryz.func82 rfl trivial ?_ rfl;simp only[Tryz.ntmps82,AQ,Af,Ay,Nat.reduceAdd,Nat.reduceSub,AP,AO,AV,AR,AJ,AL]
 gi_wp2_with (refine⟨trivial,?_⟩;gi_at_call 145;refine(Wy _ _ trivial rfl _ _).mono ?_;rintro e w' ⟨rfl,rfl⟩)
 obtain⟨a,j⟩:∃a,(w.alloc (Obj.cells #[Value.int IntKind.i64 0] 3)).alloc (Obj.cells #[Value.pointer (some { block:=tb,off:=1 })] 290)=a:=⟨_,rfl⟩;rw[j];have ad:a.heap.size=w.heap.size+2:=by rw[<-j];simp
 have t:Bw w a:=by rw[<-j];exact((Ag _ w).alloc (Aa _) _).alloc (by simp) _
 have M:Boxed a w.heap.size 3 (.int .i64 0):=by rw[<-j];exact(Boxed.new w 3 _).alloc _
 have N:Boxed a (w.heap.size+1) 290 (.pointer (some ⟨tb,1,none⟩)):=by rw[<-j];have:=Boxed.new (w.alloc (Obj.cells #[Value.int IntKind.i64 0] 3)) 290 (.pointer (some ⟨tb,1,none⟩));simpa using this
 have S:tb<w.heap.size:=G.lt;have L:Sl a 293 3 m I.length (Dm I):=B.kept (fun k Q _=>t.block k Q);have P:a.cell? ⟨tb,1,none⟩=some m:=(t.cell (p:=⟨tb,1,none⟩) S).trans (G.cell 1);have C:I.attach.map (fun x=>x.1)=I:=CW I;clear j;refine Fj (α := { x // x∈I }) rfl (by omega) (gf:=204) (lb := #[.pointer (some ⟨w.heap.size+1,0,none⟩)]) rfl trivial (Ez Tryz.func204 (by kernel_rfl) rfl)
  (ZkV Fence.wide 2 trivial rfl (by omega) (w.heap.size+1) w.heap.size tb 1 m (fun x=>x.1) I.attach (by simpa using v) a (by omega) (by omega) (by omega) N.cell P (by rw[C];simpa using L) (fun g u=>B.lt u))
  belowK_t (Fx (by omega)) (Ag _ _) (fun _=>rfl)
  (fun b W=>Boxed W w.heap.size 3 (.int .i64 (D4 (b.map (·.1.2.l)):Nat))/\Bw w W)
  (fun _ _ _=>False)
  (OwnFrom.and (Own.from (boxed_own _ _ _) _) (ownFrom_below (Aa _) (by omega)))
  (fun _ _ _ _ _ z _ _=>z)
  ⟨M,t⟩
  (fun x q W=>∃f,w.heap.size<f/\FH W f 217 [.slice x.1.2.a x.1.2.l x.1.2.c,.int .i64 x.1.2.f]/\q={ tmps := #[.pointer (some ⟨tb,0,none⟩),undef,.int .i64 0,.pointer (some ⟨w.heap.size,0,none⟩),undef,.pointer (some ⟨f,0,none⟩),.pointer (some ⟨tb,0,none⟩),.pointer (some ⟨tb,0,none⟩),.pointer (some ⟨tb,1,none⟩),.func (.func 204) #[] #[.pointer (some ⟨w.heap.size+1,0,none⟩)],.int .i64 x.1.1,.agg #[.slice x.1.2.a x.1.2.l x.1.2.c,.int .i64 x.1.2.f],undef,undef,undef,undef,undef,undef,undef,undef,undef],defers:=[] })
  (fun x q _ X Y row z u F=>by
   obtain⟨f,s,A,J⟩:=z;exact⟨f,s,(UB (β := Unit) f 217 (fun _=>_)).from _ () X Y row A u F,J⟩)
  ?assign ?body ?done ?stop
 case assign=>
  rintro l b x W K ⟨d,i⟩ o
  gi_wp2
  refine o _ _ ((Eb _ _).from _) ((Ag _ W).alloc i.size _) ⟨d.alloc _,i.alloc i.size _⟩ ⟨W.heap.size,d.lt,Jj W _ _,rfl⟩
 case body=>
  rintro l b x q W ab ⟨r,F⟩ ⟨d,i⟩ ⟨f,aa,H,rfl⟩ R;have hx:=E x.1 x.2;have O:=d.cell;have hf:=d.frozen;have x0:=H.cell 0;have ac:D4 (b.map (·.1.2.l))<=10000*40000:=by
   have s:=Sq (b.map (·.1.2.l)) (fun n v=>by obtain⟨y,hy,e⟩:=A2.1 v;rw[<-e];exact E _ y.2);rw[A7]at s;have A:b.length<I.length:=by simpa using R
   omega
  gi_wp2
  have e:((D4 (b.map (·.1.2.l)):Nat):Int)+((x.1.2.l:Int)+64-1)/64=((D4 ((b++[x]).map (·.1.2.l)):Nat):Int):=by
   rw[Bo,BK,Ec,Zk5];omega
  exact⟨(CA _ _ _).from _,(Ag w.heap.size W).setCell (p:=⟨w.heap.size,0,none⟩) (Aa _) _,by rw[e];exact d.set _,i.setCell (p:=⟨w.heap.size,0,none⟩) (Aa _) _⟩
 case done=>
  rintro D ys W hD rfl ⟨d,i⟩ o;have O:=d.cell
  gi_wp2
  refine⟨by simp,.inl ⟨_,_,rfl,BS o,?_⟩⟩;exact⟨_,EQ rfl _ _ _,by
   have:I.attach.map (fun x=>x.1.2.l)=I.map (fun x=>x.2.l):=by
    have:=C1 (List.map (fun x:Int×VF=>x.2.l)) C;rw[Ee]at this;exact this
   rw[<-this];rfl,i.trans (Fx (w:=w) (Aa _) W D _ _ (by omega) o rfl rfl)⟩
 case stop=>
  rintro D c b W _ _ h _;exact h.elim
end
end Go.Proofs.YtaieidcohdhgpaaGreatDoor
