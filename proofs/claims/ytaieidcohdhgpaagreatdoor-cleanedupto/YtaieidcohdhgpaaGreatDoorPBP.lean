/- Cleaned. -/
import Derived.Test.YtaieidcohdhgpaaGreatDoorPBO
namespace Go.Proofs.YtaieidcohdhgpaaGreatDoor
set_option maxHeartbeats 8000000
set_option maxRecDepth 100000
open Go.RowKit
theorem Ziz(w:World)(a:OA)(l c:Nat)(s:By)(h:RdB w a l c s)(n:Nat):
  ∀W:World,W.ownsRow 0 5 1 (.slice (some ⟨w.heap.size,0,none⟩) n n) n (madeCells (Value.int .u8 0).cells (n*1)).toList->w.grownBy W none->∃f k,(Builtin.copy_ #[59,59] 3 #[.slice (some ⟨w.heap.size,0,none⟩) n n,.slice a l c]).run Tryz.prog W = .ok (goInt k) f/\Hid (Sl f 5 1 (.slice (some ⟨w.heap.size,0,none⟩) n n) n (Dc (Dj s n))/\Below w.heap.size w f):=by
 intro W F I;have m:=Sl.of_owns F;have i:=KJ I;have z:(madeCells (Value.int .u8 0).cells (n*1)).toList=List.replicate n (.int .u8 0):=by rw[Nat.mul_one];exact toList_madeCells_one (.int .u8 0) n
 rw[z]at m;have K:=h.below i
 cases a with
 | none=>
  have r:s.size=0:=by
   rcases Nat.eq_zero_or_pos s.size with e|e
   ·exact e
   ·obtain⟨x,N,_⟩:=h.2.2 0 ((Dc s)[0]'(by rw[Dh];exact e)) (List.getElem?_eq_getElem _)
    cases N
  have J:l=0:=by rw[h.1,r]
  have G:=h.2.1 rfl;subst J G;refine⟨W,0,ZgW W _ _ _,?_,i⟩;have:Dc (Dj s n)=List.replicate n (.int .u8 0):=by
   have M:s=⟨#[]⟩:=by
    apply WideShapes.bytes_inj;have:s.data.toList.length=0:=by rw[<-r];exact Array.length_toList
    rw[List.eq_nil_of_length_eq_zero this]
   unfold Dj;by_cases t:n<=s.size
   ·rw[if_pos t];have:n=0:=by omega
    subst this;rw[Jn];simp
   ·rw[if_neg t,Jw,Ko,r,M];simp[Dc]
  rw[this];exact m
 | some x=>
  rcases m.2 with⟨e,_⟩|⟨g,aa,L,e,E,h1,A,B,C⟩
  ·cases e
  ·cases e
   have D:L=List.replicate n (.int .u8 0):=by
    rw[<-C,List.take_of_length_le (by omega)]
   have o:((Dc s).take (Nat.min l n)).length=Nat.min l n*1:=by
    rw[List.length_take,Dh,h.1,Nat.mul_one];exact Nat.min_eq_left (Nat.min_le_left _ _)
   obtain⟨f,Q,u,R⟩:=JJ (P:=Tryz.prog) W 59 59 3 5 1 w.heap.size 0 n n x l c L 5 ((Dc s).take (Nat.min l n)) Tryz.underlying59 QR E o
    (fun j v d=>by
     rw[List.getElem?_take]at d
     split at d
     ·obtain⟨y,e,O⟩:=K.2.2 j v d;cases e;exact O
     ·cases d) (by rw[o,B];have:Nat.min l n<=n:=Nat.min_le_right _ _;omega) (fun v d=>Ke s v (List.mem_of_mem_take d))
   refine⟨f,_,Q,?_,?_⟩
   ·have H:spl L 0 ((Dc s).take (Nat.min l n))=Dc (Dj s n):=by
     unfold spl;rw[o,D,List.take_zero,List.nil_append,Nat.zero_add,Nat.mul_one,List.drop_replicate];unfold Dj;by_cases q:n<=s.size
     ·have p:Nat.min l n=n:=by rw[h.1];exact Nat.min_eq_right q
      rw[if_pos q,Jn,p];simp
     ·have p:Nat.min l n=s.size:=by rw[h.1];exact Nat.min_eq_left (by omega)
      rw[if_neg q,Jw,Ko,p,List.take_of_length_le (by rw[Dh];exact Nat.le_refl _)]
    rw[H]at u;refine⟨by rw[Dh,Jc];omega,.inr ⟨w.heap.size,n,_,rfl,u,Nat.le_refl _,A,by rw[Dh,Jc];omega,by rw[List.take_of_length_le (by rw[Dh,Jc];omega)]⟩⟩
   ·exact i.grown R i.size (fun k e=>by cases e;exact Nat.le_refl _)
theorem ZeF(w:World)(a:OA)(l c:Nat)(s:By)(h:RdB w a l c s)(n:Nat)(W:World)(m:W.ownsRow 0 5 1 (.slice (some ⟨w.heap.size,0,none⟩) n n) n (madeCells (Value.int .u8 0).cells (n*1)).toList)(o:w.grownBy W none):
  ∃d k,(Builtin.copy_ #[59,59] 3 #[.slice (some ⟨w.heap.size,0,none⟩) n n,.slice a l c]).run Tryz.prog W = .ok (goInt k) d/\RowIs d w.heap.size 5 (Dc (Dj s n))/\Below w.heap.size w d:=by
 obtain⟨d,k,p,i⟩:=Ziz w a l c s h n W m o;refine⟨d,k,p,?_,(Da i).2⟩;rcases (Da i).1.2 with⟨e,_⟩|⟨g,aa,L,e,j,h1,h2,h3,f⟩
 ·cases e
 ·simp only[Value.slice.injEq,Option.some.injEq,Addr.mk.injEq]at e;obtain⟨⟨rfl,-,-⟩,-,rfl⟩:=e;rw[List.take_of_length_le (by omega)]at f;rw[<-f];exact j
theorem Zgg(s:By):Dj s s.size=s:=by
 unfold Dj;rw[if_pos (Nat.le_refl _)];apply WideShapes.bytes_inj;rw[Lib.extract_data,List.drop_zero,Nat.sub_zero];exact List.take_of_length_le (Nat.le_of_eq Array.length_toList)
theorem Zmx(s d:By)(p m:Nat)(hm:m=max s.size (p+d.size)):spl (Dc (Dj s m)) p (Dc d)=Dc (wrR s p d):=by
 unfold spl wrR;rw[Jw,Jw,Dh];by_cases h:p+d.size<=s.size
 ·rw[show m=s.size by omega,Zgg];have a:(Dc s).take p=Dc (Dj s p):=by
   unfold Dj;rw[if_pos (by omega),Jn,List.drop_zero,Nat.sub_zero]
  rw[a]
  congr 1
  split
  ·rw[Jn,List.take_of_length_le (by rw[List.length_drop,Dh];exact Nat.le_refl _)]
  ·rw[List.drop_of_length_le (by rw[Dh];omega)];rfl
 ·have aa:m=p+d.size:=by omega
  have e:Dc (Dj s m)=Dc s++List.replicate (m-s.size) (.int .u8 0):=by
   unfold Dj;rw[if_neg (by omega),Jw,Ko]
  rw[e,if_neg (by omega)];have a:(Dc s++List.replicate (m-s.size) (Value.int .u8 0)).take p=Dc (Dj s p):=by
   unfold Dj;by_cases c:p<=s.size
   ·rw[if_pos c,Jn,List.drop_zero,Nat.sub_zero,List.take_append_of_le_length (by rw[Dh];exact c)]
   ·rw[if_neg c,Jw,Ko,List.take_append,List.take_of_length_le (by rw[Dh];omega),Dh,List.take_replicate]
    congr 2
    omega
  rw[a,List.drop_of_length_le (by rw[List.length_append,Dh,List.length_replicate];omega)]
  rfl
def FileW(w:World)(o:Option By)(v:Value):Prop:=(o=none/\v = .slice none 0 0)\/∃s g,o=some s/\v = .slice (some ⟨g,0,none⟩) s.size s.size/\RowIs w g 5 (Dc s)
structure SetW(n0:Nat)(w:World)(sb:Nat)(b:Nat->Option By)(vs:NV):Prop where
 row:RowIs w sb 62 ((List.range 8).map vs)
 at':∀i,i<8->FileW w (b i) (vs i)
 lo:n0<=sb
theorem FileW.kp{w w':World}{o:Option By}{v:Value}(h:FileW w o v)(e:Kp62 w w'):FileW w' o v:=by
 rcases h with h|⟨s,g,a,c,d⟩
 ·exact .inl h
 ·exact .inr ⟨s,g,a,c,e g 5 _ d (.inr (.inl rfl))⟩
theorem FileW.rd{w:World}{o:Option By}{v:Value}(h:FileW w o v):∃a l c,v = .slice a l c/\RdB w a l c (o.getD ⟨#[]⟩):=by
 rcases h with⟨rfl,rfl⟩|⟨s,g,rfl,rfl,f⟩
 ·exact⟨none,0,0,rfl,rfl,fun _=>rfl,fun j v d=>by simp[Dc]at d⟩
 ·refine⟨_,_,_,rfl,rfl,(fun e=>by cases e),fun j v d=>⟨_,rfl,?_⟩⟩;rw[Addr.add_lit,Nat.zero_add,f.cell];exact d
section
variable{n0:Nat}{w w':World}{sb:Nat}{b:Nat->Option By}{vs:NV}
theorem SetW.kp(h:SetW n0 w sb b vs)(a:Kp62 w w'):SetW n0 w' sb b vs:=⟨a sb 62 _ h.row (.inl rfl),fun i c=>(h.at' i c).kp a,h.lo⟩
theorem SetW.cell(h:SetW n0 w sb b vs){i:Nat}(a:i<8):w.cell? ⟨sb,i,none⟩=some (vs i):=by
 rw[h.row.cell,List.getElem?_map,List.getElem?_range a];rfl
theorem SetW.set(h:SetW n0 w sb b vs){i:Nat}(m:i<8){o:Option By}{v:Value}(x:FileW w o v):SetW n0 (w.setCell ⟨sb,i,none⟩ v) sb (JM b i o) (fun j=>if j=i then v else vs j):=by
 have r:∀g L,RowIs w g 5 L->RowIs (w.setCell ⟨sb,i,none⟩ v) g 5 L:=fun g L l=>by
  have t:g≠sb:=fun e=>by
   subst e;have:=l.type h.row
   revert this;decide
  exact l.fr ((Fr.of_below (X:=fun k=>k=sb) (Below.refl _ _)).set ⟨sb,i,none⟩ v rfl) t
 have f:∀{o:Option By} {u:Value},FileW w o u->FileW (w.setCell ⟨sb,i,none⟩ v) o u:=fun d=>by
  rcases d with d|⟨s,g,n,p,q⟩
  ·exact .inl d
  ·exact .inr ⟨s,g,n,p,r g _ q⟩
 refine⟨?_,fun j a=>?_,h.lo⟩
 ·have:=h.row.set i v;have e:((List.range 8).map vs).set i v=(List.range 8).map (fun j=>if j=i then v else vs j):=by
   apply List.ext_getElem?;intro j;rw[List.getElem?_set,List.getElem?_map,List.getElem?_map,List.length_map,List.length_range];by_cases c:i=j
   ·subst c;rw[if_pos rfl,if_pos m,List.getElem?_range m];simp
   ·rw[if_neg c];by_cases a:j<8
    ·rw[List.getElem?_range a];simp[show ¬j=i from fun e=>c e.symm]
    ·rw[List.getElem?_eq_none (by rw[List.length_range];omega)]
     rfl
  rw[e]at this;exact this
 ·show FileW _ (if j=i then o else b j) (if j=i then v else vs j)
  split
  ·exact f x
  ·exact f (h.at' j a)
theorem LgI.setS{N:Nat}{j:World}{g tb c f:Nat}{K:KS->Prop}{a:Nat->Option By}(h:LgI N n0 j w g tb c f a K)(d:SetW n0 w sb b vs)(i:Nat)(v:Value):LgI N n0 j (w.setCell ⟨sb,i,none⟩ v) g tb c f a K:=by
 refine h.fr62 (X:=fun k=>k=sb) ?_ (fun k t R e l=>?_) (fun k e=>by rw[e];exact d.lo)
 ·exact(Fr.of_below (Below.refl _ _)).set ⟨sb,i,none⟩ v rfl
 ·subst e;exact l.type d.row
end
def Jb(b:Nat->Option By):Nat->Nat
 | 0=>0
 | k+1=>Jb b k+if (b k).isSome=true then 1 else 0
def DX(b:Nat->Option By):Nat->Nat
 | 0=>0
 | k+1=>DX b k+if (b k).isSome=true then (((b k).getD ⟨#[]⟩).size+63)/64 else 0
def idB(b:Nat->Option By)(k:Nat):List Nat:=(List.range k).filter (fun i=>(b i).isSome)
theorem Zlv(b:Nat->Option By):∀k,(idB b k).length=Jb b k
 | 0=>rfl
 | k+1=>by
  unfold idB Jb;rw[List.range_succ,List.filter_append,List.length_append,<-Zlv b k];unfold idB
  cases h:(b k).isSome<;>simp[h]
theorem Zlu(b:Nat->Option By):∀k,((idB b k).map (fun i=>(((b i).getD ⟨#[]⟩).size+63)/64)).sum=DX b k
 | 0=>rfl
 | k+1=>by
  unfold idB DX;rw[List.range_succ,List.filter_append,List.map_append,List.sum_append,<-Zlu b k];unfold idB
  cases h:(b k).isSome<;>simp[h]
theorem ZiM(b:Nat->Option By):∀k,Jb b k<=k
 | 0=>Nat.le_refl _
 | k+1=>by
  have:=ZiM b k;unfold Jb
  split<;>omega
section
variable{b:Nat->Option By}{G:Gh}{I:LF}{CI:IB}
def enB(G:Gh)(i:Nat):LY×VS:=([fn i],(atG G [fn i]).getD ⟨none,0⟩)
theorem SetT.perm(h:SetT b G I CI):List.Perm ((idB b 8).map (enB G)) G:=by
 have q:∀{l:List (LY×VS)},(l.map (·.1)).Nodup->l.Nodup:=fun {l} p=>by
  rw[List.nodup_iff_pairwise_ne,List.pairwise_map]at p;rw[List.nodup_iff_pairwise_ne];exact p.imp (fun {a b} t e=>t (by rw[e]))
 have n:∀i,i∈idB b 8->i<8/\∃s,b i=some s:=fun i c=>by
  obtain⟨d,r⟩:=List.mem_filter.1 c;exact⟨List.mem_range.1 d,Option.isSome_iff_exists.1 r⟩
 refine(List.perm_ext_iff_of_nodup (q ?_) (q h.fl.nd)).2 (fun x=>?_)
 ·rw[List.map_map,List.nodup_iff_pairwise_ne,List.pairwise_map];have:(idB b 8).Nodup:=List.nodup_range.filter _;rw[List.nodup_iff_pairwise_ne]at this;refine this.imp_of_mem (fun {i j} c v u e=>u ?_);have m:[fn i]=[fn j]:=e;injection m with m;exact Uw (n i c).1 (n j v).1 m
 ·constructor
  ·intro k;obtain⟨i,c,rfl⟩:=List.mem_map.1 k;obtain⟨g,s,y⟩:=n i c;obtain⟨f,d,_⟩:=h.yes i g s y;unfold enB;rw[KY h.fl.nd d];exact d
  ·intro k;obtain⟨i,g,e⟩:=h.nm x k;have o:(x.1,x.2)∈G:=k;rw[e]at o;refine List.mem_map.2 ⟨i,List.mem_filter.2 ⟨List.mem_range.2 g,?_⟩,?_⟩
   ·cases hb:b i with
    | none=>exact absurd o (h.no i g hb _)
    | some s=>rfl
   ·unfold enB;rw[KY h.fl.nd o];exact Prod.ext e.symm rfl
theorem SetT.glen(h:SetT b G I CI):G.length=Jb b 8:=by
 have:=h.perm.length_eq;rw[List.length_map,Zlv]at this;exact this.symm
theorem SetT.pnum(h:SetT b G I CI)(j:SrtI I):List.Perm (I.map (·.1)) (G.map (fun y=>y.2.f)):=by
 refine(List.perm_ext_iff_of_nodup j.nd ?_).2 (fun f=>?_)
 ·rw[List.nodup_iff_pairwise_ne,List.pairwise_map];have g:=h.fl.nd;rw[List.nodup_iff_pairwise_ne,List.pairwise_map]at g;refine g.imp_of_mem (fun {x y} d a k e=>k ?_);rw[h.fl.inj x d y a e]
 ·constructor
  ·intro c;obtain⟨x,d,rfl⟩:=List.mem_map.1 c;obtain⟨_,_,y,a,e⟩:=h.fl.back x d;exact List.mem_map.2 ⟨y,a,e⟩
  ·intro c;obtain⟨y,a,rfl⟩:=List.mem_map.1 c;obtain⟨r,i⟩:=h.fl.num y a;exact List.mem_map.2 ⟨_,i,rfl⟩
theorem SetT.usage(h:SetT b G I CI)(l:SrtI I):DP (I.map (·.2.l))=DX b 8:=by
 have c:DP (I.map (·.2.l))=((I.map (·.1)).map (fun f=>((CI f).size+63)/64)).sum:=by
  unfold DP;rw[List.map_map,List.map_map]
  congr 1
  refine List.map_congr_left (fun x m=>?_);show(x.2.l+63)/64=((CI x.1).size+63)/64;rw[(h.fl.back x m).2.1]
 rw[c,((h.pnum l).map _).sum_nat,List.map_map,<-(h.perm.map _).sum_nat,List.map_map,<-Zlu]
 congr 1
 refine List.map_congr_left (fun i k=>?_);obtain⟨g,j⟩:=List.mem_filter.1 k;obtain⟨s,a⟩:=Option.isSome_iff_exists.1 j;obtain⟨f,d,e⟩:=h.yes i (List.mem_range.1 g) s a;show((CI (enB G i).2.f).size+63)/64=_;unfold enB;rw[KY h.fl.nd d,a];show((CI (f:Int)).size+63)/64=_;rw[e];rfl
theorem SetT.elen(h:SetT b G I CI){w:World}{tb c:Nat}{V:NV}{E:NS}{p:Value}(g:TW w tb c V E p G I CI):(E c).length=Jb b 8:=by
 have j:IsDir G c [] c := .inl ⟨rfl,rfl⟩;have k:=(g.d.srt [] c j).nodup;have m:=Qf ((E c).map (fun x=>([x.1],x.2))) G (by
  rw[List.nodup_iff_pairwise_ne,List.pairwise_map]at k ⊢;refine k.imp (fun {a b} l e=>l ?_);rw[Prod.mk.injEq]at e;have:=e.1;injection this) (fun x i=>by
  obtain⟨y,d,rfl⟩:=List.mem_map.1 i;exact(h.fl.root g d).1)
 have o:=Qf (G.map (·.1)) ((E c).map (fun x=>[x.1])) h.fl.nd (fun x i=>by
  obtain⟨y,d,rfl⟩:=List.mem_map.1 i;obtain⟨n,f,rfl,_⟩:=h.fl.fil y d;exact List.mem_map.2 ⟨_,(g.d.en [] c j n _).2 d,rfl⟩)
 rw[List.length_map]at m;rw[List.length_map,List.length_map]at o;have:=h.glen;omega
end
section
variable{w:World}{vb:Nat}{b:Nat->Option By}
def ReadL(w:World)(o:Option By)(e:Ending)(w':World):Prop:=
 ((o=none/\e = .returned (.tuple #[.slice none 0 0,.int .i64 3]))\/∃s x,o=some s/\e = .returned (.tuple #[.slice (some ⟨x,0,none⟩) s.size s.size,.int .i64 0])/\Sl w' 5 1 (.slice (some ⟨x,0,none⟩) s.size s.size) s.size (Dc s))/\Below w.heap.size w w'
theorem ZmP(s:By)(h:s.size<=1280):cutR s 0 1280=s:=by
 unfold cutR;have a:min (0:Int).toNat s.size=0:=by simp
 have c:min (1280:Int).toNat (s.size-0)=s.size:=by show min 1280 _=_;omega
 rw[a,c,Nat.zero_add];apply WideShapes.bytes_inj;rw[Lib.extract_data,List.drop_zero,Nat.sub_zero];exact List.take_of_length_le (Nat.le_of_eq Array.length_toList)
theorem readL(h:VlW w vb b){i:Nat}(j:i<8):Calls Tryz.prog 55 #[.pointer (some ⟨vb,0,none⟩),.string (pth i),.int .i64 0,.int .i64 1280] w (ReadL w (b i)):=by
 obtain⟨tb,G,I,CI,F,⟨J,V,E,K,o⟩,a⟩:=h;have ab:=a.fl.le;have ac:=a.fl.ilen o.si;have r:∀e w',Qk w G CI (pth i) 0 1280 e w'->ReadL w (b i) e w':=by
  rintro e w' ⟨q,y⟩;refine⟨?_,y⟩;have k:rdE G (pth i) 0 1280=DH G (pth i) true:=rfl
  cases hbi:b i with
  | none=>
   have n:=a.nofile j hbi;rcases q with⟨_,rfl⟩|⟨c,_⟩
   ·refine .inl ⟨rfl,?_⟩;rw[k,n]
   ·rw[k,n]at c;cases c
  | some s=>
   have c:=a.file j hbi;obtain⟨f,t,v,l⟩:=a.at j hbi;rcases q with⟨B,_⟩|⟨_,u,p,_,x,m,rfl,_,d⟩
   ·exact absurd (k.trans c) B
   ·rw[t]at p
    cases p
    have D:s.size<=1280:=by have:=a.fl.sz _ v;rw[<-l];exact this
    have z:CI (f:Int)=s:=l;rw[show CI (VS.mk none (f:Int)).f=s from z,ZmP s D]at d;have A:m=s.size:=by
     rcases d.2 with⟨e,_⟩|⟨g,aa,L,e,_,_,_,_,h4⟩
     ·cases e
     ·have:=d.1;rw[Dh]at this;omega
    subst A;exact .inr ⟨s,x,rfl,rfl,d⟩
 exact(readV w vb tb F (pth i) 0 1280 (Qk w G CI (pth i) 0 1280) (fun e w' C=>by
  rcases (r e w' C).1 with⟨_,rfl⟩|⟨s,x,_,rfl,_⟩
  ·exact⟨_,_,_,_,rfl⟩
  ·exact⟨_,_,_,_,rfl⟩) (Zf8 w tb J V E K G I CI o a.fl.gok (by omega) (by omega) a.fl.flok (fun x H=>(a.fl.csz H).1) (pth i) (by have:=(J6 j).2.2;omega) 0 1280 (by omega) (by omega))).mono r
theorem Znh(h:VlW w vb b):Calls Tryz.prog 34 #[.pointer (some ⟨vb,0,none⟩)] w fun e w'=>e = .returned (.int .i64 (DX b 8:Nat))/\Below w.heap.size w w':=by
 obtain⟨tb,G,I,CI,f,⟨rd,V,E,i,a⟩,c⟩:=h;have aa:=c.fl.le;have ab:=c.fl.ilen a.si;refine Zng w vb tb f _ (fun e w' d=>⟨_,d.1⟩) ?_;rw[<-c.usage a.si];exact ZcU w tb _ i I a.t a.i (by omega) (fun x g=>by have:=(c.fl.csz g).2.1;omega)
theorem listL(h:VlW w vb b):Calls Tryz.prog 56 #[.pointer (some ⟨vb,0,none⟩),.string ⟨#[47]⟩] w fun e w'=>(∃a c,e = .returned (.tuple #[.slice a (Jb b 8) c,.int .i64 0]))/\Below w.heap.size w w':=by
 obtain⟨tb,G,I,CI,t,⟨f,V,E,u,i⟩,d⟩:=h;have ab:=d.fl.le;have ac:=d.fl.ilen i.si;have j:Df ⟨#[47]⟩=[]:=by kernel_rfl
 have q:DS ⟨#[47]⟩=true:=by kernel_rfl
 have s:thE G ⟨#[47]⟩=0:=by
  unfold thE DL;rw[q,j]
  rfl
 have k:∀e w',Zl8 w G I (Df ⟨#[47]⟩) (E f) e w'->(∃a c,e = .returned (.tuple #[.slice a (Jb b 8) c,.int .i64 0]))/\Below w.heap.size w w':=by
  rintro e w' ⟨⟨a,n,c,es,rfl,l,m⟩,o⟩;refine⟨?_,o⟩;have p:n=Jb b 8:=by
   rw[<-d.elen i,<-m.1];rcases l.2 with⟨e,h0⟩|⟨g,aa,L,e,_⟩
   ·simp only[Value.slice.injEq]at e;omega
   ·simp only[Value.slice.injEq]at e;exact e.2.1
  subst p;exact⟨a,c,rfl⟩
 exact(listV w vb tb t ⟨#[47]⟩ (Zl8 w G I (Df ⟨#[47]⟩) (E f)) (fun e w' r=>by
  obtain⟨⟨a,c,rfl⟩,_⟩:=k e w' r;exact⟨_,_,_,_,rfl⟩) (ZjQ w tb f V E u G I CI i d.fl.gok (by omega) (by omega) d.fl.flok ⟨#[47]⟩ (by show 1<=_;omega) s f (.inl ⟨j,rfl⟩) (.inl j))).mono k
end
theorem lenR(w:World)(f ho:Nat)(v:Value)(n:Nat)(xs:LVa)(hc:w.cell? ⟨f,ho,none⟩=some v)(d:Sl w 350 2 v n xs):
  Calls Tryz.prog 146 #[.pointer (some ⟨f,ho,none⟩)] w fun e w'=>e = .returned (.int .i64 n)/\w'=w:=by
 have g:∃a m c,v = .slice a m c/\m=n:=by
  rcases d.2 with⟨rfl,rfl⟩|⟨g',aa,L,rfl,hr,_⟩
  ·exact⟨_,_,_,rfl,rfl⟩
  ·exact⟨_,_,_,rfl,rfl⟩
 obtain⟨a,m,c,rfl,rfl⟩:=g;clear d;go_enter Tryz.func146,Tryz.ntmps146;go_wp2;go_ret;exact⟨rfl,rfl⟩
section
variable{w:World}{stb db:Nat}{vk:Value}{s:KS}{vf vn vw ve:Value}{ps:LB}{ep:List Int}
theorem StK.live(h:StK w stb db vk s vf vn vw ve ps ep)(d:s.es.length<=10000):
  Calls Tryz.prog 83 #[.pointer (some ⟨stb,0,none⟩)] w fun e w'=>e = .returned (.int .i64 ((2+s.es.length:Nat):Int))/\Below w.heap.size w w':=by
 have a:=lenR w stb 1 vk _ _ ((h.st.row.cell 1).trans rfl) h.sk;obtain⟨n,c⟩:∃n,n=s.es.length:=⟨_,rfl⟩;rw[<-c]at a d ⊢;clear h c;go_enter Tryz.func83,Tryz.ntmps83;go_wp2_with (go_at_call 146;refine a.mono ?_;rintro e w' ⟨rfl,rfl⟩);go_ret;exact⟨by go_num,Below.refl _ _⟩
theorem StK.free(h:StK w stb db vk s vf vn vw ve ps ep)(a:KsOk s):
  Calls Tryz.prog 84 #[.pointer (some ⟨stb,0,none⟩)] w fun e w'=>e = .returned (.int .i64 (DA (Dg s.es) 96:Nat))/\Below w.heap.size w w':=by
 have d:=h.places a;clear h a;go_enter Tryz.func84,Tryz.ntmps84;go_wp2_with (go_at_call 132;refine d.mono ?_;rintro e w' ⟨rfl,c⟩);go_ret;exact⟨rfl,c⟩
end
section
variable{N n0:Nat}{w0 w:World}{vb tb db stb:Nat}{b:Nat->Option By}{K:KS->Prop}
theorem cleanL(h:LgI N n0 w0 w vb tb db stb b K)(q:∀s,K s->Qq s)(C:N<=1000000)(f:Nat)(m:∀s,K s->DA (Dg s.es) 96=f):
  Calls Tryz.prog 33 #[.pointer (some ⟨vb,0,none⟩)] w fun e w'=>∃(M F:Nat),e = .returned (.int .i64 ((64*(F-f):Nat):Int))/\M<=N+1600/\LgI M n0 w0 w' vb tb db stb b (fun s=>KeptB b s/\DA (Dg s.es) 96=F)/\Kp62 w w':=by
 have E:=Kd w vb tb h.vol.vol;have c1:w.cell? ⟨vb,1,none⟩=some (.pointer (some ⟨tb,0,none⟩)):=(RowIs.cell h.vol 1).trans rfl;have c3:w.cell? ⟨vb,3,none⟩=some (.pointer (some ⟨stb,0,none⟩)):=(RowIs.cell h.vol 3).trans rfl;have o:Hid (f<=1536/\∀X,Below w.heap.size w X->Calls Tryz.prog 84 #[.pointer (some ⟨stb,0,none⟩)] X fun e w'=>e = .returned (.int .i64 (f:Nat))/\Below w.heap.size w w'/\w'.cell? ⟨vb,1,none⟩=some (.pointer (some ⟨tb,0,none⟩))/\w'.cell? ⟨vb,3,none⟩=some (.pointer (some ⟨stb,0,none⟩))):=by
  obtain⟨s,vk,vf,vn,vw,ve,ps,ep,k,i,g,p,h1,h2,h3,h4,h5⟩:=h.st;have d:=Kc (Dg s.es) 96;rw[m s i]at d;refine⟨d,fun X c=>((k.below c).free g.ok).mono ?_⟩;rintro e w' ⟨rfl,j⟩;have l:=c.trans (j.mono c.size);exact⟨by rw[m s i],l,(RowIs.cell (h.below l).vol 1).trans rfl,(RowIs.cell (h.below l).vol 3).trans rfl⟩
 have x:Hid (∀X,Below w.heap.size w X->Calls Tryz.prog 85 #[.pointer (some ⟨stb,0,none⟩),.pointer (some ⟨tb,0,none⟩)] X fun e w'=>e = .returned (.tuple #[])/\w'.cell? ⟨vb,1,none⟩=some (.pointer (some ⟨tb,0,none⟩))/\w'.cell? ⟨vb,3,none⟩=some (.pointer (some ⟨stb,0,none⟩))/\∃M F:Nat,F<=1536/\Hid (Calls Tryz.prog 84 #[.pointer (some ⟨stb,0,none⟩)] w' fun e n=>e = .returned (.int .i64 (F:Nat))/\M<=N+1600/\LgI M n0 w0 n vb tb db stb b (fun s=>KeptB b s/\DA (Dg s.es) 96=F)/\Kp62 w n)):=fun X c=>by
  refine(cleanS (h.below c) q C).mono ?_;rintro e w' ⟨rfl,M,a,D⟩;refine⟨rfl,(RowIs.cell a.vol 1).trans rfl,(RowIs.cell a.vol 3).trans rfl,M,?_⟩;obtain⟨s,vk,vf,vn,vw,ve,ps,ep,k,⟨i,r⟩,g,p⟩:=a.st;have d:=Kc (Dg s.es) 96;refine⟨_,d,((k.free g.ok).mono ?_)⟩;rintro e n ⟨rfl,j⟩;refine⟨rfl,by omega,?_,((Kp62.below c).trans D).trans (Kp62.below j)⟩;have B:LgI M n0 w0 w' vb tb db stb b (fun t=>KeptB b t/\DA (Dg t.es) 96=DA (Dg s.es) 96):=⟨a.vol,a.tr,⟨s,vk,vf,vn,vw,ve,ps,ep,k,⟨i,rfl⟩,g,p⟩,a.bel,a.lo⟩;exact B.below j
 have d:=(Da o).1;clear h q m;go_enter Tryz.func33,Tryz.ntmps33;go_upto_region 4 with(first|(go_at_call 53;refine E.mono ?_;rintro e w' ⟨rfl,rfl⟩)|(go_at_call 84;refine((Da o).2 _ (by first|exact Below.refl _ _|exact(Below.refl _ _).drew)).mono ?_;rintro e w1 ⟨rfl,u,d1,d3⟩))
 go_region_held3 (fun W=>W.cell? ⟨vb,1,none⟩=some (.pointer (some ⟨tb,0,none⟩))/\W.cell? ⟨vb,3,none⟩=some (.pointer (some ⟨stb,0,none⟩))) (go_keep) (first|(go_at_call 85;refine(Da x _ (by first|exact u|exact u.drew)).mono ?_;rintro e w2 ⟨rfl,k1,k3,M,F,hF,y⟩))
 go_wp2_with (go_at_call 84;refine(Da y).mono ?_;rintro e w3 ⟨rfl,r,v⟩;have A:=Db v;clear v);go_ret;exact⟨M,F,congrArg (fun z=>Ending.returned (.int .i64 z)) (show(64*max 0 ((F:Int)-(f:Int)):Int)=((64*(F-f):Nat):Int) by omega),r,Da A⟩
end
theorem Zi0(E:Env)(C:NB):∀(last:By) (st:Pl) (L:List It),(∀x∈L,x.k=2)->(Du E C last st L).2.puts.length=st.puts.length+(L.map (fun x=>nBl (C x.f))).sum
 | last,st,[],_=>rfl
 | last,st,x::L,h=>by
  show(Du E C (jn x.ns) (Dy E C last st x).2 L).2.puts.length=_;have hk:=h x (List.mem_cons_self ..);have e:(Dy E C last st x).2=E.puts (Dd 4 x.f) (dtB (C x.f)) st 0 (List.range (nBl (C x.f))):=by
   unfold Dy;rw[if_neg (by omega),if_neg (by omega)]
  rw[Zi0 E C _ _ L (fun y a=>h y (List.mem_cons_of_mem _ a)),e,puts_len,List.length_range,List.map_cons,List.sum_cons];omega
theorem Zlt(E:Env):∀(d below:Nat) (st:Pl) (s:By),st.puts.length<=(DC E d below st s).2.puts.length
 | 0,_,st,s=>Nat.le_refl _
 | d+1,below,st,s=>by
  unfold DC
  split
  ·have h1:=ZdG E 2 60 below st s;have ih:=Zlt E d (below+1) (Dz E 2 60 below st s).2 (Dz E 2 60 below st s).1;omega
  ·exact Nat.le_refl _
theorem FlatL.cnt{C:NB}{L:List It}(h:FlatL C L)(s:KS)(cl:Bool):(L.map (fun x=>nBl (C x.f))).sum<=(Dq s cl C L).2.puts.length/\(Dq s cl C L).2.puts.length<=(L.map (fun x=>nBl (C x.f))).sum+238:=by
 have d:=h.ok;have aa:=h.le;obtain⟨E,l⟩:∃E,E=Di s.es cl s.tp s.D:=⟨_,rfl⟩;obtain⟨T,g⟩:∃T,T=Du E C ⟨#[]⟩ ⟨s.tp+1,[],[]⟩ L:=⟨_,rfl⟩;obtain⟨t,i⟩:∃t:By,t=T.1++⟨#[0]⟩:=⟨_,rfl⟩;obtain⟨R,f⟩:∃R,R=Dz E 3 63 0 T.2 t:=⟨_,rfl⟩;have k:Dq s cl C L=DC E 8 1 R.2 R.1:=by rw[f,i,g,l];rfl
 obtain⟨t1,_⟩:=KW E C ⟨#[]⟩ ⟨s.tp+1,[],[]⟩ L (fun z a=>⟨d.path z a,d.size z a,d.kind z a⟩);have j:=Zi0 E C ⟨#[]⟩ ⟨s.tp+1,[],[]⟩ L h.k2;rw[<-g]at t1 j;have m:(⟨s.tp+1,[],[]⟩:Pl).puts.length=0:=rfl;rw[m]at j;have e:=ZdG E 3 63 0 T.2 t;have c:=Qi E 3 63 0 T.2 t;rw[<-f]at e c;have a:t.size=T.1.size+1:=by rw[i];exact ByteArray.size_append
 rw[k];generalize hn:(t.size+63-1)/63=n at e c
 have h3:=Zfx E 8 1 R.2 R.1 n c (by omega);have h4:=Zlt E 8 1 R.2 R.1;omega
theorem SetT.sumL{b:Nat->Option By}{G:Gh}{I:LF}{a:IB}(h:SetT b G I a)(e:SrtI I){C:NB}{L:List It}(d:TreeOf C L G I a):(L.map (fun x=>nBl (C x.f))).sum=DX b 8:=by
 have g:DP (I.map (·.2.l))=((I.map (·.1)).map (fun f=>((a f).size+63)/64)).sum:=by
  unfold DP;rw[List.map_map,List.map_map]
  congr 1
  refine List.map_congr_left (fun x c=>?_);show(x.2.l+63)/64=((a x.1).size+63)/64;rw[(h.fl.back x c).2.1]
 rw[<-h.usage e,g,((h.pnum e).map _).sum_nat,List.map_map,d.g,List.map_map]
 congr 1
 refine List.map_congr_left (fun x c=>?_);show nBl (C x.f)=((a (x.f:Int)).size+63)/64;rw[d.c x c];rfl
theorem SetT.nodes{b:Nat->Option By}{G:Gh}{I:LF}{a:IB}(h:SetT b G I a)(e:SrtI I):cD G []+I.length=1+Jb b 8:=by
 have c:G.countP (fun x=>x.2.p.isSome)=0:=List.countP_eq_zero.2 (fun x g=>by
  obtain⟨n,f,rfl,_⟩:=h.fl.fil x g;simp)
 have d:=(h.pnum e).length_eq;rw[List.length_map,List.length_map]at d;have:=h.glen;rw[Zow h.fl.gok,c];omega
section
variable{w:World}{vb:Nat}{b:Nat->Option By}{s:KS}
theorem VlX.cnt(h:VlX w vb b s):DX b 8<=s.es.length/\s.es.length<=DX b 8+238:=by
 obtain⟨tb,db,aa,G,I,CI,C,L,va,vf,vn,h1,⟨rd,V,E,vi,f⟩,a,c,d,e,h7⟩:=h;rw[<-a.sumL f.si c,e.es.2.1];exact d.cnt s false
theorem VlX.asks(h:VlX w vb b s)(m:InvS s):∃tb f:Nat,∀X,Below w.heap.size w X->X.cell? ⟨vb,1,none⟩=some (.pointer (some ⟨tb,0,none⟩))/\X.cell? ⟨vb,3,none⟩=some (.pointer (some ⟨f,0,none⟩))/\
  Calls Tryz.prog 81 #[.pointer (some ⟨tb,0,none⟩)] X (fun e w'=>e = .returned (.int .i64 ((1+Jb b 8:Nat):Int))/\Below w.heap.size w w')/\
  Calls Tryz.prog 82 #[.pointer (some ⟨tb,0,none⟩)] X (fun e w'=>e = .returned (.int .i64 (DX b 8:Nat))/\Below w.heap.size w w')/\
  Calls Tryz.prog 83 #[.pointer (some ⟨f,0,none⟩)] X (fun e w'=>e = .returned (.int .i64 ((2+s.es.length:Nat):Int))/\Below w.heap.size w w')/\
  Calls Tryz.prog 84 #[.pointer (some ⟨f,0,none⟩)] X (fun e w'=>e = .returned (.int .i64 (DA (Dg s.es) 96:Nat))/\Below w.heap.size w w'):=by
 have h0:=h;obtain⟨tb,db,f,G,I,o,C,L,va,vf,vn,k,⟨r,V,E,n,g⟩,a,h4,h5,h6,l⟩:=h;refine⟨tb,f,fun X c=>?_⟩;have v:RowIs X vb 41 _:=(c.block _ (RowIs.lt k)).trans k;have j:=g.below c (Nat.le_refl _);have aa:=a.fl.le;have ab:=a.fl.ilen g.si;have i:∀{w'},Below X.heap.size X w'->Below w.heap.size w w':=fun d=>c.trans (d.mono c.size)
 refine⟨(v.cell 1).trans rfl,(v.cell 3).trans rfl,?_,?_,?_,?_⟩
 ·refine(Zgc X tb r V E n G I o j a.fl.gok (by omega) (by omega)).mono ?_;rintro e w' ⟨rfl,d⟩;exact⟨by rw[a.nodes g.si],i d⟩
 ·refine(ZcU X tb _ n I j.t j.i (by omega) (fun x p=>by have:=(a.fl.csz p).2.1;omega)).mono ?_;rintro e w' ⟨rfl,d⟩;exact⟨by rw[a.usage g.si],i d⟩
 ·exact((l.below c).live m.ok.len).mono fun e w' q=>⟨q.1,i q.2⟩
 ·exact((l.below c).free m.ok).mono fun e w' q=>⟨q.1,i q.2⟩
end
def repV(b:Nat->Option By)(s:KS):Value := .agg #[.int .i64 ((1+Jb b 8:Nat):Int),.int .i64 (DX b 8:Nat),.int .i64 ((2+s.es.length:Nat):Int),.int .i64 (DA (Dg s.es) 96:Nat)]
theorem Znx{s:KS}(G:InvS s)(R:InvC s)(ac:s.tn+1<18446744073709551616){b:Nat->Option By}(S:KeptB b s)(w:World)(a:OA)(l c:Nat)(h:Sl w 5 1 (.slice a l c) (Jl s.D).size (Dc (Jl s.D)))(Q:∀x∈s.D,x.size=64)(ab:PkgOk w):
  Calls Tryz.prog 32 #[.slice a l c] w fun e w'=>e = .returned (.tuple #[repV b s,.int .i64 0])/\Below w.heap.size w w'/\DX b 8<=s.es.length/\s.es.length<=DX b 8+238:=by
 unfold repV;obtain⟨W,P,q,kW,sW,j⟩:=De w [.int .i64 0,.int .i64 0,.int .i64 0,.int .i64 0] 75;have O:Hid (Calls Tryz.prog 27 #[.slice a l c] W fun e X=>∃d,e = .returned (.tuple #[.pointer (some ⟨d,0,none⟩),.int .i64 0])/\∃tb i:Nat,RowIs X w.heap.size 75 [.int .i64 0,.int .i64 0,.int .i64 0,.int .i64 0]/\X.cell? ⟨d,1,none⟩=some (.pointer (some ⟨tb,0,none⟩))/\X.cell? ⟨d,3,none⟩=some (.pointer (some ⟨i,0,none⟩))/\d≠w.heap.size/\Hid (∀Y,Below X.heap.size X Y->Y.cell? ⟨d,1,none⟩=some (.pointer (some ⟨tb,0,none⟩))/\Y.cell? ⟨d,3,none⟩=some (.pointer (some ⟨i,0,none⟩))/\
  Calls Tryz.prog 81 #[.pointer (some ⟨tb,0,none⟩)] Y (fun e w'=>e = .returned (.int .i64 ((1+Jb b 8:Nat):Int))/\Below X.heap.size X w')/\
  Calls Tryz.prog 82 #[.pointer (some ⟨tb,0,none⟩)] Y (fun e w'=>e = .returned (.int .i64 (DX b 8:Nat))/\Below X.heap.size X w')/\
  Calls Tryz.prog 83 #[.pointer (some ⟨i,0,none⟩)] Y (fun e w'=>e = .returned (.int .i64 ((2+s.es.length:Nat):Int))/\Below X.heap.size X w')/\
  Calls Tryz.prog 84 #[.pointer (some ⟨i,0,none⟩)] Y (fun e w'=>e = .returned (.int .i64 (DA (Dg s.es) 96:Nat))/\Below X.heap.size X w'))/\Hid (Below W.heap.size W X/\DX b 8<=s.es.length/\s.es.length<=DX b 8+238)):=by
  refine(openX G R ac S W a l c (h.kept (fun k J _=>j.block k J)) Q (ab.fr (Fr.of_below j) (X:=fun _=>False) (fun e=>e))).mono ?_;rintro e X ⟨d,rfl,H,I⟩;obtain⟨tb,i,hq⟩:=H.asks G;have p:=hq X (Below.refl _ _);refine⟨d,rfl,tb,i,(I.block _ q.lt).trans q,p.1,p.2.1,fun e=>?_,hq,I,H.cnt⟩;have r1:RowIs X w.heap.size 75 _:=(I.block _ q.lt).trans q;rw[<-e]at r1;obtain⟨_,_,_,_,_,_,_,_,_,_,_,r2,_⟩:=H;have:=RowIs.type r1 r2
  revert this;decide
 obtain⟨K,D⟩:∃n,n=1+Jb b 8:=⟨_,rfl⟩;obtain⟨n2,h2⟩:∃n,n=DX b 8:=⟨_,rfl⟩;obtain⟨L,E⟩:∃n,n=2+s.es.length:=⟨_,rfl⟩;obtain⟨M,F⟩:∃n,n=DA (Dg s.es) 96:=⟨_,rfl⟩;rw[<-D,<-E,<-F];rw[<-D,<-E,<-F]at O;have HE:=Db P;clear h Q ab G R ac S D E F q kW sW P;go_enter Tryz.func32,Tryz.ntmps32;go_upto_region 1 with fail;rw[show w.alloc _=W from Da HE];go_upto_region 4 with(go_at_call 27;refine(Da O).mono ?_;rintro e X ⟨d,rfl,tb,i,p,c1,c3,aa,f,B⟩);have t:Below X.heap.size X X:=Below.refl _ _;have z:¬d=w.heap.size:=aa;have A:¬w.heap.size=d:=fun e=>aa e.symm
 go_region_held3 (fun Y=>Y.cell? ⟨d,1,none⟩=some (.pointer (some ⟨tb,0,none⟩))/\Y.cell? ⟨d,3,none⟩=some (.pointer (some ⟨i,0,none⟩))) (first|go_keep|(refine⟨?_,?_⟩<;>(rw[World.cell?_setCell_other _ _ _ _ (by simp[z,A]),World.cell?_setCell_other _ _ _ _ (by simp[z,A]),World.cell?_setCell_other _ _ _ _ (by simp[z,A]),World.cell?_setCell_other _ _ _ _ (by simp[z,A])]<;>assumption))) (first|(go_at_call 81;refine((Da f) _ (by first|assumption|exact t.drew)).2.2.1.mono ?_;rintro e Y1 ⟨rfl,T⟩;have r:=((Da f) _ T).1;have d3:=((Da f) _ T).2.1)|(go_at_call 82;refine((Da f) _ (by first|assumption|exact t.drew)).2.2.2.1.mono ?_;rintro e Y2 ⟨rfl,U⟩;have r:=((Da f) _ U).1;have d3:=((Da f) _ U).2.1)|(go_at_call 83;refine((Da f) _ (by first|assumption|exact t.drew)).2.2.2.2.1.mono ?_;rintro e Y3 ⟨rfl,V⟩;have r:=((Da f) _ V).1;have d3:=((Da f) _ V).2.1)|(go_at_call 84;refine((Da f) _ (by first|assumption|exact t.drew)).2.2.2.2.2.mono ?_;rintro e C ⟨rfl,u⟩;have g:RowIs C w.heap.size 75 _:=(u.block _ p.lt).trans p;have b0:=g.cell 0;have b1:=g.cell 1;have b2:=g.cell 2;have b3:=g.cell 3;have g0:=g.frozen 0;have g1:=g.frozen 1;have g2:=g.frozen 2;have g3:=g.frozen 3;have r:=((Da f) _ u).1;have d3:=((Da f) _ u).2.1))
 have N:Hid (Below w.heap.size w C):=j.trans (((Da B).1.mono j.size).trans (u.mono (Nat.le_trans j.size (Da B).1.size)));obtain⟨Z,y⟩:∃Z,Z=(((C.setCell ⟨w.heap.size,0,none⟩ (.int .i64 K)).setCell ⟨w.heap.size,1,none⟩ (.int .i64 (DX b 8:Nat))).setCell ⟨w.heap.size,2,none⟩ (.int .i64 L)).setCell ⟨w.heap.size,3,none⟩ (.int .i64 M):=⟨_,rfl⟩;rw[<-y];have o:RowIs Z w.heap.size 75 [.int .i64 K,.int .i64 (DX b 8:Nat),.int .i64 L,.int .i64 M]:=by rw[y];exact(((g.set 0 _).set 1 _).set 2 _).set 3 _
 have z0:=o.cell 0;have z1:=o.cell 1;have z2:=o.cell 2;have z3:=o.cell 3;have HZ:Hid (Below w.heap.size w Z):=by
  have m:Fr (fun k=>k=w.heap.size) w Z:=by
   rw[y];exact Fr.set (Fr.set (Fr.set (Fr.set (Fr.of_below (X:=fun k=>k=w.heap.size) (Da N)) ⟨w.heap.size,0,none⟩ _ rfl) ⟨w.heap.size,1,none⟩ _ rfl) ⟨w.heap.size,2,none⟩ _ rfl) ⟨w.heap.size,3,none⟩ _ rfl
  exact⟨m.os,m.tape,m.output,m.size,fun k J=>m.block k J (by omega)⟩
 clear y g o b0 b1 b2 b3 g0 g1 g2 g3 r d3 N;go_wp2;exact bodyPost_ret (v := .tuple #[.agg #[.int .i64 K,.int .i64 (DX b 8:Nat),.int .i64 L,.int .i64 M],.int .i64 0]) (by simp[results,Tryz.results32,go_sem,z0,z1,z2,z3]) rfl ⟨rfl,Da HZ,(Da B).2⟩
end Go.Proofs.YtaieidcohdhgpaaGreatDoor
