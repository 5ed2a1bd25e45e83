/- Failed. -/
import Derived.Test.YtaieidcohdhgpaaGreatDoorSBO
namespace Go.Proofs.YtaieidcohdhgpaaGreatDoor
set_option maxHeartbeats 40000000
set_option maxRecDepth 100000
open Go.RowKit
theorem ZiK(w:World)(a:OA)(l c:Nat)(s:By)(h:RdB w a l c s)(n:Nat):
  ∀W:World,W.ownsRow 0 5 1 (.slice (some ⟨w.heap.size,0,none⟩) n n) n (madeCells (Value.int .u8 0).cells (n*1)).toList->w.grownBy W none->∃f k,(Builtin.copy_ #[59,59] 3 #[.slice (some ⟨w.heap.size,0,none⟩) n n,.slice a l c]).run Tryz.prog W = .ok (goInt k) f/\Hid (Sl f 5 1 (.slice (some ⟨w.heap.size,0,none⟩) n n) n (Dc (Di s n))/\Below w.heap.size w f):=by
 intro W F I;have m:=Sl.of_owns F;have i:=KJ I;have z:(madeCells (Value.int .u8 0).cells (n*1)).toList=List.replicate n (.int .u8 0):=by rw[Nat.mul_one];exact toList_madeCells_one (.int .u8 0) n
 rw[z]at m;have K:=h.below i
 cases a with
 | none=>
  have r:s.size=0:=by
   rcases Nat.eq_zero_or_pos s.size with e|e
   ·exact e
   ·obtain⟨x,N,_⟩:=h.2.2 0 ((Dc s)[0]'(by rw[Dg];exact e)) (List.getElem?_eq_getElem _)
    cases N
  have J:l=0:=by rw[h.1,r]
  have G:=h.2.1 rfl;subst J G;refine⟨W,0,Zg3 W _ _ _,?_,i⟩;have:Dc (Di s n)=List.replicate n (.int .u8 0):=by
   have M:s=⟨#[]⟩:=by
    apply WideShapes.bytes_inj;have:s.data.toList.length=0:=by rw[<-r];exact Array.length_toList
    rw[List.eq_nil_of_length_eq_zero this]
   unfold Di;by_cases t:n<=s.size
   ·rw[if_pos t];have:n=0:=by omega
    subst this;rw[Jn];simp
   ·rw[if_neg t,Ju,Kr,r,M];simp[Dc]
  rw[this];exact m
 | some x=>
  rcases m.2 with⟨e,_⟩|⟨g,aa,L,e,E,h1,A,B,C⟩
  ·cases e
  ·cases e
   have D:L=List.replicate n (.int .u8 0):=by
    rw[<-C,List.take_of_length_le (by omega)]
   have o:((Dc s).take (Nat.min l n)).length=Nat.min l n*1:=by
    rw[List.length_take,Dg,h.1,Nat.mul_one];exact Nat.min_eq_left (Nat.min_le_left _ _)
   obtain⟨f,Q,u,R⟩:=JK (P:=Tryz.prog) W 59 59 3 5 1 w.heap.size 0 n n x l c L 5 ((Dc s).take (Nat.min l n)) Tryz.underlying59 QS E o
    (fun j v d=>by
     rw[List.getElem?_take]at d
     split at d
     ·obtain⟨y,e,O⟩:=K.2.2 j v d;cases e;exact O
     ·cases d) (by rw[o,B];have:Nat.min l n<=n:=Nat.min_le_right _ _;omega) (fun v d=>Kc s v (List.mem_of_mem_take d))
   refine⟨f,_,Q,?_,?_⟩
   ·have H:spl L 0 ((Dc s).take (Nat.min l n))=Dc (Di s n):=by
     unfold spl;rw[o,D,List.take_zero,List.nil_append,Nat.zero_add,Nat.mul_one,List.drop_replicate];unfold Di;by_cases q:n<=s.size
     ·have p:Nat.min l n=n:=by rw[h.1];exact Nat.min_eq_right q
      rw[if_pos q,Jn,p];simp
     ·have p:Nat.min l n=s.size:=by rw[h.1];exact Nat.min_eq_left (by omega)
      rw[if_neg q,Ju,Kr,p,List.take_of_length_le (by rw[Dg];exact Nat.le_refl _)]
    rw[H]at u;refine⟨by rw[Dg,Jc];omega,.inr ⟨w.heap.size,n,_,rfl,u,Nat.le_refl _,A,by rw[Dg,Jc];omega,by rw[List.take_of_length_le (by rw[Dg,Jc];omega)]⟩⟩
   ·exact i.grown R i.size (fun k e=>by cases e;exact Nat.le_refl _)
theorem ZeF(w:World)(a:OA)(l c:Nat)(s:By)(h:RdB w a l c s)(n:Nat)(W:World)(m:W.ownsRow 0 5 1 (.slice (some ⟨w.heap.size,0,none⟩) n n) n (madeCells (Value.int .u8 0).cells (n*1)).toList)(o:w.grownBy W none):
  ∃d k,(Builtin.copy_ #[59,59] 3 #[.slice (some ⟨w.heap.size,0,none⟩) n n,.slice a l c]).run Tryz.prog W = .ok (goInt k) d/\RowIs d w.heap.size 5 (Dc (Di s n))/\Below w.heap.size w d:=by
 obtain⟨d,k,p,i⟩:=ZiK w a l c s h n W m o;refine⟨d,k,p,?_,(Da i).2⟩;rcases (Da i).1.2 with⟨e,_⟩|⟨g,aa,L,e,j,h1,h2,h3,f⟩
 ·cases e
 ·simp only[Value.slice.injEq,Option.some.injEq,Addr.mk.injEq]at e;obtain⟨⟨rfl,-,-⟩,-,rfl⟩:=e;rw[List.take_of_length_le (by omega)]at f;rw[<-f];exact j
theorem Zgi(s:By):Di s s.size=s:=by
 unfold Di;rw[if_pos (Nat.le_refl _)];apply WideShapes.bytes_inj;rw[Lib.extract_data,List.drop_zero,Nat.sub_zero];exact List.take_of_length_le (Nat.le_of_eq Array.length_toList)
theorem ZmO(s d:By)(p m:Nat)(hm:m=max s.size (p+d.size)):spl (Dc (Di s m)) p (Dc d)=Dc (wrR s p d):=by
 unfold spl wrR;rw[Ju,Ju,Dg];by_cases h:p+d.size<=s.size
 ·rw[show m=s.size by omega,Zgi];have a:(Dc s).take p=Dc (Di s p):=by
   unfold Di;rw[if_pos (by omega),Jn,List.drop_zero,Nat.sub_zero]
  rw[a]
  congr 1
  split
  ·rw[Jn,List.take_of_length_le (by rw[List.length_drop,Dg];exact Nat.le_refl _)]
  ·rw[List.drop_of_length_le (by rw[Dg];omega)];rfl
 ·have aa:m=p+d.size:=by omega
  have e:Dc (Di s m)=Dc s++List.replicate (m-s.size) (.int .u8 0):=by
   unfold Di;rw[if_neg (by omega),Ju,Kr]
  rw[e,if_neg (by omega)];have a:(Dc s++List.replicate (m-s.size) (Value.int .u8 0)).take p=Dc (Di s p):=by
   unfold Di;by_cases c:p<=s.size
   ·rw[if_pos c,Jn,List.drop_zero,Nat.sub_zero,List.take_append_of_le_length (by rw[Dg];exact c)]
   ·rw[if_neg c,Ju,Kr,List.take_append,List.take_of_length_le (by rw[Dg];omega),Dg,List.take_replicate]
    congr 2
    omega
  rw[a,List.drop_of_length_le (by rw[List.length_append,Dg,List.length_replicate];omega)]
  rfl
def FileW(w:World)(o:Option By)(v:Value):Prop:=(o=none/\v = .slice none 0 0)\/∃s g,o=some s/\v = .slice (some ⟨g,0,none⟩) s.size s.size/\RowIs w g 5 (Dc s)
structure SetW(n0:Nat)(w:World)(sb:Nat)(b:Nat->Option By)(vs:NV):Prop where
 row:RowIs w sb 62 ((List.range 8).map vs)
 at':∀i,i<8->FileW w (b i) (vs i)
 lo:n0<=sb
theorem FileW.kp{w w':World}{o:Option By}{v:Value}(h:FileW w o v)(e:Kp62 w w'):FileW w' o v:=by
 rcases h with h|⟨s,g,a,c,d⟩
 ·exact .inl h
 ·exact .inr ⟨s,g,a,c,e g 5 _ d (.inr (.inl rfl))⟩
theorem FileW.rd{w:World}{o:Option By}{v:Value}(h:FileW w o v):∃a l c,v = .slice a l c/\RdB w a l c (o.getD ⟨#[]⟩):=by
 rcases h with⟨rfl,rfl⟩|⟨s,g,rfl,rfl,f⟩
 ·exact⟨none,0,0,rfl,rfl,fun _=>rfl,fun j v d=>by simp[Dc]at d⟩
 ·refine⟨_,_,_,rfl,rfl,(fun e=>by cases e),fun j v d=>⟨_,rfl,?_⟩⟩;rw[Addr.add_lit,Nat.zero_add,f.cell];exact d
section
variable{n0:Nat}{w w':World}{sb:Nat}{b:Nat->Option By}{vs:NV}
theorem SetW.kp(h:SetW n0 w sb b vs)(a:Kp62 w w'):SetW n0 w' sb b vs:=⟨a sb 62 _ h.row (.inl rfl),fun i c=>(h.at' i c).kp a,h.lo⟩
theorem SetW.cell(h:SetW n0 w sb b vs){i:Nat}(a:i<8):w.cell? ⟨sb,i,none⟩=some (vs i):=by
 rw[h.row.cell,List.getElem?_map,List.getElem?_range a];rfl
theorem SetW.set(h:SetW n0 w sb b vs){i:Nat}(m:i<8){o:Option By}{v:Value}(x:FileW w o v):SetW n0 (w.setCell ⟨sb,i,none⟩ v) sb (JO b i o) (fun j=>if j=i then v else vs j):=by
 have r:∀g L,RowIs w g 5 L->RowIs (w.setCell ⟨sb,i,none⟩ v) g 5 L:=fun g L l=>by
  have t:g≠sb:=fun e=>by
   subst e;have:=l.type h.row
   revert this;decide
  exact l.fr ((Fr.of_below (X:=fun k=>k=sb) (Below.refl _ _)).set ⟨sb,i,none⟩ v rfl) t
 have f:∀{o:Option By} {u:Value},FileW w o u->FileW (w.setCell ⟨sb,i,none⟩ v) o u:=fun d=>by
  rcases d with d|⟨s,g,n,p,q⟩
  ·exact .inl d
  ·exact .inr ⟨s,g,n,p,r g _ q⟩
 refine⟨?_,fun j a=>?_,h.lo⟩
 ·have:=h.row.set i v;have e:((List.range 8).map vs).set i v=(List.range 8).map (fun j=>if j=i then v else vs j):=by
   apply List.ext_getElem?;intro j;rw[List.getElem?_set,List.getElem?_map,List.getElem?_map,List.length_map,List.length_range];by_cases c:i=j
   ·subst c;rw[if_pos rfl,if_pos m,List.getElem?_range m];simp
   ·rw[if_neg c];by_cases a:j<8
    ·rw[List.getElem?_range a];simp[show ¬j=i from fun e=>c e.symm]
    ·rw[List.getElem?_eq_none (by rw[List.length_range];omega)]
     rfl
  rw[e]at this;exact this
 ·show FileW _ (if j=i then o else b j) (if j=i then v else vs j)
  split
  ·exact f x
  ·exact f (h.at' j a)
theorem LgI.setS{N:Nat}{j:World}{g tb c f:Nat}{K:KS->Prop}{a:Nat->Option By}(h:LgI N n0 j w g tb c f a K)(d:SetW n0 w sb b vs)(i:Nat)(v:Value):LgI N n0 j (w.setCell ⟨sb,i,none⟩ v) g tb c f a K:=by
 refine h.fr62 (X:=fun k=>k=sb) ?_ (fun k t R e l=>?_) (fun k e=>by rw[e];exact d.lo)
 ·exact(Fr.of_below (Below.refl _ _)).set ⟨sb,i,none⟩ v rfl
 ·subst e;exact l.type d.row
end
def Va(N n0:Nat)(w0 w:World)(vb tb db stb sb:Nat)(K:KS->Prop)(e:Ending)(w':World):Prop:=e = .returned (.bool true)/\∃b vs,LgI N n0 w0 w' vb tb db stb b K/\SetW n0 w' sb b vs/\KpE sb w w'
section
variable{N n0:Nat}{w0 w:World}{vb tb db stb sb:Nat}{b:Nat->Option By}{vs:NV}{K:KS->Prop}
theorem In64.tdiv{c:Int}(h:In64 c)(m:Nat):In64 (c.tdiv m):=by
 obtain⟨h1,h2⟩:=h;unfold In64;rcases Int.le_total 0 c with d|d
 ·rw[Int.tdiv_eq_ediv_of_nonneg d];have f:=Int.ediv_nonneg d (Int.natCast_nonneg m);have g:=Int.ediv_le_self (b:=(m:Int)) d;omega
 ·have e:c.tdiv m = -((-c)/(m:Int)):=by
   rw[<-Int.tdiv_eq_ediv_of_nonneg (by omega),Int.neg_tdiv,Int.neg_neg]
  rw[e];have f:=Int.ediv_nonneg (a := -c) (by omega) (Int.natCast_nonneg m);have g:=Int.ediv_le_self (a := -c) (b:=(m:Int)) (by omega);omega
theorem LgI.sizes(h:LgI N n0 w0 w vb tb db stb b K){i:Nat}(e:i<8):Hid (((b i).getD ⟨#[]⟩).size<=1280):=by
 show((b i).getD ⟨#[]⟩).size<=1280;obtain⟨G,I,CI,_,a⟩:=h.tr
 cases hb:b i with
 | none=>show 0<=1280;omega
 | some s=>
  obtain⟨f,c,d⟩:=a.yes i e s hb;have:=a.fl.sz _ c;show s.size<=1280;rw[<-d];exact this
theorem Kz(h:LgI N n0 w0 w vb tb db stb b K)(hs:SetW n0 w sb b vs){i:Nat}(r:i<8)(c:Int)(hc:In64 c)(n p q m:Nat)(an:n<=1280)(hq:p+q=n)(a:OA)(l t:Nat)(u:vs i = .slice a l t)(H:m=if 0<q then max l n else l)(U:q=0->p=0)(pv:Int)(ai:pv=(p:Int))(J:Nat)(af:J=m-p):
  Calls Tryz.prog 73 #[.int .i64 c,.int .i64 (q:Nat)] w fun e X=>∃D:Nat,e = .returned (.slice (some ⟨D,0,none⟩) q q)/\Hid (Calls Tryz.prog 72 #[.int .i64 i] X fun e x=>e = .returned (.string (pth i))/\Hid (Calls Tryz.prog 59 #[.pointer (some ⟨vb,0,none⟩),.string (pth i),.int .i64 pv,.slice (some ⟨D,0,none⟩) q q] x fun e Y=>e = .returned (.int .i64 0)/\Y.cell? ⟨sb,i,none⟩=some (.slice a l t)/\
   Hid (∀W:World,W.ownsRow 0 5 1 (.slice (some ⟨Y.heap.size,0,none⟩) m m) m (madeCells (Value.int .u8 0).cells (m*1)).toList->Y.grownBy W none->W.cell? ⟨sb,i,none⟩=some (.slice a l t)/\∃f kk,(Builtin.copy_ #[59,59] 3 #[.slice (some ⟨Y.heap.size,0,none⟩) m m,.slice a l t]).run Tryz.prog W = .ok (goInt kk) f/\
   ∃g k2,(Builtin.copy_ #[59,59] 3 #[.slice (some ⟨Y.heap.size,p,none⟩) J J,.slice (some ⟨D,0,none⟩) q q]).run Tryz.prog f = .ok (goInt k2) g/\g.cell? ⟨sb,i,none⟩=some (.slice a l t)/\g.frozen? ⟨sb,i,none⟩=false/\
   Hid (Va N n0 w0 w vb tb db stb sb K (.returned (.bool true)) (g.setCell ⟨sb,i,none⟩ (.slice (some ⟨Y.heap.size,0,none⟩) m m)))))):=by
 subst ai af;refine(ZiS w c q hc (by omega)).mono ?_;rintro e X ⟨d,Q,rfl,M,E⟩;refine⟨w.heap.size,rfl,?_⟩;refine(ZdJ X i r).mono ?_;rintro e x ⟨rfl,z⟩;refine⟨rfl,?_⟩;have O:RowIs x w.heap.size 5 (Dc d):=(z.block _ M.lt).trans M;have h2:=(h.below E).below z;have ak:=(hs.kp (Kp62.below E)).kp (Kp62.below z);have am:Sl x 5 1 (.slice (some ⟨w.heap.size,0,none⟩) d.size d.size) d.size (Dc d):=⟨by rw[Dg,Nat.mul_one],.inr ⟨w.heap.size,d.size,_,rfl,O,Nat.le_refl _,by unfold maxLen;omega,by rw[Dg,Nat.mul_one],by rw[List.take_of_length_le (by rw[Dg];omega)]⟩⟩;have Z:=writeL h2 r p d (by omega) (some ⟨w.heap.size,0,none⟩) d.size am;rw[Q]at Z;refine Z.mono ?_;rintro e Y ⟨rfl,hY,G⟩;have B:=ak.kp G.k6;have P:RowIs Y w.heap.size 5 (Dc d):=G.k6 _ _ _ O (.inr (.inl rfl));refine⟨rfl,by rw[<-u];exact B.cell r,fun W ag S=>?_⟩;have ab:=KJ S;have al:=B.kp (Kp62.below ab);refine⟨by rw[<-u];exact al.cell r,?_⟩;obtain⟨a',l',c',C,I⟩:=(B.at' i r).rd;rw[u]at C;simp only[Value.slice.injEq]at C;obtain⟨rfl,rfl,rfl⟩:=C;have ad:=I.1;obtain⟨s,V⟩:∃s,s=(b i).getD ⟨#[]⟩:=⟨_,rfl⟩;rw[<-V]at I ad;obtain⟨f,kk,r1,r2,L⟩:=ZeF Y a l t s I m W ag S;refine⟨f,kk,r1,?_⟩;have aa:RowIs f w.heap.size 5 (Dc d):=(L.block _ P.lt).trans P;have aj:RdB f (some ⟨w.heap.size,0,none⟩) q q d:=⟨Q.symm,(fun e=>by cases e),fun j v u=>⟨_,rfl,by rw[Addr.add_lit,Nat.zero_add,aa.cell];exact u⟩⟩;have ae:p+q<=m\/q=0:=by
  by_cases y:0<q
  ·rw[if_pos y]at H;left;omega
  ·right;omega
 have ao:p<=m:=by
  rcases ae with e|e
  ·omega
  ·have:=U e;omega
 obtain⟨g,q1,q2,q3⟩:=UZ f Y.heap.size 5 _ r2 p (m-p) (m-p) (some ⟨w.heap.size,0,none⟩) q q d aj (by omega) (by rw[Dg,Jc];omega);have R:spl (Dc (Di s m)) p (Dc d)=Dc (ovB (b i) p d)/\(ovB (b i) p d).size=m:=by
  unfold ovB ovR;rw[<-V,Int.toNat_natCast];by_cases y:0<q
  ·rw[if_neg (by omega)];rw[if_pos y]at H;refine⟨ZmO s d p m (by omega),?_⟩;rw[Q4];omega
  ·rw[if_pos (by omega)];rw[if_neg y]at H;have ah:=U (by omega);subst ah;have T:m=s.size:=by omega
   refine⟨?_,T.symm⟩;have ac:Dc d=[]:=List.eq_nil_of_length_eq_zero (by rw[Dg];omega);rw[ac,T,Zgi];unfold spl;simp
 rw[R.1]at q2;have F:Below Y.heap.size Y g:=L.grown q3 L.size (fun k e=>by cases e;exact Nat.le_refl _);have A:=B.kp (Kp62.below F);refine⟨g,d.size,q1,by rw[<-u];exact A.cell r,A.row.frozen i,rfl,_,_,(hY.below F).setS A i _,A.set r (o:=some (ovB (b i) p d)) (.inr ⟨_,Y.heap.size,rfl,by rw[R.2],q2⟩),KpV.set ((((KpV.below E).trans (KpV.below z)).trans G).trans (KpV.below F)) _ _ _⟩
theorem Zmy(h:LgI N n0 w0 w vb tb db stb b K)(D:SetW n0 w sb b vs){i:Nat}(c:i<8)(n:Nat)(A:n<=1280){s:By}{g:Nat}(u:b i=some s)(f:vs i = .slice (some ⟨g,0,none⟩) s.size s.size)(x:RowIs w g 5 (Dc s)):
  Calls Tryz.prog 72 #[.int .i64 i] w fun e X=>e = .returned (.string (pth i))/\Hid (Calls Tryz.prog 60 #[.pointer (some ⟨vb,0,none⟩),.string (pth i),.int .i64 (n:Nat)] X fun e Y=>e = .returned (.int .i64 0)/\
   Hid (∀W:World,W.ownsRow 0 5 1 (.slice (some ⟨Y.heap.size,0,none⟩) n n) n (madeCells (Value.int .u8 0).cells (n*1)).toList->Y.grownBy W none->W.cell? ⟨sb,i,none⟩=some (.slice (some ⟨g,0,none⟩) s.size s.size)/\∃a kk,(Builtin.copy_ #[59,59] 3 #[.slice (some ⟨Y.heap.size,0,none⟩) n n,.slice (some ⟨g,0,none⟩) s.size s.size]).run Tryz.prog W = .ok (goInt kk) a/\a.cell? ⟨sb,i,none⟩=some (.slice (some ⟨g,0,none⟩) s.size s.size)/\a.frozen? ⟨sb,i,none⟩=false/\
   Hid (Va N n0 w0 w vb tb db stb sb K (.returned (.bool true)) (a.setCell ⟨sb,i,none⟩ (.slice (some ⟨Y.heap.size,0,none⟩) n n))))):=by
 refine(ZdJ w i c).mono ?_;rintro e X ⟨rfl,m⟩;refine⟨rfl,?_⟩;refine(cutL (h.below m) c u n A).mono ?_;rintro e Y ⟨rfl,t,z⟩;have k:KpV w Y:=(KpV.below m).trans z;have q:=D.kp k.k6;have y:=k.k6 _ _ _ x (.inr (.inl rfl));refine⟨rfl,fun W B p=>?_⟩;have r:=KJ p;refine⟨by rw[<-f];exact(q.kp (Kp62.below r)).cell c,?_⟩;have C:RdB Y (some ⟨g,0,none⟩) s.size s.size s:=⟨rfl,(fun e=>by cases e),fun j v f=>⟨_,rfl,by rw[Addr.add_lit,Nat.zero_add,y.cell];exact f⟩⟩;obtain⟨a,kk,E,F,l⟩:=ZeF Y _ _ _ s C n W B p;have d:=q.kp (Kp62.below l);exact⟨a,kk,E,by rw[<-f];exact d.cell c,d.row.frozen i,rfl,_,_,(t.below l).setS d i _,d.set c (o:=some (Di s n)) (.inr ⟨_,Y.heap.size,rfl,by rw[Jc],F⟩),KpV.set (k.trans (KpV.below l)) _ _ _⟩
theorem Zhw(h:LgI N n0 w0 w vb tb db stb b K)(z:SetW n0 w sb b vs)(c:Int)(hc:In64 c):
  Calls Tryz.prog 25 #[.pointer (some ⟨sb,0,none⟩),.pointer (some ⟨vb,0,none⟩),.int .i64 c] w (Va N n0 w0 w vb tb db stb sb K):=by
 obtain⟨c8,h8⟩:∃x,x=c.tdiv 8:=⟨_,rfl⟩;obtain⟨aa,ag⟩:∃x,x=c.tdiv 32:=⟨_,rfl⟩;have ae:In64 c8:=by rw[h8];exact hc.tdiv 8
 have ad:In64 aa:=by rw[ag];exact hc.tdiv 32
 obtain⟨i,hi⟩:∃x,x=JW c 8:=⟨_,rfl⟩;obtain⟨k,hk⟩:∃x,x=JW c8 4:=⟨_,rfl⟩;obtain⟨n,hn⟩:∃x,x=JW aa 1281:=⟨_,rfl⟩;have A:i<8:=by rw[hi];exact QA _ (by omega)
 have az:k<4:=by rw[hk];exact QA _ (by omega)
 have Z:n<=1280:=by have:=QA aa (n:=1281) (by omega);omega
 have p1:=QL w c 8 hc (by omega) (by omega);have p2:=QL w c8 4 ae (by omega) (by omega);have p3:=QL w aa 1281 ad (by omega) (by omega);rw[<-hi]at p1;rw[<-hk]at p2;rw[<-hn]at p3;have w8:IntKind.i64.wrap (c.tdiv 8)=c8:=by rw[<-h8,IntKind.wrap_i64];have:=ae.1;have:=ae.2;omega
 have aA:IntKind.i64.wrap (c.tdiv 32)=aa:=by rw[<-ag,IntKind.wrap_i64];have:=ad.1;have:=ad.2;omega
 have P1:=Db p1;have P2:=Db p2;have P3:=Db p3;have I:=Db hc;clear p1 p2 p3 hi hk hn ae ad hc h8 ag;have ab:=z.cell A;go_enter Tryz.func25,Tryz.ntmps25;go_upto_region 2 with(go_at_call 24;refine(Da P1).mono ?_;rintro e w' ⟨rfl,rfl⟩);go_upto_region 3 with(go_at_call 24;refine(Da P2).mono ?_;rintro e w' ⟨rfl,rfl⟩);go_upto_region 4 with(go_at_call 24;refine(Da P3).mono ?_;rintro e w' ⟨rfl,rfl⟩);clear P1 P2 P3;have ay:=z.row.frozen i;obtain⟨H,C,E,F,G⟩:=info_parts Ku;by_cases an:k=0
 ·subst an;rcases z.at' i A with⟨hb,u⟩|⟨s,g,hb,u,hg⟩
  ·rw[u]at ab;by_cases W:n=0
   ·subst W;have f:=Db (Kz h z A c (Da I) 0 0 0 0 (by omega) rfl none 0 0 u (by rw[if_neg (by omega)]) (fun _=>rfl) 0 rfl 0 rfl);clear z h u;go_upto_region 18 with(go_at_call 73;refine(Da f).mono ?_;rintro e X ⟨D,rfl,d⟩);clear f;go_upto_region 19 with(first|(go_at_call 72;refine(Da d).mono ?_;rintro e R ⟨rfl,v⟩)|(go_at_call 59;refine(Da v).mono ?_;rintro e Y ⟨rfl,O,r⟩));clear d v;go_upto_region 22 with fail;go_upto_region 23 with(at_make;refine wpList_make_full _ rfl _ _ 59 rfl 0 5 H (.int .u8 0) 1 Tryz.underlying59 C E F _ _ _ _ 0 rfl rfl rfl rfl (by rw[G];omega) (by unfold maxLen;omega) (Nat.zero_le _) ?_;intro w1 m j;obtain⟨L,J,kk,t,Q,S,y,M,P,B⟩:=Da r w1 m j;clear m j);clear r;go_upto_region 24 with(at_builtin;refine D6 _ rfl _ _ 59 59 rfl _ _ rfl rfl t ?_);clear t;go_upto_region 25 with(at_builtin;refine D6 _ rfl _ _ 59 59 rfl _ _ rfl rfl y ?_);clear y;go_wp2;go_ret;exact Da B
   ·have aj:0<n:=by omega
    have f:=Db (Kz h z A c (Da I) n 0 n n Z (by omega) none 0 0 u (by rw[if_pos (by omega)];omega) (by omega) 0 rfl n rfl);have U:min (0:Int) (n:Int)=0:=by omega
    clear z h u;go_upto_region 18 with(go_at_call 73;refine(Da f).mono ?_;rintro e X ⟨D,rfl,d⟩);clear f;go_upto_region 19 with(first|(go_at_call 72;refine(Da d).mono ?_;rintro e R ⟨rfl,v⟩)|(go_at_call 59;refine(Da v).mono ?_;rintro e Y ⟨rfl,O,r⟩));clear d v;go_upto_region 22 with fail;go_upto_region 23 with(at_make;refine wpList_make_full _ rfl _ _ 59 rfl 0 5 H (.int .u8 0) 1 Tryz.underlying59 C E F _ _ _ _ n rfl rfl rfl rfl (by rw[G];omega) (by unfold maxLen;omega) (Nat.zero_le _) ?_;intro w1 m j;obtain⟨L,J,kk,t,Q,S,y,M,P,B⟩:=Da r w1 m j;clear m j);clear r;go_upto_region 24 with(at_builtin;refine D6 _ rfl _ _ 59 59 rfl _ _ rfl rfl t ?_);clear t;go_upto_region 25 with(at_builtin;refine D6 _ rfl _ _ 59 59 rfl _ _ rfl rfl y ?_);clear y;go_wp2;go_ret;exact Da B
  ·rw[u]at ab;have HP:Hid (Calls Tryz.prog 72 #[.int .i64 i] w' fun e X=>e = .returned (.string (pth i))/\Hid (Calls Tryz.prog 63 #[.pointer (some ⟨vb,0,none⟩),.string (pth i)] X fun e Y=>e = .returned (.int .i64 0)/\Y.cell? ⟨sb,i,none⟩=some (vs i)/\Y.frozen? ⟨sb,i,none⟩=false/\Hid (Va N n0 w0 w' vb tb db stb sb K (.returned (.bool true)) (Y.setCell ⟨sb,i,none⟩ (.slice none 0 0))))):=by
    refine(ZdJ w' i A).mono ?_;rintro e X ⟨rfl,hX⟩;refine⟨rfl,?_⟩;refine(Zn4 (h.below hX) A hb).mono ?_;rintro e Y ⟨rfl,hY,ak⟩;have af:=(z.kp (Kp62.below hX)).kp ak.k6;refine⟨rfl,af.cell A,af.row.frozen i,rfl,_,_,?_,af.set A (o:=none) (.inl ⟨rfl,rfl⟩),KpV.set ((KpV.below hX).trans ak) _ _ _⟩;exact hY.setS af i _
   clear z h hg;go_wp2_with (first|(go_at_call 72;refine(Da HP).mono ?_;rintro e X ⟨rfl,d⟩)|(go_at_call 63;refine(Da d).mono ?_;rintro e Y ⟨rfl,O,fY,f⟩));go_ret;exact Da f
 ·by_cases ao:k=1
  ·subst ao;rcases z.at' i A with⟨hb,u⟩|⟨s,g,hb,u,hg⟩
   ·rw[u]at ab;by_cases W:n=0
    ·subst W;have f:=Db (Kz h z A c (Da I) 0 0 0 0 (by omega) rfl none 0 0 u (by rw[if_neg (by omega)]) (fun _=>rfl) 0 rfl 0 rfl);clear z h u;go_upto_region 18 with(go_at_call 73;refine(Da f).mono ?_;rintro e X ⟨D,rfl,d⟩);clear f;go_upto_region 19 with(first|(go_at_call 72;refine(Da d).mono ?_;rintro e R ⟨rfl,v⟩)|(go_at_call 59;refine(Da v).mono ?_;rintro e Y ⟨rfl,O,r⟩));clear d v;go_upto_region 22 with fail;go_upto_region 23 with(at_make;refine wpList_make_full _ rfl _ _ 59 rfl 0 5 H (.int .u8 0) 1 Tryz.underlying59 C E F _ _ _ _ 0 rfl rfl rfl rfl (by rw[G];omega) (by unfold maxLen;omega) (Nat.zero_le _) ?_;intro w1 m j;obtain⟨L,J,kk,t,Q,S,y,M,P,B⟩:=Da r w1 m j;clear m j);clear r;go_upto_region 24 with(at_builtin;refine D6 _ rfl _ _ 59 59 rfl _ _ rfl rfl t ?_);clear t;go_upto_region 25 with(at_builtin;refine D6 _ rfl _ _ 59 59 rfl _ _ rfl rfl y ?_);clear y;go_wp2;go_ret;exact Da B
    ·have aj:0<n:=by omega
     have f:=Db (Kz h z A c (Da I) n 0 n n Z (by omega) none 0 0 u (by rw[if_pos (by omega)];omega) (by omega) 0 rfl n rfl);have U:min (0:Int) (n:Int)=0:=by omega
     clear z h u;go_upto_region 18 with(go_at_call 73;refine(Da f).mono ?_;rintro e X ⟨D,rfl,d⟩);clear f;go_upto_region 19 with(first|(go_at_call 72;refine(Da d).mono ?_;rintro e R ⟨rfl,v⟩)|(go_at_call 59;refine(Da v).mono ?_;rintro e Y ⟨rfl,O,r⟩));clear d v;go_upto_region 22 with fail;go_upto_region 23 with(at_make;refine wpList_make_full _ rfl _ _ 59 rfl 0 5 H (.int .u8 0) 1 Tryz.underlying59 C E F _ _ _ _ n rfl rfl rfl rfl (by rw[G];omega) (by unfold maxLen;omega) (Nat.zero_le _) ?_;intro w1 m j;obtain⟨L,J,kk,t,Q,S,y,M,P,B⟩:=Da r w1 m j;clear m j);clear r;go_upto_region 24 with(at_builtin;refine D6 _ rfl _ _ 59 59 rfl _ _ rfl rfl t ?_);clear t;go_upto_region 25 with(at_builtin;refine D6 _ rfl _ _ 59 59 rfl _ _ rfl rfl y ?_);clear y;go_wp2;go_ret;exact Da B
   ·rw[u]at ab;have HP:=Db (Zmy h z A n Z hb u hg);clear z h hg;go_wp2_with (first|(go_at_call 72;refine(Da HP).mono ?_;rintro e X ⟨rfl,d⟩)|(go_at_call 60;refine(Da d).mono ?_;rintro e Y ⟨rfl,r⟩)|(at_make;refine wpList_make_full _ rfl _ _ 59 rfl 0 5 H (.int .u8 0) 1 Tryz.underlying59 C E F _ _ _ _ n rfl rfl rfl rfl (by rw[G];omega) (by unfold maxLen;omega) (Nat.zero_le _) ?_;intro w1 m j;obtain⟨L,J,kk,t,M,P,f⟩:=Da r w1 m j;clear m j)|(at_builtin;refine D6 _ rfl _ _ 59 59 rfl _ _ rfl rfl t ?_));go_ret;exact Da f
  ·obtain⟨a,l,c0,u,al⟩:=(z.at' i A).rd;rw[u]at ab;have ac:Hid (l<=1280):=by
    rw[show l=_ from al.1];exact Da (h.sizes A)
   clear al;by_cases ap:k=2
   ·subst ap;by_cases W:n=0
    ·subst W;have f:=Db (Kz h z A c (Da I) 0 0 0 l (by omega) rfl a l c0 u (by rw[if_neg (by omega)]) (fun _=>rfl) 0 rfl l rfl);have ah:l<=1280:=Da ac;have U:min (0:Int) (l:Int)=0:=by omega
     clear z h u;go_upto_region 18 with(go_at_call 73;refine(Da f).mono ?_;rintro e X ⟨D,rfl,d⟩);clear f;go_upto_region 19 with(first|(go_at_call 72;refine(Da d).mono ?_;rintro e R ⟨rfl,v⟩)|(go_at_call 59;refine(Da v).mono ?_;rintro e Y ⟨rfl,O,r⟩));clear d v;go_upto_region 22 with fail;go_upto_region 23 with(at_make;refine wpList_make_full _ rfl _ _ 59 rfl 0 5 H (.int .u8 0) 1 Tryz.underlying59 C E F _ _ _ _ l rfl rfl rfl rfl (by rw[G];omega) (by unfold maxLen;omega) (Nat.zero_le _) ?_;intro w1 m j;obtain⟨L,J,kk,t,Q,S,y,M,P,B⟩:=Da r w1 m j;clear m j);clear r;go_upto_region 24 with(at_builtin;refine D6 _ rfl _ _ 59 59 rfl _ _ rfl rfl t ?_);clear t;go_upto_region 25 with(at_builtin;refine D6 _ rfl _ _ 59 59 rfl _ _ rfl rfl y ?_);clear y;go_wp2;go_ret;exact Da B
    ·obtain⟨p,hp⟩:∃p,p=n/2:=⟨_,rfl⟩;obtain⟨q,hq⟩:∃q,q=n-p:=⟨_,rfl⟩;have ed:(n:Int)/2=(p:Int):=by omega
     have ew:IntKind.i64.wrap ((n:Int)-(p:Int))=(q:Int):=by rw[IntKind.wrap_i64];omega
     have ax:(n:Int)-(p:Int)=(q:Int):=by omega
     have aj:0<q:=by omega
     have ah:l<=1280:=Da ac;by_cases ar:l<n
     ·obtain⟨T,V⟩:∃T,T=n-p:=⟨_,rfl⟩;have f:=Db (Kz h z A c (Da I) n p q n Z (by omega) a l c0 u (by rw[if_pos (by omega)];omega) (by omega) (p:Nat) rfl T V);have U:min (p:Int) (n:Int)=(p:Int):=by omega
      have au:n-p=T:=V.symm;have av:¬n=p:=by omega
      have aq:p<=n:=by omega
      have aw:p<=1280:=by omega
      have am:=Db (And.intro hp hq);clear hp hq V;have ai:(l:Int)<(n:Int):=by omega
      clear z h u;go_upto_region 18 with(go_at_call 73;refine(Da f).mono ?_;rintro e X ⟨D,rfl,d⟩);clear f;go_upto_region 19 with(first|(go_at_call 72;refine(Da d).mono ?_;rintro e R ⟨rfl,v⟩)|(go_at_call 59;refine(Da v).mono ?_;rintro e Y ⟨rfl,O,r⟩));clear d v;go_upto_region 22 with fail;go_upto_region 23 with(at_make;refine wpList_make_full _ rfl _ _ 59 rfl 0 5 H (.int .u8 0) 1 Tryz.underlying59 C E F _ _ _ _ n rfl rfl rfl rfl (by rw[G];omega) (by unfold maxLen;omega) (Nat.zero_le _) ?_;intro w1 m j;obtain⟨L,J,kk,t,Q,S,y,M,P,B⟩:=Da r w1 m j;clear m j);clear r;go_upto_region 24 with(at_builtin;refine D6 _ rfl _ _ 59 59 rfl _ _ rfl rfl t ?_);clear t;go_upto_region 25 with(at_builtin;refine D6 _ rfl _ _ 59 59 rfl _ _ rfl rfl y ?_);clear y;go_wp2;go_ret;exact Da B
     ·obtain⟨T,V⟩:∃T,T=l-p:=⟨_,rfl⟩;have f:=Db (Kz h z A c (Da I) n p q l Z (by omega) a l c0 u (by rw[if_pos (by omega)];omega) (by omega) (p:Nat) rfl T V);have U:min (p:Int) (l:Int)=(p:Int):=by omega
      have au:l-p=T:=V.symm;have av:¬l=p:=by omega
      have aq:p<=l:=by omega
      have aw:p<=1280:=by omega
      have am:=Db (And.intro hp hq);clear hp hq V;have ai:¬(l:Int)<(n:Int):=by omega
      clear z h u;go_upto_region 18 with(go_at_call 73;refine(Da f).mono ?_;rintro e X ⟨D,rfl,d⟩);clear f;go_upto_region 19 with(first|(go_at_call 72;refine(Da d).mono ?_;rintro e R ⟨rfl,v⟩)|(go_at_call 59;refine(Da v).mono ?_;rintro e Y ⟨rfl,O,r⟩));clear d v;go_upto_region 22 with fail;go_upto_region 23 with(at_make;refine wpList_make_full _ rfl _ _ 59 rfl 0 5 H (.int .u8 0) 1 Tryz.underlying59 C E F _ _ _ _ l rfl rfl rfl rfl (by rw[G];omega) (by unfold maxLen;omega) (Nat.zero_le _) ?_;intro w1 m j;obtain⟨L,J,kk,t,Q,S,y,M,P,B⟩:=Da r w1 m j;clear m j);clear r;go_upto_region 24 with(at_builtin;refine D6 _ rfl _ _ 59 59 rfl _ _ rfl rfl t ?_);clear t;go_upto_region 25 with(at_builtin;refine D6 _ rfl _ _ 59 59 rfl _ _ rfl rfl y ?_);clear y;go_wp2;go_ret;exact Da B
   ·have e3:k=3:=by omega
    subst e3;by_cases W:n=0
    ·subst W;have f:=Db (Kz h z A c (Da I) 0 0 0 l (by omega) rfl a l c0 u (by rw[if_neg (by omega)]) (fun _=>rfl) 0 rfl l rfl);have ah:l<=1280:=Da ac;have U:min (0:Int) (l:Int)=0:=by omega
     clear z h u;go_upto_region 18 with(go_at_call 73;refine(Da f).mono ?_;rintro e X ⟨D,rfl,d⟩);clear f;go_upto_region 19 with(first|(go_at_call 72;refine(Da d).mono ?_;rintro e R ⟨rfl,v⟩)|(go_at_call 59;refine(Da v).mono ?_;rintro e Y ⟨rfl,O,r⟩));clear d v;go_upto_region 22 with fail;go_upto_region 23 with(at_make;refine wpList_make_full _ rfl _ _ 59 rfl 0 5 H (.int .u8 0) 1 Tryz.underlying59 C E F _ _ _ _ l rfl rfl rfl rfl (by rw[G];omega) (by unfold maxLen;omega) (Nat.zero_le _) ?_;intro w1 m j;obtain⟨L,J,kk,t,Q,S,y,M,P,B⟩:=Da r w1 m j;clear m j);clear r;go_upto_region 24 with(at_builtin;refine D6 _ rfl _ _ 59 59 rfl _ _ rfl rfl t ?_);clear t;go_upto_region 25 with(at_builtin;refine D6 _ rfl _ _ 59 59 rfl _ _ rfl rfl y ?_);clear y;go_wp2;go_ret;exact Da B
    ·have aj:0<n:=by omega
     have ah:l<=1280:=Da ac;by_cases ar:l<n
     ·have f:=Db (Kz h z A c (Da I) n 0 n n Z (by omega) a l c0 u (by rw[if_pos (by omega)];omega) (by omega) 0 rfl n rfl);have U:min (0:Int) (n:Int)=0:=by omega
      have ai:(l:Int)<(n:Int):=by omega
      clear z h u;go_upto_region 18 with(go_at_call 73;refine(Da f).mono ?_;rintro e X ⟨D,rfl,d⟩);clear f;go_upto_region 19 with(first|(go_at_call 72;refine(Da d).mono ?_;rintro e R ⟨rfl,v⟩)|(go_at_call 59;refine(Da v).mono ?_;rintro e Y ⟨rfl,O,r⟩));clear d v;go_upto_region 22 with fail;go_upto_region 23 with(at_make;refine wpList_make_full _ rfl _ _ 59 rfl 0 5 H (.int .u8 0) 1 Tryz.underlying59 C E F _ _ _ _ n rfl rfl rfl rfl (by rw[G];omega) (by unfold maxLen;omega) (Nat.zero_le _) ?_;intro w1 m j;obtain⟨L,J,kk,t,Q,S,y,M,P,B⟩:=Da r w1 m j;clear m j);clear r;go_upto_region 24 with(at_builtin;refine D6 _ rfl _ _ 59 59 rfl _ _ rfl rfl t ?_);clear t;go_upto_region 25 with(at_builtin;refine D6 _ rfl _ _ 59 59 rfl _ _ rfl rfl y ?_);clear y;go_wp2;go_ret;exact Da B
     ·have f:=Db (Kz h z A c (Da I) n 0 n l Z (by omega) a l c0 u (by rw[if_pos (by omega)];omega) (by omega) 0 rfl l rfl);have U:min (0:Int) (l:Int)=0:=by omega
      have ai:¬(l:Int)<(n:Int):=by omega
      clear z h u;go_upto_region 18 with(go_at_call 73;refine(Da f).mono ?_;rintro e X ⟨D,rfl,d⟩);clear f;go_upto_region 19 with(first|(go_at_call 72;refine(Da d).mono ?_;rintro e R ⟨rfl,v⟩)|(go_at_call 59;refine(Da v).mono ?_;rintro e Y ⟨rfl,O,r⟩));clear d v;go_upto_region 22 with fail;go_upto_region 23 with(at_make;refine wpList_make_full _ rfl _ _ 59 rfl 0 5 H (.int .u8 0) 1 Tryz.underlying59 C E F _ _ _ _ l rfl rfl rfl rfl (by rw[G];omega) (by unfold maxLen;omega) (Nat.zero_le _) ?_;intro w1 m j;obtain⟨L,J,kk,t,Q,S,y,M,P,B⟩:=Da r w1 m j;clear m j);clear r;go_upto_region 24 with(at_builtin;refine D6 _ rfl _ _ 59 59 rfl _ _ rfl rfl t ?_);clear t;go_upto_region 25 with(at_builtin;refine D6 _ rfl _ _ 59 59 rfl _ _ rfl rfl y ?_);clear y;go_wp2;go_ret;exact Da B
end
end Go.Proofs.YtaieidcohdhgpaaGreatDoor
