/- Cleaned. -/
import Derived.Test.YtaieidcohdhgpaaGreatDoorPBQ
namespace Go.Proofs.YtaieidcohdhgpaaGreatDoor
set_option maxHeartbeats 8000000
set_option maxRecDepth 100000
open Go.RowKit
def UX(N n0:Nat)(w0:World)(vb tb db stb sb:Nat)(K:KS->Prop)(e:Ending)(w':World):Prop:=e = .returned (.bool true)/\∃b vs,LgI N n0 w0 w' vb tb db stb b K/\SetW n0 w' sb b vs
section
variable{N n0:Nat}{w0 w:World}{vb tb db stb sb:Nat}{b:Nat->Option By}{vs:NV}{K:KS->Prop}
theorem In64.tdiv{c:Int}(h:In64 c)(m:Nat):In64 (c.tdiv m):=by
 obtain⟨h1,h2⟩:=h;unfold In64;rcases Int.le_total 0 c with d|d
 ·rw[Int.tdiv_eq_ediv_of_nonneg d];have f:=Int.ediv_nonneg d (Int.natCast_nonneg m);have g:=Int.ediv_le_self (b:=(m:Int)) d;omega
 ·have e:c.tdiv m = -((-c)/(m:Int)):=by
   rw[<-Int.tdiv_eq_ediv_of_nonneg (by omega),Int.neg_tdiv,Int.neg_neg]
  rw[e];have f:=Int.ediv_nonneg (a := -c) (by omega) (Int.natCast_nonneg m);have g:=Int.ediv_le_self (a := -c) (b:=(m:Int)) (by omega);omega
theorem LgI.sizes(h:LgI N n0 w0 w vb tb db stb b K){i:Nat}(e:i<8):Hid (((b i).getD ⟨#[]⟩).size<=1280):=by
 show((b i).getD ⟨#[]⟩).size<=1280;obtain⟨G,I,CI,_,a⟩:=h.tr
 cases hb:b i with
 | none=>show 0<=1280;omega
 | some s=>
  obtain⟨f,c,d⟩:=a.yes i e s hb;have:=a.fl.sz _ c;show s.size<=1280;rw[<-d];exact this
theorem Kx(h:LgI N n0 w0 w vb tb db stb b K)(hs:SetW n0 w sb b vs){i:Nat}(r:i<8)(c:Int)(hc:In64 c)(n p q m:Nat)(an:n<=1280)(hq:p+q=n)(a:OA)(l t:Nat)(u:vs i = .slice a l t)(E:m=if 0<q then max l n else l)(U:q=0->p=0)(pv:Int)(ai:pv=(p:Int))(G:Nat)(af:G=m-p):
  Calls Tryz.prog 73 #[.int .i64 c,.int .i64 (q:Nat)] w fun e X=>∃D:Nat,e = .returned (.slice (some ⟨D,0,none⟩) q q)/\Hid (Calls Tryz.prog 72 #[.int .i64 i] X fun e x=>e = .returned (.string (pth i))/\Hid (Calls Tryz.prog 59 #[.pointer (some ⟨vb,0,none⟩),.string (pth i),.int .i64 pv,.slice (some ⟨D,0,none⟩) q q] x fun e Y=>e = .returned (.int .i64 0)/\Y.cell? ⟨sb,i,none⟩=some (.slice a l t)/\
   Hid (∀W:World,W.ownsRow 0 5 1 (.slice (some ⟨Y.heap.size,0,none⟩) m m) m (madeCells (Value.int .u8 0).cells (m*1)).toList->Y.grownBy W none->W.cell? ⟨sb,i,none⟩=some (.slice a l t)/\∃f kk,(Builtin.copy_ #[59,59] 3 #[.slice (some ⟨Y.heap.size,0,none⟩) m m,.slice a l t]).run Tryz.prog W = .ok (goInt kk) f/\
   ∃g k2,(Builtin.copy_ #[59,59] 3 #[.slice (some ⟨Y.heap.size,p,none⟩) G G,.slice (some ⟨D,0,none⟩) q q]).run Tryz.prog f = .ok (goInt k2) g/\g.cell? ⟨sb,i,none⟩=some (.slice a l t)/\g.frozen? ⟨sb,i,none⟩=false/\
   Hid (UX N n0 w0 vb tb db stb sb K (.returned (.bool true)) (g.setCell ⟨sb,i,none⟩ (.slice (some ⟨Y.heap.size,0,none⟩) m m)))))):=by
 subst ai af;refine(ZiH w c q hc (by omega)).mono ?_;rintro e X ⟨d,P,rfl,I,M⟩;refine⟨w.heap.size,rfl,?_⟩;refine(Vg X i r).mono ?_;rintro e x ⟨rfl,C⟩;refine⟨rfl,?_⟩;have J:RowIs x w.heap.size 5 (Dc d):=(C.block _ I.lt).trans I;have h2:=(h.below M).below C;have ak:=(hs.kp (Kp62.below M)).kp (Kp62.below C);have am:Sl x 5 1 (.slice (some ⟨w.heap.size,0,none⟩) d.size d.size) d.size (Dc d):=⟨by rw[Dh,Nat.mul_one],.inr ⟨w.heap.size,d.size,_,rfl,J,Nat.le_refl _,by unfold maxLen;omega,by rw[Dh,Nat.mul_one],by rw[List.take_of_length_le (by rw[Dh];omega)]⟩⟩;have Z:=writeL h2 r p d (by omega) (some ⟨w.heap.size,0,none⟩) d.size am;rw[P]at Z;refine Z.mono ?_;rintro e Y ⟨rfl,hY,S⟩;have A:=ak.kp S;have L:RowIs Y w.heap.size 5 (Dc d):=S _ _ _ J (.inr (.inl rfl));refine⟨rfl,by rw[<-u];exact A.cell r,fun W ag R=>?_⟩;have ab:=KJ R;have al:=A.kp (Kp62.below ab);refine⟨by rw[<-u];exact al.cell r,?_⟩;obtain⟨a',l',c',B,F⟩:=(A.at' i r).rd;rw[u]at B;simp only[Value.slice.injEq]at B;obtain⟨rfl,rfl,rfl⟩:=B;have ad:=F.1;obtain⟨s,V⟩:∃s,s=(b i).getD ⟨#[]⟩:=⟨_,rfl⟩;rw[<-V]at F ad;obtain⟨f,kk,r1,r2,H⟩:=ZeF Y a l t s F m W ag R;refine⟨f,kk,r1,?_⟩;have aa:RowIs f w.heap.size 5 (Dc d):=(H.block _ L.lt).trans L;have aj:RdB f (some ⟨w.heap.size,0,none⟩) q q d:=⟨P.symm,(fun e=>by cases e),fun j v u=>⟨_,rfl,by rw[Addr.add_lit,Nat.zero_add,aa.cell];exact u⟩⟩;have ae:p+q<=m\/q=0:=by
  by_cases y:0<q
  ·rw[if_pos y]at E;left;omega
  ·right;omega
 have ao:p<=m:=by
  rcases ae with e|e
  ·omega
  ·have:=U e;omega
 obtain⟨g,q1,q2,q3⟩:=UQ f Y.heap.size 5 _ r2 p (m-p) (m-p) (some ⟨w.heap.size,0,none⟩) q q d aj (by omega) (by rw[Dh,Jc];omega);have Q:spl (Dc (Dj s m)) p (Dc d)=Dc (ovB (b i) p d)/\(ovB (b i) p d).size=m:=by
  unfold ovB ovR;rw[<-V,Int.toNat_natCast];by_cases y:0<q
  ·rw[if_neg (by omega)];rw[if_pos y]at E;refine⟨Zmx s d p m (by omega),?_⟩;rw[Q0];omega
  ·rw[if_pos (by omega)];rw[if_neg y]at E;have ah:=U (by omega);subst ah;have T:m=s.size:=by omega
   refine⟨?_,T.symm⟩;have ac:Dc d=[]:=List.eq_nil_of_length_eq_zero (by rw[Dh];omega);rw[ac,T,Zgg];unfold spl;simp
 rw[Q.1]at q2;have O:Below Y.heap.size Y g:=H.grown q3 H.size (fun k e=>by cases e;exact Nat.le_refl _);have z:=A.kp (Kp62.below O);refine⟨g,d.size,q1,by rw[<-u];exact z.cell r,z.row.frozen i,rfl,_,_,(hY.below O).setS z i _,z.set r (o:=some (ovB (b i) p d)) (.inr ⟨_,Y.heap.size,rfl,by rw[Q.2],q2⟩)⟩
theorem Zmg(h:LgI N n0 w0 w vb tb db stb b K)(D:SetW n0 w sb b vs){i:Nat}(c:i<8)(n:Nat)(A:n<=1280){s:By}{g:Nat}(u:b i=some s)(f:vs i = .slice (some ⟨g,0,none⟩) s.size s.size)(x:RowIs w g 5 (Dc s)):
  Calls Tryz.prog 72 #[.int .i64 i] w fun e X=>e = .returned (.string (pth i))/\Hid (Calls Tryz.prog 60 #[.pointer (some ⟨vb,0,none⟩),.string (pth i),.int .i64 (n:Nat)] X fun e Y=>e = .returned (.int .i64 0)/\
   Hid (∀W:World,W.ownsRow 0 5 1 (.slice (some ⟨Y.heap.size,0,none⟩) n n) n (madeCells (Value.int .u8 0).cells (n*1)).toList->Y.grownBy W none->W.cell? ⟨sb,i,none⟩=some (.slice (some ⟨g,0,none⟩) s.size s.size)/\∃a kk,(Builtin.copy_ #[59,59] 3 #[.slice (some ⟨Y.heap.size,0,none⟩) n n,.slice (some ⟨g,0,none⟩) s.size s.size]).run Tryz.prog W = .ok (goInt kk) a/\a.cell? ⟨sb,i,none⟩=some (.slice (some ⟨g,0,none⟩) s.size s.size)/\a.frozen? ⟨sb,i,none⟩=false/\
   Hid (UX N n0 w0 vb tb db stb sb K (.returned (.bool true)) (a.setCell ⟨sb,i,none⟩ (.slice (some ⟨Y.heap.size,0,none⟩) n n))))):=by
 refine(Vg w i c).mono ?_;rintro e X ⟨rfl,k⟩;refine⟨rfl,?_⟩;refine(cutL (h.below k) c u n A).mono ?_;rintro e Y ⟨rfl,t,z⟩;have m:Kp62 w Y:=(Kp62.below k).trans z;have p:=D.kp m;have y:=m _ _ _ x (.inr (.inl rfl));refine⟨rfl,fun W B l=>?_⟩;have r:=KJ l;refine⟨by rw[<-f];exact(p.kp (Kp62.below r)).cell c,?_⟩;have C:RdB Y (some ⟨g,0,none⟩) s.size s.size s:=⟨rfl,(fun e=>by cases e),fun j v f=>⟨_,rfl,by rw[Addr.add_lit,Nat.zero_add,y.cell];exact f⟩⟩;obtain⟨a,kk,E,F,q⟩:=ZeF Y _ _ _ s C n W B l;have d:=p.kp (Kp62.below q);exact⟨a,kk,E,by rw[<-f];exact d.cell c,d.row.frozen i,rfl,_,_,(t.below q).setS d i _,d.set c (o:=some (Dj s n)) (.inr ⟨_,Y.heap.size,rfl,by rw[Jc],F⟩)⟩
theorem Zkx(h:LgI N n0 w0 w vb tb db stb b K)(z:SetW n0 w sb b vs)(c:Int)(hc:In64 c):
  Calls Tryz.prog 25 #[.pointer (some ⟨sb,0,none⟩),.pointer (some ⟨vb,0,none⟩),.int .i64 c] w (UX N n0 w0 vb tb db stb sb K):=by
 obtain⟨c8,h8⟩:∃x,x=c.tdiv 8:=⟨_,rfl⟩;obtain⟨aa,ag⟩:∃x,x=c.tdiv 32:=⟨_,rfl⟩;have ae:In64 c8:=by rw[h8];exact hc.tdiv 8
 have ad:In64 aa:=by rw[ag];exact hc.tdiv 32
 obtain⟨i,hi⟩:∃x,x=Kb c 8:=⟨_,rfl⟩;obtain⟨k,hk⟩:∃x,x=Kb c8 4:=⟨_,rfl⟩;obtain⟨n,hn⟩:∃x,x=Kb aa 1281:=⟨_,rfl⟩;have A:i<8:=by rw[hi];exact UT _ (by omega)
 have az:k<4:=by rw[hk];exact UT _ (by omega)
 have Z:n<=1280:=by have:=UT aa (n:=1281) (by omega);omega
 have p1:=Vh w c 8 hc (by omega) (by omega);have p2:=Vh w c8 4 ae (by omega) (by omega);have p3:=Vh w aa 1281 ad (by omega) (by omega);rw[<-hi]at p1;rw[<-hk]at p2;rw[<-hn]at p3;have w8:IntKind.i64.wrap (c.tdiv 8)=c8:=by rw[<-h8,IntKind.wrap_i64];have:=ae.1;have:=ae.2;omega
 have aA:IntKind.i64.wrap (c.tdiv 32)=aa:=by rw[<-ag,IntKind.wrap_i64];have:=ad.1;have:=ad.2;omega
 have P1:=Db p1;have P2:=Db p2;have P3:=Db p3;have I:=Db hc;clear p1 p2 p3 hi hk hn ae ad hc h8 ag;have ab:=z.cell A;go_enter Tryz.func25,Tryz.ntmps25;go_upto_region 2 with(go_at_call 24;refine(Da P1).mono ?_;rintro e w' ⟨rfl,rfl⟩);go_upto_region 3 with(go_at_call 24;refine(Da P2).mono ?_;rintro e w' ⟨rfl,rfl⟩);go_upto_region 4 with(go_at_call 24;refine(Da P3).mono ?_;rintro e w' ⟨rfl,rfl⟩);clear P1 P2 P3;have ay:=z.row.frozen i;obtain⟨H,C,E,F,G⟩:=info_parts Kt;by_cases am:k=0
 ·subst am;rcases z.at' i A with⟨hb,u⟩|⟨s,g,hb,u,hg⟩
  ·rw[u]at ab;by_cases W:n=0
   ·subst W;have f:=Db (Kx h z A c (Da I) 0 0 0 0 (by omega) rfl none 0 0 u (by rw[if_neg (by omega)]) (fun _=>rfl) 0 rfl 0 rfl);clear z h u;go_upto_region 18 with(go_at_call 73;refine(Da f).mono ?_;rintro e X ⟨D,rfl,d⟩);clear f;go_upto_region 19 with(first|(go_at_call 72;refine(Da d).mono ?_;rintro e R ⟨rfl,v⟩)|(go_at_call 59;refine(Da v).mono ?_;rintro e Y ⟨rfl,O,r⟩));clear d v;go_upto_region 22 with fail;go_upto_region 23 with(at_make;refine wpList_make_full _ rfl _ _ 59 rfl 0 5 H (.int .u8 0) 1 Tryz.underlying59 C E F _ _ _ _ 0 rfl rfl rfl rfl (by rw[G];omega) (by unfold maxLen;omega) (Nat.zero_le _) ?_;intro w1 m j;obtain⟨L,J,kk,t,Q,S,y,M,P,B⟩:=Da r w1 m j;clear m j);clear r;go_upto_region 24 with(at_builtin;refine D6 _ rfl _ _ 59 59 rfl _ _ rfl rfl t ?_);clear t;go_upto_region 25 with(at_builtin;refine D6 _ rfl _ _ 59 59 rfl _ _ rfl rfl y ?_);clear y;go_wp2;go_ret;exact Da B
   ·have aj:0<n:=by omega
    have f:=Db (Kx h z A c (Da I) n 0 n n Z (by omega) none 0 0 u (by rw[if_pos (by omega)];omega) (by omega) 0 rfl n rfl);have U:min (0:Int) (n:Int)=0:=by omega
    clear z h u;go_upto_region 18 with(go_at_call 73;refine(Da f).mono ?_;rintro e X ⟨D,rfl,d⟩);clear f;go_upto_region 19 with(first|(go_at_call 72;refine(Da d).mono ?_;rintro e R ⟨rfl,v⟩)|(go_at_call 59;refine(Da v).mono ?_;rintro e Y ⟨rfl,O,r⟩));clear d v;go_upto_region 22 with fail;go_upto_region 23 with(at_make;refine wpList_make_full _ rfl _ _ 59 rfl 0 5 H (.int .u8 0) 1 Tryz.underlying59 C E F _ _ _ _ n rfl rfl rfl rfl (by rw[G];omega) (by unfold maxLen;omega) (Nat.zero_le _) ?_;intro w1 m j;obtain⟨L,J,kk,t,Q,S,y,M,P,B⟩:=Da r w1 m j;clear m j);clear r;go_upto_region 24 with(at_builtin;refine D6 _ rfl _ _ 59 59 rfl _ _ rfl rfl t ?_);clear t;go_upto_region 25 with(at_builtin;refine D6 _ rfl _ _ 59 59 rfl _ _ rfl rfl y ?_);clear y;go_wp2;go_ret;exact Da B
  ·rw[u]at ab;have HP:Hid (Calls Tryz.prog 72 #[.int .i64 i] w' fun e X=>e = .returned (.string (pth i))/\Hid (Calls Tryz.prog 63 #[.pointer (some ⟨vb,0,none⟩),.string (pth i)] X fun e Y=>e = .returned (.int .i64 0)/\Y.cell? ⟨sb,i,none⟩=some (vs i)/\Y.frozen? ⟨sb,i,none⟩=false/\Hid (UX N n0 w0 vb tb db stb sb K (.returned (.bool true)) (Y.setCell ⟨sb,i,none⟩ (.slice none 0 0))))):=by
    refine(Vg w' i A).mono ?_;rintro e X ⟨rfl,hX⟩;refine⟨rfl,?_⟩;refine(ZnO (h.below hX) A hb).mono ?_;rintro e Y ⟨rfl,hY,ap⟩;have af:=(z.kp (Kp62.below hX)).kp ap;refine⟨rfl,af.cell A,af.row.frozen i,rfl,_,_,?_,af.set A (o:=none) (.inl ⟨rfl,rfl⟩)⟩;exact hY.setS af i _
   clear z h hg;go_wp2_with (first|(go_at_call 72;refine(Da HP).mono ?_;rintro e X ⟨rfl,d⟩)|(go_at_call 63;refine(Da d).mono ?_;rintro e Y ⟨rfl,O,fY,f⟩));go_ret;exact Da f
 ·by_cases an:k=1
  ·subst an;rcases z.at' i A with⟨hb,u⟩|⟨s,g,hb,u,hg⟩
   ·rw[u]at ab;by_cases W:n=0
    ·subst W;have f:=Db (Kx h z A c (Da I) 0 0 0 0 (by omega) rfl none 0 0 u (by rw[if_neg (by omega)]) (fun _=>rfl) 0 rfl 0 rfl);clear z h u;go_upto_region 18 with(go_at_call 73;refine(Da f).mono ?_;rintro e X ⟨D,rfl,d⟩);clear f;go_upto_region 19 with(first|(go_at_call 72;refine(Da d).mono ?_;rintro e R ⟨rfl,v⟩)|(go_at_call 59;refine(Da v).mono ?_;rintro e Y ⟨rfl,O,r⟩));clear d v;go_upto_region 22 with fail;go_upto_region 23 with(at_make;refine wpList_make_full _ rfl _ _ 59 rfl 0 5 H (.int .u8 0) 1 Tryz.underlying59 C E F _ _ _ _ 0 rfl rfl rfl rfl (by rw[G];omega) (by unfold maxLen;omega) (Nat.zero_le _) ?_;intro w1 m j;obtain⟨L,J,kk,t,Q,S,y,M,P,B⟩:=Da r w1 m j;clear m j);clear r;go_upto_region 24 with(at_builtin;refine D6 _ rfl _ _ 59 59 rfl _ _ rfl rfl t ?_);clear t;go_upto_region 25 with(at_builtin;refine D6 _ rfl _ _ 59 59 rfl _ _ rfl rfl y ?_);clear y;go_wp2;go_ret;exact Da B
    ·have aj:0<n:=by omega
     have f:=Db (Kx h z A c (Da I) n 0 n n Z (by omega) none 0 0 u (by rw[if_pos (by omega)];omega) (by omega) 0 rfl n rfl);have U:min (0:Int) (n:Int)=0:=by omega
     clear z h u;go_upto_region 18 with(go_at_call 73;refine(Da f).mono ?_;rintro e X ⟨D,rfl,d⟩);clear f;go_upto_region 19 with(first|(go_at_call 72;refine(Da d).mono ?_;rintro e R ⟨rfl,v⟩)|(go_at_call 59;refine(Da v).mono ?_;rintro e Y ⟨rfl,O,r⟩));clear d v;go_upto_region 22 with fail;go_upto_region 23 with(at_make;refine wpList_make_full _ rfl _ _ 59 rfl 0 5 H (.int .u8 0) 1 Tryz.underlying59 C E F _ _ _ _ n rfl rfl rfl rfl (by rw[G];omega) (by unfold maxLen;omega) (Nat.zero_le _) ?_;intro w1 m j;obtain⟨L,J,kk,t,Q,S,y,M,P,B⟩:=Da r w1 m j;clear m j);clear r;go_upto_region 24 with(at_builtin;refine D6 _ rfl _ _ 59 59 rfl _ _ rfl rfl t ?_);clear t;go_upto_region 25 with(at_builtin;refine D6 _ rfl _ _ 59 59 rfl _ _ rfl rfl y ?_);clear y;go_wp2;go_ret;exact Da B
   ·rw[u]at ab;have HP:=Db (Zmg h z A n Z hb u hg);clear z h hg;go_wp2_with (first|(go_at_call 72;refine(Da HP).mono ?_;rintro e X ⟨rfl,d⟩)|(go_at_call 60;refine(Da d).mono ?_;rintro e Y ⟨rfl,r⟩)|(at_make;refine wpList_make_full _ rfl _ _ 59 rfl 0 5 H (.int .u8 0) 1 Tryz.underlying59 C E F _ _ _ _ n rfl rfl rfl rfl (by rw[G];omega) (by unfold maxLen;omega) (Nat.zero_le _) ?_;intro w1 m j;obtain⟨L,J,kk,t,M,P,f⟩:=Da r w1 m j;clear m j)|(at_builtin;refine D6 _ rfl _ _ 59 59 rfl _ _ rfl rfl t ?_));go_ret;exact Da f
  ·obtain⟨a,l,c0,u,ak⟩:=(z.at' i A).rd;rw[u]at ab;have ac:Hid (l<=1280):=by
    rw[show l=_ from ak.1];exact Da (h.sizes A)
   clear ak;by_cases ao:k=2
   ·subst ao;by_cases W:n=0
    ·subst W;have f:=Db (Kx h z A c (Da I) 0 0 0 l (by omega) rfl a l c0 u (by rw[if_neg (by omega)]) (fun _=>rfl) 0 rfl l rfl);have ah:l<=1280:=Da ac;have U:min (0:Int) (l:Int)=0:=by omega
     clear z h u;go_upto_region 18 with(go_at_call 73;refine(Da f).mono ?_;rintro e X ⟨D,rfl,d⟩);clear f;go_upto_region 19 with(first|(go_at_call 72;refine(Da d).mono ?_;rintro e R ⟨rfl,v⟩)|(go_at_call 59;refine(Da v).mono ?_;rintro e Y ⟨rfl,O,r⟩));clear d v;go_upto_region 22 with fail;go_upto_region 23 with(at_make;refine wpList_make_full _ rfl _ _ 59 rfl 0 5 H (.int .u8 0) 1 Tryz.underlying59 C E F _ _ _ _ l rfl rfl rfl rfl (by rw[G];omega) (by unfold maxLen;omega) (Nat.zero_le _) ?_;intro w1 m j;obtain⟨L,J,kk,t,Q,S,y,M,P,B⟩:=Da r w1 m j;clear m j);clear r;go_upto_region 24 with(at_builtin;refine D6 _ rfl _ _ 59 59 rfl _ _ rfl rfl t ?_);clear t;go_upto_region 25 with(at_builtin;refine D6 _ rfl _ _ 59 59 rfl _ _ rfl rfl y ?_);clear y;go_wp2;go_ret;exact Da B
    ·obtain⟨p,hp⟩:∃p,p=n/2:=⟨_,rfl⟩;obtain⟨q,hq⟩:∃q,q=n-p:=⟨_,rfl⟩;have ed:(n:Int)/2=(p:Int):=by omega
     have ew:IntKind.i64.wrap ((n:Int)-(p:Int))=(q:Int):=by rw[IntKind.wrap_i64];omega
     have ax:(n:Int)-(p:Int)=(q:Int):=by omega
     have aj:0<q:=by omega
     have ah:l<=1280:=Da ac;by_cases ar:l<n
     ·obtain⟨T,V⟩:∃T,T=n-p:=⟨_,rfl⟩;have f:=Db (Kx h z A c (Da I) n p q n Z (by omega) a l c0 u (by rw[if_pos (by omega)];omega) (by omega) (p:Nat) rfl T V);have U:min (p:Int) (n:Int)=(p:Int):=by omega
      have au:n-p=T:=V.symm;have av:¬n=p:=by omega
      have aq:p<=n:=by omega
      have aw:p<=1280:=by omega
      have al:=Db (And.intro hp hq);clear hp hq V;have ai:(l:Int)<(n:Int):=by omega
      clear z h u;go_upto_region 18 with(go_at_call 73;refine(Da f).mono ?_;rintro e X ⟨D,rfl,d⟩);clear f;go_upto_region 19 with(first|(go_at_call 72;refine(Da d).mono ?_;rintro e R ⟨rfl,v⟩)|(go_at_call 59;refine(Da v).mono ?_;rintro e Y ⟨rfl,O,r⟩));clear d v;go_upto_region 22 with fail;go_upto_region 23 with(at_make;refine wpList_make_full _ rfl _ _ 59 rfl 0 5 H (.int .u8 0) 1 Tryz.underlying59 C E F _ _ _ _ n rfl rfl rfl rfl (by rw[G];omega) (by unfold maxLen;omega) (Nat.zero_le _) ?_;intro w1 m j;obtain⟨L,J,kk,t,Q,S,y,M,P,B⟩:=Da r w1 m j;clear m j);clear r;go_upto_region 24 with(at_builtin;refine D6 _ rfl _ _ 59 59 rfl _ _ rfl rfl t ?_);clear t;go_upto_region 25 with(at_builtin;refine D6 _ rfl _ _ 59 59 rfl _ _ rfl rfl y ?_);clear y;go_wp2;go_ret;exact Da B
     ·obtain⟨T,V⟩:∃T,T=l-p:=⟨_,rfl⟩;have f:=Db (Kx h z A c (Da I) n p q l Z (by omega) a l c0 u (by rw[if_pos (by omega)];omega) (by omega) (p:Nat) rfl T V);have U:min (p:Int) (l:Int)=(p:Int):=by omega
      have au:l-p=T:=V.symm;have av:¬l=p:=by omega
      have aq:p<=l:=by omega
      have aw:p<=1280:=by omega
      have al:=Db (And.intro hp hq);clear hp hq V;have ai:¬(l:Int)<(n:Int):=by omega
      clear z h u;go_upto_region 18 with(go_at_call 73;refine(Da f).mono ?_;rintro e X ⟨D,rfl,d⟩);clear f;go_upto_region 19 with(first|(go_at_call 72;refine(Da d).mono ?_;rintro e R ⟨rfl,v⟩)|(go_at_call 59;refine(Da v).mono ?_;rintro e Y ⟨rfl,O,r⟩));clear d v;go_upto_region 22 with fail;go_upto_region 23 with(at_make;refine wpList_make_full _ rfl _ _ 59 rfl 0 5 H (.int .u8 0) 1 Tryz.underlying59 C E F _ _ _ _ l rfl rfl rfl rfl (by rw[G];omega) (by unfold maxLen;omega) (Nat.zero_le _) ?_;intro w1 m j;obtain⟨L,J,kk,t,Q,S,y,M,P,B⟩:=Da r w1 m j;clear m j);clear r;go_upto_region 24 with(at_builtin;refine D6 _ rfl _ _ 59 59 rfl _ _ rfl rfl t ?_);clear t;go_upto_region 25 with(at_builtin;refine D6 _ rfl _ _ 59 59 rfl _ _ rfl rfl y ?_);clear y;go_wp2;go_ret;exact Da B
   ·have e3:k=3:=by omega
    subst e3;by_cases W:n=0
    ·subst W;have f:=Db (Kx h z A c (Da I) 0 0 0 l (by omega) rfl a l c0 u (by rw[if_neg (by omega)]) (fun _=>rfl) 0 rfl l rfl);have ah:l<=1280:=Da ac;have U:min (0:Int) (l:Int)=0:=by omega
     clear z h u;go_upto_region 18 with(go_at_call 73;refine(Da f).mono ?_;rintro e X ⟨D,rfl,d⟩);clear f;go_upto_region 19 with(first|(go_at_call 72;refine(Da d).mono ?_;rintro e R ⟨rfl,v⟩)|(go_at_call 59;refine(Da v).mono ?_;rintro e Y ⟨rfl,O,r⟩));clear d v;go_upto_region 22 with fail;go_upto_region 23 with(at_make;refine wpList_make_full _ rfl _ _ 59 rfl 0 5 H (.int .u8 0) 1 Tryz.underlying59 C E F _ _ _ _ l rfl rfl rfl rfl (by rw[G];omega) (by unfold maxLen;omega) (Nat.zero_le _) ?_;intro w1 m j;obtain⟨L,J,kk,t,Q,S,y,M,P,B⟩:=Da r w1 m j;clear m j);clear r;go_upto_region 24 with(at_builtin;refine D6 _ rfl _ _ 59 59 rfl _ _ rfl rfl t ?_);clear t;go_upto_region 25 with(at_builtin;refine D6 _ rfl _ _ 59 59 rfl _ _ rfl rfl y ?_);clear y;go_wp2;go_ret;exact Da B
    ·have aj:0<n:=by omega
     have ah:l<=1280:=Da ac;by_cases ar:l<n
     ·have f:=Db (Kx h z A c (Da I) n 0 n n Z (by omega) a l c0 u (by rw[if_pos (by omega)];omega) (by omega) 0 rfl n rfl);have U:min (0:Int) (n:Int)=0:=by omega
      have ai:(l:Int)<(n:Int):=by omega
      clear z h u;go_upto_region 18 with(go_at_call 73;refine(Da f).mono ?_;rintro e X ⟨D,rfl,d⟩);clear f;go_upto_region 19 with(first|(go_at_call 72;refine(Da d).mono ?_;rintro e R ⟨rfl,v⟩)|(go_at_call 59;refine(Da v).mono ?_;rintro e Y ⟨rfl,O,r⟩));clear d v;go_upto_region 22 with fail;go_upto_region 23 with(at_make;refine wpList_make_full _ rfl _ _ 59 rfl 0 5 H (.int .u8 0) 1 Tryz.underlying59 C E F _ _ _ _ n rfl rfl rfl rfl (by rw[G];omega) (by unfold maxLen;omega) (Nat.zero_le _) ?_;intro w1 m j;obtain⟨L,J,kk,t,Q,S,y,M,P,B⟩:=Da r w1 m j;clear m j);clear r;go_upto_region 24 with(at_builtin;refine D6 _ rfl _ _ 59 59 rfl _ _ rfl rfl t ?_);clear t;go_upto_region 25 with(at_builtin;refine D6 _ rfl _ _ 59 59 rfl _ _ rfl rfl y ?_);clear y;go_wp2;go_ret;exact Da B
     ·have f:=Db (Kx h z A c (Da I) n 0 n l Z (by omega) a l c0 u (by rw[if_pos (by omega)];omega) (by omega) 0 rfl l rfl);have U:min (0:Int) (l:Int)=0:=by omega
      have ai:¬(l:Int)<(n:Int):=by omega
      clear z h u;go_upto_region 18 with(go_at_call 73;refine(Da f).mono ?_;rintro e X ⟨D,rfl,d⟩);clear f;go_upto_region 19 with(first|(go_at_call 72;refine(Da d).mono ?_;rintro e R ⟨rfl,v⟩)|(go_at_call 59;refine(Da v).mono ?_;rintro e Y ⟨rfl,O,r⟩));clear d v;go_upto_region 22 with fail;go_upto_region 23 with(at_make;refine wpList_make_full _ rfl _ _ 59 rfl 0 5 H (.int .u8 0) 1 Tryz.underlying59 C E F _ _ _ _ l rfl rfl rfl rfl (by rw[G];omega) (by unfold maxLen;omega) (Nat.zero_le _) ?_;intro w1 m j;obtain⟨L,J,kk,t,Q,S,y,M,P,B⟩:=Da r w1 m j;clear m j);clear r;go_upto_region 24 with(at_builtin;refine D6 _ rfl _ _ 59 59 rfl _ _ rfl rfl t ?_);clear t;go_upto_region 25 with(at_builtin;refine D6 _ rfl _ _ 59 59 rfl _ _ rfl rfl y ?_);clear y;go_wp2;go_ret;exact Da B
end
def RdI(w:World)(a:OA)(xs:List Int):Prop:=∀(j:Nat) v,xs[j]?=some v->∃g f,a=some ⟨g,f,none⟩/\w.cell? ⟨g,f+j,none⟩=some (.int .i64 v)
theorem LgI.pk{N d:Nat}{g w:World}{f tb a e:Nat}{b:Nat->Option By}{K:KS->Prop}(h:LgI N d g w f tb a e b K):PkgOk w:=by
 obtain⟨G,I,CI,⟨rd,V,E,vi,c⟩,_⟩:=h.tr;exact c.pk
def Znb(w:World)(e:Ending)(w':World):Prop:=e = .returned (.bool true)/\Below w.heap.size w w'
def rpL(m u l f:Nat):LVa:=[.int .i64 m,.int .i64 u,.int .i64 l,.int .i64 f]
theorem Zlq{N k:Nat}{m w:World}{d tb f g:Nat}{b:Nat->Option By}{s:KS}(h:LgI N k m w d tb f g b (fun t=>KeptB b t/\t=s)):
  Calls Tryz.prog 28 #[.pointer (some ⟨d,0,none⟩)] w fun e Z=>∃a l c,e = .returned (.slice a l c)/\(∀x∈s.D,x.size=64)/\Sl Z 5 1 (.slice a l c) (Jl s.D).size (Dc (Jl s.D))/\Below w.heap.size w Z/\LgI N k m Z d tb f g b (fun t=>KeptB b t/\t=s):=by
 obtain⟨o,vk,q,r,vw,p,ps,ep,j,⟨_,e⟩,_⟩:=h.st;rw[<-e];refine(imageV w d tb f g h.vol q r vw p o.D j.st.disk).mono ?_;rintro e' Z ⟨a,l,c,rfl,n,i⟩;refine⟨a,l,c,rfl,j.st.disk.2.1.2,n.1,i,?_⟩;rw[e];exact h.below i
def ClE(w wr:World)(vb sb:Nat):Prop:=
 ∃m u l1 f:Nat,m<=9/\l1<=20000/\f<=1536/\Hid (Calls Tryz.prog 28 #[.pointer (some ⟨vb,0,none⟩)] wr fun e Z=>∃a l c,e = .returned (.slice a l c)/\Hid (Calls Tryz.prog 32 #[.slice a l c] Z fun e Z1=>e = .returned (.tuple #[.agg (rpL m u l1 f).toArray,.int .i64 0])/\u<=10000/\∃Z2,Z1.alloc (.cells (rpL m u l1 f).toArray 75)=Z2/\
  Hid (Calls Tryz.prog 33 #[.pointer (some ⟨vb,0,none⟩)] Z2 fun e Z3=>∃F l2 nn:Nat,512<=F/\F<=1536/\nn=64*(F-f)/\e = .returned (.int .i64 (nn:Nat))/\
  Hid (Calls Tryz.prog 28 #[.pointer (some ⟨vb,0,none⟩)] Z3 fun e Z4=>∃a l c,e = .returned (.slice a l c)/\Hid (Calls Tryz.prog 32 #[.slice a l c] Z4 fun e Z5=>e = .returned (.tuple #[.agg (rpL m u l2 F).toArray,.int .i64 0])/\l2<=u+240/\u<=l2/\∃Z6,Z5.alloc (.cells (rpL m u l2 F).toArray 75)=Z6/\
  Hid (Calls Tryz.prog 28 #[.pointer (some ⟨vb,0,none⟩)] Z6 fun e Z7=>∃a l c,e = .returned (.slice a l c)/\Hid (Calls Tryz.prog 27 #[.slice a l c] Z7 fun e Z8=>∃xb:Nat,e = .returned (.tuple #[.pointer (some ⟨xb,0,none⟩),.int .i64 0])/\
  Hid (Calls Tryz.prog 29 #[.pointer (some ⟨sb,0,none⟩),.pointer (some ⟨vb,0,none⟩)] Z8 fun e Z9=>e = .returned (.bool true)/\Hid (Calls Tryz.prog 29 #[.pointer (some ⟨sb,0,none⟩),.pointer (some ⟨xb,0,none⟩)] Z9 fun e Z10=>e = .returned (.bool true)/\RowIs Z10 Z1.heap.size 75 (rpL m u l1 f)/\RowIs Z10 Z5.heap.size 75 (rpL m u l2 F)/\
  Hid (∀W,Below Z10.heap.size Z10 W->Calls Tryz.prog 34 #[.pointer (some ⟨vb,0,none⟩)] W fun e W'=>e = .returned (.int .i64 (u:Nat))/\Below Z10.heap.size Z10 W')/\Hid (∀W,Below Z10.heap.size Z10 W->Below w.heap.size w W))))))))))
theorem ZiO{N g:Nat}{w wr:World}{k tb n v U:Nat}{b:Nat->Option By}{vs:NV}(hn:g=w.heap.size)(h:LgI N g w wr k tb n v b (KeptB b))(hs:SetW g wr U b vs)(hN:N<=10000):ClE w wr k U:=by
 obtain⟨s,vk,vf,vn,vw,ve,ps,ep,ao,D,p,C,h1,h2⟩:=h.st;have h':LgI N g w wr k tb n v b (fun t=>KeptB b t/\t=s):=⟨h.vol,h.tr,⟨s,vk,vf,vn,vw,ve,ps,ep,ao,⟨D,rfl⟩,p,C,h1,h2⟩,h.bel,h.lo⟩;have hm:=ZiM b 8;have hf:=Kc (Dg s.es) 96;have aC:=p.ok.len;refine⟨1+Jb b 8,DX b 8,2+s.es.length,DA (Dg s.es) 96,by omega,by omega,hf,?_⟩;refine(Zlq h').mono ?_;rintro e Z ⟨a,l,c,rfl,ab,ai,hZ,H⟩;refine⟨a,l,c,rfl,?_⟩;refine(Znx p C (by omega) D Z a l c ai ab H.pk).mono ?_;rintro e x ⟨rfl,K,hu,_⟩;obtain⟨V,e2,x2,k2,s2,A⟩:=De x (rpL (1+Jb b 8) (DX b 8) (2+s.es.length) (DA (Dg s.es) 96)) 75;refine⟨rfl,by omega,V,e2,?_⟩;have af:=(H.below K).below A;refine(cleanL af (fun t u=>u.1.any) (by omega) (DA (Dg s.es) 96) (fun t u=>by rw[u.2])).mono ?_;rintro e y ⟨M,F,rfl,hM,d,S⟩;obtain⟨t,vk',au,av,aw,ar,aq,aa,ap,⟨q,ae⟩,i,o,g1,g2⟩:=d.st;have h3:LgI M g w y k tb n v b (fun s=>KeptB b s/\s=t):=⟨d.vol,d.tr,⟨t,vk',au,av,aw,ar,aq,aa,ap,⟨q,rfl⟩,i,o,g1,g2⟩,d.bel,d.lo⟩;have az:=Kc (Dg t.es) 96;have ay:=i.fr;refine⟨F,2+t.es.length,64*(F-DA (Dg s.es) 96),by omega,by omega,rfl,rfl,?_⟩;refine(Zlq h3).mono ?_;rintro e X ⟨a,l,c,rfl,ac,aj,am,I⟩;refine⟨a,l,c,rfl,?_⟩;refine(Znx i o (by omega) q X a l c aj ac I.pk).mono ?_;rintro e z ⟨rfl,O,aA,aB⟩;obtain⟨Y,e6,x6,k6,s6,B⟩:=De z (rpL (1+Jb b 8) (DX b 8) (2+t.es.length) F) 75;refine⟨by rw[<-ae];rfl,by omega,by omega,Y,e6,?_⟩;have ag:=(I.below O).below B;refine(Zlq ag).mono ?_;rintro e Z7 ⟨a,l,c,rfl,ad,ak,P,J⟩;refine⟨a,l,c,rfl,?_⟩;refine(openL i o (by omega) q Z7 a l c ak ad J.pk).mono ?_;rintro e m ⟨xb,rfl,hx,r⟩;refine⟨xb,rfl,?_⟩;have G:=J.below r;have R:Kp62 y m:=(((((Kp62.below am).trans (Kp62.below O)).trans (Kp62.below B)).trans (Kp62.below P)).trans (Kp62.below r));have Q:=((((hs.kp (Kp62.below hZ)).kp (Kp62.below K)).kp (Kp62.below A)).kp S).kp R;have r1:RowIs m x.heap.size 75 _:=(S.trans R) _ 75 _ x2 (.inr (.inr rfl));have r2:RowIs m z.heap.size 75 _:=((Kp62.below P).trans (Kp62.below r)) _ 75 _ x6 (.inr (.inr rfl));refine(Zgl G.vl Q).mono ?_;rintro e Z9 ⟨rfl,j⟩;refine⟨rfl,?_⟩;have an:=Q.kp (Kp62.below j);have ah:=G.below j;refine(Zgl (hx.below j) an).mono ?_;rintro e ax ⟨rfl,L⟩;have E:=ah.below L;have T:=(Kp62.below j).trans (Kp62.below L);refine⟨rfl,T _ 75 _ r1 (.inr (.inr rfl)),T _ 75 _ r2 (.inr (.inr rfl)),fun W f=>?_,fun W f=>?_⟩
 ·refine(Znh (E.below f).vl).mono ?_;rintro e W' ⟨rfl,al⟩;exact⟨rfl,f.trans (al.mono f.size)⟩
 ·have:=(E.below f).bel;rw[hn]at this;exact this
theorem Zh1(w:World)(hp:PkgOk w)(a:OA)(xs:List Int)(am:Nat)(hx:RdI w a xs)(aj:∀x∈xs,In64 x)(hl:xs.length<=1048576):
  Calls Tryz.prog 12 #[.slice a xs.length am] w (Znb w):=by
 obtain⟨r,L⟩:∃n,n=xs.length:=⟨_,rfl⟩;have HO:=Db (Ziw w hp);rw[<-L];have G:=Db hx;have al:=Db aj;have HL:=Db L;have aA:r<=1048576:=by omega
 clear hx aj L hp hl;go_enter Tryz.func12,Tryz.ntmps12;go_upto_region 2 with(go_at_call 23;refine(Da HO).mono ?_;rintro e X ⟨t,tb,H,R,rfl,ac⟩;have C:=Db ac;clear ac);clear HO;go_upto_region 4 with fail;go_upto_region 5 with fail;obtain⟨Y,eY,S,kY,sY,bY⟩:=De X [.slice none 0 0,.slice none 0 0,.slice none 0 0,.slice none 0 0,.slice none 0 0,.slice none 0 0,.slice none 0 0,.slice none 0 0] 62;rw[show X.alloc (.cells #[.slice none 0 0,.slice none 0 0,.slice none 0 0,.slice none 0 0,.slice none 0 0,.slice none 0 0,.slice none 0 0,.slice none 0 0] 62)=Y from eY];obtain⟨z,O⟩:∃s,s=X.heap.size:=⟨_,rfl⟩;rw[<-O]at S ⊢;have HI:Hid (∃M b vs,LgI M w.heap.size w Y t tb H R b (KeptB b)/\SetW w.heap.size Y z b vs/\M<=0):=by
  refine⟨0,fun _=>none,fun _ => .slice none 0 0,(Da C).below bY,⟨S,fun i _ => .inl ⟨rfl,rfl⟩,?_⟩,Nat.le_refl _⟩;rw[O];exact(Da C).bel.size
 clear eY S kY sY bY C O;go_wp2
 go_loopw [5] (fun i wr=>∃(q:Nat),q<=r/\q<=40/\i = .int .i64 q/\Hid (∃M b vs,LgI M w.heap.size w wr t tb H R b (KeptB b)/\SetW w.heap.size wr z b vs/\M<=q)) (fun i _=>40-(intOf i).toNat)
 case atStart=>exact⟨0,Nat.zero_le _,Nat.zero_le _,rfl,HI⟩
 case round=>
  obtain⟨q,hq,ao,rfl,y⟩:=hrel;clear HI;by_cases N:q<r/\q<40
  ·obtain⟨aE,aD⟩:=N;have HT:Hid (∀d,In64 d->Calls Tryz.prog 25 #[.pointer (some ⟨z,0,none⟩),.pointer (some ⟨t,0,none⟩),.int .i64 d] wr fun e Y=>e = .returned (.bool true)/\Hid (Calls Tryz.prog 26 #[.pointer (some ⟨t,0,none⟩)] Y fun e Z=>e = .returned (.int .i64 0)/\Hid (∃M b vs,LgI M w.heap.size w Z t tb H R b (KeptB b)/\SetW w.heap.size Z z b vs/\M<=q+1))):=fun d hd=>by
    obtain⟨M,b,vs,I,g2,g3⟩:=Da y;refine(Zkx I g2 d hd).mono ?_;rintro e Y ⟨rfl,b',aq,q1,q2⟩;refine⟨rfl,?_⟩;refine(syncL q1 (fun _ e=>e.any) (by omega)).mono ?_;rintro e Z ⟨rfl,q3,q4⟩;exact⟨rfl,M+1,b',aq,q3,q2.kp q4,by omega⟩
   obtain⟨v,P⟩:∃v,xs[q]?=some v:=⟨_,List.getElem?_eq_getElem (by have:=Da HL;omega)⟩;have ai:In64 v:=Da al v (List.mem_of_getElem? P);obtain⟨g,f,ha,K⟩:=Da G q v P;have av:wr.cell? ⟨g,f+q,none⟩=some (.int .i64 v):=by
    obtain⟨M,b,vs,I,_⟩:=Da y;exact(I.bel.cell (p:=⟨g,f+q,none⟩) (World.block_lt_of_cell? _ _ K)).trans K
   have ak:=Db (Da HT v ai);subst ha;have ah:(q:Int)<(r:Int):=by omega
   have ap:(q:Int)<40:=by omega
   clear HT K P ai G y;go_wp2_with (first|(go_at_call 25;refine(Da ak).mono ?_;rintro e Y1 ⟨rfl,A⟩)|(go_at_call 26;refine(Da A).mono ?_;rintro e h ⟨rfl,HZ⟩))
   go_roundw
   case rel=>exact⟨q+1,by omega,by omega,by go_num,HZ⟩
   case measure=>simp[intOf];omega
  ·have HE:Hid (ClE w wr t z):=by
    obtain⟨M,b,vs,h1,h2,h3⟩:=Da y;exact ZiO rfl h1 h2 (by omega)
   clear y G;obtain⟨m,u,l1,f,hm,ax,hf,B⟩:=Da HE;clear HE;unfold rpL at B;have an:¬(q:Int)<(r:Int)\/(q:Int)<(r:Int)/\¬(q:Int)<40:=by omega
   clear N hq ao;rcases an with ah|⟨ah,ap⟩
   all_goals
    go_upto_region 12 with(first|(go_at_call 28;refine(Da B).mono ?_;rintro e Z ⟨a1,s1,c1,rfl,T⟩)|(go_at_call 32;refine(Da T).mono ?_;rintro e h ⟨rfl,hu,Z2,ad,U⟩;have aa:=Db ad;clear ad));rw[show h.alloc _=Z2 from Da aa];go_upto_region 14 with(first|(go_at_call 33;refine(Da U).mono ?_;rintro e Z3 ⟨F,o,Q,ar,hF,ag,rfl,V⟩)|(go_at_call 28;refine(Da V).mono ?_;rintro e Z4 ⟨a2,s2,c2,rfl,H5⟩)|(go_at_call 32;refine(Da H5).mono ?_;rintro e c ⟨rfl,ay,az,Z6,ae,H6⟩;have ab:=Db ae;clear ae));rw[show c.alloc _=Z6 from Da ab];go_upto_region 15 with(first|(go_at_call 28;refine(Da H6).mono ?_;rintro e Z7 ⟨a3,s3,c3,rfl,H7⟩)|(go_at_call 27;refine(Da H7).mono ?_;rintro e Z8 ⟨xb,rfl,H8⟩));go_upto_region 16 with(go_at_call 29;refine(Da H8).mono ?_;rintro e Z9 ⟨rfl,H9⟩);go_upto_region 17 with(go_at_call 29;refine(Da H9).mono ?_;rintro e j ⟨rfl,l,k,HU,A⟩);have d0:j.cell? ⟨h.heap.size,0,none⟩=some (.int .i64 m):=(l.cell 0).trans rfl;have d1:j.cell? ⟨h.heap.size,1,none⟩=some (.int .i64 u):=(l.cell 1).trans rfl;have d3:j.cell? ⟨h.heap.size,3,none⟩=some (.int .i64 f):=(l.cell 3).trans rfl;have e0:j.cell? ⟨c.heap.size,0,none⟩=some (.int .i64 m):=(k.cell 0).trans rfl;have e1:j.cell? ⟨c.heap.size,1,none⟩=some (.int .i64 u):=(k.cell 1).trans rfl;have e2:j.cell? ⟨c.heap.size,2,none⟩=some (.int .i64 o):=(k.cell 2).trans rfl;have e3:j.cell? ⟨c.heap.size,3,none⟩=some (.int .i64 F):=(k.cell 3).trans rfl;clear B T U V H5 H6 H7 H8 H9 aa ab;have D:=Db l;have E:=Db k;clear l k;have aC:¬(Q:Int)<0:=by omega
    have au:¬(F:Int)<512:=by omega
    have aB:¬(u:Int)+240<(o:Int):=by omega
    have aF:(u:Int)<=(o:Int):=by omega
    have af:Below j.heap.size j j:=Below.refl _ _;have HC:Hid (∀W,Below j.heap.size j W->W.cell? ⟨h.heap.size,0,none⟩=some (.int .i64 m)/\W.cell? ⟨h.heap.size,1,none⟩=some (.int .i64 u)/\W.cell? ⟨c.heap.size,0,none⟩=some (.int .i64 m)/\W.cell? ⟨c.heap.size,1,none⟩=some (.int .i64 u)/\W.cell? ⟨c.heap.size,2,none⟩=some (.int .i64 o)):=fun W hW=>by
     have l:RowIs W h.heap.size 75 _:=(hW.block _ (RowIs.lt (Da D))).trans (Da D);have k:RowIs W c.heap.size 75 _:=(hW.block _ (RowIs.lt (Da E))).trans (Da E);exact⟨(l.cell 0).trans rfl,(l.cell 1).trans rfl,(k.cell 0).trans rfl,(k.cell 1).trans rfl,(k.cell 2).trans rfl⟩
    clear D E;rcases Nat.lt_or_ge F f with N|aw
    ·have z1:(F:Int)-(f:Int)<0:=by omega
     have hz:Q=0:=by omega
     clear ag;subst hz;go_upto_region 24 with fail
     go_region_held3 (fun W=>W.cell? ⟨h.heap.size,0,none⟩=some (.int .i64 m)/\W.cell? ⟨h.heap.size,1,none⟩=some (.int .i64 u)/\W.cell? ⟨c.heap.size,0,none⟩=some (.int .i64 m)/\W.cell? ⟨c.heap.size,1,none⟩=some (.int .i64 u)/\W.cell? ⟨c.heap.size,2,none⟩=some (.int .i64 o)) (go_keep) (first|(go_at_call 34;refine(Da HU _ (by first|assumption|exact af.drew)).mono ?_;rintro e W1 ⟨rfl,J⟩;obtain⟨m1,m2,m3,m4,m5⟩:=Da HC _ J))
     go_wp2;go_ret;exact⟨rfl,Da A _ (by assumption)⟩
    ·obtain⟨d,rfl⟩:∃d,F=f+d:=⟨F-f,by omega⟩;have hz:(Q:Int)=64*(d:Int):=by omega
     have z1:((f+d:Nat):Int)-(f:Int)=(d:Int):=by omega
     clear ag;go_upto_region 24 with fail
     go_region_held3 (fun W=>W.cell? ⟨h.heap.size,0,none⟩=some (.int .i64 m)/\W.cell? ⟨h.heap.size,1,none⟩=some (.int .i64 u)/\W.cell? ⟨c.heap.size,0,none⟩=some (.int .i64 m)/\W.cell? ⟨c.heap.size,1,none⟩=some (.int .i64 u)/\W.cell? ⟨c.heap.size,2,none⟩=some (.int .i64 o)) (go_keep) (first|(go_at_call 34;refine(Da HU _ (by first|assumption|exact af.drew)).mono ?_;rintro e W1 ⟨rfl,J⟩;obtain⟨m1,m2,m3,m4,m5⟩:=Da HC _ J))
     go_wp2;go_ret;exact⟨rfl,Da A _ (by assumption)⟩
end Go.Proofs.YtaieidcohdhgpaaGreatDoor
