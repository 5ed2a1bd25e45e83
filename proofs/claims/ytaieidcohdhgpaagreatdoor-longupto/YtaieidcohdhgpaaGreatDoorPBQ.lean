/- Long. -/
import Derived.Test.YtaieidcohdhgpaaGreatDoorPBP
namespace Go.Proofs.YtaieidcohdhgpaaGreatDoor
set_option maxHeartbeats 8000000
set_option maxRecDepth 100000
open Go.RowKit
def UQ(N n0:Nat)(w0:World)(vb tb db stb sb:Nat)(K:KS->Prop)(e:Ending)(w':World):Prop:=e = .returned (.bool true)/\∃b vs,LgI N n0 w0 w' vb tb db stb b K/\SetW n0 w' sb b vs
section
variable{N n0:Nat}{w0 w:World}{vb tb db stb sb:Nat}{b:Nat->Option By}{vs:NV}{K:KS->Prop}
theorem In64.tdiv{c:Int}(h:In64 c)(m:Nat):In64 (c.tdiv m):=by
 obtain⟨h1,h2⟩:=h;unfold In64;rcases Int.le_total 0 c with d|d
 ·rw[Int.tdiv_eq_ediv_of_nonneg d];have f:=Int.ediv_nonneg d (Int.natCast_nonneg m);have g:=Int.ediv_le_self (b:=(m:Int)) d;omega
 ·have e:c.tdiv m = -((-c)/(m:Int)):=by
   rw[<-Int.tdiv_eq_ediv_of_nonneg (by omega),Int.neg_tdiv,Int.neg_neg]
  rw[e];have f:=Int.ediv_nonneg (a := -c) (by omega) (Int.natCast_nonneg m);have g:=Int.ediv_le_self (a := -c) (b:=(m:Int)) (by omega);omega
theorem LgI.sizes(h:LgI N n0 w0 w vb tb db stb b K){i:Nat}(e:i<8):Hid (((b i).getD ⟨#[]⟩).size<=1280):=by
 show((b i).getD ⟨#[]⟩).size<=1280;obtain⟨G,I,CI,_,a⟩:=h.tr
 cases hb:b i with
 | none=>show 0<=1280;omega
 | some s=>
  obtain⟨f,c,d⟩:=a.yes i e s hb;have:=a.fl.sz _ c;show s.size<=1280;rw[<-d];exact this
theorem Kx(h:LgI N n0 w0 w vb tb db stb b K)(hs:SetW n0 w sb b vs){i:Nat}(r:i<8)(c:Int)(hc:In64 c)(n p q m:Nat)(an:n<=1280)(hq:p+q=n)(a:OA)(l t:Nat)(u:vs i = .slice a l t)(E:m=if 0<q then max l n else l)(U:q=0->p=0)(pv:Int)(ai:pv=(p:Int))(G:Nat)(af:G=m-p):
  Calls Tryz.prog 73 #[.int .i64 c,.int .i64 (q:Nat)] w fun e X=>∃D:Nat,e = .returned (.slice (some ⟨D,0,none⟩) q q)/\Hid (Calls Tryz.prog 72 #[.int .i64 i] X fun e x=>e = .returned (.string (pth i))/\Hid (Calls Tryz.prog 59 #[.pointer (some ⟨vb,0,none⟩),.string (pth i),.int .i64 pv,.slice (some ⟨D,0,none⟩) q q] x fun e Y=>e = .returned (.int .i64 0)/\Y.cell? ⟨sb,i,none⟩=some (.slice a l t)/\
   Hid (∀W:World,W.ownsRow 0 5 1 (.slice (some ⟨Y.heap.size,0,none⟩) m m) m (madeCells (Value.int .u8 0).cells (m*1)).toList->Y.grownBy W none->W.cell? ⟨sb,i,none⟩=some (.slice a l t)/\∃f kk,(Builtin.copy_ #[59,59] 3 #[.slice (some ⟨Y.heap.size,0,none⟩) m m,.slice a l t]).run Tryz.prog W = .ok (goInt kk) f/\
   ∃g k2,(Builtin.copy_ #[59,59] 3 #[.slice (some ⟨Y.heap.size,p,none⟩) G G,.slice (some ⟨D,0,none⟩) q q]).run Tryz.prog f = .ok (goInt k2) g/\g.cell? ⟨sb,i,none⟩=some (.slice a l t)/\g.frozen? ⟨sb,i,none⟩=false/\
   Hid (UQ N n0 w0 vb tb db stb sb K (.returned (.bool true)) (g.setCell ⟨sb,i,none⟩ (.slice (some ⟨Y.heap.size,0,none⟩) m m)))))):=by
 subst ai af;refine(Ziz w c q hc (by omega)).mono ?_;rintro e X ⟨d,P,rfl,I,M⟩;refine⟨w.heap.size,rfl,?_⟩;refine(Vh X i r).mono ?_;rintro e x ⟨rfl,C⟩;refine⟨rfl,?_⟩;have J:RowIs x w.heap.size 5 (Dc d):=(C.block _ I.lt).trans I;have h2:=(h.below M).below C;have ak:=(hs.kp (Kp62.below M)).kp (Kp62.below C);have am:Sl x 5 1 (.slice (some ⟨w.heap.size,0,none⟩) d.size d.size) d.size (Dc d):=⟨by rw[Dg,Nat.mul_one],.inr ⟨w.heap.size,d.size,_,rfl,J,Nat.le_refl _,by unfold maxLen;omega,by rw[Dg,Nat.mul_one],by rw[List.take_of_length_le (by rw[Dg];omega)]⟩⟩;have Z:=writeL h2 r p d (by omega) (some ⟨w.heap.size,0,none⟩) d.size am;rw[P]at Z;refine Z.mono ?_;rintro e Y ⟨rfl,hY,S⟩;have A:=ak.kp S;have L:RowIs Y w.heap.size 5 (Dc d):=S _ _ _ J (.inr rfl);refine⟨rfl,by rw[<-u];exact A.cell r,fun W ag R=>?_⟩;have ab:=KI R;have al:=A.kp (Kp62.below ab);refine⟨by rw[<-u];exact al.cell r,?_⟩;obtain⟨a',l',c',B,F⟩:=(A.at' i r).rd;rw[u]at B;simp only[Value.slice.injEq]at B;obtain⟨rfl,rfl,rfl⟩:=B;have ad:=F.1;obtain⟨s,V⟩:∃s,s=(b i).getD ⟨#[]⟩:=⟨_,rfl⟩;rw[<-V]at F ad;obtain⟨f,kk,r1,r2,H⟩:=ZeB Y a l t s F m W ag R;refine⟨f,kk,r1,?_⟩;have aa:RowIs f w.heap.size 5 (Dc d):=(H.block _ L.lt).trans L;have aj:RdB f (some ⟨w.heap.size,0,none⟩) q q d:=⟨P.symm,(fun e=>by cases e),fun j v u=>⟨_,rfl,by rw[Addr.add_lit,Nat.zero_add,aa.cell];exact u⟩⟩;have ae:p+q<=m\/q=0:=by
  by_cases y:0<q
  ·rw[if_pos y]at E;left;omega
  ·right;omega
 have ao:p<=m:=by
  rcases ae with e|e
  ·omega
  ·have:=U e;omega
 obtain⟨g,q1,q2,q3⟩:=UV f Y.heap.size 5 _ r2 p (m-p) (m-p) (some ⟨w.heap.size,0,none⟩) q q d aj (by omega) (by rw[Dg,Ja];omega);have Q:spl (Dc (Di s m)) p (Dc d)=Dc (ovB (b i) p d)/\(ovB (b i) p d).size=m:=by
  unfold ovB ovR;rw[<-V,Int.toNat_natCast];by_cases y:0<q
  ·rw[if_neg (by omega)];rw[if_pos y]at E;refine⟨Zmp s d p m (by omega),?_⟩;rw[QZ];omega
  ·rw[if_pos (by omega)];rw[if_neg y]at E;have ah:=U (by omega);subst ah;have T:m=s.size:=by omega
   refine⟨?_,T.symm⟩;have ac:Dc d=[]:=List.eq_nil_of_length_eq_zero (by rw[Dg];omega);rw[ac,T,Zf9];unfold spl;simp
 rw[Q.1]at q2;have O:Below Y.heap.size Y g:=H.grown q3 H.size (fun k e=>by cases e;exact Nat.le_refl _);have z:=A.kp (Kp62.below O);refine⟨g,d.size,q1,by rw[<-u];exact z.cell r,z.row.frozen i,rfl,_,_,(hY.below O).setS z i _,z.set r (o:=some (ovB (b i) p d)) (.inr ⟨_,Y.heap.size,rfl,by rw[Q.2],q2⟩)⟩
theorem Zl8(h:LgI N n0 w0 w vb tb db stb b K)(D:SetW n0 w sb b vs){i:Nat}(c:i<8)(n:Nat)(A:n<=1280){s:By}{g:Nat}(u:b i=some s)(f:vs i = .slice (some ⟨g,0,none⟩) s.size s.size)(x:RowIs w g 5 (Dc s)):
  Calls Tryz.prog 72 #[.int .i64 i] w fun e X=>e = .returned (.string (pth i))/\Hid (Calls Tryz.prog 60 #[.pointer (some ⟨vb,0,none⟩),.string (pth i),.int .i64 (n:Nat)] X fun e Y=>e = .returned (.int .i64 0)/\
   Hid (∀W:World,W.ownsRow 0 5 1 (.slice (some ⟨Y.heap.size,0,none⟩) n n) n (madeCells (Value.int .u8 0).cells (n*1)).toList->Y.grownBy W none->W.cell? ⟨sb,i,none⟩=some (.slice (some ⟨g,0,none⟩) s.size s.size)/\∃a kk,(Builtin.copy_ #[59,59] 3 #[.slice (some ⟨Y.heap.size,0,none⟩) n n,.slice (some ⟨g,0,none⟩) s.size s.size]).run Tryz.prog W = .ok (goInt kk) a/\a.cell? ⟨sb,i,none⟩=some (.slice (some ⟨g,0,none⟩) s.size s.size)/\a.frozen? ⟨sb,i,none⟩=false/\
   Hid (UQ N n0 w0 vb tb db stb sb K (.returned (.bool true)) (a.setCell ⟨sb,i,none⟩ (.slice (some ⟨Y.heap.size,0,none⟩) n n))))):=by
 refine(Vh w i c).mono ?_;rintro e X ⟨rfl,k⟩;refine⟨rfl,?_⟩;refine(cutL (h.below k) c u n A).mono ?_;rintro e Y ⟨rfl,t,z⟩;have m:Kp62 w Y:=(Kp62.below k).trans z;have p:=D.kp m;have y:=m _ _ _ x (.inr rfl);refine⟨rfl,fun W B l=>?_⟩;have r:=KI l;refine⟨by rw[<-f];exact(p.kp (Kp62.below r)).cell c,?_⟩;have C:RdB Y (some ⟨g,0,none⟩) s.size s.size s:=⟨rfl,(fun e=>by cases e),fun j v f=>⟨_,rfl,by rw[Addr.add_lit,Nat.zero_add,y.cell];exact f⟩⟩;obtain⟨a,kk,E,F,q⟩:=ZeB Y _ _ _ s C n W B l;have d:=p.kp (Kp62.below q);exact⟨a,kk,E,by rw[<-f];exact d.cell c,d.row.frozen i,rfl,_,_,(t.below q).setS d i _,d.set c (o:=some (Di s n)) (.inr ⟨_,Y.heap.size,rfl,by rw[Ja],F⟩)⟩
theorem Zkp(h:LgI N n0 w0 w vb tb db stb b K)(z:SetW n0 w sb b vs)(c:Int)(hc:In64 c):
  Calls Tryz.prog 25 #[.pointer (some ⟨sb,0,none⟩),.pointer (some ⟨vb,0,none⟩),.int .i64 c] w (UQ N n0 w0 vb tb db stb sb K):=by
 obtain⟨c8,h8⟩:∃x,x=c.tdiv 8:=⟨_,rfl⟩;obtain⟨aa,ag⟩:∃x,x=c.tdiv 32:=⟨_,rfl⟩;have ae:In64 c8:=by rw[h8];exact hc.tdiv 8
 have ad:In64 aa:=by rw[ag];exact hc.tdiv 32
 obtain⟨i,hi⟩:∃x,x=JZ c 8:=⟨_,rfl⟩;obtain⟨k,hk⟩:∃x,x=JZ c8 4:=⟨_,rfl⟩;obtain⟨n,hn⟩:∃x,x=JZ aa 1281:=⟨_,rfl⟩;have A:i<8:=by rw[hi];exact Qu _ (by omega)
 have az:k<4:=by rw[hk];exact Qu _ (by omega)
 have Z:n<=1280:=by have:=Qu aa (n:=1281) (by omega);omega
 have p1:=QG w c 8 hc (by omega) (by omega);have p2:=QG w c8 4 ae (by omega) (by omega);have p3:=QG w aa 1281 ad (by omega) (by omega);rw[<-hi]at p1;rw[<-hk]at p2;rw[<-hn]at p3;have w8:IntKind.i64.wrap (c.tdiv 8)=c8:=by rw[<-h8,IntKind.wrap_i64];have:=ae.1;have:=ae.2;omega
 have aA:IntKind.i64.wrap (c.tdiv 32)=aa:=by rw[<-ag,IntKind.wrap_i64];have:=ad.1;have:=ad.2;omega
 have P1:=Db p1;have P2:=Db p2;have P3:=Db p3;have I:=Db hc;clear p1 p2 p3 hi hk hn ae ad hc h8 ag;have ab:=z.cell A;go_enter Tryz.func25,Tryz.ntmps25;go_upto_region 2 with(go_at_call 24;refine(Da P1).mono ?_;rintro e w' ⟨rfl,rfl⟩);go_upto_region 3 with(go_at_call 24;refine(Da P2).mono ?_;rintro e w' ⟨rfl,rfl⟩);go_upto_region 4 with(go_at_call 24;refine(Da P3).mono ?_;rintro e w' ⟨rfl,rfl⟩);clear P1 P2 P3;have ay:=z.row.frozen i;obtain⟨H,C,E,F,G⟩:=info_parts Kt;by_cases am:k=0
 ·subst am;rcases z.at' i A with⟨hb,u⟩|⟨s,g,hb,u,hg⟩
  ·rw[u]at ab;by_cases W:n=0
   ·subst W;have f:=Db (Kx h z A c (Da I) 0 0 0 0 (by omega) rfl none 0 0 u (by rw[if_neg (by omega)]) (fun _=>rfl) 0 rfl 0 rfl);clear z h u;go_upto_region 18 with(go_at_call 73;refine(Da f).mono ?_;rintro e X ⟨D,rfl,d⟩);clear f;go_upto_region 19 with(first|(go_at_call 72;refine(Da d).mono ?_;rintro e R ⟨rfl,v⟩)|(go_at_call 59;refine(Da v).mono ?_;rintro e Y ⟨rfl,O,r⟩));clear d v;go_upto_region 22 with fail;go_upto_region 23 with(at_make;refine wpList_make_full _ rfl _ _ 59 rfl 0 5 H (.int .u8 0) 1 Tryz.underlying59 C E F _ _ _ _ 0 rfl rfl rfl rfl (by rw[G];omega) (by unfold maxLen;omega) (Nat.zero_le _) ?_;intro w1 m j;obtain⟨L,J,kk,t,Q,S,y,M,P,B⟩:=Da r w1 m j;clear m j);clear r;go_upto_region 24 with(at_builtin;refine D5 _ rfl _ _ 59 59 rfl _ _ rfl rfl t ?_);clear t;go_upto_region 25 with(at_builtin;refine D5 _ rfl _ _ 59 59 rfl _ _ rfl rfl y ?_);clear y;go_wp2;go_ret;exact Da B
   ·have aj:0<n:=by omega
    have f:=Db (Kx h z A c (Da I) n 0 n n Z (by omega) none 0 0 u (by rw[if_pos (by omega)];omega) (by omega) 0 rfl n rfl);have U:min (0:Int) (n:Int)=0:=by omega
    clear z h u;go_upto_region 18 with(go_at_call 73;refine(Da f).mono ?_;rintro e X ⟨D,rfl,d⟩);clear f;go_upto_region 19 with(first|(go_at_call 72;refine(Da d).mono ?_;rintro e R ⟨rfl,v⟩)|(go_at_call 59;refine(Da v).mono ?_;rintro e Y ⟨rfl,O,r⟩));clear d v;go_upto_region 22 with fail;go_upto_region 23 with(at_make;refine wpList_make_full _ rfl _ _ 59 rfl 0 5 H (.int .u8 0) 1 Tryz.underlying59 C E F _ _ _ _ n rfl rfl rfl rfl (by rw[G];omega) (by unfold maxLen;omega) (Nat.zero_le _) ?_;intro w1 m j;obtain⟨L,J,kk,t,Q,S,y,M,P,B⟩:=Da r w1 m j;clear m j);clear r;go_upto_region 24 with(at_builtin;refine D5 _ rfl _ _ 59 59 rfl _ _ rfl rfl t ?_);clear t;go_upto_region 25 with(at_builtin;refine D5 _ rfl _ _ 59 59 rfl _ _ rfl rfl y ?_);clear y;go_wp2;go_ret;exact Da B
  ·rw[u]at ab;have HP:Hid (Calls Tryz.prog 72 #[.int .i64 i] w' fun e X=>e = .returned (.string (pth i))/\Hid (Calls Tryz.prog 63 #[.pointer (some ⟨vb,0,none⟩),.string (pth i)] X fun e Y=>e = .returned (.int .i64 0)/\Y.cell? ⟨sb,i,none⟩=some (vs i)/\Y.frozen? ⟨sb,i,none⟩=false/\Hid (UQ N n0 w0 vb tb db stb sb K (.returned (.bool true)) (Y.setCell ⟨sb,i,none⟩ (.slice none 0 0))))):=by
    refine(Vh w' i A).mono ?_;rintro e X ⟨rfl,hX⟩;refine⟨rfl,?_⟩;refine(ZnI (h.below hX) A hb).mono ?_;rintro e Y ⟨rfl,hY,ap⟩;have af:=(z.kp (Kp62.below hX)).kp ap;refine⟨rfl,af.cell A,af.row.frozen i,rfl,_,_,?_,af.set A (o:=none) (.inl ⟨rfl,rfl⟩)⟩;exact hY.setS af i _
   clear z h hg;go_wp2_with (first|(go_at_call 72;refine(Da HP).mono ?_;rintro e X ⟨rfl,d⟩)|(go_at_call 63;refine(Da d).mono ?_;rintro e Y ⟨rfl,O,fY,f⟩));go_ret;exact Da f
 ·by_cases an:k=1
  ·subst an;rcases z.at' i A with⟨hb,u⟩|⟨s,g,hb,u,hg⟩
   ·rw[u]at ab;by_cases W:n=0
    ·subst W;have f:=Db (Kx h z A c (Da I) 0 0 0 0 (by omega) rfl none 0 0 u (by rw[if_neg (by omega)]) (fun _=>rfl) 0 rfl 0 rfl);clear z h u;go_upto_region 18 with(go_at_call 73;refine(Da f).mono ?_;rintro e X ⟨D,rfl,d⟩);clear f;go_upto_region 19 with(first|(go_at_call 72;refine(Da d).mono ?_;rintro e R ⟨rfl,v⟩)|(go_at_call 59;refine(Da v).mono ?_;rintro e Y ⟨rfl,O,r⟩));clear d v;go_upto_region 22 with fail;go_upto_region 23 with(at_make;refine wpList_make_full _ rfl _ _ 59 rfl 0 5 H (.int .u8 0) 1 Tryz.underlying59 C E F _ _ _ _ 0 rfl rfl rfl rfl (by rw[G];omega) (by unfold maxLen;omega) (Nat.zero_le _) ?_;intro w1 m j;obtain⟨L,J,kk,t,Q,S,y,M,P,B⟩:=Da r w1 m j;clear m j);clear r;go_upto_region 24 with(at_builtin;refine D5 _ rfl _ _ 59 59 rfl _ _ rfl rfl t ?_);clear t;go_upto_region 25 with(at_builtin;refine D5 _ rfl _ _ 59 59 rfl _ _ rfl rfl y ?_);clear y;go_wp2;go_ret;exact Da B
    ·have aj:0<n:=by omega
     have f:=Db (Kx h z A c (Da I) n 0 n n Z (by omega) none 0 0 u (by rw[if_pos (by omega)];omega) (by omega) 0 rfl n rfl);have U:min (0:Int) (n:Int)=0:=by omega
     clear z h u;go_upto_region 18 with(go_at_call 73;refine(Da f).mono ?_;rintro e X ⟨D,rfl,d⟩);clear f;go_upto_region 19 with(first|(go_at_call 72;refine(Da d).mono ?_;rintro e R ⟨rfl,v⟩)|(go_at_call 59;refine(Da v).mono ?_;rintro e Y ⟨rfl,O,r⟩));clear d v;go_upto_region 22 with fail;go_upto_region 23 with(at_make;refine wpList_make_full _ rfl _ _ 59 rfl 0 5 H (.int .u8 0) 1 Tryz.underlying59 C E F _ _ _ _ n rfl rfl rfl rfl (by rw[G];omega) (by unfold maxLen;omega) (Nat.zero_le _) ?_;intro w1 m j;obtain⟨L,J,kk,t,Q,S,y,M,P,B⟩:=Da r w1 m j;clear m j);clear r;go_upto_region 24 with(at_builtin;refine D5 _ rfl _ _ 59 59 rfl _ _ rfl rfl t ?_);clear t;go_upto_region 25 with(at_builtin;refine D5 _ rfl _ _ 59 59 rfl _ _ rfl rfl y ?_);clear y;go_wp2;go_ret;exact Da B
   ·rw[u]at ab;have HP:=Db (Zl8 h z A n Z hb u hg);clear z h hg;go_wp2_with (first|(go_at_call 72;refine(Da HP).mono ?_;rintro e X ⟨rfl,d⟩)|(go_at_call 60;refine(Da d).mono ?_;rintro e Y ⟨rfl,r⟩)|(at_make;refine wpList_make_full _ rfl _ _ 59 rfl 0 5 H (.int .u8 0) 1 Tryz.underlying59 C E F _ _ _ _ n rfl rfl rfl rfl (by rw[G];omega) (by unfold maxLen;omega) (Nat.zero_le _) ?_;intro w1 m j;obtain⟨L,J,kk,t,M,P,f⟩:=Da r w1 m j;clear m j)|(at_builtin;refine D5 _ rfl _ _ 59 59 rfl _ _ rfl rfl t ?_));go_ret;exact Da f
  ·obtain⟨a,l,c0,u,ak⟩:=(z.at' i A).rd;rw[u]at ab;have ac:Hid (l<=1280):=by
    rw[show l=_ from ak.1];exact Da (h.sizes A)
   clear ak;by_cases ao:k=2
   ·subst ao;by_cases W:n=0
    ·subst W;have f:=Db (Kx h z A c (Da I) 0 0 0 l (by omega) rfl a l c0 u (by rw[if_neg (by omega)]) (fun _=>rfl) 0 rfl l rfl);have ah:l<=1280:=Da ac;have U:min (0:Int) (l:Int)=0:=by omega
     clear z h u;go_upto_region 18 with(go_at_call 73;refine(Da f).mono ?_;rintro e X ⟨D,rfl,d⟩);clear f;go_upto_region 19 with(first|(go_at_call 72;refine(Da d).mono ?_;rintro e R ⟨rfl,v⟩)|(go_at_call 59;refine(Da v).mono ?_;rintro e Y ⟨rfl,O,r⟩));clear d v;go_upto_region 22 with fail;go_upto_region 23 with(at_make;refine wpList_make_full _ rfl _ _ 59 rfl 0 5 H (.int .u8 0) 1 Tryz.underlying59 C E F _ _ _ _ l rfl rfl rfl rfl (by rw[G];omega) (by unfold maxLen;omega) (Nat.zero_le _) ?_;intro w1 m j;obtain⟨L,J,kk,t,Q,S,y,M,P,B⟩:=Da r w1 m j;clear m j);clear r;go_upto_region 24 with(at_builtin;refine D5 _ rfl _ _ 59 59 rfl _ _ rfl rfl t ?_);clear t;go_upto_region 25 with(at_builtin;refine D5 _ rfl _ _ 59 59 rfl _ _ rfl rfl y ?_);clear y;go_wp2;go_ret;exact Da B
    ·obtain⟨p,hp⟩:∃p,p=n/2:=⟨_,rfl⟩;obtain⟨q,hq⟩:∃q,q=n-p:=⟨_,rfl⟩;have ed:(n:Int)/2=(p:Int):=by omega
     have ew:IntKind.i64.wrap ((n:Int)-(p:Int))=(q:Int):=by rw[IntKind.wrap_i64];omega
     have ax:(n:Int)-(p:Int)=(q:Int):=by omega
     have aj:0<q:=by omega
     have ah:l<=1280:=Da ac;by_cases ar:l<n
     ·obtain⟨T,V⟩:∃T,T=n-p:=⟨_,rfl⟩;have f:=Db (Kx h z A c (Da I) n p q n Z (by omega) a l c0 u (by rw[if_pos (by omega)];omega) (by omega) (p:Nat) rfl T V);have U:min (p:Int) (n:Int)=(p:Int):=by omega
      have au:n-p=T:=V.symm;have av:¬n=p:=by omega
      have aq:p<=n:=by omega
      have aw:p<=1280:=by omega
      have al:=Db (And.intro hp hq);clear hp hq V;have ai:(l:Int)<(n:Int):=by omega
      clear z h u;go_upto_region 18 with(go_at_call 73;refine(Da f).mono ?_;rintro e X ⟨D,rfl,d⟩);clear f;go_upto_region 19 with(first|(go_at_call 72;refine(Da d).mono ?_;rintro e R ⟨rfl,v⟩)|(go_at_call 59;refine(Da v).mono ?_;rintro e Y ⟨rfl,O,r⟩));clear d v;go_upto_region 22 with fail;go_upto_region 23 with(at_make;refine wpList_make_full _ rfl _ _ 59 rfl 0 5 H (.int .u8 0) 1 Tryz.underlying59 C E F _ _ _ _ n rfl rfl rfl rfl (by rw[G];omega) (by unfold maxLen;omega) (Nat.zero_le _) ?_;intro w1 m j;obtain⟨L,J,kk,t,Q,S,y,M,P,B⟩:=Da r w1 m j;clear m j);clear r;go_upto_region 24 with(at_builtin;refine D5 _ rfl _ _ 59 59 rfl _ _ rfl rfl t ?_);clear t;go_upto_region 25 with(at_builtin;refine D5 _ rfl _ _ 59 59 rfl _ _ rfl rfl y ?_);clear y;go_wp2;go_ret;exact Da B
     ·obtain⟨T,V⟩:∃T,T=l-p:=⟨_,rfl⟩;have f:=Db (Kx h z A c (Da I) n p q l Z (by omega) a l c0 u (by rw[if_pos (by omega)];omega) (by omega) (p:Nat) rfl T V);have U:min (p:Int) (l:Int)=(p:Int):=by omega
      have au:l-p=T:=V.symm;have av:¬l=p:=by omega
      have aq:p<=l:=by omega
      have aw:p<=1280:=by omega
      have al:=Db (And.intro hp hq);clear hp hq V;have ai:¬(l:Int)<(n:Int):=by omega
      clear z h u;go_upto_region 18 with(go_at_call 73;refine(Da f).mono ?_;rintro e X ⟨D,rfl,d⟩);clear f;go_upto_region 19 with(first|(go_at_call 72;refine(Da d).mono ?_;rintro e R ⟨rfl,v⟩)|(go_at_call 59;refine(Da v).mono ?_;rintro e Y ⟨rfl,O,r⟩));clear d v;go_upto_region 22 with fail;go_upto_region 23 with(at_make;refine wpList_make_full _ rfl _ _ 59 rfl 0 5 H (.int .u8 0) 1 Tryz.underlying59 C E F _ _ _ _ l rfl rfl rfl rfl (by rw[G];omega) (by unfold maxLen;omega) (Nat.zero_le _) ?_;intro w1 m j;obtain⟨L,J,kk,t,Q,S,y,M,P,B⟩:=Da r w1 m j;clear m j);clear r;go_upto_region 24 with(at_builtin;refine D5 _ rfl _ _ 59 59 rfl _ _ rfl rfl t ?_);clear t;go_upto_region 25 with(at_builtin;refine D5 _ rfl _ _ 59 59 rfl _ _ rfl rfl y ?_);clear y;go_wp2;go_ret;exact Da B
   ·have e3:k=3:=by omega
    subst e3;by_cases W:n=0
    ·subst W;have f:=Db (Kx h z A c (Da I) 0 0 0 l (by omega) rfl a l c0 u (by rw[if_neg (by omega)]) (fun _=>rfl) 0 rfl l rfl);have ah:l<=1280:=Da ac;have U:min (0:Int) (l:Int)=0:=by omega
     clear z h u;go_upto_region 18 with(go_at_call 73;refine(Da f).mono ?_;rintro e X ⟨D,rfl,d⟩);clear f;go_upto_region 19 with(first|(go_at_call 72;refine(Da d).mono ?_;rintro e R ⟨rfl,v⟩)|(go_at_call 59;refine(Da v).mono ?_;rintro e Y ⟨rfl,O,r⟩));clear d v;go_upto_region 22 with fail;go_upto_region 23 with(at_make;refine wpList_make_full _ rfl _ _ 59 rfl 0 5 H (.int .u8 0) 1 Tryz.underlying59 C E F _ _ _ _ l rfl rfl rfl rfl (by rw[G];omega) (by unfold maxLen;omega) (Nat.zero_le _) ?_;intro w1 m j;obtain⟨L,J,kk,t,Q,S,y,M,P,B⟩:=Da r w1 m j;clear m j);clear r;go_upto_region 24 with(at_builtin;refine D5 _ rfl _ _ 59 59 rfl _ _ rfl rfl t ?_);clear t;go_upto_region 25 with(at_builtin;refine D5 _ rfl _ _ 59 59 rfl _ _ rfl rfl y ?_);clear y;go_wp2;go_ret;exact Da B
    ·have aj:0<n:=by omega
     have ah:l<=1280:=Da ac;by_cases ar:l<n
     ·have f:=Db (Kx h z A c (Da I) n 0 n n Z (by omega) a l c0 u (by rw[if_pos (by omega)];omega) (by omega) 0 rfl n rfl);have U:min (0:Int) (n:Int)=0:=by omega
      have ai:(l:Int)<(n:Int):=by omega
      clear z h u;go_upto_region 18 with(go_at_call 73;refine(Da f).mono ?_;rintro e X ⟨D,rfl,d⟩);clear f;go_upto_region 19 with(first|(go_at_call 72;refine(Da d).mono ?_;rintro e R ⟨rfl,v⟩)|(go_at_call 59;refine(Da v).mono ?_;rintro e Y ⟨rfl,O,r⟩));clear d v;go_upto_region 22 with fail;go_upto_region 23 with(at_make;refine wpList_make_full _ rfl _ _ 59 rfl 0 5 H (.int .u8 0) 1 Tryz.underlying59 C E F _ _ _ _ n rfl rfl rfl rfl (by rw[G];omega) (by unfold maxLen;omega) (Nat.zero_le _) ?_;intro w1 m j;obtain⟨L,J,kk,t,Q,S,y,M,P,B⟩:=Da r w1 m j;clear m j);clear r;go_upto_region 24 with(at_builtin;refine D5 _ rfl _ _ 59 59 rfl _ _ rfl rfl t ?_);clear t;go_upto_region 25 with(at_builtin;refine D5 _ rfl _ _ 59 59 rfl _ _ rfl rfl y ?_);clear y;go_wp2;go_ret;exact Da B
     ·have f:=Db (Kx h z A c (Da I) n 0 n l Z (by omega) a l c0 u (by rw[if_pos (by omega)];omega) (by omega) 0 rfl l rfl);have U:min (0:Int) (l:Int)=0:=by omega
      have ai:¬(l:Int)<(n:Int):=by omega
      clear z h u;go_upto_region 18 with(go_at_call 73;refine(Da f).mono ?_;rintro e X ⟨D,rfl,d⟩);clear f;go_upto_region 19 with(first|(go_at_call 72;refine(Da d).mono ?_;rintro e R ⟨rfl,v⟩)|(go_at_call 59;refine(Da v).mono ?_;rintro e Y ⟨rfl,O,r⟩));clear d v;go_upto_region 22 with fail;go_upto_region 23 with(at_make;refine wpList_make_full _ rfl _ _ 59 rfl 0 5 H (.int .u8 0) 1 Tryz.underlying59 C E F _ _ _ _ l rfl rfl rfl rfl (by rw[G];omega) (by unfold maxLen;omega) (Nat.zero_le _) ?_;intro w1 m j;obtain⟨L,J,kk,t,Q,S,y,M,P,B⟩:=Da r w1 m j;clear m j);clear r;go_upto_region 24 with(at_builtin;refine D5 _ rfl _ _ 59 59 rfl _ _ rfl rfl t ?_);clear t;go_upto_region 25 with(at_builtin;refine D5 _ rfl _ _ 59 59 rfl _ _ rfl rfl y ?_);clear y;go_wp2;go_ret;exact Da B
end
def RdI(w:World)(a:OA)(xs:List Int):Prop:=∀(j:Nat) v,xs[j]?=some v->∃g f,a=some ⟨g,f,none⟩/\w.cell? ⟨g,f+j,none⟩=some (.int .i64 v)
theorem LgI.pk{N d:Nat}{g w:World}{f tb a e:Nat}{b:Nat->Option By}{K:KS->Prop}(h:LgI N d g w f tb a e b K):PkgOk w:=by
 obtain⟨G,I,CI,⟨rd,V,E,vi,c⟩,_⟩:=h.tr;exact c.pk
theorem Zmu{N j:Nat}{w wr:World}{d tb o y k:Nat}{b:Nat->Option By}{vs:NV}(F:j=w.heap.size)(h:LgI N j w wr d tb o y b Km)(G:SetW j wr k b vs)(C:N<=2000000):
  Calls Tryz.prog 26 #[.pointer (some ⟨d,0,none⟩)] wr fun e Y=>e = .returned (.int .i64 0)/\Hid (Calls Tryz.prog 28 #[.pointer (some ⟨d,0,none⟩)] Y fun e Z=>∃a l c,e = .returned (.slice a l c)/\Hid (Calls Tryz.prog 27 #[.slice a l c] Z fun e U=>∃f:Nat,e = .returned (.tuple #[.pointer (some ⟨f,0,none⟩),.int .i64 0])/\
   Hid (Calls Tryz.prog 29 #[.pointer (some ⟨k,0,none⟩),.pointer (some ⟨d,0,none⟩)] U fun e m=>e = .returned (.bool true)/\Hid (Calls Tryz.prog 29 #[.pointer (some ⟨k,0,none⟩),.pointer (some ⟨f,0,none⟩)] m fun e n=>e = .returned (.bool true)/\Hid (Below w.heap.size w n))))):=by
 refine(syncL h (fun _ e=>e) C).mono ?_;rintro e Y ⟨rfl,i,J⟩;refine⟨rfl,?_⟩;have H:=G.kp J;obtain⟨s,vk,L,M,vw,K,ps,ep,x,B,A,z,h1,h2,h3,h4,h5⟩:=i.st;refine(imageV Y d tb o y i.vol L M vw K s.D x.st.disk).mono ?_;rintro e Z ⟨a,l,c,rfl,D,r⟩;refine⟨a,l,c,rfl,?_⟩;have t:=i.below r;refine(openL A z (by omega) B Z a l c D.1 x.st.disk.2.1.2 t.pk).mono ?_;rintro e U ⟨f,rfl,I,p⟩;refine⟨f,rfl,?_⟩;have q:=t.below p;have v:=(H.kp (Kp62.below r)).kp (Kp62.below p);refine(Zge q.vl v).mono ?_;rintro e m ⟨rfl,g⟩;refine⟨rfl,?_⟩;refine(Zge (I.below g) (v.kp (Kp62.below g))).mono ?_;rintro e n ⟨rfl,E⟩;refine⟨rfl,?_⟩;have u:=((q.below g).below E).bel;rw[F]at u;exact u
def Zm5(w:World)(e:Ending)(w':World):Prop:=e = .returned (.bool true)/\Below w.heap.size w w'
theorem ZkZ(w:World)(hp:PkgOk w)(a:OA)(xs:List Int)(am:Nat)(hx:RdI w a xs)(aj:∀x∈xs,In64 x)(hl:xs.length<=1048576)(B A:Int)(ht:In64 B)(hs:In64 A):
  Calls Tryz.prog 9 #[.slice a xs.length am,.int .i64 B,.int .i64 A] w (Zm5 w):=by
 obtain⟨m,V⟩:∃n,n=xs.length:=⟨_,rfl⟩;obtain⟨C,ad⟩:∃n,n=JZ B 150:=⟨_,rfl⟩;obtain⟨z,T⟩:∃n,n=JZ A 5:=⟨_,rfl⟩;obtain⟨h,an⟩:∃n,n=z+1:=⟨_,rfl⟩;obtain⟨n,ap⟩:∃n,n=m+C:=⟨_,rfl⟩;have aE:C<150:=by rw[ad];exact Qu _ (by omega)
 have aw:z<5:=by rw[T];exact Qu _ (by omega)
 have HO:=Db (Zio w hp);rw[<-V];have af:Hid (∀W,Calls Tryz.prog 24 #[.int .i64 B,.int .i64 150] W fun e O=>e = .returned (.int .i64 (C:Nat))/\O=W):=fun W=>by
  have:=QG W B 150 ht (by omega) (by omega);rw[<-ad]at this;exact this
 have ag:Hid (∀W,Calls Tryz.prog 24 #[.int .i64 A,.int .i64 5] W fun e O=>e = .returned (.int .i64 (z:Nat))/\O=W):=fun W=>by
  have:=QG W A 5 hs (by omega) (by omega);rw[<-T]at this;exact this
 have L:=Db hx;have al:=Db aj;have HL:=Db V;have az:m<=1048576:=by omega
 have aH:IntKind.i64.wrap ((m:Int)+(C:Int))=(n:Int):=by rw[IntKind.wrap_i64];omega
 have aI:(m:Int)+(C:Int)=(n:Int):=by omega
 have aF:IntKind.i64.wrap (1+(z:Int))=(h:Int):=by rw[IntKind.wrap_i64];omega
 have aG:1+(z:Int)=(h:Int):=by omega
 have aB:n<=1048726:=by omega
 have ay:1<=h/\h<=5:=by omega
 clear hx aj V ht hs hp ad an hl ap T;go_enter Tryz.func9,Tryz.ntmps9;go_upto_region 2 with(go_at_call 23;refine(Da HO).mono ?_;rintro e X ⟨j,tb,H,I,rfl,ai⟩;have K:=Db ai;clear ai);clear HO;go_upto_region 4 with fail;go_upto_region 5 with fail;obtain⟨Y,eY,xY,kY,sY,bY⟩:=De X [.slice none 0 0,.slice none 0 0,.slice none 0 0,.slice none 0 0,.slice none 0 0,.slice none 0 0,.slice none 0 0,.slice none 0 0] 62;rw[show X.alloc (.cells #[.slice none 0 0,.slice none 0 0,.slice none 0 0,.slice none 0 0,.slice none 0 0,.slice none 0 0,.slice none 0 0,.slice none 0 0] 62)=Y from eY];obtain⟨o,ac⟩:∃s,s=X.heap.size:=⟨_,rfl⟩;rw[<-ac]at xY ⊢;have J:Hid (∃M b vs,LgI M w.heap.size w Y j tb H I b Km/\SetW w.heap.size Y o b vs/\M<=0):=by
  refine⟨0,fun _=>none,fun _ => .slice none 0 0,(Da K).below bY,⟨xY,fun i _ => .inl ⟨rfl,rfl⟩,?_⟩,Nat.le_refl _⟩;rw[ac];exact(Da K).bel.size
 clear eY xY kY sY bY K ac;go_upto_region 7 with(go_at_call 24;refine(Da af _).mono ?_;rintro e w' ⟨rfl,rfl⟩);go_upto_region 8 with(go_at_call 24;refine(Da ag _).mono ?_;rintro e w' ⟨rfl,rfl⟩);clear af ag;go_wp2
 go_loopw [9,12] (fun c i wr=>∃(G:Int) (q:Nat),q<=n/\c = .int .i64 G/\i = .int .i64 q/\Hid (In64 G)/\Hid (∃M b vs,LgI M w.heap.size w wr j tb H I b Km/\SetW w.heap.size wr o b vs/\M<=q)) (fun _ i _=>n-(intOf i).toNat)
 case atStart=>exact⟨0,0,Nat.zero_le _,rfl,rfl,⟨by omega,by omega⟩,J⟩
 case round=>
  obtain⟨G,q,hq,rfl,rfl,au,u⟩:=hrel;by_cases aA:q<n
  ·obtain⟨c1,h1⟩:∃x,IntKind.i64.wrap (G*31)=x:=⟨_,rfl⟩;obtain⟨F,Q⟩:∃x,IntKind.i64.wrap (c1+(q:Int))=x:=⟨_,rfl⟩;have R:Hid (In64 F):=by rw[<-Q];exact In64.wrap _
   obtain⟨r,hr⟩:∃r,r=q%h:=⟨_,rfl⟩;have aD:(q:Int)%(h:Int)=(r:Int):=by rw[hr];exact(Int.natCast_emod q h).symm
   have ao:¬(h:Int)=0:=by omega
   have ax:((h:Int)==0)=false:=by rw[beq_eq_false_iff_ne];exact ao
   have D:Hid (∀d,In64 d->Calls Tryz.prog 25 #[.pointer (some ⟨o,0,none⟩),.pointer (some ⟨j,0,none⟩),.int .i64 d] wr fun e Y=>e = .returned (.bool true)/\Hid (∃M b vs,LgI M w.heap.size w Y j tb H I b Km/\SetW w.heap.size Y o b vs/\M<=q+1)/\Hid (Calls Tryz.prog 26 #[.pointer (some ⟨j,0,none⟩)] Y fun e Z=>e = .returned (.int .i64 0)/\Hid (∃M b vs,LgI M w.heap.size w Z j tb H I b Km/\SetW w.heap.size Z o b vs/\M<=q+1))):=fun d hd=>by
    obtain⟨M,b,vs,P,g2,g3⟩:=Da u;refine(Zkp P g2 d hd).mono ?_;rintro e Y ⟨rfl,b',ak,q1,q2⟩;refine⟨rfl,⟨M,b',ak,q1,q2,by omega⟩,?_⟩;refine(syncL q1 (fun _ e=>e) (by omega)).mono ?_;rintro e Z ⟨rfl,q3,q4⟩;exact⟨rfl,M+1,b',ak,q3.any (fun _ e=>e.any),q2.kp q4,by omega⟩
   by_cases aC:q<m
   ·obtain⟨v,hv⟩:∃v,xs[q]?=some v:=⟨_,List.getElem?_eq_getElem (by have:=Da HL;omega)⟩;have ae:In64 v:=Da al v (List.mem_of_getElem? hv);obtain⟨g,f,ha,S⟩:=Da L q v hv;have av:wr.cell? ⟨g,f+q,none⟩=some (.int .i64 v):=by
     obtain⟨M,b,vs,P,_⟩:=Da u;exact(P.bel.cell (p:=⟨g,f+q,none⟩) (World.block_lt_of_cell? _ _ S)).trans S
    have y:=Db (Da D v ae);have ah:=Db ae;subst ha;have aq:(q:Int)<(m:Int):=by omega
    clear D S hv ae L u J hr;by_cases aa:r=0
    ·subst aa;go_wp2_with (first|(go_at_call 25;refine(Da y).mono ?_;rintro e E ⟨rfl,t,k⟩)|(go_at_call 26;refine(Da k).mono ?_;rintro e Z1 ⟨rfl,N⟩))
     go_roundw
     case rel=>exact⟨v,q+1,by omega,rfl,by go_num,ah,N⟩
     case measure=>simp[intOf];omega
    ·have ab:¬(r:Int)=0:=by omega
     have ar:((r:Int)==0)=false:=by rw[beq_eq_false_iff_ne];exact ab
     go_wp2_with (first|(go_at_call 25;refine(Da y).mono ?_;rintro e E ⟨rfl,t,k⟩))
     go_roundw
     case rel=>exact⟨v,q+1,by omega,rfl,by go_num,ah,t⟩
     case measure=>simp[intOf];omega
   ·have y:=Db (Da D F (Da R));have aq:¬(q:Int)<(m:Int):=by omega
    clear D L u J hr;by_cases aa:r=0
    ·subst aa;go_wp2_with (first|(go_at_call 25;refine(Da y).mono ?_;rintro e E ⟨rfl,t,k⟩)|(go_at_call 26;refine(Da k).mono ?_;rintro e Z1 ⟨rfl,N⟩))
     go_roundw
     case rel=>exact⟨F,q+1,by omega,rfl,by go_num,R,N⟩
     case measure=>simp[intOf];omega
    ·have ab:¬(r:Int)=0:=by omega
     have ar:((r:Int)==0)=false:=by rw[beq_eq_false_iff_ne];exact ab
     go_wp2_with (first|(go_at_call 25;refine(Da y).mono ?_;rintro e E ⟨rfl,t,k⟩))
     go_roundw
     case rel=>exact⟨F,q+1,by omega,rfl,by go_num,R,t⟩
     case measure=>simp[intOf];omega
  ·obtain rfl:q=n:=by omega
   have HE:Hid (Calls Tryz.prog 26 #[.pointer (some ⟨j,0,none⟩)] wr fun e Y=>e = .returned (.int .i64 0)/\Hid (Calls Tryz.prog 28 #[.pointer (some ⟨j,0,none⟩)] Y fun e Z=>∃a l c,e = .returned (.slice a l c)/\Hid (Calls Tryz.prog 27 #[.slice a l c] Z fun e U=>∃xb:Nat,e = .returned (.tuple #[.pointer (some ⟨xb,0,none⟩),.int .i64 0])/\
     Hid (Calls Tryz.prog 29 #[.pointer (some ⟨o,0,none⟩),.pointer (some ⟨j,0,none⟩)] U fun e U1=>e = .returned (.bool true)/\Hid (Calls Tryz.prog 29 #[.pointer (some ⟨o,0,none⟩),.pointer (some ⟨xb,0,none⟩)] U1 fun e U2=>e = .returned (.bool true)/\Hid (Below w.heap.size w U2)))))):=by
    obtain⟨M,b,vs,h1,Q,h3⟩:=Da u;exact Zmu rfl h1 Q (by omega)
   go_upto_region 21 with(go_at_call 26;refine(Da HE).mono ?_;rintro e E ⟨rfl,H2⟩);go_upto_region 22 with(first|(go_at_call 28;refine(Da H2).mono ?_;rintro e Z ⟨a1,l1,c1,rfl,H3⟩)|(go_at_call 27;refine(Da H3).mono ?_;rintro e U ⟨xb,rfl,H4⟩));go_upto_region 23 with(go_at_call 29;refine(Da H4).mono ?_;rintro e U1 ⟨rfl,H5⟩);go_upto_region 24 with(go_at_call 29;refine(Da H5).mono ?_;rintro e U2 ⟨rfl,k⟩);go_wp2;go_ret;exact⟨rfl,Da k⟩
end Go.Proofs.YtaieidcohdhgpaaGreatDoor
