/- Dumps. -/
import Derived.Test.YtaieidcohdhgpaaGreatDoorZBD
import Derived.Test.YtaieidcohdhgpaaGreatDoorZAY
namespace Go.Proofs.YtaieidcohdhgpaaGreatDoor
set_option maxHeartbeats 40000000
set_option maxRecDepth 100000
open Go.RowKit Go.Maps
def Li(n:Nat):Bool:=(match Lib.atoiAll (Lib.itoa (n:Int)) with | .ok v=>v==(n:Int)|_=>false) && (Lib.itoa (n:Int)).all (fun c=>decide (48<=c/\c<=57))
theorem Z0:(List.range 1281).all Li=true:=by kernel_rfl
theorem Rc{n:Nat}(h:n<=1280):Lib.atoiAll (Lib.itoa (n:Int)) = .ok (n:Int)/\∀c∈Lib.itoa (n:Int),48<=c/\c<=57:=by
 have a:=BC.1 Z0 n (BX.2 (by omega));unfold Li at a;rw[A8]at a;refine⟨?_,fun c d=>Ba (BC.1 a.2 c d)⟩;have b:=a.1
 split at b
 ·rename_i v e;rw[CE]at b;rw[e,b]
 ·cases b
def Ll(b:Nat):Bool:=decide (DQ (JO (UInt8.ofNat b))=some [UInt8.ofNat b]) && (JO (UInt8.ofNat b)).all (fun c=>decide (c≠10))
theorem Zd:(List.range 256).all Ll=true:=by kernel_rfl
theorem hex_ok(b:UInt8):DQ (JO b)=some [b]/\10∉JO b:=by
 have a:=BC.1 Zd b.toNat (BX.2 b.toNat_lt);unfold Ll at a;rw[FE,A8]at a;exact⟨Ba a.1,fun c=>Ba (BC.1 a.2 10 c) rfl⟩
theorem Uu:∀l:List UInt8,DQ (DB l)=some l/\10∉DB l
 | []=>⟨rfl,by simp[DB]⟩
 | b::l=>by
  obtain⟨c,d⟩:=Uu l;obtain⟨a,f⟩:=hex_ok b;have e:DB (b::l)=JO b++DB l:=rfl;refine⟨?_,by rw[e,As,not_or];exact⟨f,d⟩⟩;rw[e];unfold JO at a ⊢;show DQ (Gp (b.toNat/16)::Gp (b.toNat%16)::DB l)=_;unfold DQ at a ⊢
  split at a
  ·cases a
  ·rename_i g;rw[if_neg g,c];simp only[DQ,Cn]at a ⊢;injection a with a;injection a with a;rw[a]
theorem T0:∀(cs:List (List UInt8)) (f:Nat) (d r:List UInt8) (v:Nat),(∀c∈cs,c≠[])->v=d.length+cs.flatten.length->cs.length<f->Ip f (v:Int) d (cs.flatMap (fun c=>DB c++[10])++r)=some (d++cs.flatten,r)
 | [],f+1,d,r,v,_,hv,_=>by
  unfold Ip;simp only[List.flatten_nil,Ay,List.flatMap_nil,AJ,AZ]at hv ⊢;rw[if_neg (by omega)]
 | c::cs,f+1,d,r,v,hne,hv,hf=>by
  have a:=hne c (by simp);have aa:0<c.length:=ET.2 a;rw[Fa,Ab]at hv;have e:(c::cs).flatMap (fun c=>DB c++[10])++r=DB c++10::(cs.flatMap (fun c=>DB c++[10])++r):=by
   simp
  rw[e];unfold Ip;rw[if_pos (by omega),KC (Uu c).2,if_pos rfl];dsimp only;rw[(Uu c).1];dsimp only;rw[T0 cs f (d++c) r v (fun x b=>hne x (AA _ b)) (by rw[Ab];omega) (by simp only[Af]at hf;omega),Fa,AC]
theorem Oh(l:List UInt8):∀n,(List.range n).flatMap (fun x=>(l.drop (x*32)).take 32)=l.take (32*n)
 | 0=>by simp
 | n+1=>by
  rw[E5,EU,Oh l n];simp only[AW,List.flatMap_nil,AZ];rw[show 32*(n+1)=32*n+32 by omega,List.take_add,show n*32=32*n by omega]
theorem ZE{s:By}(n:s.size<=1280)(r:List UInt8):JB (BL (Gm s.size)) (Jc s++r)=some (BL s,r):=by
 obtain⟨i,_⟩:=Rc n;unfold JB;rw[show BL (Gm s.size)=Lib.itoa (s.size:Int) from DN _,i];dsimp only;obtain⟨N,j⟩:=ex ((s.size+32-1)/32);obtain⟨a,b⟩:∃a:List (List UInt8),a=(List.range N).map (fun x=>BL (G7 s 32 x)):=⟨_,rfl⟩;have d:Jc s=a.flatMap (fun c=>DB c++[10]):=by
  unfold Jc Jq;rw[<-j,b,List.flatMap_map]
 have k:∀x,BL (G7 s 32 x)=((BL s).drop (x*32)).take 32:=fun x=>by unfold G7;rw[Ur,Cf]
 have f:a.flatten=BL s:=by
  have:a.flatten=(List.range N).flatMap (fun x=>((BL s).drop (x*32)).take 32):=by
   rw[b,List.flatMap_def]
   congr 1
   exact Cc (fun x _=>k x)
  rw[this,Oh,AI (by rw[DJ];omega)]
 have m:∀c∈a,c≠[]:=fun c g e=>by
  rw[b]at g;obtain⟨x,h,rfl⟩:=A2.1 g;have h:=BX.1 h;have:=C1 List.length e;rw[DJ,Qf]at this;simp only[Ay]at this;omega
 have l:a.length<(Jc s++r).length+1:=by
  have:∀a:List (List UInt8),a.length<=(a.flatMap (fun c=>DB c++[10])).length:=fun a=>by
   induction a with
   | nil=>simp
   | cons c a ih=>simp only[AW,Ab,Af,Ay];omega
  have:=this a;rw[Ab,d];omega
 have:=T0 a ((Jc s++r).length+1) [] r s.size m (by rw[f,DJ];simp) l;rw[f,AJ,<-d]at this;exact this
open Go.RowKit
def Gv:List UInt8->List UInt8->List (List UInt8)×Bool
 | cur,[]=>([],cur.isEmpty)
 | cur,c::r=>if c=10 then (cur::(Gv [] r).1,(Gv [] r).2) else Gv (cur++[c]) r
def Gl:List UInt8->List UInt8->List (List UInt8)
 | cur,[]=>[cur]
 | cur,c::r=>if c=32 then cur::Gl [] r else Gl (cur++[c]) r
def J2(l:List (List UInt8)):LV:=l.map (fun x => .string (ba x))
theorem WX{l:List (List UInt8)}{j:Nat}{x:List UInt8}(h:l[j]?=some x):(J2 l)[j]?=some (.string (ba x)):=by unfold J2;rw[Be,h];rfl
theorem ZM(l:List (List UInt8))(x:List UInt8):J2 (l++[x])=J2 l++[.string (ba x)]:=by simp[J2]
theorem MD(wr:World)(b:Nat)(q:b<=wr.heap.size)(a:OA)(n c:Nat)(l:List (List UInt8))(y:Sl wr 9 1 (.slice a n c) l.length (J2 l))(t:∀g,(Value.slice a n c).ownBlock=some g->b<=g)(x:List UInt8)(s:By)(C:s=ba x)(hl:l.length<=2000001):
  ∃d m f w',(Builtin.append_ #[84,84] 84 #[.slice a n c,.slice (some ⟨wr.heap.size,0,none⟩) 1 1]).run Tryz.prog (wr.alloc (.cells #[.string s] 9)) = .ok (.slice d m f) w'/\Hid (Sl w' 9 1 (.slice d m f) (l++[x]).length (J2 (l++[x]))/\Below b wr w'/\∀g,(Value.slice d m f).ownBlock=some g->b<=g):=by
 obtain⟨H,B,E,F,G⟩:=Bn Q7;have z:Sl (wr.alloc (.cells #[.string s] 9)) 9 1 (.slice a n c) l.length (J2 l):=Sl.of_owns (y.owns.alloc _);have o:Bw wr (wr.alloc (.cells #[.string s] 9)):=(Ag _ _).alloc (Aa _) _;obtain⟨v',w',v,p,k,w⟩:=JZ (P:=Tryz.prog) (wr.alloc (.cells #[.string s] 9)) 84 84 9 H _ 1 16 Tryz.underlying84 B E F G rfl (by decide) (.slice a n c) l.length (J2 l) z ⟨wr.heap.size,0,none⟩ 1 1 [.string s] rfl
  (fun j u D=>by
   rw[AF,Au,Ch _ _ _ _ rfl]
   simpa using D) (by simp[Value.oneCell']) (by unfold maxLen;omega) (by omega)
 obtain⟨d,m,f,rfl⟩:=p.shape;refine⟨d,m,f,w',v,?_,?_,fun g A=>?_⟩
 ·rw[ZM,<-C,Ab];exact p
 ·refine⟨k.os,k.tape,k.output,Ae o.size k.size,fun i r=>?_⟩;rw[k.block i (Ao (Ao r q) o.size) (fun e=>?_),o.block i (Ao r q)];have:=t i e.symm;omega
 ·rcases w g A with h|h
  ·exact t g h
  ·have:=o.size;omega
theorem Ro(p:By)(f k:Nat):p.extract f k=ba (((BL p).drop f).take (k-f)):=by rw[<-Ur,QF]
theorem Ug(p:By){k:Nat}(h:k<p.size):(BL p)[k]?=some p[k]:=RR p k h
theorem Qv(p:By){k:Nat}(h:k<p.size):(BL p).drop k=p[k]::(BL p).drop (k+1):=by
 obtain⟨b,a⟩:=Ad.1 (Ug p h);rw[BY b,a]
theorem R3(p:By){f k:Nat}(hf:f<=k)(h:k<p.size):((BL p).drop f).take (k+1-f)=((BL p).drop f).take (k-f)++[p[k]]:=by
 rw[show k+1-f=(k-f)+1 by omega,Bg,A3,show f+(k-f)=k by omega,Ug p h];rfl
theorem ZP(p:By)(w:World)(hp:p.size<=2000000):
  Cl 41 #[.string p] w fun e w'=>∃a n c,e = .returned (.tuple #[.slice a n c,.bool (Gv [] (BL p)).2])/\Sl w' 9 1 (.slice a n c) (Gv [] (BL p)).1.length (J2 (Gv [] (BL p)).1)/\Bw w w'/\∀g,(Value.slice a n c).ownBlock=some g->w.heap.size<=g:=by
 obtain⟨T,A⟩:=ex (Gv [] (BL p));rw[<-A];have B:=Db A;clear A;go_enter Tryz.func41,Tryz.ntmps41;go_wp2
 go_loopw [4,5,6] (fun v f i wr=>∃(a:OA) (n c b k:Nat) (l:List (List UInt8)),v = .slice a n c/\f = .int .i64 b/\i = .int .i64 k/\b<=k/\k<=p.size/\
   Hid (Sl wr 9 1 (.slice a n c) l.length (J2 l))/\Hid (T.1=l++(Gv (((BL p).drop b).take (k-b)) ((BL p).drop k)).1/\T.2=(Gv (((BL p).drop b).take (k-b)) ((BL p).drop k)).2/\l.length<=k)/\Hid (∀g,(Value.slice a n c).ownBlock=some g->w.heap.size<=g)/\Hid (Bw w wr)) (fun _ _ i _=>p.size-(intOf i).toNat)
 case atStart=>exact⟨none,0,0,0,0,[],rfl,rfl,rfl,Aa _,Aw _,⟨rfl,.inl ⟨rfl,rfl⟩⟩,⟨by rw[Da B];simp,by rw[Da B];simp,Aw _⟩,fun g h=>by simp[Value.ownBlock]at h,Ag _ _⟩
 case round=>
  obtain⟨a,n,c,b,k,l,rfl,rfl,rfl,K,hk,r,q,s,o⟩:=hrel;by_cases C:k<p.size
  ·obtain⟨d,j,u⟩:=Da q;rw[Qv p C]at d j;by_cases m:p[k]=10
   ·have L:((p[k].toNat:Int)==10)=true:=by rw[m];rfl
    rw[m]at d j;unfold Gv at d j;rw[if_pos rfl]at d j;obtain⟨F,N,G,w1,M,z⟩:=MD wr w.heap.size (Da o).size a n c l (Da r) (Da s) _ _ (Ro p b k) (by omega);have t:Hid (T.1=(l++[((BL p).drop b).take (k-b)])++(Gv (((BL p).drop (k+1)).take (k+1-(k+1))) ((BL p).drop (k+1))).1/\T.2=(Gv (((BL p).drop (k+1)).take (k+1-(k+1))) ((BL p).drop (k+1))).2/\(l++[((BL p).drop b).take (k-b)]).length<=k+1):=by
     refine⟨?_,?_,by rw[Ab];show _+1<=_;omega⟩
     ·rw[d,CO,Co,AC];rfl
     ·rw[j,CO,Co]
    have D:Hid (Bw w w1):=(Da o).trans (Da z).2.1;clear d j u q o s r m;go_wp2_with (at_builtin;refine Aj _ rfl _ _ 84 84 rfl _ _ rfl rfl _ _ M ?_)
    go_roundw
    case rel=>exact⟨F,N,G,k+1,k+1,_,rfl,by go_num,by go_num,Aa _,by omega,(Da z).1,t,(Da z).2.2,D⟩
    case measure=>simp[intOf];omega
   ·have L:((p[k].toNat:Int)==10)=false:=by
     rw[AH];intro e;exact m (EA.1 (by show p[k].toNat=10;omega))
    unfold Gv at d j;rw[if_neg m,<-R3 p K C]at d j;have t:Hid (T.1=l++(Gv (((BL p).drop b).take (k+1-b)) ((BL p).drop (k+1))).1/\T.2=(Gv (((BL p).drop b).take (k+1-b)) ((BL p).drop (k+1))).2/\l.length<=k+1):=⟨d,j,by omega⟩;clear d j u q m;go_wp2
    go_roundw
    case rel=>exact⟨a,n,c,b,k+1,l,rfl,rfl,by go_num,by omega,by omega,r,t,s,o⟩
    case measure=>simp[intOf];omega
  ·obtain rfl:k=p.size:=by omega
   have E:Hid (T.1=l/\T.2=((b:Int)==(p.size:Int))):=by
    obtain⟨d,j,u⟩:=Da q;rw[Bf (show(BL p).length<=p.size by rw[DJ];exact Aa _)]at d j;unfold Gv at d j;refine⟨by rw[d,AZ],?_⟩;rw[j];by_cases J:b=p.size
    ·subst J;simp
    ·rw[AH.2 (by omega)]
     cases hc:((BL p).drop b).take (p.size-b) with
     | nil=>
      have:=C1 List.length hc;rw[Ar,AK,DJ]at this;simp only[Ay]at this;omega
     | cons x y=>rfl
   clear q;go_wp2
   go_ret2
   obtain⟨H,I⟩:=Da E;refine⟨a,n,c,by rw[I];rfl,?_,Da o,Da s⟩;rw[H];exact Da r
theorem Zk2(p:By)(w:World)(hp:p.size<=2000000):
  Cl 42 #[.string p] w fun e w'=>∃a n c,e = .returned (.slice a n c)/\Sl w' 9 1 (.slice a n c) (Gl [] (BL p)).length (J2 (Gl [] (BL p)))/\Bw w w'/\∀g,(Value.slice a n c).ownBlock=some g->w.heap.size<=g:=by
 obtain⟨T,B⟩:=ex (Gl [] (BL p));rw[<-B];have L:=Db B;clear B;go_enter Tryz.func42,Tryz.ntmps42;go_wp2
 go_loopw [3,4,5] (fun v f i wr=>∃(a:OA) (n c d k:Nat) (l:List (List UInt8)),v = .slice a n c/\f = .int .i64 d/\i = .int .i64 k/\d<=k/\k<=p.size+1/\
   Hid (Sl wr 9 1 (.slice a n c) l.length (J2 l))/\Hid ((k<=p.size->T=l++Gl (((BL p).drop d).take (k-d)) ((BL p).drop k))/\(k=p.size+1->T=l)/\l.length<=k)/\Hid (∀g,(Value.slice a n c).ownBlock=some g->w.heap.size<=g)/\Hid (Bw w wr)) (fun _ _ i _=>p.size+1-(intOf i).toNat)
 case atStart=>exact⟨none,0,0,0,0,[],rfl,rfl,rfl,Aa _,Aw _,⟨rfl,.inl ⟨rfl,rfl⟩⟩,⟨fun _=>by rw[Da L];simp,fun e=>by omega,Aw _⟩,fun g h=>by simp[Value.ownBlock]at h,Ag _ _⟩
 case round=>
  obtain⟨a,n,c,d,k,l,rfl,rfl,rfl,M,hk,s,o,x,m⟩:=hrel;by_cases u:k=p.size+1
  ·have K:=Db ((Da o).2.1 u);subst u;have hd:¬((p.size:Int)+1<=p.size):=by omega
   clear o;go_wp2;go_ret;refine⟨a,n,c,rfl,?_,Da m,Da x⟩;rw[Da K];exact Da s
  have N:k<=p.size:=by omega
  obtain⟨b,-,A⟩:=Da o;have b:=b N;by_cases t:k<p.size/\(BL p)[k]? ≠ some 32
  ·obtain⟨j,G⟩:=t;have q:p[k]≠32:=fun e=>G (by rw[Ug p j,e])
   have P:((p[k].toNat:Int)==32)=false:=by
    rw[AH];intro e;exact q (EA.1 (by show p[k].toNat=32;omega))
   have H:((k:Int)==(p.size:Int))=false:=by rw[AH];omega
   rw[Qv p j]at b;unfold Gl at b;rw[if_neg q,<-R3 p M j]at b;have y:Hid ((k+1<=p.size->T=l++Gl (((BL p).drop d).take (k+1-d)) ((BL p).drop (k+1)))/\(k+1=p.size+1->T=l)/\l.length<=k+1):=⟨fun _=>b,fun e=>by omega,by omega⟩;clear b A o q G u;go_wp2
   go_roundw
   case rel=>exact⟨a,n,c,d,k+1,l,rfl,rfl,by go_num,by omega,by omega,s,y,x,m⟩
   case measure=>simp[intOf];omega
  ·obtain⟨D,J,E,w1,I,r⟩:=MD wr w.heap.size (Da m).size a n c l (Da s) (Da x) _ _ (Ro p d k) (by omega);have C:Hid (Bw w w1):=(Da m).trans (Da r).2.1;have y:Hid ((k+1<=p.size->T=(l++[((BL p).drop d).take (k-d)])++Gl (((BL p).drop (k+1)).take (k+1-(k+1))) ((BL p).drop (k+1)))/\(k+1=p.size+1->T=l++[((BL p).drop d).take (k-d)])/\(l++[((BL p).drop d).take (k-d)]).length<=k+1):=by
    refine⟨fun O=>?_,fun O=>?_,by rw[Ab];show _+1<=_;omega⟩
    ·have j:k<p.size:=by omega
     have q:p[k]=32:=by
      rcases FA (p[k]=32) with e|e
      ·exact e
      ·exact absurd ⟨j,by rw[Ug p j];intro z;exact e (BG z)⟩ t
     rw[Qv p j,q]at b;unfold Gl at b;rw[if_pos rfl]at b;rw[b,CO,Co,AC];rfl
    ·obtain rfl:k=p.size:=by omega
     rw[Bf (show(BL p).length<=p.size by rw[DJ];exact Aa _)]at b;unfold Gl at b;exact b
   by_cases j:k<p.size
   ·have P:((p[k].toNat:Int)==32)=true:=by
     rcases FA (p[k]=32) with e|e
     ·rw[e];rfl
     ·exact absurd ⟨j,by rw[Ug p j];intro z;exact e (BG z)⟩ t
    have H:((k:Int)==(p.size:Int))=false:=by rw[AH];omega
    clear b A o u t s x m;go_wp2_with (at_builtin;refine Aj _ rfl _ _ 84 84 rfl _ _ rfl rfl _ _ I ?_)
    go_roundw
    case rel=>exact⟨D,J,E,k+1,k+1,_,rfl,by go_num,by go_num,Aa _,by omega,(Da r).1,y,(Da r).2.2,C⟩
    case measure=>simp[intOf];omega
   ·have F:k=p.size:=by omega
    have H:((k:Int)==(p.size:Int))=true:=by rw[CE];omega
    have aa:=Db F;clear b A o u t s x m F;go_wp2_with (at_builtin;refine Aj _ rfl _ _ 84 84 rfl _ _ rfl rfl _ _ I ?_)
    go_roundw
    case rel=>exact⟨D,J,E,k+1,k+1,_,rfl,by go_num,by go_num,Aa _,by omega,(Da r).1,y,(Da r).2.2,C⟩
    case measure=>simp[intOf];omega
def IW:Nat->List UInt8->Option Nat
 | n,[]=>if n<=1280 then some n else none
 | n,c::r=>if c.toNat<48\/57<c.toNat\/1280<n then none else IW (10*n+(c.toNat-48)) r
theorem Sf(n:Nat):IW n []=if n<=1280 then some n else none:=rfl
theorem Sy(n:Nat)(c:UInt8)(r:List UInt8):IW n (c::r)=if c.toNat<48\/57<c.toNat\/1280<n then none else IW (10*n+(c.toNat-48)) r:=rfl
def KJ(s:List UInt8):Option Nat:=if s=[] then none else IW 0 s
def NI:Option Nat->Int
 | none => -1
 | some n=>n
theorem Zkm(p:By)(w:World)(hp:p.size<=2000000):Cl 45 #[.string p] w fun e w'=>e = .returned (.int .i64 (NI (KJ (BL p))))/\w'=w:=by
 obtain⟨T,s⟩:=ex (KJ (BL p));rw[<-s];have z:=Uv p;have l:Hid (T=if p.size<1 then none else IW 0 (BL p)):=by
  show T=_;rw[s];unfold KJ;by_cases h:BL p=[]
  ·rw[if_pos h,if_pos (by rw[<-DJ,h];simp)]
  ·rw[if_neg h,if_neg (fun e=>h (Ak (by rw[DJ];omega)))]
 clear s;have u:=Db z;clear z;go_enter Tryz.func45,Tryz.ntmps45;go_wp2
 go_loopw [3,4] (fun v i wr=>∃n k:Nat,v = .int .i64 n/\i = .int .i64 k/\k<=p.size/\n<=20000/\Hid (IW 0 (BL p)=IW n ((BL p).drop k))/\wr=w) (fun _ i _=>p.size-(intOf i).toNat)
 case atStart=>exact⟨0,0,rfl,rfl,Aw _,Aw _,by show _=_;rw[CP],rfl⟩
 case round=>
  obtain⟨n,k,rfl,rfl,hk,hn,f,rfl⟩:=hrel;by_cases D:k<p.size
  ·have a:=Da f;rw[Qv p D,Sy]at a;obtain⟨c,d⟩:∃c:Nat,c=p[k].toNat:=⟨_,rfl⟩;have aa:c<256:=by rw[d];exact p[k].toNat_lt
   rw[<-d]at a;by_cases o:c<48\/57<c\/1280<n
   ·rw[if_pos o]at a;have b:Hid (T=none):=by
     show T=none;rw[Da l,if_neg (by omega)];exact a
    have g:=Db d;have t:(c:Int)<48\/(57:Int)<c\/(1280:Int)<n:=by omega
    clear a f d o;rcases FA ((c:Int)<48) with q|q
    ·have x:((p[k].toNat:Int)<48):=by rw[<-Da g];exact q
     clear t;go_wp2;go_ret;rw[Da b];exact⟨rfl,rfl⟩
    ·have x:¬((p[k].toNat:Int)<48):=by rw[<-Da g];exact q
     rcases FA ((57:Int)<c) with r|r
     ·have y:((p[k].toNat:Int) > 57):=by rw[<-Da g];exact r
      clear t;go_wp2;go_ret;rw[Da b];exact⟨rfl,rfl⟩
     ·have y:¬((p[k].toNat:Int) > 57):=by rw[<-Da g];exact r
      have m:(n:Int) > 1280:=by omega
      clear t;go_wp2;go_ret;rw[Da b];exact⟨rfl,rfl⟩
   ·rw[if_neg o]at a;have g:=Db d;have x:¬((p[k].toNat:Int)<48):=by rw[<-d];omega
    have y:¬((p[k].toNat:Int) > 57):=by rw[<-d];omega
    have m:¬(n:Int) > 1280:=by omega
    have A:=Db a;clear a f d o;go_wp2
    go_roundw
    case rel=>
     have e:=Da g;refine⟨10*n+(c-48),k+1,?_,by go_num,by omega,by omega,A,trivial⟩;rw[e]
     go_num
    case measure=>simp[intOf];omega
  ·obtain rfl:k=p.size:=by omega
   have a:=Da f;rw[Bf (show(BL p).length<=p.size by rw[DJ];exact Aa _),Sf]at a;by_cases j:p.size<1
   ·have b:Hid (T=none):=by show _=_;rw[Da l,if_pos j]
    have C:p.toList.isEmpty=true:=by rw[Da u];exact CN j
    clear a f;go_wp2;go_ret;rw[Da b];exact⟨rfl,rfl⟩
   ·have C:p.toList.isEmpty=false:=by rw[Da u];exact BW j
    by_cases m:n<=1280
    ·rw[if_pos m]at a;have b:Hid (T=some n):=by show _=_;rw[Da l,if_neg j];exact a
     have B:¬(n:Int) > 1280:=by omega
     clear a f;go_wp2;go_ret;rw[Da b];exact⟨rfl,rfl⟩
    ·rw[if_neg m]at a;have b:Hid (T=none):=by show _=_;rw[Da l,if_neg j];exact a
     have B:(n:Int) > 1280:=by omega
     clear a f;go_wp2;go_ret;rw[Da b];exact⟨rfl,rfl⟩
def Ly(b:Nat):Bool:=(List.range 16).all (fun k=>decide (Gp k=UInt8.ofNat b->GJ (UInt8.ofNat b)=(k:Int))) && ((List.range 16).any (fun k=>decide (Gp k=UInt8.ofNat b)) || decide (GJ (UInt8.ofNat b) = -1))
theorem SR:(List.range 256).all Ly=true:=by kernel_rfl
theorem dg_hit(b:UInt8){k:Nat}(c:k<16)(h:Gp k=b):GJ b=(k:Int):=by
 have a:=BC.1 SR b.toNat (BX.2 b.toNat_lt);unfold Ly at a;rw[FE,A8]at a;exact Ba (BC.1 a.1 k (BX.2 c)) h
theorem WF(b:UInt8)(h:∀k,k<16->Gp k≠b):GJ b = -1:=by
 have a:=BC.1 SR b.toNat (BX.2 b.toNat_lt);unfold Ly at a;rw[FE,A8,ED]at a;rcases a.2 with c|c
 ·obtain⟨k,d,e⟩:=List.any_eq_true.1 c;exact absurd (Ba e) (h k (BX.1 d))
 ·exact Ba c
theorem T1(b:UInt8)(w:World):Cl 105 #[.int .u8 (b.toNat:Int)] w fun e w'=>e = .returned (.int .i64 (GJ b))/\w'=w:=by
 obtain⟨c,g⟩:∃c:Nat,c=b.toNat:=⟨_,rfl⟩;rw[<-g];have m:=Db g;clear g;go_enter Tryz.func105,Tryz.ntmps105;go_wp2
 go_loopw [3] (fun i wr=>∃k:Nat,i = .int .i64 k/\k<=16/\Hid (∀j,j<k->Gp j≠b)/\wr=w) (fun i _=>16-(intOf i).toNat)
 case atStart=>exact⟨0,rfl,Aw _,fun j h=>by omega,rfl⟩
 case round=>
  obtain⟨k,rfl,hk,o,rfl⟩:=hrel;by_cases p:k<16
  ·have s:JA.size=16:=rfl;have l:=Ue (n:=k) (by rw[s];exact p);obtain⟨x,d⟩:∃x:Nat,x=(Gp k).toNat:=⟨_,rfl⟩;have aa:∀h:k<JA.size,(JA[k]'h).toNat=x:=fun h=>by rw[d,<-l]
   by_cases a:Gp k=b
   ·have q:x=c:=by rw[d,a,Da m]
    have f:=Db (dg_hit b p a);subst q;clear a d l;go_upto_region 4 with fail;rw[show(⟨#[48,49,50,51,52,53,54,55,56,57,97,98,99,100,101,102]⟩:By)=JA from rfl];go_wp2;go_ret;rw[Da f];exact⟨rfl,rfl⟩
   ·have q:((x:Int)==(c:Int))=false:=by
     rw[AH];intro e;refine a (EA.1 ?_);have:=Da m;omega
    have r:Hid (∀j,j<k+1->Gp j≠b):=fun j hj=>by
     rcases Bk j k with h|h
     ·exact Da o j h
     ·obtain rfl:j=k:=by omega
      exact a
    clear a d l;go_upto_region 4 with fail;rw[show(⟨#[48,49,50,51,52,53,54,55,56,57,97,98,99,100,101,102]⟩:By)=JA from rfl];go_wp2
    go_roundw
    case rel=>exact⟨k+1,by go_num,by omega,r,trivial⟩
    case measure=>simp[intOf];omega
  ·obtain rfl:k=16:=by omega
   have f:=Db (WF b (Da o));go_wp2;go_ret;rw[Da f];exact⟨rfl,rfl⟩
def Mv(n:Nat):Bool:=decide (n<10\/(Gm n).data=(Gm (n/10)++Gm (n%10)).data)
theorem Zv:(List.range 1281).all Mv=true:=by kernel_rfl
theorem Ya{n:Nat}(h:n<=1280)(h2:10<=n):Gm n=Gm (n/10)++Gm (n%10):=by
 have a:=Ba (BC.1 Zv n (BX.2 (by omega)));rcases a with a|a
 ·omega
 ·exact AY (by rw[a])
def P3:By:=⟨#[48,49,50,51,52,53,54,55,56,57]⟩
theorem Wo:(List.range 10).all (fun n=>decide ((P3.extract n (n+1)).data=(Gm n).data))=true:=by kernel_rfl
theorem ZkI:∀(n:Nat) (_:n<=1280) (w:World),Cl 164 #[.int .i64 (n:Int)] w fun e w'=>e = .returned (.string (Gm n))/\w'=w:=by
 intro n
 induction n using Nat.strongRecOn with
 | ind n ih=>
  intro i w;by_cases f:n<10
  ·have o:Hid (P3.extract n (n+1)=Gm n):=AY (by rw[Ba (BC.1 Wo n (BX.2 f))]);clear ih i;go_enter Tryz.func164,Tryz.ntmps164;go_wp2;go_ret;exact⟨by show Ending.returned (Value.string (P3.extract n (n+1)))=_;rw[Da o],rfl⟩
  ·have c:=Db (ih (n/10) (by omega) (by omega));have d:=Db (ih (n%10) (by omega) (by omega));have a:=Db (Ya i (by omega));have l:=M7 (n/10) (by omega);have m:=M7 (n%10) (by omega);obtain⟨q,j⟩:=ex (n/10);obtain⟨r,k⟩:=ex (n%10);have h1:Int.tdiv (n:Int) 10=(q:Int):=by rw[Fv (by omega)];omega
   have h2:Int.tmod (n:Int) 10=(r:Int):=by rw[BF (by omega)];omega
   rw[<-j]at c a l;rw[<-k]at d a m;obtain⟨A,g⟩:=ex (Gm q);obtain⟨B,h⟩:=ex (Gm r);rw[<-g]at c a l;rw[<-h]at d a m;rw[Da a];have aa:¬(n:Int)<10:=by omega
   have ab:RowKit.wrap64 (q:Int)=(q:Int):=by unfold RowKit.wrap64;omega
   have ac:RowKit.wrap64 (r:Int)=(r:Int):=by unfold RowKit.wrap64;omega
   clear ih a j k g h f;go_enter Tryz.func164,Tryz.ntmps164;go_wp2_with (first|(go_at_call 164;refine(Da c _).mono ?_;rintro e w' ⟨rfl,b⟩;rw[b];clear b c)|(go_at_call 164;refine(Da d _).mono ?_;rintro e w' ⟨rfl,b⟩;rw[b];clear b));go_ret;exact⟨rfl,rfl⟩
theorem UX(wr:World)(b:Nat)(o:b<=wr.heap.size)(a:OA)(n c:Nat)(s:List UInt8)(h:cP b wr (.slice a n c) (ba s))(z:UInt8)(hl:s.length+1<=4000000):
  ∃a' n' c' w',(Builtin.append_ #[59,59] 59 #[.slice a n c,.slice (some ⟨wr.heap.size,0,none⟩) 1 1]).run Tryz.prog (wr.alloc (.cells #[.int .u8 (z.toNat:Int)] 5)) = .ok (.slice a' n' c') w'/\Hid (cP b w' (.slice a' n' c') (ba (s++[z]))/\Below b wr w'):=by
 obtain⟨W,m,q,ab,ac,d⟩:=De wr [.int .u8 (z.toNat:Int)] 5;obtain⟨g,r,i,t,f,l,k,aa⟩:=Kj W b (by omega) _ _ (h.below d) ⟨wr.heap.size,0,none⟩ 1 1 ⟨#[z]⟩ rfl (fun j u p=>by
  rw[AF,Au,q.cell];exact p) (by rw[DR];omega)
 rw[<-m]at f;refine⟨g,r,i,t,f,?_,?_⟩
 ·have e:ba (s++[z])=ba s++⟨#[z]⟩:=by
   apply KB;simp only[KQ,DN]
   rfl
  rw[e];exact l
 ·exact(d.mono o).trans ((h.below d).frBelow (by omega) k)
def J8:Nat->List UInt8->List UInt8
 | _,[]=>[]
 | k,b::r=>JO b++(if k%32=31\/r=[] then [10] else [])++J8 (k+1) r
theorem Na(k:Nat)(b:UInt8)(r:List UInt8):J8 k (b::r)=JO b++(if k%32=31\/r=[] then [10] else [])++J8 (k+1) r:=rfl
theorem Px:∀(c:List UInt8) (k:Nat) (r:List UInt8),c≠[]->(k%32+c.length=32\/r=[]/\k%32+c.length<=32)->J8 k (c++r)=DB c++[10]++J8 (k+c.length) r
 | [b],k,r,_,h=>by
  simp only[Bh]at h;have d:k%32=31\/r=[]:=h.elim (fun h=>.inl (by omega)) (fun h=>.inr h.1)
  show J8 k (b::r)=_;rw[Na,if_pos d]
  rfl
 | b::b'::c,k,r,_,h=>by
  simp only[Af]at h;have f:¬(k%32=31\/b'::(c++r)=[]):=by
   rintro(e|e)
   ·rcases h with h|h<;>omega
   ·cases e
  have ih:=Px (b'::c) (k+1) r (by simp) (by
   simp only[Af];rcases h with h|⟨a,h2⟩
   ·exact .inl (by omega)
   ·exact .inr ⟨a,by omega⟩)
  show J8 k (b::(b'::(c++r)))=_;rw[Na,if_neg f,AZ];rw[AL]at ih;rw[ih];show JO b++(DB (b'::c)++[10]++_)=JO b++DB (b'::c)++[10]++_;simp only[AC,Af,Eh,EY 1]
theorem ZkA(s:By):J8 0 (BL s)=Jc s:=by
 have h:∀m i,i+m=(s.size+31)/32->J8 (32*i) ((BL s).drop (32*i))=(List.range' i m).flatMap (fun x=>DB (BL (G7 s 32 x))++[10]):=by
  intro m
  induction m with
  | zero=>
   intro i f;rw[Bf (by rw[DJ];omega)];rfl
  | succ m ih=>
   intro i f;have c:BL (G7 s 32 i)=((BL s).drop (32*i)).take 32:=by unfold G7;rw[Ur,Cf,Nat.mul_comm]
   have b:(((BL s).drop (32*i)).take 32).length=min 32 (s.size-32*i):=by rw[Ar,AK,DJ]
   have d:(BL s).drop (32*i)=((BL s).drop (32*i)).take 32++(BL s).drop (32*(i+1)):=by
    conv=>lhs;rw[<-BT 32 ((BL s).drop (32*i))]
    rw[List.drop_drop];congr 2
   rw[List.range'_succ,AW,c,<-ih (i+1) (by omega)]
   conv=>lhs;rw[d]
   by_cases hm:32*(i+1)<=s.size
   ·have a:(((BL s).drop (32*i)).take 32).length=32:=by omega
    rw[Px _ _ _ (fun e=>by rw[e]at a;cases a) (.inl (by omega)),a,Nat.mul_succ]
   ·have g:(BL s).drop (32*(i+1))=[]:=Bf (by rw[DJ];omega);rw[g,Px _ _ _ (fun e=>by rw[e]at b;simp only[Ay]at b;omega) (.inr ⟨rfl,by omega⟩)]
    rfl
 have:=h ((s.size+31)/32) 0 (by omega);rw[Nat.mul_zero,CP]at this;rw[this];unfold Jc Jq;rw[List.range_eq_range']
 rfl
theorem SW:∀(l:List UInt8) (k:Nat),(J8 k l).length<=3*l.length
 | [],_=>Aw _
 | b::r,k=>by
  have:=SW r (k+1);rw[Na,Ab,Ab,Af];have h1:(JO b).length=2:=rfl;have h2:((if k%32=31\/r=[] then [10] else []:List UInt8)).length<=1:=by split<;>simp
  omega
theorem Xd(p:By)(w:World)(hp:p.size<=1280):
  Cl 165 #[.string p] w fun e w'=>e = .returned (.string (ba (Jc p)))/\Bw w w':=by
 rw[<-ZkA];obtain⟨T,B⟩:=ex (J8 0 (BL p));rw[<-B];have Z:Hid (T.length<=3840):=by show _<=_;rw[B];have:=SW (BL p) 0;rw[DJ]at this;omega
 have Y:=Db B;clear B;go_enter Tryz.func165,Tryz.ntmps165;go_wp2
 go_loopw [3,4] (fun v i wr=>∃(a:OA) (n c k:Nat) (s:List UInt8),v = .slice a n c/\i = .int .i64 k/\k<=p.size/\Hid (cP w.heap.size wr (.slice a n c) (ba s))/\Hid (T=s++J8 k ((BL p).drop k))/\Hid (Bw w wr)) (fun _ i _=>p.size-(intOf i).toNat)
 case atStart=>exact⟨none,0,0,0,[],rfl,rfl,Aw _,cP.nil _ _,by show _=_;rw[Da Y,CP];rfl,Ag _ _⟩
 case round=>
  obtain⟨a,n,c,k,s,rfl,rfl,hk,t,r,q⟩:=hrel;by_cases ab:k<p.size
  ·have b:=Da r;rw[Qv p ab,Na]at b;have an:s.length+3<=4000000:=by
    have:=Da Z;rw[b,Ab]at this;omega
   have P:=(Da q).size;obtain⟨v,D⟩:∃v:Nat,v=p[k].toNat:=⟨_,rfl⟩;have ap:v<256:=by rw[D];exact p[k].toNat_lt
   obtain⟨n1,Q⟩:∃n,n=v/16:=⟨_,rfl⟩;obtain⟨d,R⟩:∃n,n=v%16:=⟨_,rfl⟩;have O:JO p[k]=[Gp n1,Gp d]:=by unfold JO;rw[<-D,<-Q,<-R]
   rw[O]at b;obtain⟨a1,l1,c1,w1,h,l⟩:=UX wr w.heap.size P a n c s (Da t) (Gp n1) (by omega);obtain⟨F,K,H,N,j,o⟩:=UX w1 w.heap.size (Ae P (Da l).2.size) a1 l1 c1 _ (Da l).1 (Gp d) (by rw[Ab];show _+1+1<=_;omega);have u:Bw w N:=(Da q).trans ((Da l).2.trans (Da o).2);have ag:Int.tdiv (v:Int) 16=(n1:Int):=by rw[Fv (by omega)];omega
   have aj:Int.tmod (v:Int) 16=(d:Int):=by rw[BF (by omega)];omega
   have ah:IntKind.u8.wrap (n1:Int)=(n1:Int):=by simp[IntKind.wrap,IntKind.bits,IntKind.signed];omega
   have ak:IntKind.u8.wrap (d:Int)=(d:Int):=by simp[IntKind.wrap,IntKind.bits,IntKind.signed];omega
   have af:(n1:Int)<16:=by omega
   have ai:(d:Int)<16:=by omega
   have am:(k:Int)<(p.size:Int):=by omega
   have ao:(p[k].toNat:Int)=(v:Int):=by rw[D]
   have m1:n1<16:=by omega
   have m2:d<16:=by omega
   have V:(Gp n1).toNat=((⟨#[48,49,50,51,52,53,54,55,56,57,97,98,99,100,101,102]⟩:By)[n1]'m1).toNat:=by rw[<-Ue (show n1<16 from m1)];rfl
   have W:(Gp d).toNat=((⟨#[48,49,50,51,52,53,54,55,56,57,97,98,99,100,101,102]⟩:By)[d]'m2).toNat:=by rw[<-Ue (show d<16 from m2)];rfl
   rw[V]at h;rw[W]at j;obtain⟨g,J⟩:∃m:Nat,m=k%32:=⟨_,rfl⟩;have al:Int.tmod (k:Int) 32=(g:Int):=by rw[BF (by omega)];omega
   have C:(BL p).drop (k+1)=[]↔k+1=p.size:=by
    rw[List.drop_eq_nil_iff,DJ];omega
   rw[<-J]at b;have ae:=Db J;clear D O Q R V W J;by_cases f:g=31\/(BL p).drop (k+1)=[]
   ·rw[if_pos f]at b;obtain⟨G,L,I,X,M,E⟩:=UX N w.heap.size (Ae u.size (Aa _)) F K H _ (Da o).1 10 (by rw[Ab,Ab];show _+1+1+1<=_;omega);have z:Hid (cP w.heap.size X (.slice G L I) (ba (s++[Gp n1]++[Gp d]++[10]))):=(Da E).1;have x:Hid (Bw w X):=u.trans (Da E).2;have y:Hid (T=(s++[Gp n1]++[Gp d]++[10])++J8 (k+1) ((BL p).drop (k+1))):=by show _=_;rw[b];simp
    have S:g=31\/k+1=p.size:=f.imp id C.1;have U:((10:UInt8).toNat:Int)=10:=rfl;rw[U]at M;clear b r q t l o E u C f U;by_cases A:g=31
    ·subst A;clear S;go_wp2_with (first|(at_builtin;refine Aj _ rfl _ _ 59 59 rfl _ _ rfl rfl _ _ h ?_;clear h)|(at_builtin;refine Aj _ rfl _ _ 59 59 rfl _ _ rfl rfl _ _ j ?_;clear j)|(at_builtin;refine Aj _ rfl _ _ 59 59 rfl _ _ rfl rfl _ _ M ?_))
     go_roundw
     case rel=>exact⟨G,L,I,k+1,_,rfl,by go_num,by omega,z,y,x⟩
     case measure=>simp[intOf];omega
    ·have aa:k+1=p.size:=by omega
     have ac:((g:Int)==31)=false:=by rw[AH];omega
     have ad:((k:Int)==(p.size:Int)-1)=true:=by rw[CE];omega
     clear S A;go_wp2_with (first|(at_builtin;refine Aj _ rfl _ _ 59 59 rfl _ _ rfl rfl _ _ h ?_;clear h)|(at_builtin;refine Aj _ rfl _ _ 59 59 rfl _ _ rfl rfl _ _ j ?_;clear j)|(at_builtin;refine Aj _ rfl _ _ 59 59 rfl _ _ rfl rfl _ _ M ?_))
     go_roundw
     case rel=>exact⟨G,L,I,k+1,_,rfl,by go_num,by omega,z,y,x⟩
     case measure=>simp[intOf];omega
   ·rw[if_neg f]at b;have z:Hid (cP w.heap.size N (.slice F K H) (ba (s++[Gp n1]++[Gp d]))):=(Da o).1;have x:=Db u;have y:Hid (T=(s++[Gp n1]++[Gp d])++J8 (k+1) ((BL p).drop (k+1))):=by show _=_;rw[b];simp
    have A:¬g=31:=fun e=>f (.inl e)
    have aa:¬k+1=p.size:=fun e=>f (.inr (C.2 e))
    have ac:((g:Int)==31)=false:=by rw[AH];omega
    have ad:((k:Int)==(p.size:Int)-1)=false:=by rw[AH];omega
    clear b r q t l o u C f A;go_wp2_with (first|(at_builtin;refine Aj _ rfl _ _ 59 59 rfl _ _ rfl rfl _ _ h ?_;clear h)|(at_builtin;refine Aj _ rfl _ _ 59 59 rfl _ _ rfl rfl _ _ j ?_))
    go_roundw
    case rel=>exact⟨F,K,H,k+1,_,rfl,by go_num,by omega,z,y,x⟩
    case measure=>simp[intOf];omega
  ·obtain rfl:k=p.size:=by omega
   have b:=Da r;rw[Bf (show(BL p).length<=p.size by rw[DJ];exact Aa _)]at b;have e2:T=s:=by rw[b];exact AZ s
   obtain rfl:n=(ba s).size:=(Da t).rdB.1;have hc:=OC (Da t).1 rfl;subst e2;clear b r;go_wp2;go_ret;exact⟨rfl,Da q⟩
def JG:List UInt8->Option (List UInt8)
 | a::b::l=>if GJ a<0\/GJ b<0 then none else (JG l).map (fun r=>UInt8.ofNat ((GJ a).toNat*16+(GJ b).toNat)::r)
 | _=>some []
theorem TD(a b:UInt8)(l:List UInt8):JG (a::b::l)=if GJ a<0\/GJ b<0 then none else (JG l).map (fun r=>UInt8.ofNat ((GJ a).toNat*16+(GJ b).toNat)::r):=rfl
theorem Zkc:∀{l:List UInt8},l.length<=1->JG l=some []
 | [],_=>rfl
 | [_],_=>rfl
 | _::_::_,h=>by simp only[Af]at h;omega
def GR(n:Nat):List (List UInt8)->List UInt8->Option (List UInt8×List (List UInt8))
 | [],o=>if o.length=n then some (o,[]) else none
 | s::r,o=>if o.length<n then (if s=[] then none else (JG s).bind (fun d=>GR n r (o++d))) else if o.length=n then some (o,s::r) else none
theorem RQ(n:Nat)(o:List UInt8):GR n [] o=if o.length=n then some (o,[]) else none:=rfl
theorem M4(n:Nat)(s:List UInt8)(r:List (List UInt8))(o:List UInt8):GR n (s::r) o=if o.length<n then (if s=[] then none else (JG s).bind (fun d=>GR n r (o++d))) else if o.length=n then some (o,s::r) else none:=rfl
theorem RP{n:Nat}{a:List (List UInt8)}{o:List UInt8}(h:¬o.length<n):GR n a o=if o.length=n then some (o,a) else none:=by
 cases a with
 | nil=>rfl
 | cons s r=>rw[M4,if_neg h]
def Ht(w:World)(xb g:Nat)(ls:List (List UInt8)):Prop:=∃o c,FH w xb 92 [.slice (some ⟨g,o,none⟩) ls.length c]/\ls.length<=c/\g≠xb/\g<w.heap.size/\∀j x,ls[j]?=some x->w.cell? ⟨g,o+j,none⟩=some (.string (ba x))
theorem Qh{w w':World}{X:Nat->Prop}(c:Fr X w w'){a:Addr}(h:a.block<w.heap.size)(b:¬X a.block):w'.cell? a=w.cell? a:=Ax (w:=w) (c.block a.block h b)
theorem Ht.fr{w w':World}{b g:Nat}{e:List (List UInt8)}(h:Ht w b g e){X:Nat->Prop}(a:Fr X w w')(f:¬X b)(i:¬X g):Ht w' b g e:=by
 obtain⟨o,c,p,k,m,d,l⟩:=h;exact⟨o,c,p.fr a f,k,m,Ao d a.size,fun j x n=>(Qh a d i).trans (l j x n)⟩
theorem Ht.next{w:World}{a g o c:Nat}{s:List UInt8}{r:List (List UInt8)}(h:FH w a 92 [.slice (some ⟨g,o,none⟩) (s::r).length c])(i:(s::r).length<=c)(d:g≠a)(e:g<w.heap.size)(l:∀j x,(s::r)[j]?=some x->w.cell? ⟨g,o+j,none⟩=some (.string (ba x))):
  Ht (w.setCell ⟨a,0,none⟩ (.slice (if c=1 then some ⟨g,o,none⟩ else some ⟨g,o+1,none⟩) r.length (c-1))) a g r:=by
 rw[Af]at i;by_cases f:c=1
 ·rw[if_pos f];refine⟨o,c-1,h.set 0 _,by omega,d,by simp[World.setCell];exact e,fun j x b=>?_⟩;have:r=[]:=Ak (by omega);rw[this]at b;cases b
 rw[if_neg f];refine⟨o+1,c-1,h.set 0 _,by omega,d,by simp[World.setCell];exact e,fun j x b=>?_⟩;have:=l (j+1) x (by rw[BU];exact b);rw[show o+1+j=o+(j+1) by omega];exact(Qh ((Fr.refl (fun k=>k=a) w).set _ _ rfl) e d).trans this
theorem Xr{n:Nat}(h:n<256):(n:Int)%256=(n:Int):=by omega
def GW(xb:Nat)(w:World):Nat:=match w.cell? ⟨xb,0,none⟩ with|some (.slice _ l _)=>l|_=>0
theorem Ht.lnsAt{w:World}{b g:Nat}{a:List (List UInt8)}(h:Ht w b g a):GW b w=a.length:=by
 obtain⟨o,c,d,_⟩:=h;unfold Go.Proofs.YtaieidcohdhgpaaGreatDoor.GW;rw[d.cell];rfl
theorem Fr.up{b:Nat}{w w':World}(h:Below b w w'):Fr (fun k=>b<=k) w w':=⟨h.os,h.tape,h.output,h.size,fun k _ hX=>h.block k (by omega)⟩
def Q8(w:World)(xb g n:Nat)(ls:List (List UInt8))(e:Ending)(w':World):Prop:=
 (GR n ls []=none/\(∃s,e = .returned (.tuple #[.string s,.bool false]))\/∃d r,GR n ls []=some (d,r)/\e = .returned (.tuple #[.string (ba d),.bool true])/\Ht w' xb g r)/\Fr (fun k=>k=xb) w w'
theorem Zn(w:World)(f g n:Nat)(hn:n<=1280)(j:List (List UInt8))(h:Ht w f g j)(aS:∀x∈j,x.length<=2000000):
  Cl 46 #[.pointer (some ⟨f,0,none⟩),.int .i64 (n:Int)] w (Q8 w f g n j):=by
 have bg:f<w.heap.size:=by obtain⟨o,c,B,_⟩:=h;exact B.lt
 have a5:g<w.heap.size:=by obtain⟨_,_,_,_,_,ah,_⟩:=h;exact ah
 have ac:Hid (∀W s,GR n j []=none->Fr (fun k=>k=f) w W->Q8 w f g n j (.returned (.tuple #[.string s,.bool false])) W):=fun W s h1 h2=>⟨.inl ⟨h1,s,rfl⟩,h2⟩
 have a2:Hid (∀W d r,GR n j []=some (d,r)->Ht W f g r->Fr (fun k=>k=f) w W->Q8 w f g n j (.returned (.tuple #[.string (ba d),.bool true])) W):=fun W d r h1 h2 h3=>⟨.inr ⟨d,r,h1,rfl,h2⟩,h3⟩
 have H:=Db h;have aX:=Db aS;clear h aS;go_enter Tryz.func46,Tryz.ntmps46;go_wp2
 go_loopw [6,7,8,9,10] (fun v _ _ _ _ wr=>∃(a:OA) (m c:Nat) (o:List UInt8) (r:List (List UInt8)),v = .slice a m c/\m=o.length/\o.length<=2001281/\Hid (cP w.heap.size wr (.slice a m c) (ba o))/\Hid (GR n j []=GR n r o/\∀x∈r,x.length<=2000000)/\Hid (Ht wr f g r)/\Hid (Fr (fun k=>k=f) w wr)) (fun _ _ _ _ _ wr=>GW f wr)
 case atStart=>exact⟨none,0,0,[],j,rfl,rfl,by simp,cP.nil _ _,⟨rfl,Da aX⟩,H,Fr.refl _ _⟩
 case round=>
  obtain⟨a,m,c,o,r,rfl,Q,ab,D,A,F,C⟩:=hrel;clear H;obtain⟨off,p,B,I,hg,ah,P⟩:=Da F;have af:=(B.cell 0).trans (show _=some (Value.slice (some ⟨g,off,none⟩) r.length p) from rfl);have ap:=B.frozen 0;by_cases ar:o.length<n
  ·have a8:(m:Int)<(n:Int):=by omega
   cases r with
   | nil=>
    have u:=Db (Da ac wr ⟨#[]⟩ (by rw[(Da A).1,RQ,if_neg (by omega)]) (Da C));clear P B A D F C I Q;go_wp2;exact Aq (v := .tuple #[.string ⟨#[]⟩,.bool false]) (by simp[results,Tryz.results46,go_sem]) rfl (Da u)
   | cons s r=>
    have an:=P 0 s rfl;rw[Ct]at an;have av:=Ht.next B I hg ah P;have ao:Fr (fun k=>k=f) w (wr.setCell ⟨f,0,none⟩ (.slice (if p=1 then some ⟨g,off,none⟩ else some ⟨g,off+1,none⟩) r.length (p-1))):=(Da C).set _ _ rfl;have az:cP w.heap.size (wr.setCell ⟨f,0,none⟩ (.slice (if p=1 then some ⟨g,off,none⟩ else some ⟨g,off+1,none⟩) r.length (p-1))) (.slice a m c) (ba o):=by
     refine⟨(Da D).1.fr ((Fr.refl (fun k=>k=f) wr).set _ _ rfl) (fun k hk e=>?_),(Da D).2⟩;have:=(Da D).2 k hk;omega
    obtain⟨w1,aA⟩:∃w1,wr.setCell ⟨f,0,none⟩ (.slice (if p=1 then some ⟨g,off,none⟩ else some ⟨g,off+1,none⟩) r.length (p-1))=w1:=⟨_,rfl⟩;rw[aA]at av ao az;obtain⟨Z,hZ⟩:=ex (ba s);have ae:Z.size=s.length:=by rw[hZ,DR]
    rw[<-hZ]at an;have aU:s.length<=2000000:=(Da A).2 s (by simp);have U:Hid (GR n j []=(if s=[] then none else (JG s).bind (fun d=>GR n r (o++d)))/\∀x∈r,x.length<=2000000):=by
     refine⟨?_,fun x hx=>(Da A).2 x (AA _ hx)⟩;rw[(Da A).1,M4,if_pos ar]
    have be:(r.length:Int)+1<=(p:Int):=by rw[Af]at I;omega
    have aL:=Db av;have aH:=Db ao;have aO:=Db az;have HZ:=Db hZ;have a1:=Db aA;have bi:=Db I;have HM:=Db Q;have aN:=Db (show o.length<=1280 by omega);have aY:Hid (GW f wr=r.length+1):=(Da F).lnsAt;have bb:(r.length:Int)+1≠0:=by omega
    rw[Af]at af;clear P B A D F C I Q av ao az hZ aA ar ab ah;go_upto_region 7 with fail;rw[show wr.setCell ⟨f,0,none⟩ (.slice (if p=1 then some ⟨g,off,none⟩ else some ⟨g,off+1,none⟩) r.length (p-1))=w1 from Da a1];generalize (if p=1 then some (⟨g,off,none⟩:Addr) else some ⟨g,off+1,none⟩)=ad
    clear af ap an bb be a8;go_wp2
    go_loopw [6,8,9,10] (fun v i _ _ w2=>∃(M:OA) (K N q:Nat) (x:List UInt8),v = .slice M K N/\i = .int .i64 (q:Nat)/\q<=s.length+1/\Hid (K=(o++x).length/\x.length<=q)/\Hid (cP w.heap.size w2 (.slice M K N) (ba (o++x)))/\Hid (JG s=(JG (s.drop q)).map (x ++ ·))/\Hid (Ht w2 f g r)/\Hid (Fr (fun k=>k=f) w w2)) (fun _ i _ _ _=>s.length+1-(intOf i).toNat)
    case atStart=>exact⟨a,m,c,0,[],rfl,rfl,Aw _,⟨by rw[AZ];exact Da HM,Aa _⟩,by show cP _ _ _ _;rw[AZ];exact Da aO,by show _=_;rw[CP];cases JG s<;>rfl,aL,aH⟩
    case round=>
     obtain⟨M,K,N,q,x,rfl,rfl,hq,V,Y,HU,L,t⟩:=hrel;clear aO aL aH;by_cases aT:q+1<s.length
     ·obtain⟨l,aw⟩:=ex (q+1);have bo:Z.size<=2000000:=by omega
      have h1:q<Z.size:=by omega
      have h2:l<Z.size:=by omega
      have bc:(q:Int)+1=(l:Int):=by omega
      have bd:RowKit.wrap64 (l:Int)=(l:Int):=(Nq l (by omega)).2;obtain⟨b1,al⟩:∃b,b=Z[q]:=⟨_,rfl⟩;obtain⟨b2,am⟩:∃b,b=Z[l]:=⟨_,rfl⟩;obtain⟨R,ai⟩:∃i,i=GJ b1:=⟨_,rfl⟩;obtain⟨S,aj⟩:∃i,i=GJ b2:=⟨_,rfl⟩;have aR:s.drop q=b1::b2::s.drop (q+2):=by
       have e0:BL Z=s:=by rw[Da HZ,DN]
       rw[<-e0,Qv Z h1,show q+2=l+1 by omega,<-aw,Qv Z h2,al,am]
      have aD:Hid (∀W,Cl 105 #[.int .u8 (Z[q].toNat:Int)] W fun e W'=>e = .returned (.int .i64 R)/\W'=W):=fun W=>by
       have:=T1 Z[q] W;rw[ai,al];exact this
      have aE:Hid (∀W,Cl 105 #[.int .u8 (Z[l].toNat:Int)] W fun e W'=>e = .returned (.int .i64 S)/\W'=W):=fun W=>by
       have:=T1 Z[l] W;rw[aj,am];exact this
      have ax:=UZ b1;have ay:=UZ b2;rw[<-ai]at ax;rw[<-aj]at ay;have bl:(q:Int)<(Z.size:Int):=by omega
      have bn:(l:Int)<(Z.size:Int):=by omega
      have ak:Hid (JG s=((if R<0\/S<0 then none else (JG (s.drop (q+2))).map (fun r=>UInt8.ofNat (R.toNat*16+S.toNat)::r)):Option (List UInt8)).map (x ++ ·)):=by
       show _=_;rw[Da HU,aR,TD,<-ai,<-aj]
      have bj:=Db aw;have a0:Hid (s.length<=2000000/\q+1<s.length/\Z.size=s.length):=⟨aU,aT,ae⟩;clear ai aj aR al am HU aw aT aU ae hq;go_upto_region 11 with(go_at_call 105;refine(Da aD _).mono ?_;rintro e W' ⟨rfl,hw⟩;rw[hw];clear hw);go_upto_region 12 with(go_at_call 105;refine(Da aE _).mono ?_;rintro e W' ⟨rfl,hw⟩;rw[hw];clear hw);clear aD aE;by_cases J:R<0\/S<0
      ·have u:Hid (Q8 w f g n j (.returned (.tuple #[.string ⟨#[]⟩,.bool false])) wr):=by
        refine Da ac wr ⟨#[]⟩ ?_ (Da t);rw[(Da U).1,Da ak,if_pos J]
        split<;>rfl
       by_cases h3:R<0
       ·clear J;go_wp2;exact Aq (v := .tuple #[.string ⟨#[]⟩,.bool false]) (by simp[results,Tryz.results46,go_sem]) rfl (Da u)
       ·have h4:S<0:=by omega
        clear J;go_wp2;exact Aq (v := .tuple #[.string ⟨#[]⟩,.bool false]) (by simp[results,Tryz.results46,go_sem]) rfl (Da u)
      ·have h3:¬R<0:=fun e=>J (.inl e)
       have h4:¬S<0:=fun e=>J (.inr e)
       have E:=Da ak;rw[if_neg J]at E;obtain⟨j1,rfl⟩:=CL (Int.not_lt.1 h3);obtain⟨j2,rfl⟩:=CL (Int.not_lt.1 h4);have a6:j1<16:=Int.ofNat_lt.1 ax.2;have a7:j2<16:=Int.ofNat_lt.1 ay.2;clear ax ay J bc bd;obtain⟨z,hz⟩:∃z:UInt8,z=UInt8.ofNat (j1*16+j2):=⟨_,rfl⟩;obtain⟨zt,aC⟩:∃n,n=z.toNat:=⟨_,rfl⟩;have bh:zt=j1*16+j2:=by rw[aC,hz,BA];omega
       have aV:zt<256:=by omega
       obtain⟨aW,a9⟩:∃m,m=j1*16:=⟨_,rfl⟩;have bk:(16:Int)*(j1:Int)=(aW:Int):=by omega
       have bp:(aW:Int)+(j2:Int)=(zt:Int):=by omega
       have bm:(zt:Int)%256=(zt:Int):=Xr aV;rw[BB,BB,<-hz]at E;have hQ:=Da a0;have bf:=(Da V).2;have ab:=Da aN;have aB:=(Da t).size;obtain⟨a3,l3,c3,w3,r3,T⟩:=UX wr w.heap.size aB M K N _ (Da Y) z (by rw[Ab];omega);rw[<-aC]at r3;have aq:l3=(ba (o++x++[z])).size:=(Da T).1.rdB.1;rw[DR]at aq;have aJ:Hid (l3=(o++(x++[z])).length/\(x++[z]).length<=q+2):=⟨by rw[aq,AC],by rw[Ab];show _+1<=_;omega⟩;have aP:Hid (cP w.heap.size w3 (.slice a3 l3 c3) (ba (o++(x++[z])))):=by
        show cP _ _ _ _;rw[<-AC];exact(Da T).1
       have aQ:Hid (JG s=(JG (s.drop (q+2))).map ((x++[z]) ++ ·)):=by
        show _=_;rw[E]
        cases JG (s.drop (q+2)) with
        | none=>rfl
        | some y=>simp
       have aI:Hid (Fr (fun k=>k=f) w w3):=by
        have aa:=(Da T).2;exact⟨aa.os.trans (Da t).os,aa.tape.trans (Da t).tape,aa.output.trans (Da t).output,Ae aB aa.size,fun k hk hX=>(aa.block k hk).trans ((Da t).block k hk hX)⟩
       have aF:Hid (Ht w3 f g r):=by
        exact(Da L).fr (Fr.up (Da T).2) (Nat.not_le.2 bg) (Nat.not_le.2 a5)
       have X:Hid ((q:Int)+2=((q+2:Nat):Int)/\q+2<=s.length+1/\q<2000000):=⟨by omega,by omega,by omega⟩;clear E hz bh a9 ak Y t L V aq hQ bf ab aB T aC;go_upto_region 14 with fail;clear h3 h4 a6 a7 aV;go_wp2_with (at_builtin;refine Aj _ rfl _ _ 59 59 rfl _ _ rfl rfl _ _ r3 ?_)
       go_roundw
       case rel=>first|exact⟨a3,l3,c3,q+2,x++[z],rfl,by rw[(Da X).1],(Da X).2.1,aJ,aP,aQ,aF,aI⟩|((repeat apply Exists.intro);exact⟨⟨a3,l3,c3,q+2,x++[z],rfl,by rw[(Da X).1],(Da X).2.1,aJ,aP,aQ,aF,aI⟩,rfl⟩)
       case measure=>
        have:=Da X;obtain⟨e1,e2,e3⟩:=this;show s.length+1-((q:Int)+2).toNat<s.length+1-(q:Int).toNat;omega
     ·have E:JG s=some x:=by
       rw[Da HU,Zkc (by rw[AK];omega)];show some (x++[])=_;rw[AZ]
      have br:¬((q:Int)+1<(Z.size:Int)):=by omega
      have he:=Uv Z;by_cases O:s=[]
      ·have u:Hid (Q8 w f g n j (.returned (.tuple #[.string ⟨#[]⟩,.bool false])) wr):=Da ac wr ⟨#[]⟩ (by rw[(Da U).1,if_pos O]) (Da t);have a4:Z.toList.isEmpty=true:=by rw[he,decide_eq_true_iff,ae,O];simp
       clear he E HU Y L V O;go_wp2;exact Aq (v := .tuple #[.string ⟨#[]⟩,.bool false]) (by simp[results,Tryz.results46,go_sem]) rfl (Da u)
      ·have a4:Z.toList.isEmpty=false:=by
        rw[he,E3,ae];have:=ET.2 O;omega
       have ab:=Da aN;obtain⟨l1,l2⟩:=Da V;have aG:Hid (GR n j []=GR n r (o++x)/\∀x∈r,x.length<=2000000):=⟨by rw[(Da U).1,if_neg O,E];rfl,(Da U).2⟩;have aM:Hid ((o++x).length<=2001281):=by show _<=_;rw[Ab];omega
       have aK:=Db l1;have aZ:Hid (GW f wr<r.length+1):=by show _<_;rw[(Da L).lnsAt];omega
       clear he E HU V O l1 l2 ab U;go_wp2
       go_roundw
       case rel=>first|exact⟨M,K,N,o++x,r,rfl,Da aK,Da aM,Y,aG,L,t⟩|((repeat apply Exists.intro);exact⟨⟨M,K,N,o++x,r,rfl,Da aK,Da aM,Y,aG,L,t⟩,rfl⟩)
       case measure=>
        rw[Da aY];exact Da aZ
  ·have bs:¬((m:Int)<(n:Int)):=by omega
   have au:m=(ba o).size:=by rw[DR];exact Q
   have bq:(convert 59 9 (.slice a m c)).run Tryz.prog wr = .ok (.string (ba o)) wr:=by
    subst au;exact OC (Da D).1 rfl
   have G:=(Da A).1;rw[RP ar]at G;by_cases ag:o.length=n
   ·rw[if_pos ag]at G;have u:=Db (Da a2 wr o r G (Da F) (Da C));have hq:((m:Int)==(n:Int))=true:=by rw[CE];omega
    clear P B A G D F C I af ap Q ag au;go_wp2;exact Aq (v := .tuple #[.string (ba o),.bool true]) (by simp[results,Tryz.results46,go_sem]) rfl (Da u)
   ·rw[if_neg ag]at G;have u:=Db (Da ac wr (ba o) G (Da C));have hq:((m:Int)==(n:Int))=false:=by rw[AH];omega
    clear P B A G D F C I af ap Q ag au;go_wp2;exact Aq (v := .tuple #[.string (ba o),.bool false]) (by simp[results,Tryz.results46,go_sem]) rfl (Da u)
theorem PF(L:List (By×Int))(d:By)(x:By×Int):∀k,x∈Dv L d k↔x∈L.take k/\Dx d x=true
 | 0=>by simp[Dv]
 | k+1=>by
  have ih:=PF L d x k;unfold Dv;rw[Bg]
  cases hk:L[k]? with
  | none=>simp[ih]
  | some y=>
   simp only[Cj,As,Av];by_cases b:Dx d y=true
   ·rw[if_pos b,O7,ih];constructor
    ·rintro(rfl|h)
     ·exact⟨.inr rfl,b⟩
     ·exact⟨.inl h.1,h.2⟩
    ·rintro⟨h|rfl,a⟩
     ·exact .inr ⟨h,a⟩
     ·exact .inl rfl
   ·rw[if_neg b,ih];constructor
    ·rintro⟨h,a⟩;exact⟨.inl h,a⟩
    ·rintro⟨h|rfl,a⟩
     ·exact⟨h,a⟩
     ·exact absurd a b
theorem Vq(L:List (By×Int))(d:By):∀k,(Dv L d k).length=(L.take k).countP (Dx d)
 | 0=>by simp[Dv]
 | k+1=>by
  have ih:=Vq L d k;unfold Dv;rw[Bg,Ck]
  cases hk:L[k]? with
  | none=>simp[ih]
  | some y=>
   rw[Cj,Ce];by_cases a:Dx d y=true
   ·rw[if_pos a];show(if Dx d y=true then JF (Dv L d k) y else Dv L d k).length=_;rw[if_pos a,UG,ih]
   ·rw[if_neg a];show(if Dx d y=true then JF (Dv L d k) y else Dv L d k).length=_;rw[if_neg a,ih];rfl
structure F6(L:List (By×Int))(F:LY):Prop where
 nm:∀x∈L,Df x.1=true/\Dc x.1≠[]
 fl:∀x∈L,x.2 = -1\/∃n:Nat,x.2=(n:Int)/\n<F.length
 nd:(L.map (·.1)).Nodup
 cnt:∀d,L.countP (Dx d)<=20
 ln:L.length<=100
 fn:F.length<=L.length
 sz:∀s∈F,s.size<=1280
def Gw(x:By×Int):Ek:=((Dc x.1).getLastD ⟨#[]⟩,if x.2<0 then none else some x.2.toNat)
def FP(L:List (By×Int))(ns:LY):List Ek:=(Dv L (jn ns) L.length).map Gw
def CF(F:LY)(n:Nat):By:=F[n]?.getD ⟨#[]⟩
theorem CF_at{F:LY}{n:Nat}{s:By}(h:F[n]?=some s):CF F n=s:=by unfold CF;rw[h];rfl
section
variable{L:List (By×Int)}{F:LY}
theorem F6.CF_le(h:F6 L F)(n:Nat):(CF F n).size<=1280:=by
 unfold CF
 cases e:F[n]? with
 | none=>exact Aw _
 | some s=>exact h.sz s (An e)
theorem F6.ent(h:F6 L F){ns:LY}(p:Ga ns){x:By×Int}(q:x∈Dv L (jn ns) L.length):x∈L/\x.1=jn (ns++[(Gw x).1])/\Ga (ns++[(Gw x).1])/\ns.length<6:=by
 obtain⟨a,b⟩:=(PF L (jn ns) x L.length).1 q;rw[BN]at a;obtain⟨g,f⟩:=h.nm x a;obtain⟨i,j⟩:=Kq g f;obtain⟨l,m⟩:=Ps g f;have k:(Dc x.1).dropLast=ns:=by
  unfold Dx at b;rw[CE,l]at b;exact Ua m p (Qy b)
 have o:Dc x.1=ns++[(Gw x).1]:=by
  show _=ns++[(Dc x.1).getLastD ⟨#[]⟩];obtain⟨d,n,e⟩:=Qk f;rw[e,CJ]at k;rw[e,k];simp
 have c:=QB g;rw[o]at i j c;rw[Ab]at c;exact⟨a,i,j,by simp only[Bh]at c;omega⟩
theorem F6.ch_len(h:F6 L F)(ns:LY):(FP L ns).length<=20:=by
 unfold FP;rw[A7,Vq,BN];exact h.cnt _
theorem F6.un(h:F6 L F):∀(i j:Nat) x y,L[i]?=some x->L[j]?=some y->x.1=y.1->i=j:=fun i j x y k l e=>by
 obtain⟨f,b⟩:=Ad.1 k;obtain⟨g,c⟩:=Ad.1 l;have d:=BQ.1 (Cg.1 h.nd);rcases CQ i j with a|a|a
 ·exact absurd (by rw[b,c,e]) (d i j f g a)
 ·exact a
 ·exact absurd (by rw[b,c,e]) (d j i g f a)
end
def Mj:Nat->Nat
 | 0=>0
 | d+1=>20*(1+Mj d)
theorem On{d:Nat}(h:d<=7):Mj d<=1347368420:=by
 have:∀d,d<8->Mj d<=1347368420:=by decide
 exact this d (by omega)
theorem OJ{a:LY->FJ->List It×FJ}{B:Nat}(b:∀ns S,(a ns S).1.length<=B)(ns:LY):∀(l:List Ek) (S:FJ),(FU a ns l S).1.length<=l.length*(1+B)
 | [],S=>Aw _
 | x::l,S=>by
  have h1:(Gd a ns S x).1.length<=1+B:=by
   unfold Gd
   split
   ·rw[Af];have:=b (ns++[x.1]) S;omega
   ·split<;>simp
  have h2:=OJ b ns l (Gd a ns S x).2;show((Gd a ns S x).1++(FU a ns l (Gd a ns S x).2).1).length<=_;rw[Ab,Af,Nat.succ_mul];omega
theorem Nb{ch:LY->List Ek}(a:∀ns,(ch ns).length<=20):∀(d:Nat) (ns:LY) (S:FJ),(Dk ch d ns S).1.length<=Mj d
 | 0,_,_=>Aa _
 | d+1,ns,S=>Ae (OJ (Nb a d) ns (ch ns) S) (EJ _ (a ns))
def Gg(C told:NB)(L:List It):List UInt8×(NB):=L.foldl (Hs C) ([],told)
theorem Uc(C:NB):∀(L:List It) (t:List UInt8) (told:NB),L.foldl (Hs C) (t,told)=(t++(Gg C told L).1,(Gg C told L).2)
 | [],t,told=>by simp[Gg]
 | y::L,t,told=>by
  have a:=Uc C L (t++Gx C told y) (F9 told y);have b:=Uc C L ([]++Gx C told y) (F9 told y);show L.foldl (Hs C) (t++Gx C told y,F9 told y)=(t++(L.foldl (Hs C) ([]++Gx C told y,F9 told y)).1,(L.foldl (Hs C) ([]++Gx C told y,F9 told y)).2);rw[a,b];simp
theorem QW(C told:NB)(y:It)(L:List It):Gg C told (y::L)=(Gx C told y++(Gg C (F9 told y) L).1,(Gg C (F9 told y) L).2):=by
 show L.foldl (Hs C) ([]++Gx C told y,F9 told y)=_;rw[Uc];simp
theorem Pt(C told:NB)(a b:List It):Gg C told (a++b)=((Gg C told a).1++(Gg C (Gg C told a).2 b).1,(Gg C (Gg C told a).2 b).2):=by
 show(a++b).foldl (Hs C) ([],told)=_;rw[FG];show b.foldl (Hs C) (Gg C told a)=_;exact Uc C b _ _
theorem Ub(C:NB)(L:List It):(Gb C L).1=JK++(Gg C (fun _=>⟨#[]⟩) L).1:=by
 unfold Gb;rw[Uc];rfl
def SI(n:Nat)(told:NB)(S:FJ):Prop:=∀f,f<n->(S f=true↔told f≠⟨#[]⟩)
end Go.Proofs.YtaieidcohdhgpaaGreatDoor
