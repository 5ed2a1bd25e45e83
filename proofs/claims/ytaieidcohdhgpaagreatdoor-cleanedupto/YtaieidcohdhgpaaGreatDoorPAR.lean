/- Cleaned. -/
import Derived.Test.YtaieidcohdhgpaaGreatDoorPAQ
import Derived.Lib.SlBytesConst
namespace Go.Proofs.YtaieidcohdhgpaaGreatDoor
set_option maxHeartbeats 8000000
set_option maxRecDepth 100000
open Go.RowKit
theorem Zik(x:Int):0<=IntKind.u64.wrap x/\IntKind.u64.wrap x<18446744073709551616:=by
 simp[IntKind.wrap,IntKind.bits,IntKind.signed];omega
theorem ZlA(l:List UInt8):0<=Kr l/\Kr l<18446744073709551616:=by
 rcases List.eq_nil_or_concat l with rfl|⟨l',b,rfl⟩
 ·decide
 ·rw[List.concat_eq_append,ZhT];exact Zik _
def Dm(s:By):Nat:=(Kr s.data.toList).toNat
theorem KG(s:By):Kr s.data.toList=((Dm s:Nat):Int):=by unfold Dm;have:=(ZlA s.data.toList).1;omega
theorem Kz(s:By):Dm s<18446744073709551616:=by unfold Dm;have:=ZlA s.data.toList;omega
def SlA(b:Nat)(w:World)(v:Value)(s:By):Prop:=SlB b w v s\/∃x l,v = .slice (some x) l l/\RdB w (some x) l l s
theorem SlA.below{b:Nat}{w w':World}{v:Value}{s:By}(h:SlA b w v s)(a:Below w.heap.size w w'):SlA b w' v s:=by
 rcases h with h|⟨x,l,rfl,h⟩
 ·exact .inl (h.below a)
 ·exact .inr ⟨x,l,rfl,h.below a⟩
theorem appA(w:World)(b:Nat)(q:b<=w.heap.size)(v:Value)(s:By)(h:SlA b w v s)(a:Addr)(m c:Nat)(t:By)(z:t.size=m)(A:∀j u,(Dc t)[j]?=some u->w.cell? (a.add j)=some u)(E:s.size+m<=4000000)(aa:0<m:=by omega):
  ∃d i f w',(Builtin.append_ #[59,59] 59 #[v,.slice (some a) m c]).run Tryz.prog w = .ok (.slice d i f) w'/\SlB b w' (.slice d i f) (s++t)/\Fr (Own v) w w'/\Dk w v (.slice d i f):=by
 rcases h with h|⟨x,l,rfl,h⟩
 ·exact JU w b q v s h a m c t z A E
 ·obtain⟨L,C,I,J,K⟩:=info_parts Kt;have F:=h.1;obtain⟨v',w2,M,B,o⟩:=run_append_arg_grows (P:=Tryz.prog) w 59 59 5 L _ 1 1 Tryz.underlying59 C I J K rfl (by decide) x l l (Dc s) (by rw[Dh];omega)
   (fun j u G=>by obtain⟨y,e,H⟩:=h.2.2 j u G;cases e;exact H) a m c (Dc t) (by rw[Dh];omega) A (by omega) (by unfold maxLen;omega) (by omega)
  have p:=Sl.of_owns B;obtain⟨d,i,f,rfl⟩:=p.shape;have r:∀g,Own (.slice d i f) g->w.heap.size<=g:=fun g n=>(B.lt g n).1
  refine⟨d,i,f,w2,M,⟨?_,fun g n=>Nat.le_trans q (r g n)⟩,⟨o.os,o.tape,o.output,o.size,fun k D _=>o.block k D (by simp)⟩,fun g n => .inr (r g n)⟩;rw[Jw,show(s++t).size=l+m by rw[ByteArray.size_append,z,<-F]];exact p
theorem Zd1(w:World)(b:Nat)(hb:b<=w.heap.size)(a:OA)(l c:Nat)(s:By)(h:SlA b w (.slice a l c) s)(x:Nat)(V:x<18446744073709551616)(m:Nat)(hm:m<=8)(S:0<m)(hs:s.size<=2000000):
  Calls Tryz.prog 212 #[.slice a l c,.int .u64 x,.int .i64 m] w fun e w'=>∃f o n,e = .returned (.slice f o n)/\SlB b w' (.slice f o n) (s++⟨(DB x m).toArray⟩)/\Fr (Own (.slice a l c)) w w'/\Dk w (.slice a l c) (.slice f o n):=by
 have H:=Db h;clear h;go_enter Tryz.func212,Tryz.ntmps212;go_wp2
 go_loopw [0,1,8] (fun v y i wr=>∃(k y':Nat) (f:OA) (o n:Nat),k<=m/\i = .int .i64 k/\y = .int .u64 y'/\v = .slice f o n/\y'<18446744073709551616/\Hid (SlA b wr v (s++⟨((DB x m).take k).toArray⟩)/\(0<k->SlB b wr v (s++⟨((DB x m).take k).toArray⟩)))/\Hid (DB y' (m-k)=(DB x m).drop k)/\Hid (Fr (Own (.slice a l c)) w wr/\Dk w (.slice a l c) v)) (fun _ _ i _=>m-(intOf i).toNat)
 case atStart=>exact⟨0,x,a,l,c,Nat.zero_le _,rfl,rfl,rfl,V,⟨by show SlA _ _ _ _;rw[List.take_zero,Kw];exact Da H,fun h=>absurd h (Nat.lt_irrefl 0)⟩,rfl,Fr.refl _ _,fun g r => .inl r⟩
 case round=>
  obtain⟨k,y,f,o,n,P,rfl,rfl,rfl,hy,t,M,p⟩:=hrel;by_cases R:k<m
  ·have I:IntKind.u8.wrap (y:Int)=((UInt8.ofNat y).toNat:Int):=JW y;have aa:=(Da p).1.size;obtain⟨W,F,J,Q,T,q⟩:=De wr [.int .u8 (IntKind.u8.wrap (y:Int))] 5;obtain⟨A,K,B,w2,G,E,C,D⟩:=appA W b (by omega) _ _ ((Da t).1.below q) ⟨wr.heap.size,0,none⟩ 1 1 ⟨#[UInt8.ofNat y]⟩ rfl (fun j u U=>by rw[Addr.add_lit,Nat.zero_add,J.cell,I];exact U) (by rw[ByteArray.size_append];show s.size+(List.toArray _).size+1<=_;simp;omega);have z:=Db E;have L:Hid (Fr (Own (.slice a l c)) w w2/\Dk w (.slice a l c) (.slice A K B)):=by
    refine⟨((Da p).1.then (Fr.of_below (X:=Own (.slice a l c)) q) (fun k _ h=>h)).then C (fun k P e=>((Da p).2 k e).elim id (fun h=>by omega)),fun g r=>?_⟩;rcases D g r with d|d
    ·exact(Da p).2 g d
    ·exact .inr (by omega)
   have N:=Db F;clear E C D J Q T q F I;rw[<-Da N]at G;go_wp2_with (at_builtin;refine Lib.wpList_append_run _ rfl _ _ 59 59 rfl _ _ rfl rfl _ _ G ?_)
   go_roundw
   case rel=>
    obtain⟨d,O⟩:=ZhC R (Da M);exact⟨k+1,y/256,A,K,B,by omega,by go_num,by go_num,rfl,by omega,⟨by show SlA _ _ _ _;rw[d,<-ZiU];exact .inl (Da z),fun _=>by show SlB _ _ _ _;rw[d,<-ZiU];exact Da z⟩,O,L⟩
   case measure=>simp[intOf];omega
  ·obtain rfl:k=m:=by omega
   go_wp2;go_ret;have d:=(Da t).2 S;rw[List.take_of_length_le (by rw[D5];exact Nat.le_refl _)]at d;exact⟨f,o,n,rfl,d,Da p⟩
def J5:By:=⟨#[115,105,108,116]⟩
def D9(x m:Nat):By:=⟨(DB x m).toArray⟩
def ckS(turn p x:Nat):By:=J5++D9 turn 8++DG p x
def ckA(turn p x:Nat):By:=⟨#[1]⟩++Dj (ckS turn p x) 63
def ckB(turn p x:Nat):By:=(ckA turn p x).extract 0 56++D9 (Dm ((ckA turn p x).extract 0 56)) 8
theorem K3(x m:Nat):(D9 x m).size=m:=ZhD x m
theorem K4(p x:Nat):(DG p x).size=10:=by show(List.toArray _).size=10;simp[D5]
theorem ZmY(a p x:Nat):(ckS a p x).size=22:=by unfold ckS;rw[ByteArray.size_append,ByteArray.size_append,K3,K4];rfl
theorem Qy(a p x:Nat):(ckA a p x).size=64:=by unfold ckA;rw[ByteArray.size_append,Jc];rfl
theorem U5(a p x:Nat):(ckB a p x).size=64:=by unfold ckB;rw[ByteArray.size_append,ByteArray.size_extract,Qy,K3];rfl
theorem ck_spl(a p x:Nat):spl (Dc (ckA a p x)) 56 (Dc (D9 (Dm ((ckA a p x).extract 0 56)) 8))=Dc (ckB a p x):=by
 unfold spl ckB;rw[Jw,Jn,List.drop_eq_nil_of_le (by rw[Dh,Dh,Qy,K3];decide)];simp
theorem ZgC{P:Program}{d:Array Oper}{f:List Oper}{o:Oper}{a:Act}{w:World}{Q:Exit->Act->World->Prop}(g:o.guard=none)(t:TypeId)(i j:Nat)(x y:Operand)(ho:o.op = .build t #[(i,x),(j,y)])(u v:Value)(k:a.eval x=u)(l:a.eval y=v){b:Array Value}(c:P.built t [(i,u),(j,v)]=some b)
  (h:wpList P d Q f (a.put o.dst (.agg b)) w):wpList P d Q (o::f) a w:=by
 have e:((#[(i,x),(j,y)]:Array (Nat×Operand)).map fun (i,x)=>(i,a.eval x)).toList=[(i,u),(j,v)]:=by simp[k,l]
 refine wpList_build g t _ ho ?_ ?_
 ·rw[e,c];rfl
 ·rw[e,c];exact h
def Zl6(w:World)(turn p x:Nat)(e:Ending)(w':World):Prop:=e = .returned (pcV (turn%2) (ckB turn p x))/\Below w.heap.size w w'
theorem Zee(w:World)(d p x:Nat)(ht:d<18446744073709551616)(hp:p<65536)(hx:x<18446744073709551616):
  Calls Tryz.prog 160 #[.agg #[.int .u64 d,.int .i64 p,.int .u64 x]] w (Zl6 w d p x):=by
 obtain⟨z,al,aa,aU,ay,an⟩:=De w [.int .u64 d,.int .i64 p,.int .u64 x] 191;obtain⟨f,am,ac,Y,aW,ao⟩:=De z (pcL 0 (Dp 64)) 207;obtain⟨i,L⟩:∃X,f.alloc (.cells (Dc J5).toArray 5 (4,5))=X:=⟨_,rfl⟩;have V:Below f.heap.size f i:=by rw[<-L];exact(Below.refl _ _).alloc (Nat.le_refl _) _
 have aX:i.heap.size=f.heap.size+1:=by rw[<-L];simp
 have Z:∀b t' R,RowIs f b t' R->RowIs i b t' R:=fun b t' R h=>(V.block _ h.lt).trans h
 have av:i.heap[f.heap.size]?=some (.cells (Dc J5).toArray 5 (4,5)):=by rw[<-L];exact heap_alloc_new f _
 have az:Below w.heap.size w i:=an.trans ((ao.mono (by omega)).trans (V.mono (by omega)));have H:=Z _ _ _ (Y _ _ _ aa);have ad:=Z _ _ _ ac;have aw:RdB i (some ⟨f.heap.size,0,none⟩) 4 4 J5:=by
  refine⟨rfl,fun e=>(by cases e),fun j v I=>⟨_,rfl,?_⟩⟩;rw[Addr.add_lit,Nat.zero_add];simp only[World.cell?,av]
  simpa using I
 have ak:SlA f.heap.size i (.slice (some ⟨f.heap.size,0,none⟩) 4 4) J5 := .inr ⟨_,_,rfl,aw⟩;have ae:Hid (Calls Tryz.prog 212 #[.slice (some ⟨f.heap.size,0,none⟩) 4 4,.int .u64 d,.int .i64 8] i fun e w'=>∃r t s,e = .returned (.slice r t s)/\RowIs w' w.heap.size 191 [.int .u64 d,.int .i64 p,.int .u64 x]/\RowIs w' z.heap.size 207 (pcL 0 (Dp 64))/\Hid (SlB f.heap.size w' (.slice r t s) (J5++D9 d 8)/\Below f.heap.size i w')):=(Zd1 i f.heap.size (by omega) _ _ _ J5 ak d ht 8 (by omega) (by omega) (by decide)).mono fun e w' ⟨r,t,s,he,B,y,h3⟩=>by
  have D:Below f.heap.size i w':=⟨y.os,y.tape,y.output,y.size,fun k hk=>y.block k (by omega) (fun e=>by simp[Own,Value.ownBlock]at e;omega)⟩;exact⟨r,t,s,he,(D.block _ (by omega)).trans H,(D.block _ (by omega)).trans ad,B,D⟩
 have af:Hid (∀X a l c,Hid (SlB f.heap.size X (.slice a l c) (J5++D9 d 8)/\Below f.heap.size i X)->Calls Tryz.prog 214 #[.agg #[.int .i64 p,.int .u64 x],.slice a l c] X fun e w'=>∃r t s,e = .returned (.slice r t s)/\Hid (SlB f.heap.size w' (.slice r t s) (ckS d p x)/\Below f.heap.size i w')):=fun X a l c M=>by
  obtain⟨B,y⟩:=Da M;have:=y.size;refine(Zcz X f.heap.size (by omega) a l c _ B p x hp hx (by rw[ByteArray.size_append,K3];decide)).mono ?_;rintro e w' ⟨r,t,s,rfl,q1,q2,q3⟩;exact⟨r,t,s,rfl,q1,y.trans (B.frBelow (by omega) q2)⟩
 have ag:Hid (∀X a l c,Hid (SlB f.heap.size X (.slice a l c) (ckS d p x)/\Below f.heap.size i X)->Calls Tryz.prog 213 #[.int .u8 1,.slice a l c] X fun e w'=>e = .returned (Dx (ckA d p x))/\Hid (Below f.heap.size i w')):=fun X a l c M=>by
  obtain⟨B,y⟩:=Da M;refine(ZeK X a l c _ B.rdB (by rw[ZmY];decide) 1).mono ?_;rintro e w' ⟨rfl,q⟩;exact⟨rfl,y.trans (q.mono (by have:=y.size;omega))⟩
 have HM:Hid (∀g,Hid (Below f.heap.size i g)->∃A m,g.alloc (.cells (Dc (Dp 64)).toArray 188)=A/\RowIs A g.heap.size 188 (Dc (Dp 64))/\A.setRow g.heap.size (Dc (ckA d p x)).toArray=m/\
   Hid (Calls Tryz.prog 215 #[.slice (some ⟨g.heap.size,0,none⟩) 56 64] m.drew fun e w'=>e = .returned (.int .u64 (Dm ((ckA d p x).extract 0 56):Nat))/\w'=m.drew)/\
   Hid (Calls Tryz.prog 212 #[.slice none 0 0,.int .u64 (Dm ((ckA d p x).extract 0 56):Nat),.int .i64 8] m.drew fun e w'=>∃r t s u,e = .returned (.slice r t s)/\(Builtin.copy_ #[59,59] 3 #[.slice (some ⟨g.heap.size,56,none⟩) 8 8,.slice r t s]).run Tryz.prog w' = .ok (goInt 8) u/\u.cell? ⟨w.heap.size,0,none⟩=some (.int .u64 d)/\Hid (RowIs u g.heap.size 188 (Dc (ckB d p x))/\RowIs u z.heap.size 207 (pcL 0 (Dp 64))/\Below w.heap.size w u))):=fun g M=>by
  have D:=Da M;obtain⟨A,T,N,bd,aY,aR⟩:=De g (Dc (Dp 64)) 188;obtain⟨m,F⟩:∃X,A.setRow g.heap.size (Dc (ckA d p x)).toArray=X:=⟨_,rfl⟩;have aA:RowIs m g.heap.size 188 (Dc (ckA d p x)):=by rw[<-F];exact setRow_heap A _ _ _ 188 _ N
  have U:Below g.heap.size g m:=by rw[<-F];exact aR.trans ⟨rfl,rfl,rfl,by simp,fun j hj=>setRow_other A _ j _ (by omega)⟩
  have bf:m.heap.size=g.heap.size+1:=by rw[<-F];simp[World.setRow,aY]
  have a5:=D.size;have aV:RdB m (some ⟨g.heap.size,0,none⟩) 56 64 ((ckA d p x).extract 0 56):=by
   refine⟨by rw[ByteArray.size_extract,Qy];rfl,fun e=>(by cases e),fun j v I=>⟨_,rfl,?_⟩⟩;rw[Addr.add_lit,Nat.zero_add,aA.cell];rw[Jn,List.drop_zero,List.getElem?_take]at I
   split at I
   ·exact I
   ·cases I
  refine⟨A,m,T,N,F,?_,?_⟩
  ·have:=KI m.drew _ 56 64 _ (show RdB m.drew (some ⟨g.heap.size,0,none⟩) 56 64 ((ckA d p x).extract 0 56) from aV) (by rw[ByteArray.size_extract,Qy];decide);rw[KG]at this;exact this
  ·refine(Up m.drew m.heap.size (Nat.le_refl _) none 0 0 ⟨#[]⟩ (SlB.nil _ _) _ (Kz _) 8 (by omega) (by decide)).mono ?_;rintro e w' ⟨r,t,s,rfl,B,y,h3⟩;have G:Below m.heap.size m w':=by
    have J:=(SlB.nil m.heap.size m.drew).frBelow (Nat.le_refl _) y;exact⟨J.os,J.tape,J.output,J.size,J.block⟩
   have e0:(⟨#[]⟩:By)++⟨(DB (Dm ((ckA d p x).extract 0 56)) 8).toArray⟩=D9 (Dm ((ckA d p x).extract 0 56)) 8:=by apply WideShapes.bytes_inj;simp[D9]
   rw[e0]at B;have a0:RowIs w' g.heap.size 188 (Dc (ckA d p x)):=(G.block _ (by omega)).trans aA;obtain⟨u,r1,r2,O⟩:=UQ w' g.heap.size 188 _ a0 56 8 8 r t s _ B.rdB (by rw[K3];exact Nat.le_refl _) (by rw[Dh,Qy];exact Nat.le_refl _);rw[K3]at r1;rw[ck_spl]at r2;have bg:=G.size;have ab:∀k,k<f.heap.size->u.heap[k]?=i.heap[k]? := fun k hk=>by
    rw[O.block k (by omega) (by simp;omega),G.block k (by omega),U.block k (by omega),D.block k hk]
   have aQ:Below f.heap.size i u:=⟨O.os.trans (G.os.trans (U.os.trans D.os)),O.tape.trans (G.tape.trans (U.tape.trans D.tape)),O.output.trans (G.output.trans (U.output.trans D.output)),by have:=O.size;omega,ab⟩;refine⟨r,t,s,u,rfl,r1,?_,r2,(ab _ (by omega)).trans ad,az.trans (aQ.mono (by omega))⟩;have:RowIs u w.heap.size 191 [.int .u64 d,.int .i64 p,.int .u64 x]:=(ab _ (by omega)).trans H;exact(this.cell 0).trans rfl
 obtain⟨aP,aZ,aT⟩:=Zku;have W:=U5 d p x;have Q:=Db W;have HZ:=Db (Qy d p x);have be:(d:Int).tmod 2=((d%2:Nat):Int):=by rw[Int.tmod_eq_emod_of_nonneg (by omega)];omega
 have aB:=Db (Q1 (d%2) (ckB d p x) W);have aI:=Db al;have aJ:=Db am;have aK:=Db L;have aE:=Db (show z.heap.size=w.heap.size+1 from ay);have aO:∀o,(f.alloc o).cell? ⟨w.heap.size,0,none⟩=some (.int .u64 d):=fun o=>(World.cell?_of_block (w:=f) (a:=⟨w.heap.size,0,none⟩) (Below.heap_alloc _ _ _ (show w.heap.size<f.heap.size by omega))).trans (((Y _ _ _ aa).cell 0).trans rfl)
 have c0:i.cell? ⟨w.heap.size,0,none⟩=some (.int .u64 d):=(H.cell 0).trans rfl;have c1:i.cell? ⟨w.heap.size,1,none⟩=some (.int .i64 p):=(H.cell 1).trans rfl;have c2:i.cell? ⟨w.heap.size,2,none⟩=some (.int .u64 x):=(H.cell 2).trans rfl;clear aa aU ay an ac Y aW ao av Z aX V az H ad ak aw al am L W;have bc:=fun (w:World) (C:Array Value) (n c:Nat)=>Lib.run_convert_bytes_const (P:=Tryz.prog) w 59 5 C n c Tryz.underlying59 (by kernel_rfl)
 go_enter Tryz.func160,Tryz.ntmps160;go_upto_region 1 with(refine JO rfl 207 rfl Zii ?_);rw[show w.alloc (.cells #[Value.int .u64 d,.int .i64 p,.int .u64 x] 191)=z from Da aI];rw[show z.alloc (.cells (pcL 0 (Dp 64)).toArray 207)=f from Da aJ]
 (try simp only[pE])
 go_upto_region 3 with(first|(go_at_call 212;rw[show f.alloc (.cells #[.int .u8 115,.int .u8 105,.int .u8 108,.int .u8 116] 5 (4,5))=i from Da aK];refine(Da ae).mono ?_;rintro e w1 ⟨a1,l1,a3,rfl,au,ac,aF⟩;have m1:=au.cell 1;have m2:=au.cell 2;clear aO)|(go_at_call 214;refine(Da af _ _ _ _ aF).mono ?_;rintro e w2 ⟨a2,l2,a4,rfl,aG⟩)|(go_at_call 213;refine(Da ag _ _ _ _ aG).mono ?_;rintro e g ⟨rfl,aH⟩;obtain⟨A,m,T,N,F,aj,ah⟩:=Da HM g aH;have aL:=Db T;have aM:=Db F;have aN:=Db N;clear T F N)|(refine JO rfl 188 rfl Kn ?_;rw[show g.alloc (.cells (Dc (Dp 64)).toArray 188)=A from Da aL])|(refine wpList_store_row rfl 188 _ _ rfl g.heap.size (Dc (ckA d p x)).toArray rfl rfl 188 _ (Da aN) (by rw[D7];simp[Dh,Da HZ]) (by simp[Dh,Jq,Da HZ]) (KF _) ?_;rw[Da aM]));refine wp_region_held_drew (S:=fun _=>True) (by kernel_rfl) trivial (fun ba=>?_);refine tk 0 ?_;try simp only[pE];refine tk 1 ?_;try simp only[pE];refine rk 2 (fun K E=>?_);go_simp;go_at_call 215;refine(Da aj).mono ?_;rintro e w' ⟨rfl,hw⟩;rw[hw];clear hw;go_wp2_with fail;refine E.out _ _ trivial (fun a6=>?_);clear E K
 (try simp only[pE])
 refine rk 3 (fun K E=>?_);go_simp;go_at_call 212;refine(Da ah).mono ?_;rintro e w7 ⟨a7,l7,c7,u,rfl,ar,bb,HP⟩;go_wp2_with fail;refine E.out _ _ trivial (fun a8=>?_);clear E K
 (try simp only[pE])
 refine rk 4 (fun K E=>?_);refine KA rfl _ _ 59 59 rfl _ _ rfl rfl ar ?_;refine E.out _ _ trivial (fun a9=>?_);clear E K
 (try simp only[pE])
 refine wpAnyH_done (by kernel_rfl) ?_ _;obtain⟨aq,ax,ap⟩:=Da HP;have aD:=Db aq;have ai:=Db ax;have aC:=Db ap;clear aq ax ap HP ae af ag HM aj ah ar;go_upto_region 4 with fail;refine wp_region_lit ?_;go_wp2_with (first|(refine wpList_load_row rfl 188 _ rfl g.heap.size rfl 188 _ (0,0) _ (Da aD) JF rfl (by rw[D7];simp[Dh,Da Q]) ?_)|(refine ZgC rfl 207 0 1 _ _ rfl (.int .i64 ((d%2:Nat):Int)) (Dx (ckB d p x)) rfl rfl (Da aB) ?_)|(refine wpList_store_row rfl 207 _ _ rfl z.heap.size (pcL (d%2) (ckB d p x)).toArray rfl rfl 207 _ (Da ai) (by rw[Qu];simp[JS,Da Q]) (by simp[JS,Da Q,Jq]) (all_oneCell_toArray (Ziv _ _)) ?_));have aS:RowIs (u.setRow z.heap.size (pcL (d%2) (ckB d p x)).toArray) z.heap.size 207 (pcL (d%2) (ckB d p x)):=setRow_heap u _ _ _ 207 _ (Da ai);refine bodyPost_ret (v:=pcV (d%2) (ckB d p x)) (results_cell_row rfl _ _ z.heap.size 207 _ (0,0) _ rfl aS aZ (by cases aP<;>first|rfl|(simp[TypeDesc.isRow]at aT)) ?_) rfl ⟨rfl,?_⟩
 ·rw[Qu];simp[JS,Da Q]
 ·have hn:=Da aE;exact(Da aC).trans ⟨rfl,rfl,rfl,by simp,fun j hj=>setRow_other u _ j _ (by omega)⟩
def J4(db sb so:Nat)(nd:Nat->Int)(cl:Bool)(hd:Nat)(va:Value)(tp tx:Int)(vp:Value):LVa:=
 [.pointer (some ⟨db,0,none⟩),.pointer (some ⟨sb,so,none⟩)]++ndL nd++[.bool cl,.int .i64 hd,va,.int .i64 tp,.int .u64 tx,vp]
theorem Zmv(b d so:Nat)(a:Nat->Int)(cl:Bool)(c:Nat)(g:Value)(e f:Int)(i:Value)(j:Nat)(h:j<96):(J4 b d so a cl c g e f i)[2+j]?=some (.int .i64 (a j)):=by
 unfold J4;rw[List.append_assoc,List.getElem?_append_right (by simp),List.getElem?_append_left (by simp[Jp];omega),<-Qm a j h]
 congr 1;simp
theorem Jk(f h so:Nat)(g:Nat->Int)(cl:Bool)(a:Nat)(d:Value)(b c:Int)(e:Value)(j:Nat):(J4 f h so g cl a d b c e)[98+j]? = [Value.bool cl,.int .i64 a,d,.int .i64 b,.int .u64 c,e][j]? := by
 unfold J4;rw[List.getElem?_append_right (by simp[Jp])]
 congr 1;simp[Jp]
theorem Uj(a d so:Nat)(c:Nat->Int)(cl:Bool)(b:Nat)(g:Value)(e f:Int)(h:Value)(j:Nat)(u:Value):(J4 a d so c cl b g e f h).set (98+j) u=[.pointer (some ⟨a,0,none⟩),.pointer (some ⟨d,so,none⟩)]++ndL c++[Value.bool cl,.int .i64 b,g,.int .i64 e,.int .u64 f,h].set j u:=by
 unfold J4;rw[List.set_append_right _ _ (by simp[Jp])]
 congr 2;simp[Jp]
structure PlanW(w:World)(pb db sb so:Nat)(nd:Nat->Int)(cl:Bool)(hd:Nat)(va:Value)(es:LI)(tp tx:Int)(vp:Value)(ps:LB):Prop where
 row:RowIs w pb 184 (J4 db sb so nd cl hd va tp tx vp)
 sa:Sl w 350 2 va es.length (Ds es)
 sp:SlP w vp ps
 oa:¬Own va pb
 op:¬Own vp pb
 ap:∀k,Own va k->¬Own vp k
theorem PlanW.below{w w':World}{pb c f so:Nat}{e:Nat->Int}{cl:Bool}{d:Nat}{j:Value}{es:LI}{g i:Int}{l:Value}{ps:LB}(h:PlanW w pb c f so e cl d j es g i l ps)(a:Below w.heap.size w w'):PlanW w' pb c f so e cl d j es g i l ps:=
 ⟨(a.block _ h.row.lt).trans h.row,h.sa.kept (fun k b _=>a.block k b),Sl.kept h.sp (fun k b _=>a.block k b),h.oa,h.op,h.ap⟩
theorem PlanW.cells{w:World}{pb a d so:Nat}{c:Nat->Int}{cl:Bool}{b:Nat}{e:Value}{es:LI}{i k:Int}{f:Value}{ps:LB}(h:PlanW w pb a d so c cl b e es i k f ps):
  w.cell? ⟨pb,0,none⟩=some (.pointer (some ⟨a,0,none⟩))/\w.cell? ⟨pb,1,none⟩=some (.pointer (some ⟨d,so,none⟩))/\(∀j,j<96->w.cell? ⟨pb,2+j,none⟩=some (.int .i64 (c j)))/\w.cell? ⟨pb,98,none⟩=some (.bool cl)/\w.cell? ⟨pb,99,none⟩=some (.int .i64 b)/\w.cell? ⟨pb,100,none⟩=some e/\w.cell? ⟨pb,103,none⟩=some f:=
 ⟨(h.row.cell 0).trans rfl,(h.row.cell 1).trans rfl,fun j g=>(h.row.cell (2+j)).trans (Zmv _ _ _ _ _ _ _ _ _ _ j g),(h.row.cell 98).trans (Jk _ _ _ _ _ _ _ _ _ _ 0),(h.row.cell 99).trans (Jk _ _ _ _ _ _ _ _ _ _ 1),(h.row.cell 100).trans (Jk _ _ _ _ _ _ _ _ _ _ 2),(h.row.cell 103).trans (Jk _ _ _ _ _ _ _ _ _ _ 5)⟩
theorem PlanW.next{w w':World}{pb a d so:Nat}{c:Nat->Int}{cl:Bool}{n:Nat}{l:Value}{es:LI}{f i:Int}{m:Value}{ps:LB}(h:PlanW w pb a d so c cl n l es f i m ps)(p:Nat)(q:RowIs w' pb 184 ((J4 a d so c cl n l f i m).set 99 (.int .i64 ((p+1:Nat):Int))))(o:Fr (fun k=>k=pb) w w'):PlanW w' pb a d so c cl (p+1) l es f i m ps:=
 ⟨by rw[Uj (j:=1)]at q;exact q,h.sa.fr o (fun g b e=>h.oa (by rw[<-e];exact b)),Sl.fr h.sp o (fun g b e=>h.op (by rw[<-e];exact b)),h.oa,h.op,h.ap⟩
theorem PlanW.piece{w w':World}{pb d q so:Nat}{o:Nat->Int}{cl:Bool}{f:Nat}{b:Value}{es:LI}{r s:Int}{c a:Value}{ps p:LB}(h:PlanW w pb d q so o cl f b es r s c ps)(u:SlP w' a p)(i:Fr (Own c) w w')(m:Dk w c a):PlanW (w'.setCell ⟨pb,103,none⟩ a) pb d q so o cl f b es r s a p:=by
 have y:RowIs w' pb 184 _:=h.row.fr i h.op;have z:Sl w' 350 2 b es.length (Ds es):=h.sa.fr i (fun g v=>h.ap g v);have n:¬Own a pb:=fun e=>(m _ e).elim h.op (fun t=>by have:=h.row.lt;omega)
 refine⟨?_,z.setCell _ _ h.oa,Sl.setCell u _ _ n,h.oa,n,fun k l x=>(m _ x).elim (h.ap k l) (fun t=>by have:=h.sa.lt l;omega)⟩;have:=y.set 103 a;rw[Uj (j:=5)]at this;exact this
theorem PlanW.put{w w':World}{pb i q so:Nat}{p:Nat->Int}{cl:Bool}{l:Nat}{g a:Value}{es c:LI}{r s:Int}{t:Value}{ps:LB}(h:PlanW w pb i q so p cl l g es r s t ps)(u:Sl w' 350 2 a c.length (Ds c))(o:Dk w g a)(m:Zd6 w w' pb 100 g a):PlanW w' pb i q so p cl l a c r s t ps:=by
 have v:¬Own a pb:=fun e=>(o _ e).elim h.oa (fun d=>by have:=h.row.lt;omega)
 refine⟨?_,u,Sl.kept h.sp (fun k f e=>m.block k f (fun b=>h.op (by rw[<-b];exact e)) (fun b=>h.ap k b e)),v,h.op,fun k f n=>(o _ f).elim (fun d=>h.ap k d n) (fun d=>by have:=Sl.lt h.sp n;omega)⟩;have:=h.row.set 100 a;rw[Uj (j:=2)]at this;exact m.head.trans this
theorem Zct{P:Program}{o:Oper}{a:Act}(X:World)(t:TypeId)(i j:Nat)(x y:Operand)(ho:o.op = .build t #[(i,x),(j,y)])(u v:Value)(d:a.eval x=u)(f:a.eval y=v){b:Array Value}(c:P.built t [(i,u),(j,v)]=some b):(execOp a.eval o).run P X = .ok (.value (.agg b)) X:=by
 have e:((#[(i,x),(j,y)]:Array (Nat×Operand)).map fun (i,x)=>(i,a.eval x)) = #[(i,u),(j,v)]:=by simp[d,f]
 unfold execOp;simp only[ho,Sem.run_bind,e];rw[run_build X t #[(i,u),(j,v)] b c]
 rfl
def Qb(w:World)(pb db sb so:Nat)(nd:Nat->Int)(cl:Bool)(va:Value)(es:LI)(tp tx:Int)(vp:Value)(ps:LB)(r:Nat)(s:By)(p:Nat)(e:Ending)(w':World):Prop:=
 e = .returned (.agg #[.int .i64 (p:Nat),.int .u64 (Dm s:Nat)])/\∃va' es' vp',PlanW w' pb db sb so nd cl (p+1) va' es' tp tx vp' (ps++[(p,s)])/\SrtR es'/\es'.length=es.length+1/\(∀x,x∈es'↔x=((r:Int),(p:Int))\/x∈es)/\Fr (fun k=>k=pb\/Own va k\/Own vp k) w w'/\Dk w va va'/\Dk w vp vp'
theorem ZjM(w:World)(pb Q o so:Nat)(z:Nat->Int)(cl:Bool)(V:Nat)(A:Value)(es:LI)(tp tx:Int)(vp:Value)(ps:LB)(h:PlanW w pb Q o so z cl V A es tp tx vp ps)
  (vb:Value) (R:LI) (ah:w.cell? ⟨o,so,none⟩=some vb) (ay:Sl w 350 2 vb R.length (Ds R)) (aI:R.length<=10000) (aS:SrtR R) (r:Nat) (aN:∀x∈R,x.1≠r) (aQ:SrtR es) (aG:es.length<=10000) (aM:∀x∈es,x.1≠r) (hh:V<=1536) (hz:∃k,k<96/\z ((V/16+k)%96)<=0) (s:By) (F:s.size=64) (hl:ps.length<=1000000):
  Calls Tryz.prog 272 #[.pointer (some ⟨pb,0,none⟩),.int .u64 r,Dx s] w (Qb w pb Q o so z cl A es tp tx vp ps r s (DI z 96 V%1536)):=by
 obtain⟨a,az,aV,a9,aP,aC⟩:=De w (Dc s) 188;obtain⟨B,aA,aW,aH,aR,aD⟩:=De a [.int .i64 0,.int .u64 0] 175;have ae:Below w.heap.size w B:=aC.trans (aD.mono (by omega));have bi:=h.row.lt;have aT:o<w.heap.size:=World.block_lt_of_cell? _ _ ah;obtain⟨p,hp⟩:∃p,p=DI z 96 V%1536:=⟨_,rfl⟩;rw[<-hp];have bh:p<1536:=by omega
 have aF:RowIs B w.heap.size 188 (Dc s):=aH _ _ _ aV;obtain⟨C,G,D,rfl⟩:=Sl.shape h.sp;have HG:Hid (Calls Tryz.prog 300 #[.pointer (some ⟨o,so,none⟩),.int .u64 r] B fun e X=>e = .returned (.tuple #[.int .i64 0,.bool false])/\Below B.heap.size B X):=(getR B o so vb R r ((ae.cell (p:=⟨o,so,none⟩) aT).trans ah) (ay.kept (fun k t _=>ae.block k t)) aI aS).mono fun e X ⟨v,b,he,H,hB⟩=>by
  rcases H with⟨_,hm⟩|⟨rfl,rfl,_⟩
  ·exact absurd rfl (aN _ hm)
  ·exact⟨he,hB⟩
 have HN:Hid (∀X,Below w.heap.size w X->RowIs X w.heap.size 188 (Dc s)->RowIs X a.heap.size 175 [.int .i64 0,.int .u64 0]->Calls Tryz.prog 302 #[.pointer (some ⟨pb,0,none⟩)] X fun e Y=>e = .returned (.int .i64 p)/\Y.rangeAt w.heap.size 0 (Dc s)/\Y.cell? ⟨pb,103,none⟩=some (.slice C G D)/\Hid (PlanW Y pb Q o so z cl (p+1) A es tp tx (.slice C G D) ps/\Fr (fun k=>k=pb) w Y/\RowIs Y w.heap.size 188 (Dc s)/\RowIs Y a.heap.size 175 [.int .i64 0,.int .u64 0])):=fun X y N O=>by
  have T:=h.below y;obtain⟨c0,c1,c2,c3,c4,c5,c6⟩:=T.cells;refine(Zfn X pb _ T.row z V hh c2 c4 (T.row.frozen 99) hz).mono ?_;rintro e Y ⟨p',ba,r0,rfl,r1,W,P⟩;have e':p'=p:=by rw[ba,hp]
  subst e';have q3:RowIs Y w.heap.size 188 (Dc s):=N.fr W (by omega);have ax:=T.next p' r0 W;refine⟨rfl,fun j v n=>by rw[q3.cell,Nat.zero_add];exact n,ax.cells.2.2.2.2.2.2,ax,(Fr.of_below y).then W (fun _ _ h=>h),q3,O.fr W (by omega)⟩
 have HA:Hid (∀Y,Hid (PlanW Y pb Q o so z cl (p+1) A es tp tx (.slice C G D) ps/\Fr (fun k=>k=pb) w Y/\RowIs Y w.heap.size 188 (Dc s)/\RowIs Y a.heap.size 175 [.int .i64 0,.int .u64 0])->∃Z,Y.drew.alloc (.cells (pcL p s).toArray 207)=Z/\Z.rangeAt w.heap.size 0 (Dc s)/\Z.cell? ⟨pb,103,none⟩=some (.slice C G D)/\∃f m l d,(Builtin.append_ #[182,182] 182 #[.slice C G D,.slice (some ⟨Y.heap.size,0,none⟩) 1 1]).run Tryz.prog Z = .ok (.slice f m l) d/\d.rangeAt w.heap.size 0 (Dc s)/\d.cell? ⟨pb,103,none⟩=some (.slice C G D)/\d.frozen? ⟨pb,103,none⟩=false/\(d.setCell ⟨pb,103,none⟩ (.slice f m l)).rangeAt w.heap.size 0 (Dc s)/\
   Hid (Calls Tryz.prog 243 #[.pointer (some ⟨pb,100,none⟩),.int .u64 r,.int .i64 p] (d.setCell ⟨pb,103,none⟩ (.slice f m l)) fun e q=>e = .returned (.tuple #[])/\RowIs q w.heap.size 188 (Dc s)/\RowIs q a.heap.size 175 [.int .i64 0,.int .u64 0]/\Hid (∀w7,Fr (fun k=>k=a.heap.size) q w7->Qb w pb Q o so z cl A es tp tx (.slice C G D) ps r s p (.returned (.agg #[.int .i64 (p:Nat),.int .u64 (Dm s:Nat)])) w7))):=fun Y hY=>by
  obtain⟨T,H,N,O⟩:=Da hY;obtain⟨Z,hZ,bb,bg,bj,a8⟩:=De Y.drew (pcL p s) 207;have ad:Below Y.heap.size Y Z:=((Below.refl Y.heap.size Y).drew).trans a8;have ac:=T.below ad;have bf:=H.size;have z1:RowIs Z w.heap.size 188 (Dc s):=(ad.block _ N.lt).trans N;have z2:RowIs Z a.heap.size 175 [.int .i64 0,.int .u64 0]:=(ad.block _ O.lt).trans O;obtain⟨v',d,r1,f,m,l,rfl,W,P,r4⟩:=appP Z _ ps ac.sp Y.heap.size p s F bb hl;have ai:∀k,Own (.slice C G D) k->k<w.heap.size:=fun k t=>Sl.lt h.sp t
  have y1:RowIs d w.heap.size 188 (Dc s):=z1.fr P (fun e=>by have:=ai _ e;omega);have y2:RowIs d a.heap.size 175 [.int .i64 0,.int .u64 0]:=z2.fr P (fun e=>by have:=ai _ e;omega);have y3:RowIs d pb 184 _:=ac.row.fr P ac.op;have ab:=ac.piece W P r4;have aK:w.heap.size≠pb:=by omega
  have aL:a.heap.size≠pb:=by omega
  have bk:Z.heap.size<=d.heap.size:=P.size;have x1:RowIs (d.setCell ⟨pb,103,none⟩ (.slice f m l)) w.heap.size 188 (Dc s):=(Below.heap_setCell _ _ _ _ aK).trans y1;have x2:RowIs (d.setCell ⟨pb,103,none⟩ (.slice f m l)) a.heap.size 175 [.int .i64 0,.int .u64 0]:=(Below.heap_setCell _ _ _ _ aL).trans y2;refine⟨Z,hZ,fun j v n=>by rw[z1.cell,Nat.zero_add];exact n,ac.cells.2.2.2.2.2.2,f,m,l,d,r1,fun j v n=>by rw[y1.cell,Nat.zero_add];exact n,(y3.cell 103).trans (Jk _ _ _ _ _ _ _ _ _ _ 5),y3.frozen 103,fun j v n=>by rw[x1.cell,Nat.zero_add];exact n,?_⟩;have bl:(d.setCell ⟨pb,103,none⟩ (.slice f m l)).heap.size=d.heap.size:=by simp[World.setCell]
  have L:Fr (fun k=>k=pb\/Own A k\/Own (.slice C G D) k) w (d.setCell ⟨pb,103,none⟩ (.slice f m l)):=by
   refine Fr.set ?_ ⟨pb,103,none⟩ _ (.inl rfl);refine Fr.then (Fr.then (w1:=Y) ⟨H.os,H.tape,H.output,H.size,fun k t y=>H.block k t (fun e=>y (.inl e))⟩ (Fr.of_below ad (X:=fun _=>False)) (fun _ _ h=>h.elim)) P (fun k _ e => .inr (.inr e))
  refine(Qt _ pb 100 A es r p ab.cells.2.2.2.2.2.1 (ab.row.frozen 100) ab.oa ab.sa aG aQ aM).mono ?_;rintro e q ⟨rfl,aX,au,m1,m2,m3,m4,m5,m6,M⟩;have aj:∀k,Own A k->k<w.heap.size:=fun k t=>h.sa.lt t
  have ak:∀k,k≠pb->¬Own A k->k<(d.setCell ⟨pb,103,none⟩ (.slice f m l)).heap.size->q.heap[k]?=(d.setCell ⟨pb,103,none⟩ (.slice f m l)).heap[k]? := fun k I h2 h3=>M.block k h3 I h2
  refine⟨rfl,(ak _ aK (fun e=>by have:=aj _ e;omega) x1.lt).trans x1,(ak _ aL (fun e=>by have:=aj _ e;omega) x2.lt).trans x2,fun w7 h7=>?_⟩;have U:=ab.put m2 m6 M;have a7:PlanW w7 pb Q o so z cl (p+1) aX au tp tx (.slice f m l) (ps++[(p,s)]):=by
   have bm:=M.size;have aJ:∀v,(∀g,Own v g->g≠a.heap.size)->∀g,Own v g->¬(fun k=>k=a.heap.size) g:=fun v n g E=>n g E
   refine⟨U.row.fr h7 (show ¬pb=a.heap.size by omega),U.sa.fr h7 (aJ _ (fun g E e=>?_)),Sl.fr U.sp h7 (aJ _ (fun g E e=>?_)),U.oa,U.op,U.ap⟩
   ·rcases m6 g E with J|J
    ·have:=aj g J;omega
    ·have:=x2.lt;omega
   ·rcases r4 g E with J|J
    ·have:=ai g J;omega
    ·have:=z2.lt;omega
  refine⟨rfl,aX,au,.slice f m l,a7,m3,m4,m5,?_,fun g E=>(m6 g E).imp id (fun J=>by have:=L.size;omega),fun g E=>(r4 g E).imp id (fun J=>by have:=ad.size;omega)⟩;refine Fr.then (w1:=q) ⟨M.os.trans L.os,M.tape.trans L.tape,M.output.trans L.output,Nat.le_trans L.size M.size,fun k t y=>?_⟩ h7 (fun k t e=>by omega);have aB:k≠pb/\¬Own A k:=⟨fun e=>y (.inl e),fun e=>y (.inr (.inl e))⟩;rw[ak k aB.1 aB.2 (Nat.lt_of_lt_of_le t L.size)];exact L.block k t y
 have aE:(Dc s).length=64:=by rw[Dh,F]
 have aZ:=Db aE;have aY:=Db (Q1 p s F);have ar:=Db aW;have am:=Db aF;have al:=Db ae;have be:B.cell? ⟨pb,1,none⟩=some (.pointer (some ⟨o,so,none⟩)):=(h.below ae).cells.2.1;have a1:=Db az;have a2:=Db aA;have bc:=Db (show a.heap.size=w.heap.size+1 from aP);have bd:=Db (show B.heap.size=a.heap.size+1 from aR);clear h ah ay aI aS aN aQ aG aM hh hz aV a9 aP aC aW aH aR aD ae aF aE az aA hp aT;go_enter Tryz.func272,Tryz.ntmps272;go_upto_region 0 with fail;refine wp_region_lit ?_;refine QH rfl 188 _ rfl (Dc s) rfl ?_;rw[show w.alloc (.cells (Dc s).toArray 188)=a from Da a1]
 (try simp only[pE])
 go_upto_region 1 with fail;rw[show a.alloc (.cells #[Value.int .i64 0,.int .u64 0] 175)=B from Da a2];go_upto_region 2 with(go_at_call 300;refine(Da HG).mono ?_;rintro e X ⟨rfl,av⟩;have ag:=Db av;clear av)
 go_quiet (fail)
 have aU:Below w.heap.size w (X.drewN nq):=by
  have I:=(Da al).trans ((Da ag).mono (Da al).size);exact⟨I.os,I.tape,I.output,I.size,I.block⟩
 have N:RowIs (X.drewN nq) w.heap.size 188 (Dc s):=((Da ag).block _ (Da am).lt).trans (Da am);have O:RowIs (X.drewN nq) a.heap.size 175 [.int .i64 0,.int .u64 0]:=((Da ag).block _ (Da ar).lt).trans (Da ar);have a0:=Db (Da HN _ aU N O);clear aU N O HN HG;go_upto_region 4 with(go_at_call 302;refine(Da a0).mono ?_;rintro e Y ⟨rfl,e2,m3,HY⟩);obtain⟨Z,hZ,sZ,mZ,f,m,l,d,aO,s5,m5,f5,s6,an⟩:=Da HA Y HY;have HZ:=Db hZ;have aq:=Db sZ;have ao:=Db s5;have ap:=Db s6;clear hZ sZ s5 s6 HA HY;refine wp_region_held_drew (S:=fun X=>X.rangeAt w.heap.size 0 (Dc s)) (by kernel_rfl) e2 (fun a6=>?_);refine tk 0 ?_;try simp only[pE];refine tk 1 ?_;try simp only[pE];refine tk 2 ?_;try simp only[pE];refine tk 3 ?_;try simp only[pE];refine tk 5 ?_;try simp only[pE];refine wpAnyH_take (i:=6) (v:=Dx s) rfl (by kernel_rfl) (by kernel_rfl) (by kernel_rfl) (fun _ _ _ h=>h) (yieldsIf_load_mid (by rfl) 188 _ rfl w.heap.size 0 rfl (Dc s) _ (fun X y=>y) JF rfl (by rw[D7,Da aZ])) (by assumption) ?_
 (try simp only[pE])
 refine wpAnyH_take (i:=7) (v:=pcV p s) rfl (by kernel_rfl) (by kernel_rfl) (by kernel_rfl) (fun _ _ _ h=>h) (Or.inl ⟨by rfl,fun X _=>?_⟩) (by assumption) ?_
 ·exact Zct X 207 0 1 _ _ rfl (.int .i64 (p:Nat)) (Dx s) rfl rfl (Da aY)
 (try simp only[pE])
 refine wpAnyH_ready (rs:=[4,8]) (by kernel_rfl) (by simp) ?_;refine AllReadyH.cons (i:=4) rfl ?_ (AllReadyH.cons (i:=8) rfl ?_ AllReadyH.nil)
 ·intro K c;go_simp;refine c.out _ _ a6 (fun a4=>?_);clear c K
  (try simp only[pE])
  refine rk 8 (fun K c=>?_);refine K5 rfl _ rfl p s F rfl ?_;rw[show Y.drew.alloc (.cells (pcL p s).toArray 207)=Z from Da HZ];refine c.out _ _ (Da aq) (fun aw=>?_);clear c K
  (try simp only[pE])
  refine rk 9 (fun K c=>?_);refine Jo rfl _ _ 182 182 rfl _ _ rfl rfl aO ?_;refine c.out _ _ (Da ao) (fun a5=>?_);clear c K
  (try simp only[pE])
  refine tk 10 ?_;try simp only[pE];refine tk 11 ?_;try simp only[pE];refine rk 12 (fun K c=>?_);go_simp;refine c.out _ _ (Da ap) (fun a3=>?_);clear c K
  (try simp only[pE])
  refine wpAnyH_done (by kernel_rfl) ?_ _;go_wp2_with (first|(go_at_call 243;refine(Da an).mono ?_;rintro e q ⟨rfl,af,u,HF⟩;have aa:=Db (KI q (some ⟨w.heap.size,0,none⟩) 64 64 s ⟨F.symm,fun e=>(by cases e),fun j v n=>⟨_,rfl,by rw[Addr.add_lit,Nat.zero_add,af.cell];exact n⟩⟩ (by rw[F];decide));rw[KG]at aa;have n0:=u.cell 0;have n1:=u.cell 1;have g0:=u.frozen 0;have g1:=u.frozen 1;clear af u)|(go_at_call 215;refine(Da aa).mono ?_;rintro e w' ⟨rfl,hw⟩;rw[hw];clear hw));exact bodyPost_ret (v := .agg #[.int .i64 (p:Nat),.int .u64 (Dm s:Nat)]) (by simp[results,Tryz.results272,go_sem,n0,n1]) rfl (Da HF _ (((Fr.refl (fun k=>k=a.heap.size) q).set ⟨a.heap.size,0,none⟩ _ rfl).set ⟨a.heap.size,1,none⟩ _ rfl))
 ·intro K c;refine K5 rfl _ rfl p s F rfl ?_;rw[show Y.drew.alloc (.cells (pcL p s).toArray 207)=Z from Da HZ];refine c.out _ _ (Da aq) (fun aw=>?_);clear c K
  (try simp only[pE])
  refine rk 4 (fun K c=>?_);go_simp;refine c.out _ _ aw (fun a4=>?_);clear c K
  (try simp only[pE])
  refine rk 9 (fun K c=>?_);refine Jo rfl _ _ 182 182 rfl _ _ rfl rfl aO ?_;refine c.out _ _ (Da ao) (fun a5=>?_);clear c K
  (try simp only[pE])
  refine tk 10 ?_;try simp only[pE];refine tk 11 ?_;try simp only[pE];refine rk 12 (fun K c=>?_);go_simp;refine c.out _ _ (Da ap) (fun a3=>?_);clear c K
  (try simp only[pE])
  refine wpAnyH_done (by kernel_rfl) ?_ _;go_wp2_with (first|(go_at_call 243;refine(Da an).mono ?_;rintro e q ⟨rfl,af,u,HF⟩;have aa:=Db (KI q (some ⟨w.heap.size,0,none⟩) 64 64 s ⟨F.symm,fun e=>(by cases e),fun j v n=>⟨_,rfl,by rw[Addr.add_lit,Nat.zero_add,af.cell];exact n⟩⟩ (by rw[F];decide));rw[KG]at aa;have n0:=u.cell 0;have n1:=u.cell 1;have g0:=u.frozen 0;have g1:=u.frozen 1;clear af u)|(go_at_call 215;refine(Da aa).mono ?_;rintro e w' ⟨rfl,hw⟩;rw[hw];clear hw));exact bodyPost_ret (v := .agg #[.int .i64 (p:Nat),.int .u64 (Dm s:Nat)]) (by simp[results,Tryz.results272,go_sem,n0,n1]) rfl (Da HF _ (((Fr.refl (fun k=>k=a.heap.size) q).set ⟨a.heap.size,0,none⟩ _ rfl).set ⟨a.heap.size,1,none⟩ _ rfl))
end Go.Proofs.YtaieidcohdhgpaaGreatDoor
