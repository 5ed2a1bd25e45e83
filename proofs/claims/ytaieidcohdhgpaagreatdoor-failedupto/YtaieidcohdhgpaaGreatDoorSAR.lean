/- Failed. -/
import Derived.Test.YtaieidcohdhgpaaGreatDoorSAQ
import Derived.Lib.SlBytesConst
namespace Go.Proofs.YtaieidcohdhgpaaGreatDoor
set_option maxHeartbeats 40000000
set_option maxRecDepth 100000
open Go.RowKit
theorem Ziv(x:Int):0<=IntKind.u64.wrap x/\IntKind.u64.wrap x<18446744073709551616:=by
 simp[IntKind.wrap,IntKind.bits,IntKind.signed];omega
theorem ZlQ(l:List UInt8):0<=Kt l/\Kt l<18446744073709551616:=by
 rcases List.eq_nil_or_concat l with rfl|⟨l',b,rfl⟩
 ·decide
 ·rw[List.concat_eq_append,Zh5];exact Ziv _
def Dp(s:By):Nat:=(Kt s.data.toList).toNat
theorem UW(s:By):Kt s.data.toList=((Dp s:Nat):Int):=by unfold Dp;have:=(ZlQ s.data.toList).1;omega
theorem KA(s:By):Dp s<18446744073709551616:=by unfold Dp;have:=ZlQ s.data.toList;omega
def SlA(b:Nat)(w:World)(v:Value)(s:By):Prop:=SlB b w v s\/∃x l,v = .slice (some x) l l/\RdB w (some x) l l s
theorem SlA.below{b:Nat}{w w':World}{v:Value}{s:By}(h:SlA b w v s)(a:Below w.heap.size w w'):SlA b w' v s:=by
 rcases h with h|⟨x,l,rfl,h⟩
 ·exact .inl (h.below a)
 ·exact .inr ⟨x,l,rfl,h.below a⟩
theorem appA(w:World)(b:Nat)(q:b<=w.heap.size)(v:Value)(s:By)(h:SlA b w v s)(a:Addr)(m c:Nat)(t:By)(z:t.size=m)(A:∀j u,(Dc t)[j]?=some u->w.cell? (a.add j)=some u)(E:s.size+m<=4000000)(aa:0<m:=by omega):
  ∃d i f w',(Builtin.append_ #[59,59] 59 #[v,.slice (some a) m c]).run Tryz.prog w = .ok (.slice d i f) w'/\SlB b w' (.slice d i f) (s++t)/\Fr (Own v) w w'/\Dk w v (.slice d i f):=by
 rcases h with h|⟨x,l,rfl,h⟩
 ·exact JY w b q v s h a m c t z A E
 ·obtain⟨L,C,I,J,K⟩:=info_parts Ku;have F:=h.1;obtain⟨v',w2,M,B,o⟩:=run_append_arg_grows (P:=Tryz.prog) w 59 59 5 L _ 1 1 Tryz.underlying59 C I J K rfl (by decide) x l l (Dc s) (by rw[Dg];omega)
   (fun j u G=>by obtain⟨y,e,H⟩:=h.2.2 j u G;cases e;exact H) a m c (Dc t) (by rw[Dg];omega) A (by omega) (by unfold maxLen;omega) (by omega)
  have p:=Sl.of_owns B;obtain⟨d,i,f,rfl⟩:=p.shape;have r:∀g,Own (.slice d i f) g->w.heap.size<=g:=fun g n=>(B.lt g n).1
  refine⟨d,i,f,w2,M,⟨?_,fun g n=>Nat.le_trans q (r g n)⟩,⟨o.os,o.tape,o.output,o.size,fun k D _=>o.block k D (by simp)⟩,fun g n => .inr (r g n)⟩;rw[Ju,show(s++t).size=l+m by rw[ByteArray.size_append,z,<-F]];exact p
theorem Zd3(w:World)(b:Nat)(hb:b<=w.heap.size)(a:OA)(l c:Nat)(s:By)(h:SlA b w (.slice a l c) s)(x:Nat)(V:x<18446744073709551616)(m:Nat)(hm:m<=8)(S:0<m)(hs:s.size<=2000000):
  Calls Tryz.prog 212 #[.slice a l c,.int .u64 x,.int .i64 m] w fun e w'=>∃f o n,e = .returned (.slice f o n)/\SlB b w' (.slice f o n) (s++⟨(Dz x m).toArray⟩)/\Fr (Own (.slice a l c)) w w'/\Dk w (.slice a l c) (.slice f o n):=by
 have H:=Db h;clear h;go_enter Tryz.func212,Tryz.ntmps212;go_wp2
 go_loopw [0,1,8] (fun v y i wr=>∃(k y':Nat) (f:OA) (o n:Nat),k<=m/\i = .int .i64 k/\y = .int .u64 y'/\v = .slice f o n/\y'<18446744073709551616/\Hid (SlA b wr v (s++⟨((Dz x m).take k).toArray⟩)/\(0<k->SlB b wr v (s++⟨((Dz x m).take k).toArray⟩)))/\Hid (Dz y' (m-k)=(Dz x m).drop k)/\Hid (Fr (Own (.slice a l c)) w wr/\Dk w (.slice a l c) v)) (fun _ _ i _=>m-(intOf i).toNat)
 case atStart=>exact⟨0,x,a,l,c,Nat.zero_le _,rfl,rfl,rfl,V,⟨by show SlA _ _ _ _;rw[List.take_zero,Ky];exact Da H,fun h=>absurd h (Nat.lt_irrefl 0)⟩,rfl,Fr.refl _ _,fun g r => .inl r⟩
 case round=>
  obtain⟨k,y,f,o,n,P,rfl,rfl,rfl,hy,t,M,p⟩:=hrel;by_cases R:k<m
  ·have I:IntKind.u8.wrap (y:Int)=((UInt8.ofNat y).toNat:Int):=J0 y;have aa:=(Da p).1.size;obtain⟨W,F,J,Q,T,q⟩:=De wr [.int .u8 (IntKind.u8.wrap (y:Int))] 5;obtain⟨A,K,B,w2,G,E,C,D⟩:=appA W b (by omega) _ _ ((Da t).1.below q) ⟨wr.heap.size,0,none⟩ 1 1 ⟨#[UInt8.ofNat y]⟩ rfl (fun j u U=>by rw[Addr.add_lit,Nat.zero_add,J.cell,I];exact U) (by rw[ByteArray.size_append];show s.size+(List.toArray _).size+1<=_;simp;omega);have z:=Db E;have L:Hid (Fr (Own (.slice a l c)) w w2/\Dk w (.slice a l c) (.slice A K B)):=by
    refine⟨((Da p).1.then (Fr.of_below (X:=Own (.slice a l c)) q) (fun k _ h=>h)).then C (fun k P e=>((Da p).2 k e).elim id (fun h=>by omega)),fun g r=>?_⟩;rcases D g r with d|d
    ·exact(Da p).2 g d
    ·exact .inr (by omega)
   have N:=Db F;clear E C D J Q T q F I;rw[<-Da N]at G;go_wp2_with (at_builtin;refine Lib.wpList_append_run _ rfl _ _ 59 59 rfl _ _ rfl rfl _ _ G ?_)
   go_roundw
   case rel=>
    obtain⟨d,O⟩:=ZhN R (Da M);exact⟨k+1,y/256,A,K,B,by omega,by go_num,by go_num,rfl,by omega,⟨by show SlA _ _ _ _;rw[d,<-Zi8];exact .inl (Da z),fun _=>by show SlB _ _ _ _;rw[d,<-Zi8];exact Da z⟩,O,L⟩
   case measure=>simp[intOf];omega
  ·obtain rfl:k=m:=by omega
   go_wp2;go_ret;have d:=(Da t).2 S;rw[List.take_of_length_le (by rw[D5];exact Nat.le_refl _)]at d;exact⟨f,o,n,rfl,d,Da p⟩
def J9:By:=⟨#[115,105,108,116]⟩
def Ja(x m:Nat):By:=⟨(Dz x m).toArray⟩
def ckS(turn p x:Nat):By:=J9++Ja turn 8++DG p x
def ckA(turn p x:Nat):By:=⟨#[1]⟩++Di (ckS turn p x) 63
def ckB(turn p x:Nat):By:=(ckA turn p x).extract 0 56++Ja (Dp ((ckA turn p x).extract 0 56)) 8
theorem K2(x m:Nat):(Ja x m).size=m:=ZhO x m
theorem K3(p x:Nat):(DG p x).size=10:=by show(List.toArray _).size=10;simp[D5]
theorem Zne(a p x:Nat):(ckS a p x).size=22:=by unfold ckS;rw[ByteArray.size_append,ByteArray.size_append,K2,K3];rfl
theorem Qx(a p x:Nat):(ckA a p x).size=64:=by unfold ckA;rw[ByteArray.size_append,Jc];rfl
theorem Q8(a p x:Nat):(ckB a p x).size=64:=by unfold ckB;rw[ByteArray.size_append,ByteArray.size_extract,Qx,K2];rfl
theorem ck_spl(a p x:Nat):spl (Dc (ckA a p x)) 56 (Dc (Ja (Dp ((ckA a p x).extract 0 56)) 8))=Dc (ckB a p x):=by
 unfold spl ckB;rw[Ju,Jn,List.drop_eq_nil_of_le (by rw[Dg,Dg,Qx,K2];decide)];simp
theorem ZgE{P:Program}{d:Array Oper}{f:List Oper}{o:Oper}{a:Act}{w:World}{Q:Exit->Act->World->Prop}(g:o.guard=none)(t:TypeId)(i j:Nat)(x y:Operand)(ho:o.op = .build t #[(i,x),(j,y)])(u v:Value)(k:a.eval x=u)(l:a.eval y=v){b:Array Value}(c:P.built t [(i,u),(j,v)]=some b)
  (h:wpList P d Q f (a.put o.dst (.agg b)) w):wpList P d Q (o::f) a w:=by
 have e:((#[(i,x),(j,y)]:Array (Nat×Operand)).map fun (i,x)=>(i,a.eval x)).toList=[(i,u),(j,v)]:=by simp[k,l]
 refine wpList_build g t _ ho ?_ ?_
 ·rw[e,c];rfl
 ·rw[e,c];exact h
def Zmo(w:World)(turn p x:Nat)(e:Ending)(w':World):Prop:=e = .returned (pcV (turn%2) (ckB turn p x))/\Below w.heap.size w w'
theorem Zef(w:World)(d p x:Nat)(ht:d<18446744073709551616)(hp:p<65536)(hx:x<18446744073709551616):
  Calls Tryz.prog 160 #[.agg #[.int .u64 d,.int .i64 p,.int .u64 x]] w (Zmo w d p x):=by
 obtain⟨z,al,aa,aU,ay,an⟩:=De w [.int .u64 d,.int .i64 p,.int .u64 x] 191;obtain⟨f,am,ac,Y,aW,ao⟩:=De z (pcL 0 (Dm 64)) 207;obtain⟨i,L⟩:∃X,f.alloc (.cells (Dc J9).toArray 5 (4,5))=X:=⟨_,rfl⟩;have V:Below f.heap.size f i:=by rw[<-L];exact(Below.refl _ _).alloc (Nat.le_refl _) _
 have aX:i.heap.size=f.heap.size+1:=by rw[<-L];simp
 have Z:∀b t' R,RowIs f b t' R->RowIs i b t' R:=fun b t' R h=>(V.block _ h.lt).trans h
 have av:i.heap[f.heap.size]?=some (.cells (Dc J9).toArray 5 (4,5)):=by rw[<-L];exact heap_alloc_new f _
 have az:Below w.heap.size w i:=an.trans ((ao.mono (by omega)).trans (V.mono (by omega)));have H:=Z _ _ _ (Y _ _ _ aa);have ad:=Z _ _ _ ac;have aw:RdB i (some ⟨f.heap.size,0,none⟩) 4 4 J9:=by
  refine⟨rfl,fun e=>(by cases e),fun j v I=>⟨_,rfl,?_⟩⟩;rw[Addr.add_lit,Nat.zero_add];simp only[World.cell?,av]
  simpa using I
 have ak:SlA f.heap.size i (.slice (some ⟨f.heap.size,0,none⟩) 4 4) J9 := .inr ⟨_,_,rfl,aw⟩;have ae:Hid (Calls Tryz.prog 212 #[.slice (some ⟨f.heap.size,0,none⟩) 4 4,.int .u64 d,.int .i64 8] i fun e w'=>∃r t s,e = .returned (.slice r t s)/\RowIs w' w.heap.size 191 [.int .u64 d,.int .i64 p,.int .u64 x]/\RowIs w' z.heap.size 207 (pcL 0 (Dm 64))/\Hid (SlB f.heap.size w' (.slice r t s) (J9++Ja d 8)/\Below f.heap.size i w')):=(Zd3 i f.heap.size (by omega) _ _ _ J9 ak d ht 8 (by omega) (by omega) (by decide)).mono fun e w' ⟨r,t,s,he,B,y,h3⟩=>by
  have D:Below f.heap.size i w':=⟨y.os,y.tape,y.output,y.size,fun k hk=>y.block k (by omega) (fun e=>by simp[Own,Value.ownBlock]at e;omega)⟩;exact⟨r,t,s,he,(D.block _ (by omega)).trans H,(D.block _ (by omega)).trans ad,B,D⟩
 have af:Hid (∀X a l c,Hid (SlB f.heap.size X (.slice a l c) (J9++Ja d 8)/\Below f.heap.size i X)->Calls Tryz.prog 214 #[.agg #[.int .i64 p,.int .u64 x],.slice a l c] X fun e w'=>∃r t s,e = .returned (.slice r t s)/\Hid (SlB f.heap.size w' (.slice r t s) (ckS d p x)/\Below f.heap.size i w')):=fun X a l c M=>by
  obtain⟨B,y⟩:=Da M;have:=y.size;refine(ZcA X f.heap.size (by omega) a l c _ B p x hp hx (by rw[ByteArray.size_append,K2];decide)).mono ?_;rintro e w' ⟨r,t,s,rfl,q1,q2,q3⟩;exact⟨r,t,s,rfl,q1,y.trans (B.frBelow (by omega) q2)⟩
 have ag:Hid (∀X a l c,Hid (SlB f.heap.size X (.slice a l c) (ckS d p x)/\Below f.heap.size i X)->Calls Tryz.prog 213 #[.int .u8 1,.slice a l c] X fun e w'=>e = .returned (DA (ckA d p x))/\Hid (Below f.heap.size i w')):=fun X a l c M=>by
  obtain⟨B,y⟩:=Da M;refine(ZeK X a l c _ B.rdB (by rw[Zne];decide) 1).mono ?_;rintro e w' ⟨rfl,q⟩;exact⟨rfl,y.trans (q.mono (by have:=y.size;omega))⟩
 have HM:Hid (∀g,Hid (Below f.heap.size i g)->∃A m,g.alloc (.cells (Dc (Dm 64)).toArray 188)=A/\RowIs A g.heap.size 188 (Dc (Dm 64))/\A.setRow g.heap.size (Dc (ckA d p x)).toArray=m/\
   Hid (Calls Tryz.prog 215 #[.slice (some ⟨g.heap.size,0,none⟩) 56 64] m.drew fun e w'=>e = .returned (.int .u64 (Dp ((ckA d p x).extract 0 56):Nat))/\w'=m.drew)/\
   Hid (Calls Tryz.prog 212 #[.slice none 0 0,.int .u64 (Dp ((ckA d p x).extract 0 56):Nat),.int .i64 8] m.drew fun e w'=>∃r t s u,e = .returned (.slice r t s)/\(Builtin.copy_ #[59,59] 3 #[.slice (some ⟨g.heap.size,56,none⟩) 8 8,.slice r t s]).run Tryz.prog w' = .ok (goInt 8) u/\u.cell? ⟨w.heap.size,0,none⟩=some (.int .u64 d)/\Hid (RowIs u g.heap.size 188 (Dc (ckB d p x))/\RowIs u z.heap.size 207 (pcL 0 (Dm 64))/\Below w.heap.size w u))):=fun g M=>by
  have D:=Da M;obtain⟨A,T,N,bd,aY,aR⟩:=De g (Dc (Dm 64)) 188;obtain⟨m,F⟩:∃X,A.setRow g.heap.size (Dc (ckA d p x)).toArray=X:=⟨_,rfl⟩;have aA:RowIs m g.heap.size 188 (Dc (ckA d p x)):=by rw[<-F];exact setRow_heap A _ _ _ 188 _ N
  have U:Below g.heap.size g m:=by rw[<-F];exact aR.trans ⟨rfl,rfl,rfl,by simp,fun j hj=>setRow_other A _ j _ (by omega)⟩
  have bf:m.heap.size=g.heap.size+1:=by rw[<-F];simp[World.setRow,aY]
  have a5:=D.size;have aV:RdB m (some ⟨g.heap.size,0,none⟩) 56 64 ((ckA d p x).extract 0 56):=by
   refine⟨by rw[ByteArray.size_extract,Qx];rfl,fun e=>(by cases e),fun j v I=>⟨_,rfl,?_⟩⟩;rw[Addr.add_lit,Nat.zero_add,aA.cell];rw[Jn,List.drop_zero,List.getElem?_take]at I
   split at I
   ·exact I
   ·cases I
  refine⟨A,m,T,N,F,?_,?_⟩
  ·have:=U8 m.drew _ 56 64 _ (show RdB m.drew (some ⟨g.heap.size,0,none⟩) 56 64 ((ckA d p x).extract 0 56) from aV) (by rw[ByteArray.size_extract,Qx];decide);rw[UW]at this;exact this
  ·refine(Ur m.drew m.heap.size (Nat.le_refl _) none 0 0 ⟨#[]⟩ (SlB.nil _ _) _ (KA _) 8 (by omega) (by decide)).mono ?_;rintro e w' ⟨r,t,s,rfl,B,y,h3⟩;have G:Below m.heap.size m w':=by
    have J:=(SlB.nil m.heap.size m.drew).frBelow (Nat.le_refl _) y;exact⟨J.os,J.tape,J.output,J.size,J.block⟩
   have e0:(⟨#[]⟩:By)++⟨(Dz (Dp ((ckA d p x).extract 0 56)) 8).toArray⟩=Ja (Dp ((ckA d p x).extract 0 56)) 8:=by apply WideShapes.bytes_inj;simp[Ja]
   rw[e0]at B;have a0:RowIs w' g.heap.size 188 (Dc (ckA d p x)):=(G.block _ (by omega)).trans aA;obtain⟨u,r1,r2,O⟩:=UZ w' g.heap.size 188 _ a0 56 8 8 r t s _ B.rdB (by rw[K2];exact Nat.le_refl _) (by rw[Dg,Qx];exact Nat.le_refl _);rw[K2]at r1;rw[ck_spl]at r2;have bg:=G.size;have ab:∀k,k<f.heap.size->u.heap[k]?=i.heap[k]? := fun k hk=>by
    rw[O.block k (by omega) (by simp;omega),G.block k (by omega),U.block k (by omega),D.block k hk]
   have aQ:Below f.heap.size i u:=⟨O.os.trans (G.os.trans (U.os.trans D.os)),O.tape.trans (G.tape.trans (U.tape.trans D.tape)),O.output.trans (G.output.trans (U.output.trans D.output)),by have:=O.size;omega,ab⟩;refine⟨r,t,s,u,rfl,r1,?_,r2,(ab _ (by omega)).trans ad,az.trans (aQ.mono (by omega))⟩;have:RowIs u w.heap.size 191 [.int .u64 d,.int .i64 p,.int .u64 x]:=(ab _ (by omega)).trans H;exact(this.cell 0).trans rfl
 obtain⟨aP,aZ,aT⟩:=UC;have W:=Q8 d p x;have Q:=Db W;have HZ:=Db (Qx d p x);have be:(d:Int).tmod 2=((d%2:Nat):Int):=by rw[Int.tmod_eq_emod_of_nonneg (by omega)];omega
 have aB:=Db (Zhb (d%2) (ckB d p x) W);have aI:=Db al;have aJ:=Db am;have aK:=Db L;have aE:=Db (show z.heap.size=w.heap.size+1 from ay);have aO:∀o,(f.alloc o).cell? ⟨w.heap.size,0,none⟩=some (.int .u64 d):=fun o=>(World.cell?_of_block (w:=f) (a:=⟨w.heap.size,0,none⟩) (Below.heap_alloc _ _ _ (show w.heap.size<f.heap.size by omega))).trans (((Y _ _ _ aa).cell 0).trans rfl)
 have c0:i.cell? ⟨w.heap.size,0,none⟩=some (.int .u64 d):=(H.cell 0).trans rfl;have c1:i.cell? ⟨w.heap.size,1,none⟩=some (.int .i64 p):=(H.cell 1).trans rfl;have c2:i.cell? ⟨w.heap.size,2,none⟩=some (.int .u64 x):=(H.cell 2).trans rfl;clear aa aU ay an ac Y aW ao av Z aX V az H ad ak aw al am L W;have bc:=fun (w:World) (C:Array Value) (n c:Nat)=>Lib.run_convert_bytes_const (P:=Tryz.prog) w 59 5 C n c Tryz.underlying59 (by kernel_rfl)
 go_enter Tryz.func160,Tryz.ntmps160;go_upto_region 1 with(refine JF rfl 207 rfl US ?_);rw[show w.alloc (.cells #[Value.int .u64 d,.int .i64 p,.int .u64 x] 191)=z from Da aI];rw[show z.alloc (.cells (pcL 0 (Dm 64)).toArray 207)=f from Da aJ]
 (try simp only[pE])
 go_upto_region 3 with(first|(go_at_call 212;rw[show f.alloc (.cells #[.int .u8 115,.int .u8 105,.int .u8 108,.int .u8 116] 5 (4,5))=i from Da aK];refine(Da ae).mono ?_;rintro e w1 ⟨a1,l1,a3,rfl,au,ac,aF⟩;have m1:=au.cell 1;have m2:=au.cell 2;clear aO)|(go_at_call 214;refine(Da af _ _ _ _ aF).mono ?_;rintro e w2 ⟨a2,l2,a4,rfl,aG⟩)|(go_at_call 213;refine(Da ag _ _ _ _ aG).mono ?_;rintro e g ⟨rfl,aH⟩;obtain⟨A,m,T,N,F,aj,ah⟩:=Da HM g aH;have aL:=Db T;have aM:=Db F;have aN:=Db N;clear T F N)|(refine JF rfl 188 rfl Kq ?_;rw[show g.alloc (.cells (Dc (Dm 64)).toArray 188)=A from Da aL])|(refine wpList_store_row rfl 188 _ _ rfl g.heap.size (Dc (ckA d p x)).toArray rfl rfl 188 _ (Da aN) (by rw[D2];simp[Dg,Da HZ]) (by simp[Dg,Jl,Da HZ]) (KG _) ?_;rw[Da aM]));refine wp_region_held_drew (S:=fun _=>True) (by kernel_rfl) trivial (fun ba=>?_);refine tk 0 ?_;try simp only[pE];refine tk 1 ?_;try simp only[pE];refine rk 2 (fun K E=>?_);go_simp;go_at_call 215;refine(Da aj).mono ?_;rintro e w' ⟨rfl,hw⟩;rw[hw];clear hw;go_wp2_with fail;refine E.out _ _ trivial (fun a6=>?_);clear E K
 (try simp only[pE])
 refine rk 3 (fun K E=>?_);go_simp;go_at_call 212;refine(Da ah).mono ?_;rintro e w7 ⟨a7,l7,c7,u,rfl,ar,bb,HP⟩;go_wp2_with fail;refine E.out _ _ trivial (fun a8=>?_);clear E K
 (try simp only[pE])
 refine rk 4 (fun K E=>?_);refine KB rfl _ _ 59 59 rfl _ _ rfl rfl ar ?_;refine E.out _ _ trivial (fun a9=>?_);clear E K
 (try simp only[pE])
 refine wpAnyH_done (by kernel_rfl) ?_ _;obtain⟨aq,ax,ap⟩:=Da HP;have aD:=Db aq;have ai:=Db ax;have aC:=Db ap;clear aq ax ap HP ae af ag HM aj ah ar;go_upto_region 4 with fail;refine wp_region_lit ?_;go_wp2_with (first|(refine wpList_load_row rfl 188 _ rfl g.heap.size rfl 188 _ (0,0) _ (Da aD) JQ rfl (by rw[D2];simp[Dg,Da Q]) ?_)|(refine ZgE rfl 207 0 1 _ _ rfl (.int .i64 ((d%2:Nat):Int)) (DA (ckB d p x)) rfl rfl (Da aB) ?_)|(refine wpList_store_row rfl 207 _ _ rfl z.heap.size (pcL (d%2) (ckB d p x)).toArray rfl rfl 207 _ (Da ai) (by rw[KW];simp[JN,Da Q]) (by simp[JN,Da Q,Jl]) (all_oneCell_toArray (UN _ _)) ?_));have aS:RowIs (u.setRow z.heap.size (pcL (d%2) (ckB d p x)).toArray) z.heap.size 207 (pcL (d%2) (ckB d p x)):=setRow_heap u _ _ _ 207 _ (Da ai);refine bodyPost_ret (v:=pcV (d%2) (ckB d p x)) (results_cell_row rfl _ _ z.heap.size 207 _ (0,0) _ rfl aS aZ (by cases aP<;>first|rfl|(simp[TypeDesc.isRow]at aT)) ?_) rfl ⟨rfl,?_⟩
 ·rw[KW];simp[JN,Da Q]
 ·have hn:=Da aE;exact(Da aC).trans ⟨rfl,rfl,rfl,by simp,fun j hj=>setRow_other u _ j _ (by omega)⟩
def J8(db sb so:Nat)(nd:Nat->Int)(cl:Bool)(hd:Nat)(va:Value)(tp tx:Int)(vp:Value):LVa:=
 [.pointer (some ⟨db,0,none⟩),.pointer (some ⟨sb,so,none⟩)]++ndL nd++[.bool cl,.int .i64 hd,va,.int .i64 tp,.int .u64 tx,vp]
theorem ZmM(b d so:Nat)(a:Nat->Int)(cl:Bool)(c:Nat)(g:Value)(e f:Int)(i:Value)(j:Nat)(h:j<96):(J8 b d so a cl c g e f i)[2+j]?=some (.int .i64 (a j)):=by
 unfold J8;rw[List.append_assoc,List.getElem?_append_right (by simp),List.getElem?_append_left (by simp[Jo];omega),<-Qn a j h]
 congr 1;simp
theorem Jz(f h so:Nat)(g:Nat->Int)(cl:Bool)(a:Nat)(d:Value)(b c:Int)(e:Value)(j:Nat):(J8 f h so g cl a d b c e)[98+j]? = [Value.bool cl,.int .i64 a,d,.int .i64 b,.int .u64 c,e][j]? := by
 unfold J8;rw[List.getElem?_append_right (by simp[Jo])]
 congr 1;simp[Jo]
theorem Um(a d so:Nat)(c:Nat->Int)(cl:Bool)(b:Nat)(g:Value)(e f:Int)(h:Value)(j:Nat)(u:Value):(J8 a d so c cl b g e f h).set (98+j) u=[.pointer (some ⟨a,0,none⟩),.pointer (some ⟨d,so,none⟩)]++ndL c++[Value.bool cl,.int .i64 b,g,.int .i64 e,.int .u64 f,h].set j u:=by
 unfold J8;rw[List.set_append_right _ _ (by simp[Jo])]
 congr 2;simp[Jo]
structure PlanW(w:World)(pb db sb so:Nat)(nd:Nat->Int)(cl:Bool)(hd:Nat)(va:Value)(es:LI)(tp tx:Int)(vp:Value)(ps:LB):Prop where
 row:RowIs w pb 184 (J8 db sb so nd cl hd va tp tx vp)
 sa:Sl w 350 2 va es.length (Du es)
 sp:SlP w vp ps
 oa:¬Own va pb
 op:¬Own vp pb
 ap:∀k,Own va k->¬Own vp k
theorem PlanW.below{w w':World}{pb c f so:Nat}{e:Nat->Int}{cl:Bool}{d:Nat}{j:Value}{es:LI}{g i:Int}{l:Value}{ps:LB}(h:PlanW w pb c f so e cl d j es g i l ps)(a:Below w.heap.size w w'):PlanW w' pb c f so e cl d j es g i l ps:=
 ⟨(a.block _ h.row.lt).trans h.row,h.sa.kept (fun k b _=>a.block k b),Sl.kept h.sp (fun k b _=>a.block k b),h.oa,h.op,h.ap⟩
theorem PlanW.cells{w:World}{pb a d so:Nat}{c:Nat->Int}{cl:Bool}{b:Nat}{e:Value}{es:LI}{i k:Int}{f:Value}{ps:LB}(h:PlanW w pb a d so c cl b e es i k f ps):
  w.cell? ⟨pb,0,none⟩=some (.pointer (some ⟨a,0,none⟩))/\w.cell? ⟨pb,1,none⟩=some (.pointer (some ⟨d,so,none⟩))/\(∀j,j<96->w.cell? ⟨pb,2+j,none⟩=some (.int .i64 (c j)))/\w.cell? ⟨pb,98,none⟩=some (.bool cl)/\w.cell? ⟨pb,99,none⟩=some (.int .i64 b)/\w.cell? ⟨pb,100,none⟩=some e/\w.cell? ⟨pb,103,none⟩=some f:=
 ⟨(h.row.cell 0).trans rfl,(h.row.cell 1).trans rfl,fun j g=>(h.row.cell (2+j)).trans (ZmM _ _ _ _ _ _ _ _ _ _ j g),(h.row.cell 98).trans (Jz _ _ _ _ _ _ _ _ _ _ 0),(h.row.cell 99).trans (Jz _ _ _ _ _ _ _ _ _ _ 1),(h.row.cell 100).trans (Jz _ _ _ _ _ _ _ _ _ _ 2),(h.row.cell 103).trans (Jz _ _ _ _ _ _ _ _ _ _ 5)⟩
theorem PlanW.next{w w':World}{pb a d so:Nat}{c:Nat->Int}{cl:Bool}{n:Nat}{l:Value}{es:LI}{f i:Int}{m:Value}{ps:LB}(h:PlanW w pb a d so c cl n l es f i m ps)(p:Nat)(q:RowIs w' pb 184 ((J8 a d so c cl n l f i m).set 99 (.int .i64 ((p+1:Nat):Int))))(o:Fr (fun k=>k=pb) w w'):PlanW w' pb a d so c cl (p+1) l es f i m ps:=
 ⟨by rw[Um (j:=1)]at q;exact q,h.sa.fr o (fun g b e=>h.oa (by rw[<-e];exact b)),Sl.fr h.sp o (fun g b e=>h.op (by rw[<-e];exact b)),h.oa,h.op,h.ap⟩
theorem PlanW.piece{w w':World}{pb d q so:Nat}{o:Nat->Int}{cl:Bool}{f:Nat}{b:Value}{es:LI}{r s:Int}{c a:Value}{ps p:LB}(h:PlanW w pb d q so o cl f b es r s c ps)(u:SlP w' a p)(i:Fr (Own c) w w')(m:Dk w c a):PlanW (w'.setCell ⟨pb,103,none⟩ a) pb d q so o cl f b es r s a p:=by
 have y:RowIs w' pb 184 _:=h.row.fr i h.op;have z:Sl w' 350 2 b es.length (Du es):=h.sa.fr i (fun g v=>h.ap g v);have n:¬Own a pb:=fun e=>(m _ e).elim h.op (fun t=>by have:=h.row.lt;omega)
 refine⟨?_,z.setCell _ _ h.oa,Sl.setCell u _ _ n,h.oa,n,fun k l x=>(m _ x).elim (h.ap k l) (fun t=>by have:=h.sa.lt l;omega)⟩;have:=y.set 103 a;rw[Um (j:=5)]at this;exact this
theorem PlanW.put{w w':World}{pb i q so:Nat}{p:Nat->Int}{cl:Bool}{l:Nat}{g a:Value}{es c:LI}{r s:Int}{t:Value}{ps:LB}(h:PlanW w pb i q so p cl l g es r s t ps)(u:Sl w' 350 2 a c.length (Du c))(o:Dk w g a)(m:Zd7 w w' pb 100 g a):PlanW w' pb i q so p cl l a c r s t ps:=by
 have v:¬Own a pb:=fun e=>(o _ e).elim h.oa (fun d=>by have:=h.row.lt;omega)
 refine⟨?_,u,Sl.kept h.sp (fun k f e=>m.block k f (fun b=>h.op (by rw[<-b];exact e)) (fun b=>h.ap k b e)),v,h.op,fun k f n=>(o _ f).elim (fun d=>h.ap k d n) (fun d=>by have:=Sl.lt h.sp n;omega)⟩;have:=h.row.set 100 a;rw[Um (j:=2)]at this;exact m.head.trans this
theorem ZfF{P:Program}{o:Oper}{a:Act}(X:World)(t:TypeId)(i j:Nat)(x y:Operand)(ho:o.op = .build t #[(i,x),(j,y)])(u v:Value)(d:a.eval x=u)(f:a.eval y=v){b:Array Value}(c:P.built t [(i,u),(j,v)]=some b):(execOp a.eval o).run P X = .ok (.value (.agg b)) X:=by
 have e:((#[(i,x),(j,y)]:Array (Nat×Operand)).map fun (i,x)=>(i,a.eval x)) = #[(i,u),(j,v)]:=by simp[d,f]
 unfold execOp;simp only[ho,Sem.run_bind,e];rw[run_build X t #[(i,u),(j,v)] b c]
 rfl
def Q1(w:World)(pb db sb so:Nat)(nd:Nat->Int)(cl:Bool)(va:Value)(es:LI)(tp tx:Int)(vp:Value)(ps:LB)(r:Nat)(s:By)(p:Nat)(e:Ending)(w':World):Prop:=
 e = .returned (.agg #[.int .i64 (p:Nat),.int .u64 (Dp s:Nat)])/\∃va' es' vp',PlanW w' pb db sb so nd cl (p+1) va' es' tp tx vp' (ps++[(p,s)])/\SrtR es'/\es'.length=es.length+1/\(∀x,x∈es'↔x=((r:Int),(p:Int))\/x∈es)/\Fr (fun k=>k=pb\/Own va k\/Own vp k) w w'/\Dk w va va'/\Dk w vp vp'
section
open Go.RowKit Go.Shelf
attribute [local go_sem] Oper.semAt_some
theorem ZjV{P:Program}{n l:Nat}{Q:Exit->Act->World->Prop}{o:Oper}{a:Act}{w:World}{K:Act->World->Prop}(g:∀c,o.op ≠ .defer c)(h:o.wp P a w K Q):o.wpIn (Fence.wide.inRound l) n P a w K Q:=by
 refine⟨fun f _=>trivial,?_⟩;have e:(o.semAt (Fence.wide.inRound l).round a.eval)=execOp a.eval o:=Oper.semAt_some l a.eval o g;rw[e];unfold Oper.wp at h;generalize (execOp a.eval o).run P w=r at *
 cases r with
 | ok x w'=>
  cases x with
  | enter f args=>exact⟨fun b=>(by cases b),CallsIn.inRound l (callsIn_wide.2 h)⟩
  | row row args=>exact⟨fun b=>(by cases b),fun c d _=>let ⟨v,w',r,s⟩:=h c d;⟨v,w',r,stepsIn_wide.2 s⟩⟩
  | _=>first|exact h|exact h.elim
 | halt x w'=>cases x<;>first|exact h|exact h.elim
theorem Zdf{P:Program}{n l:Nat}{k:Region.Mode}{d:Array Oper}{Q:Exit->Act->World->Prop}(e:¬LetsOut Q)(g:∀(i:Nat) (o:Oper),d[i]?=some o->∀c,o.op ≠ .defer c):
  ∀(fuel:Nat) (listed:Array Bool) (a:Act) (w:World),wpAny P k d Q fuel listed a w->wpAnyIn (Fence.wide.inRound l) n P k d Q fuel listed a w
 | 0,_,_,_,h=>h
 | fuel+1,listed,a,w,h=>⟨h.1,fun i q=>by
  have b:=wpOp_mono (fun m w' p=>Zdf e g (n:=n) (l:=l) fuel _ m w' p) (h.2 i q);unfold wpOp at b;unfold wpOpIn
  cases ho:d[i]? with
  | none=>rw[ho]at b;exact b
  | some o=>
   rw[ho]at b;simp only at b ⊢;by_cases j:Region.wanted o (yielded d a.tmps)=true
   ·rw[if_pos j]at b ⊢;rcases b with b|b
    ·exact ZjV (g i o ho) b
    ·exact absurd b.2 e
   ·rw[if_neg j]at b ⊢;exact⟨fun f _=>trivial,b⟩⟩
def Zle(ops:Array Oper):Bool:=ops.all fun o=>match o.op with | .defer _=>false|_=>true
theorem Zj5{a:Array Oper}(h:Zle a=true):∀(i:Nat) (o:Oper),a[i]?=some o->∀c,o.op ≠ .defer c:=fun i o ho c e=>by
 have:=Array.all_eq_true_iff_forall_mem.1 h o (Array.mem_of_getElem? ho);rw[e]at this;cases this
theorem ZbH{P:Program}{n l id:Nat}{b:Array Oper}{Q:Exit->Act->World->Prop}{a:Act}{w:World}(S:World->Prop)(e:P.follows .mixedOrders=true)(d:¬LetsOut Q)(f:Zle b=true)(c:S w.drew)
  (h:S w.drew->wpAnyH P .any b Q S b.size (Array.replicate b.size false) a w.drew):(Code.region id b true).wpIn (Fence.wide.inRound l) n P Q a w:=
 wpIn_region_any e (Zdf d (Zj5 f) _ _ _ _ (wpAny_of_held _ _ _ _ (h c)))
theorem UY(v:Value)(b:Nat)(h1:0<b)(hz:b<1000000)(n:Nat)(w:World)(d:∃a l c,v = .slice a l c):
  CallsIn Fence.wide n Tryz.prog 172 #[v,.int .i64 b] w fun e w'=>e = .returned (.func (.func 220) #[] #[.pointer (some ⟨w.heap.size,0,none⟩),.pointer (some ⟨w.heap.size+1,0,none⟩)])/\w'=(w.alloc (.cells #[v] 59)).alloc (.cells #[.int .i64 b] 3):=by
 obtain⟨a,l,c,rfl⟩:=d;refine callsIn_wide.2 ?_;have h2:¬((b:Int)<1):=by omega
 go_enter Tryz.func172,Tryz.ntmps172;go_wp2;go_ret;exact⟨rfl,rfl⟩
def chV(g off sz len k:Nat):Value := .slice (some ⟨g,off+k*sz,none⟩) (min sz (len-k*sz)) (min sz (len-k*sz))
theorem Zdr(n:Nat)(hn:1<=n)(f j g off b c d:Nat)(h1:0<b)(hz:b<1000000)(an:c<=d)(hl:c<1000000)(N:Nat)(t:N=(c+b-1)/b)(w:World)(ac:f<w.heap.size)(ad:j<w.heap.size)
  (I:w.cell? ⟨f,0,none⟩=some (.slice (some ⟨g,off,none⟩) c d)) (K:w.cell? ⟨j,0,none⟩=some (.int .i64 b)) (E:World->World->Prop)
  (O:∀A B,E A B->A.cell? ⟨f,0,none⟩=some (.slice (some ⟨g,off,none⟩) c d)->A.cell? ⟨j,0,none⟩=some (.int .i64 b)->B.cell? ⟨f,0,none⟩=some (.slice (some ⟨g,off,none⟩) c d)/\B.cell? ⟨j,0,none⟩=some (.int .i64 b)):
  SeqStopsK Fence.wide n Tryz.prog 220 #[.pointer (some ⟨f,0,none⟩),.pointer (some ⟨j,0,none⟩)] (fun k:Nat => #[chV g off b c k]) E (fun ys=>ys=List.range N) (fun ak=>ak <+: List.range N) N w:=fun l J Jx W u L _ R h0=>by
 have c1:=(u.cell (p:=⟨f,0,none⟩) ac).trans I;have c2:=(u.cell (p:=⟨j,0,none⟩) ad).trans K;have HY:=Db R;have Q:∀k,k<N->k*b<c:=fun k U=>by
  have h2:(k+1)*b<=N*b:=Nat.mul_le_mul_right _ U;have H:N*b<=c+b-1:=by rw[t];exact Nat.div_mul_le_self _ _
  rw[Nat.add_mul]at h2;omega
 have P:c<=N*b:=by
  have H:=Nat.lt_div_mul_add (a:=c+b-1) h1;rw[<-t]at H;omega
 have aa:=Db Q;have ab:=Db P;have Z:=Db O;have Y:=Db L;clear R u Q P I K t O L;refine callsIn_of_wp Tryz.func220 rfl trivial ?_ rfl;simp only[Tryz.ntmps220,List.size_toArray,List.length_cons,List.length_nil,Nat.reduceAdd,Nat.reduceSub,Array.replicate_succ,Array.replicate_zero,List.push_toArray,List.append_toArray,List.nil_append,List.cons_append]
 gi_wp2
 gi_loopw [4] (fun i wr=>∃k:Nat,k<=N/\i = .int .i64 ((k*b:Nat):Int)/\wr.cell? ⟨f,0,none⟩=some (.slice (some ⟨g,off,none⟩) c d)/\wr.cell? ⟨j,0,none⟩=some (.int .i64 b)/\Hid (J (List.range k) wr))
  (fun i _=>c-(intOf i).toNat)
 case atStart=>exact⟨0,Nat.zero_le _,by rw[Nat.zero_mul];rfl,c1,c2,h0⟩
 case round=>
  obtain⟨k,U,rfl,F,G,z⟩:=hrel;by_cases x:k<N
  ·have aj:=Da aa k x;obtain⟨q,y⟩:∃q,q=k*b:=⟨_,rfl⟩;rw[<-y]at aj ⊢;obtain⟨m,V⟩:∃m,m=min b (c-q):=⟨_,rfl⟩;have ao:0<m:=by omega
   have aq:m<=c-q:=by omega
   have ar:m<=b:=by omega
   have D:Hid (List.range (k+1)=List.range k++[k]):=List.range_succ;have C:=Db y;have o:=Db V;have aw:(q:Int)<(c:Int):=by omega
   have av:¬d=q:=by omega
   have ax:q<=c:=by omega
   clear y V;have M:J (List.range k) wr.drew:=Da Y _ _ _ none (Da z) ⟨rfl,rfl,rfl,Nat.le_refl _,fun _ _ _=>rfl⟩ (fun r e=>by cases e);have T:chV g off b c k = .slice (some ⟨g,off+q,none⟩) m m:=by unfold chV;rw[<-Da C,<-Da o]
   obtain⟨fn,tmps,assign,body,hy,hR⟩:=Da HY (List.range k) k wr.drew M (by rw[List.length_range];exact x);rw[T]at hy;have ap:(if (b:Int)<=(c:Int)-(q:Int) then (b:Int) else (c:Int)-(q:Int))=(m:Int):=by
    have:=Da o
    split<;>omega
   clear M T
   gi_wp2
   refine wpIn_wide.2 ?_;refine wp_region_held_drew (S:=fun X=>X.cell? ⟨f,0,none⟩=some (.slice (some ⟨g,off,none⟩) c d)/\X.cell? ⟨j,0,none⟩=some (.int .i64 b)) (by kernel_rfl) ⟨F,G⟩ (fun ae=>?_);refine tk 0 ?_;try simp only[pE];refine tk 1 ?_;try simp only[pE];refine tk 2 ?_;try simp only[pE];refine tk 3 ?_;try simp only[pE];refine tk 4 ?_;try simp only[pE];refine wpAnyH_take (i:=5) (v := .int .i64 (m:Nat)) rfl (by kernel_rfl) (by kernel_rfl) (by kernel_rfl) (fun _ _ _ h=>h) (Or.inl ⟨by rfl,?_⟩) (by assumption) ?_
   ·intro w ah;(try dsimp only at ah);go_simp;have s:=Da o;omega
   (try simp only[pE])
   refine tk 6 ?_;try simp only[pE];refine wpAnyH_done (by kernel_rfl) ?_ _;clear ae;have ay:q+m<=d:=by omega
   have az:q+m-q=m:=by omega
   have au:¬q+m=q:=by omega
   have aA:((q:Int)+(m:Int))<=(d:Int):=by omega
   gi_wp2
   refine hR.mono ?_;rintro e W3 (⟨rfl,af,ai⟩|⟨rfl,ag⟩)
   ·obtain⟨k1,k2⟩:=Da Z _ _ ai F G
    gi_wp2
    go_roundw
    case rel=>exact⟨k+1,by omega,by rw[Nat.add_mul,Nat.one_mul,<-Da C]<;>go_num,k1,k2,by show J _ _;rw[Da D];exact af⟩
    case measure=>simp[intOf];omega
   ·gi_wp2
    refine bodyPost_ret (results_none rfl _ _ _) rfl ?_;exact⟨⟨_,rfl⟩,.inr ⟨_,by rw[<-Da D];(have s:=List.take_prefix (k+1) (List.range N);rw[List.take_range,Nat.min_eq_left x]at s;exact s),ag⟩⟩
  ·obtain rfl:k=N:=by omega
   have al:=Da ab;have am:¬(((k*b:Nat):Int)<(c:Int)):=by omega
   gi_wp2
   go_end0
   exact⟨⟨_,rfl⟩,.inl (Da z)⟩
end
section
open Go.RowKit Go.Shelf
attribute [local go_sem] Oper.semAt_some
def chB(s:By)(sz x:Nat):By:=s.extract (x*sz) (x*sz+sz)
def Dv(kk:UInt8)(s:By)(sz x:Nat):By:=⟨#[kk]⟩++Di (chB s sz x) 63
theorem KY(kk:UInt8)(s:By)(a x:Nat):(Dv kk s a x).size=64:=by unfold Dv;rw[ByteArray.size_append,Jc];rfl
theorem Vc(s:By)(a x:Nat):(chB s a x).size=min a (s.size-x*a):=by unfold chB;rw[ByteArray.size_extract];omega
theorem RdB.chunk{w:World}{g off c f:Nat}{s:By}(h:RdB w (some ⟨g,off,none⟩) c f s)(b x:Nat):RdB w (some ⟨g,off+x*b,none⟩) (min b (c-x*b)) (min b (c-x*b)) (chB s b x):=by
 refine⟨by rw[Vc,h.1],fun e=>(by cases e),fun j v a=>⟨_,rfl,?_⟩⟩;unfold chB at a;rw[Jn,List.getElem?_take]at a
 split at a
 ·rw[List.getElem?_drop]at a;obtain⟨y,e,d⟩:=h.2.2 _ _ a
  cases e
  rw[Addr.add_lit]at d ⊢;rw[Nat.add_assoc];exact d
 ·cases a
def Dd(kk below t:Nat):Nat:=kk*4294967296+below*65536+t
structure ZeM(M n0 pb:Nat)(kk:UInt8)(below:Nat)(s:By)(sz:Nat)(P X:List Nat->Nat->Nat)(St:List Nat->(Nat->Prop)->World->Prop):Prop where
 abides:∀pre O W W' row,St pre O W->W.grownBy W' row->(∀r,row=some r->∃o:Obj,W.heap[r]?=some o/\o.isCells=false)->St pre O W'
 keeps:∀pre O W W' (Z:Nat->Prop),St pre O W->Fr Z W W'->(∀j,Z j->¬O j/\n0<=j)->St pre O W'
 lt:∀pre O W,St pre O W->∀j,O j->j<W.heap.size
 put:∀pre x O W,pre.length<M->St pre O W->Calls Tryz.prog 272 #[.pointer (some ⟨pb,0,none⟩),.int .u64 (Dd kk.toNat below pre.length:Nat),DA (Dv kk s sz x)] W fun e W'=>e = .returned (.agg #[.int .i64 (P pre x:Nat),.int .u64 (X pre x:Nat)])/\∃O',St (pre++[x]) O' W'/\Fr O W W'/\∀j,O' j->O j\/W.heap.size<=j
 cells:∀pre O W,St pre O W->∀j,O j->∃cs t,W.heap[j]?=some (.cells cs t (0,0))
 plt:∀pre x,P pre x<65536
 xlt:∀pre x,X pre x<18446744073709551616
structure RowI(w:World)(n1 B4 B5 B6 B10 B11 pb:Nat)(kk:UInt8)(below:Nat)(g off len cap:Nat)(s:By)(St:List Nat->(Nat->Prop)->World->Prop)(Yo:Nat->Prop)(RB:List Nat->By)(pre pre':List Nat)(v:Value)(O:Nat->Prop)(W:World):Prop where
 st:St pre' O W
 hO:∀j,O j->Yo j\/n1<=j
 b4:Boxed W B4 168 (.pointer (some ⟨pb,0,none⟩))
 b5:Boxed W B5 300 (.int .u8 (kk.toNat:Int))
 b6:Boxed W B6 3 (.int .i64 (below:Nat))
 b10:Boxed W B10 59 v
 b11:Boxed W B11 3 (.int .i64 (pre.length:Nat))
 rs:SlB n1 W v (RB pre)
 dis:∀j,O j->¬Own v j
 rd:RdB W (some ⟨g,off,none⟩) len cap s
 fr:Fr Yo w W
 sz:n1<=W.heap.size
structure BoxB(w:World)(n1 B4 B5 B6 B10 B11 g len:Nat)(Yo:Nat->Prop):Prop where
 e4:B4=w.heap.size
 e5:B5=w.heap.size+1
 e6:B6=w.heap.size+2
 e10:B10=w.heap.size+3
 e11:B11=w.heap.size+4
 en:w.heap.size+5<=n1
 yo:∀j,Yo j->j<w.heap.size
 gy:¬Yo g
 gl:g<w.heap.size
theorem BoxB.nO{w:World}{a i k l d f g n:Nat}{b O:Nat->Prop}(h:BoxB w a i k l d f g n b)(m:∀j,O j->b j\/a<=j)(B:Nat)(h1:w.heap.size<=B)(h2:B<a):¬O B:=fun e=>by
 rcases m B e with c|c
 ·have:=h.yo B c;omega
 ·omega
theorem RowI.below{w:World}{M z t i j l d f pb:Nat}{kk:UInt8}{c:Nat}{g off q p:Nat}{s:By}{A:Nat}{P X:List Nat->Nat->Nat}{b:List Nat->(Nat->Prop)->World->Prop}{o:Nat->Prop}{m:List Nat->By}{u x:List Nat}{v:Value}{O:Nat->Prop}{W n:World}(L:ZeM M z pb kk c s A P X b)(h:RowI w t i j l d f pb kk c g off q p s b o m u x v O W)(a:Below W.heap.size W n):RowI w t i j l d f pb kk c g off q p s b o m u x v O n:=
 ⟨L.abides _ _ _ _ none h.st ⟨a.os,a.tape,a.output,a.size,fun k y _=>a.block k y⟩ (fun r e=>by cases e),h.hO,(a.block _ h.b4.lt).trans h.b4,(a.block _ h.b5.lt).trans h.b5,(a.block _ h.b6.lt).trans h.b6,(a.block _ h.b10.lt).trans h.b10,(a.block _ h.b11.lt).trans h.b11,h.rs.below a,h.dis,h.rd.below a,h.fr.then (Fr.of_below a (X:=fun _=>False)) (fun _ _ e=>e.elim),Nat.le_trans h.sz a.size⟩
theorem RowI.put{w:World}{M J z n o p l m pb:Nat}{kk:UInt8}{t:Nat}{g off y C:Nat}{s:By}{L:Nat}{P X:List Nat->Nat->Nat}{i:List Nat->(Nat->Prop)->World->Prop}{r:Nat->Prop}{A:List Nat->By}{H K:List Nat}{v:Value}{O:Nat->Prop}{W q:World}(b:BoxB w z n o p l m g y r)(_L:ZeM M J pb kk t s L P X i)(h:RowI w z n o p l m pb kk t g off y C s i r A H K v O W){G:List Nat}{O':Nat->Prop}(I:i G O' q)(c:Fr O W q)(D:∀j,O' j->O j\/W.heap.size<=j):RowI w z n o p l m pb kk t g off y C s i r A H G v O' q:=by
 have e4:=b.e4;have e5:=b.e5;have e6:=b.e6;have aa:=b.e10;have ab:=b.e11;have en:=b.en;have ac:=h.sz;have f:=fun B=>b.nO h.hO B
 refine⟨I,fun j u=>(D j u).elim (h.hO j) (fun a => .inr (by omega)),(c.block _ h.b4.lt (f _ (by omega) (by omega))).trans h.b4,(c.block _ h.b5.lt (f _ (by omega) (by omega))).trans h.b5,(c.block _ h.b6.lt (f _ (by omega) (by omega))).trans h.b6,(c.block _ h.b10.lt (f _ (by omega) (by omega))).trans h.b10,(c.block _ h.b11.lt (f _ (by omega) (by omega))).trans h.b11,⟨h.rs.1.fr c (fun k E d=>h.dis k d E),h.rs.2⟩,fun j u F=>(D j u).elim (fun a=>h.dis j a F) (fun a=>by have:=Own.lt h.rs F;omega),h.rd.fr c (fun x e hp d=>?_),h.fr.then c (fun k E d=>?_),Nat.le_trans h.sz c.size⟩
 ·cases e
  rcases h.hO _ d with a|a
  ·exact b.gy a
  ·have:=b.gl;simp only at a;omega
 ·rcases h.hO k d with a|a
  ·exact a
  ·omega
theorem RowI.done{w:World}{M J i q r t b c pb:Nat}{kk:UInt8}{E:Nat}{g off G H:Nat}{s:By}{Z:Nat}{P X:List Nat->Nat->Nat}{C:List Nat->(Nat->Prop)->World->Prop}{D:Nat->Prop}{A:List Nat->By}{z:List Nat}{v:Value}{O:Nat->Prop}{W f:World}(d:BoxB w i q r t b c g G D)(ac:J<=w.heap.size)(L:ZeM M J pb kk E s Z P X C){p:List Nat}(h:RowI w i q r t b c pb kk E g off G H s C D A z p v O W)(N:p.length=z.length+1){n:Value}(F:SlB i f n (A p))(l:Fr (Own v) W f)(Q:Dk W v n):RowI w i q r t b c pb kk E g off G H s C D A p p n O ((f.setCell ⟨b,0,none⟩ n).setCell ⟨c,0,none⟩ (.int .i64 ((z.length:Int)+1))):=by
 have e4:=d.e4;have e5:=d.e5;have e6:=d.e6;have aa:=d.e10;have ab:=d.e11;have en:=d.en;have ad:=h.sz;have m:∀B,B<i->¬Own v B:=fun B d e=>by have:=h.rs.2 B e;omega
 have K:∀B,B<i->¬Own n B:=fun B d e=>by have:=F.2 B e;omega
 have U:Boxed f q 168 _:=(l.block _ h.b4.lt (m _ (by omega))).trans h.b4;have V:Boxed f r 300 _:=(l.block _ h.b5.lt (m _ (by omega))).trans h.b5;have Y:Boxed f t 3 _:=(l.block _ h.b6.lt (m _ (by omega))).trans h.b6;have S:Boxed f b 59 _:=(l.block _ h.b10.lt (m _ (by omega))).trans h.b10;have T:Boxed f c 3 _:=(l.block _ h.b11.lt (m _ (by omega))).trans h.b11;have u:Fr (fun j=>Own v j\/j=b\/j=c) W ((f.setCell ⟨b,0,none⟩ n).setCell ⟨c,0,none⟩ (.int .i64 ((z.length:Int)+1))):=
  (Fr.set (X:=fun j=>Own v j\/j=b\/j=c) (Fr.then (Fr.refl _ W) l (fun _ _ e => .inl e)) ⟨b,0,none⟩ _ (.inr (.inl rfl))).set ⟨c,0,none⟩ _ (.inr (.inr rfl))
 have I:b≠c:=by omega
 refine⟨L.keeps _ _ _ _ _ h.st u (fun j y=>?_),h.hO,(U.other (by omega) _).other (by omega) _,(V.other (by omega) _).other (by omega) _,(Y.other (by omega) _).other (by omega) _,(S.set _).other I _,?_,⟨(F.1.setCell ⟨b,0,none⟩ _ (K b (by omega))).setCell ⟨c,0,none⟩ _ (K c (by omega)),F.2⟩,fun j y R=>?_,h.rd.fr u (fun x e hp o=>?_),h.fr.then u (fun k hk o=>?_),Nat.le_trans h.sz u.size⟩
 ·rcases y with a|a|a
  ·exact⟨fun o=>h.dis j o a,by have:=h.rs.2 j a;omega⟩
  ·subst a;exact⟨d.nO h.hO _ (by omega) (by omega),by omega⟩
  ·subst a;exact⟨d.nO h.hO _ (by omega) (by omega),by omega⟩
 ·rw[N];exact(T.other (fun e=>I e.symm) _).set _
 ·rcases Q j R with a|a
  ·exact h.dis j y a
  ·have:=L.lt _ _ _ h.st j y;omega
 ·cases e
  have:=d.gl;rcases o with a|a|a
  ·exact m _ (by show g<i;omega) a
  ·simp only at a;omega
  ·simp only at a;omega
 ·rcases o with a|a|a
  ·have:=h.rs.2 k a;omega
  ·omega
  ·omega
theorem RowI.own{w:World}{M n0 l p u y m n pb:Nat}{kk:UInt8}{D:Nat}{g off G I:Nat}{s:By}{sz:Nat}{P X:List Nat->Nat->Nat}{A:List Nat->(Nat->Prop)->World->Prop}{C:Nat->Prop}{H:List Nat->By}{N Q:List Nat}{v:Value}{O:Nat->Prop}{W B:World}(L:ZeM M n0 pb kk D s sz P X A)(K:BoxB w l p u y m n g G C)(h:RowI w l p u y m n pb kk D g off G I s A C H N Q v O W){row:Option Nat}(a:W.grownBy B row)(i:∀r,row=some r->l<=r/\∃o:Obj,W.heap[r]?=some o/\o.isCells=false):RowI w l p u y m n pb kk D g off G I s A C H N Q v O B:=by
 have ne:∀(j:Nat) (b:Array Value) (t:TypeId) (z:Nat×Nat),W.heap[j]?=some (Obj.cells b t z)->some j≠row:=fun j b t z d e=>by
  obtain⟨o,J,V⟩:=(i j e.symm).2;rw[d]at J;cases J;cases V
 have c:∀(j:Nat) (b:Array Value) (t:TypeId) (z:Nat×Nat),W.heap[j]?=some (Obj.cells b t z)->B.heap[j]?=some (Obj.cells b t z):=fun j b t z d=>(a.block j (Array.getElem?_eq_some_iff.1 d).1 (ne j b t z d)).trans d
 have ab:=K.gl;have aa:=K.en;refine⟨L.abides _ _ _ _ row h.st a (fun r e=>(i r e).2),h.hO,c _ _ _ _ h.b4,c _ _ _ _ h.b5,c _ _ _ _ h.b6,c _ _ _ _ h.b10,c _ _ _ _ h.b11,⟨?_,h.rs.2⟩,h.dis,?_,?_,Nat.le_trans h.sz a.size⟩
 ·rcases h.rs.1.2 with⟨e,U⟩|⟨T,S,R,e,Z,q⟩
  ·exact⟨h.rs.1.1,.inl ⟨e,U⟩⟩
  ·exact⟨h.rs.1.1,.inr ⟨T,S,R,e,c _ _ _ _ Z,q⟩⟩
 ·exact h.rd.fr (P:=fun j=>row=some j) ⟨a.os,a.tape,a.output,a.size,fun k f E=>a.block k f (fun e=>E e.symm)⟩ (fun x e _ F=>by cases e;have:=(i _ F).1;simp only at this;omega)
 ·exact h.fr.then (Y:=fun j=>row=some j) ⟨a.os,a.tape,a.output,a.size,fun k f E=>a.block k f (fun e=>E e.symm)⟩ (fun k f F=>by have:=(i _ F).1;omega)
def RowE(w:World)(n1 B4 B5 B6 B10 B11 pb:Nat)(kk:UInt8)(below:Nat)(g off len cap:Nat)(s:By)(St:List Nat->(Nat->Prop)->World->Prop)(Yo:Nat->Prop)(RB:List Nat->By)(pre:List Nat)(W:World):Prop:=∃v O,RowI w n1 B4 B5 B6 B10 B11 pb kk below g off len cap s St Yo RB pre pre v O W
def Zmm(w:World)(n1:Nat)(St:List Nat->(Nat->Prop)->World->Prop)(Yo:Nat->Prop)(RB:List Nat->By)(N:Nat)(e:Ending)(w':World):Prop:=
 ∃a' l' c' O,e = .returned (.slice a' l' c')/\SlB n1 w' (.slice a' l' c') (RB (List.range N))/\St (List.range N) O w'/\(∀j,O j->Yo j\/n1<=j)/\(∀j,O j->¬Own (.slice a' l' c') j)/\Fr Yo w w'
end
end Go.Proofs.YtaieidcohdhgpaaGreatDoor
