/- Failed. -/
import Derived.Test.YtaieidcohdhgpaaGreatDoorSAM
import Derived.Deep.WholeRow
namespace Go.Proofs.YtaieidcohdhgpaaGreatDoor
set_option maxHeartbeats 40000000
set_option maxRecDepth 100000
open Go.RowKit
theorem Zig(s:By)(k:Nat)(h:k<s.size):(Dc s)[k]?=some (.int .u8 (s.data[k].toNat:Int)):=by
 unfold Dc;rw[List.getElem?_map,List.getElem?_eq_getElem (by simpa using h)];simp
def fnvS(y:Int)(b:UInt8):Int:=IntKind.u64.wrap (bits BinOp.xor IntKind.u64 y (IntKind.u64.wrap b.toNat)*1099511628211)
def Kt(l:List UInt8):Int:=l.foldl fnvS 14695981039346656037
theorem Zh5(l:List UInt8)(b:UInt8):Kt (l++[b])=fnvS (Kt l) b:=by unfold Kt;rw[List.foldl_append];rfl
theorem Zhy(s:By)(k:Nat)(h:k<s.size):s.data.toList.take (k+1)=s.data.toList.take k++[s.data[k]]:=by
 rw[List.take_succ_eq_append_getElem (by simpa using h)];simp
theorem U8(w:World)(a:OA)(l c:Nat)(s:By)(h:RdB w a l c s)(hs:s.size<=2000000):
  Calls Tryz.prog 215 #[.slice a l c] w fun e w'=>e = .returned (.int .u64 (Kt s.data.toList))/\w'=w:=by
 obtain⟨q,_,f⟩:=h;subst q;have m:=Db f;clear f;obtain⟨r,b⟩:∃r,r=Kt s.data.toList:=⟨_,rfl⟩;rw[<-b];have n:=Db b;clear b;go_enter Tryz.func215,Tryz.ntmps215;go_wp2
 go_loop [3,8] (fun x i=>∃(k:Nat) (y:Int),k<=s.size/\i = .int .i64 k/\x = .int .u64 y/\Hid (y=Kt (s.data.toList.take k))) (fun _ i=>s.size-(intOf i).toNat)
 case atStart=>exact⟨0,_,Nat.zero_le _,rfl,rfl,rfl⟩
 case round=>
  obtain⟨k,y,hk,rfl,rfl,j⟩:=hrel;by_cases d:k<s.size
  ·obtain⟨g,rfl,q0⟩:=Da m k _ (Zig s k d);go_wp2
   go_round
   case rel=>exact⟨k+1,_,by omega,by go_num,rfl,by show _=_;rw[Zhy s k d,Zh5,<-Da j];rfl⟩
   case measure=>simp[intOf];omega
  ·obtain rfl:k=s.size:=by omega
   go_wp2;go_ret;have o:s.data.toList.take s.size=s.data.toList:=List.take_of_length_le (Nat.le_of_eq Array.length_toList);have p:y=r:=by rw[Da n,Da j,o]
   exact⟨by rw[p]<;>rfl,rfl⟩
def SlB(b:Nat)(w:World)(v:Value)(s:By):Prop:=Sl w 5 1 v s.size (Dc s)/\∀g,v.ownBlock=some g->b<=g
theorem SlB.nil(b:Nat)(w:World):SlB b w (.slice none 0 0) ⟨#[]⟩:=⟨⟨rfl,.inl ⟨rfl,rfl⟩⟩,fun g h=>by simp[Value.ownBlock]at h⟩
theorem SlB.below{b:Nat}{w w':World}{v:Value}{s:By}(h:SlB b w v s)(a:Below w.heap.size w w'):SlB b w' v s:=⟨h.1.kept (fun k c _=>a.block k c),h.2⟩
theorem SlB.rdB{b:Nat}{w:World}{a:OA}{l c:Nat}{s:By}(h:SlB b w (.slice a l c) s):RdB w a l c s:=by
 have f:l=s.size:=by
  rcases h.1.2 with⟨e,d⟩|⟨g,aa,L,e,_⟩
  ·cases e;exact d.symm
  ·cases e;rfl
 subst f;exact h.1.rdB
def Own(v:Value)(k:Nat):Prop:=v.ownBlock=some k
theorem Fr.then{X Y:Nat->Prop}{w w1 w2:World}(h:Fr X w w1)(a:Fr Y w1 w2)(d:∀k,k<w.heap.size->Y k->X k):Fr X w w2:=
 ⟨a.os.trans h.os,a.tape.trans h.tape,a.output.trans h.output,Nat.le_trans h.size a.size,fun k b c=>(a.block k (Nat.lt_of_lt_of_le b h.size) (fun e=>c (d k b e))).trans (h.block k b c)⟩
theorem SlB.frBelow{b:Nat}{w w':World}{v:Value}{s:By}(h:SlB b w v s)(hb:b<=w.heap.size)(a:Fr (Own v) w w'):Below b w w':=
 ⟨a.os,a.tape,a.output,a.size,fun k hk=>a.block k (by omega) (fun e=>by have:=h.2 k e;omega)⟩
theorem JY(w:World)(b:Nat)(hb:b<=w.heap.size)(v:Value)(s:By)(h:SlB b w v s)(a:Addr)(m c:Nat)(t:By)(z:t.size=m)(A:∀j u,(Dc t)[j]?=some u->w.cell? (a.add j)=some u)(hl:s.size+m<=4000000):
  ∃d i f w',(Builtin.append_ #[59,59] 59 #[v,.slice (some a) m c]).run Tryz.prog w = .ok (.slice d i f) w'/\SlB b w' (.slice d i f) (s++t)/\Fr (Own v) w w'/\Dk w v (.slice d i f):=by
 obtain⟨E,x,B,C,D⟩:=info_parts Ku;obtain⟨v',w2,F,o,l,p⟩:=KH (P:=Tryz.prog) w 59 59 5 E _ 1 1 Tryz.underlying59 x B C D rfl (by decide) v s.size (Dc s) h.1 a m c (Dc t) (by rw[Dg];omega)
  A (Kc t) (by unfold maxLen;omega) (by omega)
 obtain⟨d,i,f,rfl⟩:=o.shape;refine⟨d,i,f,w2,F,⟨?_,fun g r=>?_⟩,⟨l.os,l.tape,l.output,l.size,fun k y q=>l.block k y (fun e=>q e.symm)⟩,p⟩
 ·rw[Ju,show(s++t).size=s.size+m by rw[ByteArray.size_append,z]];exact o
 ·rcases p g r with n|n
  ·exact h.2 g n
  ·omega
def Dz:Nat->Nat->List UInt8
 | _,0=>[]
 | x,m+1=>UInt8.ofNat x::Dz (x/256) m
theorem D5:∀(m x:Nat),(Dz x m).length=m
 | 0,_=>rfl
 | m+1,x=>by simp[Dz,D5 m]
theorem Ky(s:By):s++⟨#[]⟩=s:=by
 apply WideShapes.bytes_inj;simp
theorem Zi8(s:By)(l:List UInt8)(b:UInt8):s++⟨l.toArray⟩++⟨#[b]⟩=s++⟨(l++[b]).toArray⟩:=by
 apply WideShapes.bytes_inj;simp
theorem ZhN{x y m k:Nat}(b:k<m)(h:Dz y (m-k)=(Dz x m).drop k):(Dz x m).take (k+1)=(Dz x m).take k++[UInt8.ofNat y]/\Dz (y/256) (m-(k+1))=(Dz x m).drop (k+1):=by
 have e:m-k=(m-(k+1))+1:=by omega
 rw[e]at h;have a:k<(Dz x m).length:=by rw[D5];exact b
 rw[List.drop_eq_getElem_cons a]at h;simp only[Dz,List.cons.injEq]at h;exact⟨by rw[List.take_succ_eq_append_getElem a,h.1],h.2⟩
theorem J0(y:Nat):IntKind.u8.wrap (y:Int)=((UInt8.ofNat y).toNat:Int):=by
 simp[IntKind.wrap,IntKind.bits,IntKind.signed]
theorem Ur(w:World)(b:Nat)(hb:b<=w.heap.size)(a:OA)(l c:Nat)(s:By)(h:SlB b w (.slice a l c) s)(x:Nat)(U:x<18446744073709551616)(m:Nat)(hm:m<=8)(hs:s.size<=2000000):
  Calls Tryz.prog 212 #[.slice a l c,.int .u64 x,.int .i64 m] w fun e w'=>∃d o f,e = .returned (.slice d o f)/\SlB b w' (.slice d o f) (s++⟨(Dz x m).toArray⟩)/\Fr (Own (.slice a l c)) w w'/\Dk w (.slice a l c) (.slice d o f):=by
 have H:=Db h;clear h;go_enter Tryz.func212,Tryz.ntmps212;go_wp2
 go_loopw [0,1,8] (fun v y i wr=>∃(k y':Nat) (d:OA) (o f:Nat),k<=m/\i = .int .i64 k/\y = .int .u64 y'/\v = .slice d o f/\y'<18446744073709551616/\Hid (SlB b wr v (s++⟨((Dz x m).take k).toArray⟩))/\Hid (Dz y' (m-k)=(Dz x m).drop k)/\Hid (Fr (Own (.slice a l c)) w wr/\Dk w (.slice a l c) v)) (fun _ _ i _=>m-(intOf i).toNat)
 case atStart=>exact⟨0,x,a,l,c,Nat.zero_le _,rfl,rfl,rfl,U,by show SlB _ _ _ _;rw[List.take_zero,Ky];exact Da H,rfl,Fr.refl _ _,fun g r => .inl r⟩
 case round=>
  obtain⟨k,y,d,o,f,P,rfl,rfl,rfl,hy,t,L,p⟩:=hrel;by_cases R:k<m
  ·have G:IntKind.u8.wrap (y:Int)=((UInt8.ofNat y).toNat:Int):=J0 y;have aa:=(Da p).1.size;obtain⟨W,E,I,Q,S,q⟩:=De wr [.int .u8 (IntKind.u8.wrap (y:Int))] 5;obtain⟨z,J,A,w2,F,D,B,C⟩:=JY W b (by omega) _ _ ((Da t).below q) ⟨wr.heap.size,0,none⟩ 1 1 ⟨#[UInt8.ofNat y]⟩ rfl (fun j u T=>by rw[Addr.add_lit,Nat.zero_add,I.cell,G];exact T) (by rw[ByteArray.size_append];show s.size+(List.toArray _).size+1<=_;simp;omega);have M:=Db D;have K:Hid (Fr (Own (.slice a l c)) w w2/\Dk w (.slice a l c) (.slice z J A)):=by
    refine⟨((Da p).1.then (Fr.of_below (X:=Own (.slice a l c)) q) (fun k _ h=>h)).then B (fun k P e=>((Da p).2 k e).elim id (fun h=>by omega)),fun g r=>?_⟩;rcases C g r with n|n
    ·exact(Da p).2 g n
    ·exact .inr (by omega)
   have N:=Db E;clear D B C I Q S q E G;rw[<-Da N]at F;go_wp2_with (at_builtin;refine Lib.wpList_append_run _ rfl _ _ 59 59 rfl _ _ rfl rfl _ _ F ?_)
   go_roundw
   case rel=>
    obtain⟨n,O⟩:=ZhN R (Da L);exact⟨k+1,y/256,z,J,A,by omega,by go_num,by go_num,rfl,by omega,by show SlB _ _ _ _;rw[n,<-Zi8];exact Da M,O,K⟩
   case measure=>simp[intOf];omega
  ·obtain rfl:k=m:=by omega
   go_wp2;go_ret;have n:=Da t;rw[List.take_of_length_le (by rw[D5];exact Nat.le_refl _)]at n;exact⟨d,o,f,rfl,n,Da p⟩
def Dm(n:Nat):By:=⟨(List.replicate n 0).toArray⟩
def DA(s:By):Value := .agg (Dc s).toArray
theorem JF{P:Program}{b:Array Oper}{c:List Oper}{o:Oper}{a:Act}{w:World}{Q:Exit->Act->World->Prop}(f:o.guard=none)(t:TypeId)(ho:o.op = .alloc t){d:Array Value}(g:∀w,(zeroValue t).run P w = .ok (.agg d) w)
  (h:wpList P b Q c (a.put o.dst (.pointer (some ⟨w.heap.size,0,none⟩))) (w.alloc (.cells d t))):wpList P b Q (o::c) a w:=by
 refine wpList_plain f fun K e=>?_
 unfold Oper.wp execOp;simp only[ho,Instr.alloc,Sem.run_bind,g,Result.andThen_ok];simp[newVar,newRow,go_sem,Value.cells];exact e _ _ h
theorem ZlH:(Tryz.prog.info? 188).map (fun i=>(i.zero,i.size))=some (some (DA (Dm 64)),64):=by kernel_rfl
theorem Kq:∀w,(zeroValue 188).run Tryz.prog w = .ok (DA (Dm 64)) w:=(zero_of_info ZlH).1
theorem D2:(Tryz.prog.info? 188).map (·.size)=some 64:=(zero_of_info ZlH).2
theorem JQ:Tryz.prog.underlying 188=some (.array 64 5):=by kernel_rfl
theorem Ze8{P:Program}{b:Array Oper}{c:List Oper}{o:Oper}{a:Act}{w:World}{Q:Exit->Act->World->Prop}(e:o.guard=none)(x:Operand)(ho:o.op = .move x)
  (h:wpList P b Q c (a.put o.dst (a.eval x)) w):wpList P b Q (o::c) a w:=by
 refine wpList_plain e fun K d=>?_
 unfold Oper.wp execOp;simp only[ho];exact d _ _ h
theorem Zck{P:Program}{d:Array Oper}{f:List Oper}{o:Oper}{a:Act}{w:World}{Q:Exit->Act->World->Prop}(g:o.guard=none)(t:TypeId)(i:Nat)(x:Operand)(ho:o.op = .build t #[(i,x)])(u:Value)(j:a.eval x=u){b:Array Value}(c:P.built t [(i,u)]=some b)
  (h:wpList P d Q f (a.put o.dst (.agg b)) w):wpList P d Q (o::f) a w:=by
 have e:((#[(i,x)]:Array (Nat×Operand)).map fun (i,x)=>(i,a.eval x)).toList=[(i,u)]:=by simp[j]
 refine wpList_build g t _ ho ?_ ?_
 ·rw[e,c];rfl
 ·rw[e,c];exact h
theorem Znk(x:Int):Tryz.prog.built 188 [(0,.int .u8 x)]=some (Value.int .u8 x::List.replicate 63 (.int .u8 0)).toArray:=by kernel_rfl
theorem Zcy(k:UInt8)(s:By):Dc (⟨#[k]⟩++s) = .int .u8 (k.toNat:Int)::Dc s:=by rw[Ju];rfl
theorem KG(s:By):(Dc s).toArray.all (·.oneCell')=true:=all_oneCell_toArray (Kc s)
theorem Jl(n:Nat):(Dm n).size=n:=by show(List.toArray _).size=n;simp
theorem QC(n:Nat):Dc (Dm n)=List.replicate n (.int .u8 0):=Kr n
theorem Zic(w:World)(x:Addr)(n c:Nat):(Builtin.copy_ #[59,59] 3 #[.slice (some x) n c,.slice none 0 0]).run Tryz.prog w = .ok (goInt 0) w:=by
 obtain⟨i0,a,aa,ab,ac⟩:=info_parts Ku;simp[Builtin.copy_,run_underlying Tryz.underlying59,Builtin.lenOf,sizeOf,typeInfo,a,Builtin.firstCells,storeCells]
theorem UZ(w:World)(g:Nat)(t:TypeId)(L:LVa)(f:RowIs w g t L)(o n d:Nat)(a:OA)(l c:Nat)(s:By)(h:RdB w a l c s)(u:s.size<=n)(hn:o+n<=L.length):
  ∃w',(Builtin.copy_ #[59,59] 3 #[.slice (some ⟨g,o,none⟩) n d,.slice a l c]).run Tryz.prog w = .ok (goInt s.size) w'/\RowIs w' g t (spl L o (Dc s))/\w.grownBy w' (some g):=by
 cases a with
 | none=>
  have b:s.size=0:=by
   rcases Nat.eq_zero_or_pos s.size with e|e
   ·exact e
   ·obtain⟨x,A,_⟩:=h.2.2 0 ((Dc s)[0]'(by rw[Dg];exact e)) (List.getElem?_eq_getElem _)
    cases A
  have r:l=0:=by rw[h.1,b]
  have q:=h.2.1 rfl;subst r q;have p:Dc s=[]:=List.eq_nil_of_length_eq_zero (by rw[Dg,b]);refine⟨w,by rw[b];exact Zic w _ _ _,by rw[p];simpa [spl] using f,⟨rfl,rfl,rfl,Nat.le_refl _,fun _ _ _=>rfl⟩⟩
 | some x=>
  have i:Nat.min l n=s.size:=by rw[h.1];exact Nat.min_eq_left u
  obtain⟨m,k,C,D⟩:=JK (P:=Tryz.prog) w 59 59 3 5 1 g o n d x l c L t (Dc s) Tryz.underlying59 QS f (by rw[i,Dg,Nat.mul_one])
   (fun j v z=>by obtain⟨y,e,B⟩:=h.2.2 j v z;cases e;exact B) (by rw[Dg];omega) (Kc s)
  exact⟨m,by rw[i]at k;exact k,C,D⟩
theorem ZnY(k:UInt8)(s:By)(hs:s.size<=63):spl (Dc (⟨#[k]⟩++Dm 63)) 1 (Dc s)=Dc (⟨#[k]⟩++Di s 63):=by
 rw[Zcy,Zcy,QC];unfold spl Di;rw[Dg];have b:(Value.int .u8 (k.toNat:Int)::List.replicate 63 (Value.int .u8 0)).drop (1+s.size)=List.replicate (63-s.size) (.int .u8 0):=by
  rw[Nat.add_comm,List.drop_succ_cons,List.drop_replicate]
 rw[b];by_cases a:63<=s.size
 ·have c:(Dc s).take (63-0)=Dc s:=List.take_of_length_le (by rw[Dg];omega);rw[if_pos a,show 63-s.size=0 by omega,Jn,List.drop_zero,c];simp
 ·rw[if_neg a,Ju,Kr];simp
theorem Vb(k:UInt8)(s:By):(Dc (⟨#[k]⟩++Di s 63)).toArray.size=64:=by
 rw[Zcy];simp[Dg,Jc]
theorem ZeK(w:World)(a:OA)(l c:Nat)(s:By)(h:RdB w a l c s)(D:s.size<=63)(k:UInt8):
  Calls Tryz.prog 213 #[.int .u8 (k.toNat:Int),.slice a l c] w fun e w'=>e = .returned (DA (⟨#[k]⟩++Di s 63))/\Below w.heap.size w w':=by
 have G:=Db h;clear h;go_enter Tryz.func213,Tryz.ntmps213;go_upto_region 0 with fail;refine wp_region_lit ?_;refine JF rfl 188 rfl Kq ?_;refine wpList_nil ?_;obtain⟨W,x,o,K,E,A⟩:=De w (Dc (Dm 64)) 188;rw[x];clear x;go_upto_region 1 with fail;refine wp_region_lit ?_;refine Ze8 rfl _ rfl ?_;refine Zck rfl 188 0 _ rfl (.int .u8 (k.toNat:Int)) rfl ((Znk _).trans (congrArg some (show _=(Dc (⟨#[k]⟩++Dm 63)).toArray by rw[Zcy,QC]))) ?_;refine JF rfl 188 rfl Kq ?_;obtain⟨b,y,p,C,M,B⟩:=De W (Dc (Dm 64)) 188;rw[y];clear y;refine wpList_store_row rfl 188 _ _ rfl W.heap.size (Dc (⟨#[k]⟩++Dm 63)).toArray rfl rfl 188 _ p ?_ ?_ (KG _) ?_
 ·rw[D2];rfl
 ·rfl
 refine wpList_nil ?_;have q:RowIs (b.setRow W.heap.size (Dc (⟨#[k]⟩++Dm 63)).toArray) W.heap.size 188 (Dc (⟨#[k]⟩++Dm 63)):=setRow_heap b _ _ _ 188 _ p;have f:Below W.heap.size W (b.setRow W.heap.size (Dc (⟨#[k]⟩++Dm 63)).toArray):=B.trans ⟨rfl,rfl,rfl,by simp,fun j J=>setRow_other b _ j _ (by omega)⟩;have N:=C _ _ _ o;obtain⟨m,z⟩:∃X,X=b.setRow W.heap.size (Dc (⟨#[k]⟩++Dm 63)).toArray:=⟨_,rfl⟩;rw[<-z]at q f ⊢;have g:Below w.heap.size w m:=A.trans (f.mono (by omega));have r:RowIs m w.heap.size 188 (Dc (Dm 64)):=(f.block _ (by omega)).trans o;obtain⟨d,L,t,n⟩:=UZ m W.heap.size 188 _ q 1 63 63 a l c s ((Da G).below g) D (by rw[Dg];exact Nat.le_refl 64);have F:RowIs d w.heap.size 188 (Dc (Dm 64)):=(n.block _ r.lt (fun e=>by simp at e;omega)).trans r;have i:=ZnY k s D;rw[i]at t;have H:=Db t;have u:=Db F;have I:Below w.heap.size w d:=g.grown n g.size (fun k e=>by cases e;omega);have aa:=Db E;clear t F r q p N o K C z A B f g n i E M;go_upto_region 3 with(at_builtin;refine D6 _ rfl _ _ 59 59 rfl _ _ rfl rfl L ?_);refine wp_region_lit ?_;refine wpList_load_row rfl 188 _ rfl W.heap.size rfl 188 _ (0,0) _ (Da H) JQ rfl ?_ ?_
 ·rw[D2,Vb]
 refine wpList_store_row rfl 188 _ _ rfl w.heap.size (Dc (⟨#[k]⟩++Di s 63)).toArray rfl rfl 188 _ (Da u) ?_ ?_ (KG _) ?_
 ·rw[D2,Vb]
 ·rw[Vb];rfl
 refine wpList_nil ?_;go_wp2;have i:RowIs (d.setRow w.heap.size (Dc (⟨#[k]⟩++Di s 63)).toArray) w.heap.size 188 (Dc (⟨#[k]⟩++Di s 63)):=setRow_heap d _ _ _ 188 _ (Da u);refine bodyPost_ret (v:=DA ((⟨#[k]⟩:By)++Di s 63)) (results_cell_row rfl _ _ w.heap.size 188 _ (0,0) _ rfl i JQ rfl ?_) rfl ⟨rfl,?_⟩
 ·rw[D2,Vb]
 ·exact I.trans ⟨rfl,rfl,rfl,by simp,fun j J=>setRow_other d _ j _ (by omega)⟩
theorem ZkE(x:Nat)(h:x<18446744073709551616):IntKind.u64.wrap (x:Int)=x:=by
 simp[IntKind.wrap,IntKind.bits,IntKind.signed];omega
theorem Zi7(x i b:Nat)(c:b<2 ^ i)(h:2 ^ i*x+b<18446744073709551616):bits BinOp.or IntKind.u64 ((2 ^ i*x:Nat):Int) (b:Int)=((2 ^ i*x+b:Nat):Int):=by
 show IntKind.u64.wrap (((BitVec.ofInt 64 ((2 ^ i*x:Nat):Int) ||| BitVec.ofInt 64 (b:Int):BitVec 64).toNat:Nat):Int)=_;simp only[BitVec.ofInt_natCast,BitVec.toNat_or,BitVec.toNat_ofNat];rw[Nat.mod_eq_of_lt (a:=2 ^ i*x) (by show _<18446744073709551616;omega),Nat.mod_eq_of_lt (a:=b) (by show _<18446744073709551616;omega),<-Nat.two_pow_add_eq_or_of_lt c,ZkE _ h]
theorem Zn3(k n t:Nat)(hk:k<256)(hn:n<65536)(d:t<65536):bits BinOp.or IntKind.u64 (bits BinOp.or IntKind.u64 ((k:Int)*4294967296) ((n:Int)*65536)) (t:Int)=((k*4294967296+n*65536+t:Nat):Int):=by
 have a:((k:Int)*4294967296)=((2 ^ 32*k:Nat):Int):=by omega
 have b:((n:Int)*65536)=((n*65536:Nat):Int):=by omega
 rw[a,b,Zi7 k 32 (n*65536) (by show _<4294967296;omega) (by show 4294967296*k+_<_;omega)];have c:2 ^ 32*k+n*65536=2 ^ 16*(k*65536+n):=by show 4294967296*k+_=65536*_;omega
 rw[c,Zi7 _ 16 t d (by show 65536*_+_<_;omega)]
 congr 1;show 65536*_+_=_;omega
theorem Up(w:World)(k n t:Nat)(b:k<256)(c:n<65536)(d:t<65536):
  Calls Tryz.prog 244 #[.int .u8 k,.int .i64 n,.int .i64 t] w fun e w'=>e = .returned (.int .u64 ((k*4294967296+n*65536+t:Nat):Int))/\w'=w:=by
 have a:=Db (Zn3 k n t b c d);go_enter Tryz.func244,Tryz.ntmps244;go_wp2;go_ret;exact⟨congrArg (fun z=>Ending.returned (.int .u64 z)) (Da a),rfl⟩
def DG(p x:Nat):By:=⟨(Dz p 2++Dz x 8).toArray⟩
theorem ZmI(s:By)(p x:Nat):s++⟨(Dz p 2).toArray⟩++⟨(Dz x 8).toArray⟩=s++DG p x:=by
 apply WideShapes.bytes_inj;simp[DG]
theorem Own.lt{b:Nat}{w:World}{v:Value}{s:By}(h:SlB b w v s){g:Nat}(a:Own v g):g<w.heap.size:=by
 rcases h.1.2 with⟨e,_⟩|⟨g',aa,L,e,c,_⟩
 ·rw[e]at a;simp[Own,Value.ownBlock]at a
 ·rw[e]at a;simp[Own,Value.ownBlock]at a;subst a;exact c.lt
theorem ZhO(x m:Nat):(⟨(Dz x m).toArray⟩:By).size=m:=by show(List.toArray _).size=m;simp[D5]
theorem ZcA(w:World)(b:Nat)(L:b<=w.heap.size)(a:OA)(l c:Nat)(s:By)(h:SlB b w (.slice a l c) s)(p x:Nat)(hp:p<65536)(V:x<18446744073709551616)(hs:s.size<=1000000):
  Calls Tryz.prog 214 #[.agg #[.int .i64 p,.int .u64 x],.slice a l c] w fun e w'=>∃d i f,e = .returned (.slice d i f)/\SlB b w' (.slice d i f) (s++DG p x)/\Fr (Own (.slice a l c)) w w'/\Dk w (.slice a l c) (.slice d i f):=by
 obtain⟨W,K,t,P,E,v⟩:=De w [.int .i64 p,.int .u64 x] 175;have z:¬Own (.slice a l c) w.heap.size:=fun e=>by have:=Own.lt h e;omega
 have G:Hid (∀X,Below W.heap.size W X->Calls Tryz.prog 212 #[.slice a l c,.int .u64 (IntKind.u64.wrap (p:Int)),.int .i64 2] X fun e w'=>∃d i f,e = .returned (.slice d i f)/\Hid (SlB b w' (.slice d i f) (s++⟨(Dz p 2).toArray⟩)/\Fr (Own (.slice a l c)) W w'/\Dk W (.slice a l c) (.slice d i f))/\RowIs w' w.heap.size 175 [.int .i64 p,.int .u64 x]):=fun X r=>by
  rw[ZkE p (by omega)];have U:Below w.heap.size w X:=v.trans (r.mono (by omega));have T:=r.size;refine(Ur X b (by omega) a l c s (h.below U) p (by omega) 2 (by omega) (by omega)).mono ?_;rintro e w' ⟨d,i,f,rfl,u,o,q⟩;refine⟨d,i,f,rfl,⟨u,(Fr.of_below r).then o (fun _ _ e=>e),fun g y=>(q g y).elim .inl (fun h => .inr (by omega))⟩,?_⟩;exact(show RowIs X w.heap.size 175 _ from (r.block _ (by omega)).trans t).fr o z
 have H:Hid (∀X j n m,Hid (SlB b X (.slice j n m) (s++⟨(Dz p 2).toArray⟩)/\Fr (Own (.slice a l c)) W X/\Dk W (.slice a l c) (.slice j n m))->RowIs X w.heap.size 175 [.int .i64 p,.int .u64 x]->Calls Tryz.prog 212 #[.slice j n m,.int .u64 x,.int .i64 8] X fun e w'=>∃d i f,e = .returned (.slice d i f)/\Hid (SlB b w' (.slice d i f) (s++DG p x)/\Fr (Own (.slice a l c)) w w'/\Dk w (.slice a l c) (.slice d i f))/\RowIs w' w.heap.size 175 [.int .i64 p,.int .u64 x]):=fun X j n m O S=>by
  obtain⟨u,o,q⟩:=Da O;have T:=o.size;refine(Ur X b (by omega) j n m _ u x V 8 (by omega) (by rw[ByteArray.size_append,ZhO];omega)).mono ?_;rintro e w' ⟨d,i,f,rfl,Z,F,q3⟩;refine⟨d,i,f,rfl,⟨by rw[<-ZmI];exact Z,((Fr.of_below v).then o (fun _ _ e=>e)).then F (fun k hk e=>(q k e).elim id (fun h=>by omega)),fun g y=>?_⟩,?_⟩
  ·rcases q3 g y with B|B
   ·exact(q g B).elim .inl (fun h => .inr (by omega))
   ·exact .inr (by omega)
  ·exact S.fr F (fun e=>(q _ e).elim z (fun h=>by omega))
 have ab:=t.cell 0;have ac:=t.cell 1;clear h z P t v L;have N:Below W.heap.size W W:=Below.refl _ _;have M:Below W.heap.size W W.drew:=N.drew;have aa:=Db E;clear E;go_enter Tryz.func214,Tryz.ntmps214;go_upto_region 1 with fail;clear K
 go_region_held3 (fun W=>W.cell? ⟨w.heap.size,0,none⟩=some (.int .i64 p)/\W.cell? ⟨w.heap.size,1,none⟩=some (.int .u64 x)) (go_keep)
  (first|(have R:=C;clear R;go_at_call 212;refine(Da H _ j n m C A).mono ?_;rintro e w4 ⟨I,Y,J,rfl,Q,D⟩;have n0:=D.cell 0;have n1:=D.cell 1)|(go_at_call 212;refine(Da G _ M).mono ?_;rintro e w3 ⟨j,n,m,rfl,C,A⟩;have m0:=A.cell 0;have m1:=A.cell 1))
 all_goals
  go_wp2;go_ret;exact⟨I,Y,J,rfl,Da Q⟩
def JB(D:LY):LVa:=D.flatMap Dc
theorem Zcx:∀{D:LY},(∀s∈D,s.size=64)->(JB D).length=D.length*64
 | [],_=>rfl
 | s::D,h=>by
  have a:=Zcx (D:=D) (fun x b=>h x (List.mem_cons_of_mem _ b));have h2:=h s List.mem_cons_self;unfold JB at a ⊢;simp only[List.flatMap_cons,List.length_append,Dg,List.length_cons];omega
theorem ZfN:∀{D:LY},(∀s∈D,s.size=64)->∀(i j:Nat) (s:By),D[i]?=some s->j<64->(JB D)[i*64+j]?=(Dc s)[j]?
 | [],_,i,j,s,hi,_=>by simp at hi
 | x::D,h,0,j,s,hi,hj=>by
  simp at hi;subst hi;have a:=h x List.mem_cons_self;unfold JB;rw[List.flatMap_cons,Nat.zero_mul,Nat.zero_add,List.getElem?_append_left (by rw[Dg];omega)]
 | x::D,h,i+1,j,s,hi,hj=>by
  have a:=h x List.mem_cons_self;have:=ZfN (D:=D) (fun y b=>h y (List.mem_cons_of_mem _ b)) i j s (by simpa using hi) hj;unfold JB at this ⊢;rw[List.flatMap_cons,List.getElem?_append_right (by rw[Dg];omega),Dg,<-this]
  congr 1;omega
def SlD(w:World)(v:Value)(D:LY):Prop:=Sl w 188 64 v D.length (JB D)/\∀s∈D,s.size=64
theorem SlD.range{w:World}{a:OA}{l c:Nat}{D:LY}(h:SlD w (.slice a l c) D)(i:Nat)(s:By)(b:D[i]?=some s):∃g,a=some ⟨g,0,none⟩/\l=D.length/\w.rangeAt g (i*64) (Dc s):=by
 have ab:=(List.getElem?_eq_some_iff.1 b).1;rcases h.1.2 with⟨e,h0⟩|⟨g,aa,L,e,k,h1,h2,h3,f⟩
 ·omega
 ·simp only[Value.slice.injEq]at e;obtain⟨rfl,rfl,rfl⟩:=e;refine⟨g,rfl,rfl,fun j v d=>?_⟩;have hs:=h.2 s (List.mem_of_getElem? b);have m:j<64:=by have:=(List.getElem?_eq_some_iff.1 d).1;rw[Dg]at this;omega
  have:=ZfN h.2 i j s b m;rw[d,<-f,List.getElem?_take]at this
  split at this
  ·rw[k.cell];exact this
  ·cases this
def DS(w:World)(db:Nat)(vf vn vw ve:Value)(D:LY):Prop:=RowIs w db 204 [vf,vn,vw,ve]/\SlD w vn D/\D.length=1536
theorem Zi9(w:World)(m:Nat)(G vw F:Value)(a:OA)(l c:Nat)(D:LY)(h:DS w m G (.slice a l c) vw F D)(i:Nat)(s:By)(d:D[i]?=some s):
  Calls Tryz.prog 239 #[.pointer (some ⟨m,0,none⟩),.int .i64 i] w fun e w'=>e = .returned (DA s)/\Below w.heap.size w w':=by
 obtain⟨g,rfl,rfl,q⟩:=h.2.1.range i s d;have ac:i<D.length:=(List.getElem?_eq_some_iff.1 d).1;have u:=h.2.1.2 s (List.mem_of_getElem? d);obtain⟨W,n,z,o,y,f⟩:=De w (Dc (Dm 64)) 188;have t:=o _ _ _ h.1;have ab:=t.cell 1;have r:W.rangeAt g (i*64) (Dc s):=fun j v E=>by
  have:=q j v E;exact(f.cell (p:=⟨g,i*64+j,none⟩) (World.block_lt_of_cell? _ _ this)).trans this
 have x:(Dc s).length=64:=by rw[Dg,u]
 have B:=Db r;have k:=Db z;have aa:=Db y;have A:=Db f;have b:=Db x;have hD:=h.2.2;clear h q d u t o z y f r x;go_enter Tryz.func239,Tryz.ntmps239;go_upto_region 0 with fail;refine wp_region_lit ?_;refine JF rfl 188 rfl Kq ?_;refine wpList_nil ?_;rw[show w.alloc (.cells (Dc (Dm 64)).toArray 188)=W from n];clear n;go_wp2_with (first|(refine wpList_load_mid rfl 188 _ rfl g (i*64) rfl (Dc s) _ (Da B) JQ rfl (by rw[D2,Da b]) ?_)|(refine wpList_store_row rfl 188 _ _ rfl w.heap.size (Dc s).toArray rfl rfl 188 _ (Da k) (by rw[D2];simp[Da b]) (by simp[Da b,Dg,Jl]) (KG _) ?_));have C:RowIs (W.setRow w.heap.size (Dc s).toArray) w.heap.size 188 (Dc s):=setRow_heap W _ _ _ 188 _ (Da k);refine bodyPost_ret (v:=DA s) (results_cell_row rfl _ _ w.heap.size 188 _ (0,0) _ rfl C JQ rfl ?_) rfl ⟨rfl,?_⟩
 ·rw[D2];simp[Da b]
 ·exact(Da A).trans ⟨rfl,rfl,rfl,by simp,fun j hj=>setRow_other W _ j _ (by omega)⟩
def DK(nd:Nat->Int):Nat->Nat->Nat
 | 0,h=>h
 | f+1,h=>if h%16=0/\0<nd (h/16%96) then DK nd f (h+16) else h
theorem ZcX{a:Nat->Int}{h:Nat}(b:¬(h%16=0/\0<a (h/16%96))):∀f,DK a f h=h
 | 0=>rfl
 | f+1=>by unfold DK;rw[if_neg b]
theorem Zjj{a:Nat->Int}{h f:Nat}(b:h%16=0/\0<a (h/16%96)):DK a (f+1) h=DK a f (h+16):=by
 conv=>lhs;unfold DK
 rw[if_pos b]
def Uu(w:World)(a:Addr):Nat:=match w.cell? a with|some (.int _ x)=>x.toNat|_=>0
theorem Zjr{w:World}{a:Addr}{k:IntKind}{x:Nat}(h:w.cell? a=some (.int k x)):Uu w a=x:=by unfold Uu;rw[h];rfl
theorem Fr.drewN{X:Nat->Prop}{w w1:World}(h:Fr X w w1)(n:Nat):Fr X w (w1.drewN n):=⟨h.os,h.tape,h.output,h.size,h.block⟩
def ZjS(w:World)(pb:Nat)(L:LVa)(nd:Nat->Int)(hd:Nat)(e:Ending)(w':World):Prop:=
 ∃p,p=DK nd 96 hd%1536/\RowIs w' pb 184 (L.set 99 (.int .i64 ((p+1:Nat):Int)))/\e = .returned (.int .i64 (p:Nat))/\w'.cell? ⟨pb,99,none⟩=some (.int .i64 ((p+1:Nat):Int))/\Fr (fun k=>k=pb) w w'/\(∀j,j≠99->w'.cell? ⟨pb,j,none⟩=w.cell? ⟨pb,j,none⟩)
theorem Zlg(w:World)(pb:Nat)(L:LVa)(z:RowIs w pb 184 L)(b:Nat->Int)(a:Nat)(hh:a<=1536)(N:∀j,j<96->w.cell? ⟨pb,2+j,none⟩=some (.int .i64 (b j)))(J:w.cell? ⟨pb,99,none⟩=some (.int .i64 a))(Z:w.frozen? ⟨pb,99,none⟩=false)
  (Q:∃k,k<96/\b ((a/16+k)%96)<=0):
  Calls Tryz.prog 302 #[.pointer (some ⟨pb,0,none⟩)] w (ZjS w pb L b a):=by
 have S:=Db z;have V:=Db N;have X:=Db Q;have H:L.set 99 (.int .i64 (a:Int))=L:=by
  have c:L[99]?=some (.int .i64 (a:Int)):=by rw[<-z.cell 99];exact J
  obtain⟨i,G⟩:=List.getElem?_eq_some_iff.1 c;rw[<-G];exact List.set_getElem_self i
 have T:=Db H;clear N Q z H;go_enter Tryz.func302,Tryz.ntmps302;go_wp2_with fail
 go_loopw [4] (fun _ wr=>∃k h:Nat,k<=96/\h=a+16*k/\Hid (DK b (96-k) h=DK b 96 a/\∀j,j<k->0<b ((a/16+j)%96))/\wr.cell? ⟨pb,99,none⟩=some (.int .i64 h)/\wr.frozen? ⟨pb,99,none⟩=false/\Hid (Fr (fun k=>k=pb) w wr/\(∀j,j≠99->wr.cell? ⟨pb,j,none⟩=w.cell? ⟨pb,j,none⟩)/\RowIs wr pb 184 (L.set 99 (.int .i64 (h:Int))))) (fun _ wr=>a+1600-Uu wr ⟨pb,99,none⟩)
 case atStart=>exact⟨0,a,by omega,by omega,⟨rfl,fun j g=>absurd g (by omega)⟩,J,Z,Fr.refl _ _,fun _ _=>rfl,by rw[Da T];exact Da S⟩
 case round=>
  obtain⟨k,h,hk,A,s,q,aa,d⟩:=hrel;have l:=Zjr q;have U:=Db l;clear l;have ag:h<=3072:=by omega
  have r:=Db A;clear A;have o:(h:Int).tmod 16=((h%16:Nat):Int):=by rw[Int.tmod_eq_emod_of_nonneg (by omega)];omega
  have F:(IntKind.i64.wrap ((h:Int)/16)).tmod 96=((h/16%96:Nat):Int):=by rw[IntKind.wrap_i64,Int.tmod_eq_emod_of_nonneg (by omega)];omega
  obtain⟨x,D⟩:∃x,x=h/16%96:=⟨_,rfl⟩;have P:x<96:=by omega
  rw[<-D]at F;have ab:(x:Int)<96:=by omega
  have ac:¬(96:Int)<=(x:Int):=by omega
  have K:wr.cell? ⟨pb,2+x,none⟩=some (.int .i64 (b x)):=((Da d).2.1 _ (by omega)).trans (Da V _ P);obtain⟨v,C⟩:∃v,v=b x:=⟨_,rfl⟩;rw[<-C]at K;have y:=Db D;have u:=Db C;clear D C;have Y:(h:Int).tmod 1536=((h%1536:Nat):Int):=by rw[Int.tmod_eq_emod_of_nonneg (by omega)];omega
  obtain⟨p,B⟩:∃p,p=h%1536:=⟨_,rfl⟩;have ai:p<1536:=by omega
  rw[<-B]at Y;have W:=Db B;clear B;have E:Hid (¬(h%16=0/\0<b (h/16%96))->∀nq,ZjS w pb L b a (.returned (.int .i64 p)) ((wr.drewN nq).setCell ⟨pb,99,none⟩ (.int .i64 ((p:Int)+1)))):=fun f nq=>by
   refine⟨p,?_,?_,rfl,World.cell?_setCell_same _ _ _ q,?_,fun j g=>?_⟩
   ·rw[<-(Da s).1,ZcX f];exact Da W
   ·have:=RowIs.set (show RowIs (wr.drewN nq) pb 184 _ from (Da d).2.2) 99 (.int .i64 ((p:Int)+1));rw[List.set_set]at this;exact this
   ·exact Fr.set ((Da d).1.drewN nq) ⟨pb,99,none⟩ _ rfl
   ·exact(World.cell?_setCell_other _ _ _ _ (by simp)).trans ((Da d).2.1 j g)
  by_cases e:h%16=0
  ·have ae:((h:Int).tmod 16==0)=true:=by rw[o,e];rfl
   have R:=Db e;clear e o;by_cases n:0<v
   ·have O:Hid (k<96/\DK b (96-(k+1)) (h+16)=DK b 96 a/\∀j,j<k+1->0<b ((a/16+j)%96)):=by
     have A:=Da r;have e:=Da R;have ad:(a/16+k)%96=x:=by rw[Da y];omega
     have I:∀j,j<k+1->0<b ((a/16+j)%96):=fun j g=>by
      rcases Nat.lt_or_ge j k with c|c
      ·exact(Da s).2 j c
      ·obtain rfl:j=k:=by omega
       rw[ad,<-Da u];exact n
     obtain⟨kk,af,ah⟩:=Da X;have M:k<96:=by
      rcases Nat.lt_or_ge kk (k+1) with c|c
      ·have:=I kk c;omega
      ·omega
     refine⟨M,?_,I⟩;rw[<-(Da s).1,show 96-k=(96-(k+1))+1 by omega,Zjj ⟨e,by rw[<-Da y,<-Da u];exact n⟩]
    have M:=(Da O).1;go_upto_region 1 with fail
    go_quiet (fail)
    go_wp2
    go_roundw
    case rel=>
     refine⟨k+1,h+16,by omega,by rw[Da r];omega,(Da O).2,?_,?_,?_,fun j g=>?_,?_⟩
     ·exact(World.cell?_setCell_same _ _ _ q).trans (by go_num)
     ·simpa using aa
     ·exact Fr.set ((Da d).1.drewN nq) ⟨pb,99,none⟩ _ rfl
     ·exact(World.cell?_setCell_other _ _ _ _ (by simp)).trans ((Da d).2.1 j g)
     ·have:=RowIs.set (show RowIs (wr.drewN nq) pb 184 _ from (Da d).2.2) 99 (.int .i64 ((h:Int)+16));rw[List.set_set]at this;exact this
    case measure=>
     have c:Uu ((wr.drewN nq).setCell ⟨pb,99,none⟩ (.int .i64 ((h:Int)+16))) ⟨pb,99,none⟩=h+16:=Zjr (k := .i64) (x:=h+16) (World.cell?_setCell_same _ _ _ q);have i:=Da U;have G:=Da r;omega
   ·have f:¬(h%16=0/\0<b (h/16%96)):=fun ⟨_,i⟩=>by rw[<-Da y,<-Da u]at i;exact n i
    have t:=Db f;have aj:decide (0<v)=false:=decide_eq_false n;clear f n;go_upto_region 1 with fail
    go_quiet (fail)
    go_wp2;go_ret;exact Da E (Da t) _
  ·have f:¬(h%16=0/\0<b (h/16%96)):=fun ⟨c,_⟩=>e c
   have t:=Db f;obtain⟨m,l⟩:∃m:Nat,h%16=m+1:=⟨h%16-1,by omega⟩;have e4:(h:Int).tmod 16=(m:Int)+1:=by rw[o,l];omega
   have e5:decide ((m:Int)+1=0)=false:=decide_eq_false (by omega);have e6:((m:Int)+1==0)=false:=by rw[beq_eq_false_iff_ne];omega
   clear f e o F K ab ac P l;go_upto_region 1 with fail
   go_quiet (fail)
   go_wp2;go_ret;exact Da E (Da t) _
theorem ZiV(w:World)(b:Nat)(a:OA)(l c:Nat)(h:w.cell? ⟨b,3,none⟩=some (.slice a l c)):
  Calls Tryz.prog 79 #[.pointer (some ⟨b,0,none⟩)] w fun e w'=>e = .returned (.int .i64 l)/\w'=w:=by
 go_enter Tryz.func79,Tryz.ntmps79;go_wp2;go_ret;exact⟨rfl,rfl⟩
theorem ZgX(w:World)(pb h so:Nat)(b:Nat->Int)(a i:Nat)(hi:i<1536)(aa:a<1536)(c:∀j,j<96->w.cell? ⟨pb,2+j,none⟩=some (.int .i64 (b j)))(hc:w.cell? ⟨pb,1,none⟩=some (.pointer (some ⟨h,so,none⟩)))(ht:w.cell? ⟨h,so+1,none⟩=some (.int .i64 a)):
  Calls Tryz.prog 301 #[.pointer (some ⟨pb,0,none⟩),.int .i64 i] w fun e w'=>e = .returned (.bool (decide (i/16≠a/16/\b (i/16)<=8)))/\w'=w:=by
 obtain⟨x,f⟩:∃x,x=i/16:=⟨_,rfl⟩;obtain⟨y,g⟩:∃y,y=a/16:=⟨_,rfl⟩;have e1:(IntKind.i64.wrap ((i:Int)/16))=(x:Int):=by rw[IntKind.wrap_i64];omega
 have e2:(IntKind.i64.wrap ((a:Int)/16))=(y:Int):=by rw[IntKind.wrap_i64];omega
 have k:=c x (by omega);obtain⟨v,d⟩:∃v,v=b x:=⟨_,rfl⟩;rw[<-f,<-g];rw[<-d]at k ⊢;have ab:(x:Int)<96:=by omega
 have ac:¬(96:Int)<=(x:Int):=by omega
 clear c f g d;by_cases l:x=y
 ·subst l;go_enter Tryz.func301,Tryz.ntmps301;go_wp2;go_ret;exact⟨rfl,rfl⟩
 ·have ad:((x:Int) != (y:Int))=true:=by simp;omega
  go_enter Tryz.func301,Tryz.ntmps301;go_wp2;go_ret;exact⟨rfl,rfl⟩
theorem ZjY{P:Program}{p:Array Oper}{o:Oper}{a:Act}{w:World}{K:Act->World->Prop}{Q:Exit->Act->World->Prop}{E:Prop}
  (k:o.guard=none) (d x:Operand) (c e:TypeId) (l:o.op=Op.call { callee:=Callee.builtin Builtin.append,args := #[d,x],argTypes := #[c,e] })
  (v u:Value) (j:a.eval d=v) (n:a.eval x=u) {f:Value->World->Prop} (m:∃b w',(Builtin.append_ #[c,e] o.type #[v,u]).run P w = .ok b w'/\f b w') (i:∀b w',f b w'->K (a.put o.dst b) w'):
  if Region.wanted o (yielded p a.tmps)=true then Oper.wp P o a w K Q else E:=by
 obtain⟨b,w',g,h⟩:=m;exact JM k d x c e l v u j n g (i b w' h)
theorem appI(w:World)(v:Value)(es:List Int)(i:Sl w 3 1 v es.length (es.map (.int .i64)))(nb:Nat)(x:Int)(o:RowIs w nb 3 [.int .i64 x])(hl:es.length<=1000000000):
  ∃g w',(Builtin.append_ #[53,53] 53 #[v,.slice (some ⟨nb,0,none⟩) 1 1]).run Tryz.prog w = .ok g w'/\∃a c b,g = .slice a c b/\Sl w' 3 1 (.slice a c b) (es.length+1) ((es++[x]).map (.int .i64))/\Fr (Own v) w w'/\Dk w v (.slice a c b):=by
 obtain⟨s,m,p,q,r⟩:=info_parts (P:=Tryz.prog) (e:=3) (z := .int .i64 0) (size:=1) (bytes:=8) (by kernel_rfl);obtain⟨g,w2,t,h,d,y⟩:=KH (P:=Tryz.prog) w 53 53 3 s _ 1 8 (by kernel_rfl) m p q r rfl (by decide) v es.length (es.map (.int .i64)) i ⟨nb,0,none⟩ 1 1 [.int .i64 x] rfl
  (fun j u f=>by rw[Addr.add_lit,Nat.zero_add,o.cell];exact f) (fun u f=>by rw[List.mem_singleton.1 f];rfl) (by unfold maxLen;omega) (by omega)
 obtain⟨a,c,b,rfl⟩:=h.shape;exact⟨_,w2,t,a,c,b,rfl,by rw[List.map_append];exact h,⟨d.os,d.tape,d.output,d.size,fun k n l=>d.block k n (fun e=>l e.symm)⟩,y⟩
def ZfT(w:World)(db:Nat)(vf vn vw ve:Value)(es:List Int)(m:Int)(e:Ending)(w':World):Prop:=
 e = .returned (.tuple #[])/\∃ve',RowIs w' db 204 [vf,vn,vw,ve']/\Sl w' 3 1 ve' (es.length+1) ((es++[m]).map (.int .i64))/\Fr (fun k=>k=db\/Own ve k) w w'/\Dk w ve ve'
theorem Zem(w:World)(b:Nat)(p q s:Value)(a:OA)(l c:Nat)(h:RowIs w b 204 [p,q,.slice a l c,s])(es:List Int)(u:Sl w 3 1 s es.length (es.map (.int .i64)))(v:¬Own s b)(G:es.length<=1000000000):
  Calls Tryz.prog 200 #[.pointer (some ⟨b,0,none⟩)] w (ZfT w b p q (.slice a l c) s es l):=by
 obtain⟨m,o,n,rfl⟩:=u.shape;have C:Hid (∀j,Below w.heap.size w j->∀nb,RowIs j nb 3 [.int .i64 l]->∃x w',(Builtin.append_ #[53,53] 53 #[.slice m o n,.slice (some ⟨nb,0,none⟩) 1 1]).run Tryz.prog j = .ok x w'/\∃d i f,x = .slice d i f/\RowIs w' b 204 [p,q,.slice a l c,.slice m o n]/\Hid (ZfT w b p q (.slice a l c) (.slice m o n) es l (.returned (.tuple #[])) (w'.setCell ⟨b,3,none⟩ (.slice d i f)))):=fun j r nb H=>by
  obtain⟨x,w',I,d,i,f,rfl,J,A,B⟩:=appI j _ es (u.kept (fun k F _=>r.block k F)) nb l H G;have z:RowIs w' b 204 [p,q,.slice a l c,.slice m o n]:=RowIs.fr (show RowIs j b 204 _ from (r.block _ h.lt).trans h) A v;have ad:=r.size;refine⟨_,w',I,d,i,f,rfl,z,rfl,.slice d i f,by simpa using z.set 3 (.slice d i f),?_,?_,fun g E=>(B g E).imp id (fun h=>by omega)⟩
  ·refine J.setCell _ _ (fun e=>?_);rcases B _ e with t|t
   ·exact v t
   ·have:=h.lt;simp only at t;omega
  ·exact((Fr.of_below r).then A (fun k _ e => .inr e)).set ⟨b,3,none⟩ _ (.inl rfl)
 have c2:w.cell? ⟨b,2,none⟩=some (.slice a l c):=(h.cell 2).trans rfl;have c3:w.cell? ⟨b,3,none⟩=some (.slice m o n):=(h.cell 3).trans rfl;have aa:=h.lt;have ab:¬b=w.heap.size:=by omega
 have ac:¬w.heap.size=b:=by omega
 clear h u v;go_enter Tryz.func200,Tryz.ntmps200;go_wp2_with fail
 go_region_law (refine ZjY rfl _ _ 53 53 rfl _ _ (by simp[Act.eval]) (by simp[Act.eval]) (Da C _ (by first|exact((Below.refl _ w).drew.alloc (by simp) _)|exact((Below.refl _ w).alloc (by simp) _)) _ (Jd _ _ _)) ?_;rintro v2 w2 ⟨d,i,f,rfl,y,D⟩;have d3:=y.cell 3;have f3:=y.frozen 3)
 all_goals
  go_wp2
  go_end0
  exact Da D
end Go.Proofs.YtaieidcohdhgpaaGreatDoor
