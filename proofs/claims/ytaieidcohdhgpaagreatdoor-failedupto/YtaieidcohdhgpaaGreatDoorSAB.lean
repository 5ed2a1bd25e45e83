/- Failed. -/
import Derived.Test.YtaieidcohdhgpaaGreatDoorSAA
import Derived.Lib.AppendZerosOnto
namespace Go.Proofs.YtaieidcohdhgpaaGreatDoor
set_option maxHeartbeats 40000000
set_option maxRecDepth 100000
open Go.RowKit
theorem ZdH{P:Program}(w:World)(t e ty:TypeId)(z:Value)(l:P.underlying t=some (.slice e))(m:∀w,(zeroValue e).run P w = .ok z w)(a:LVa)(n:(Builtin.zeroCells z.cells 1).toList=a)(h:∀u∈a,u.oneCell'=true)(g o c:Nat)(L:LVa)(b:TypeId)
  (d:RowIs w g b L) (i:o+a.length<=L.length):
  ∃w',(Builtin.clear_ #[t] ty #[.slice (some ⟨g,o,none⟩) 1 c]).run P w = .ok (.tuple #[]) w'/\RowIs w' g b (spl L o a)/\w.grownBy w' (some g):=by
 have f:=run_storeCells_at P g o b a 0 L.toArray w d (by simpa using i) h;simp only[Nat.add_zero]at f;refine⟨w.setRow g (spl L o a).toArray,?_,setRow_heap w g L.toArray _ b _ d,⟨rfl,rfl,rfl,by simp,fun k _ j=>setRow_other w g k _ (fun e=>j (by rw[e]))⟩⟩;simp[Builtin.clear_,run_underlying l,m,n,f,spl]
theorem Zhu{P:Program}(w:World){o:Oper}{a:Act}{K:Act->World->Prop}{Q:Exit->Act->World->Prop}(d:Operand)(t:TypeId)
  (ho:o.op = .call { callee := .builtin .clear,args := #[d],argTypes := #[t] }) (v:Value) (c:a.eval d=v) {b:Value} {w':World}
  (e:(Builtin.clear_ #[t] o.type #[v]).run P w = .ok b w') (h:K (a.put o.dst b) w'):o.wp P a w K Q:=by
 unfold Oper.wp execOp;simp only[ho,resolve,invoke,builtin,Sem.run_bind,Sem.run_pure,Result.andThen_ok,List.map_toArray,List.map_cons,List.map_nil,c,e];exact h
theorem Zbj{P:Program}(w:World){b:Array Oper}{c:List Oper}{o:Oper}{a:Act}{Q:Exit->Act->World->Prop}(i:o.guard=none)(d:Operand)(t:TypeId)
  (ho:o.op = .call { callee := .builtin .clear,args := #[d],argTypes := #[t] }) (v:Value) (g:a.eval d=v) {e:Value} {w':World}
  (j:(Builtin.clear_ #[t] o.type #[v]).run P w = .ok e w') (h:wpList P b Q c (a.put o.dst e) w'):wpList P b Q (o::c) a w:=
 wpList_plain i fun _ f=>Zhu w d t ho v g j (f _ _ h)
theorem ZiP:(Tryz.prog.info? 310).map (fun i=>(i.zero,i.size,i.bytes))=some (some (.agg #[.string ⟨#[]⟩,.pointer none,.int .i64 0]),3,32):=by kernel_rfl
theorem UQ:(Tryz.prog.info? 310).map (fun i=>i.size)=some 3:=by kernel_rfl
theorem ZlE(w:World)(v:Value)(n:Nat)(xs:LVa)(d:Nat)(b:LVa)(m:Sl w 310 3 v n xs)(hn:n<=10000)
  (s:RowIs w d 310 b) (aa:b.length=3) (q:∀u∈b,u.oneCell'=true):
  Calls Tryz.prog 265 #[v,.int .i64 n,.slice (some ⟨d,0,none⟩) 1 1] w fun e w'=>∃c,e = .returned c/\Sl w' 310 3 c (n+1) (xs++b)/\w.grownBy w' v.ownBlock/\Dk w v c:=by
 obtain⟨B,r,y,z,A⟩:=info_parts ZiP;have p:=fun ty=>KH (P:=Tryz.prog) w 225 ty 310 B _ 3 32 Tryz.underlying225 r y z A rfl (by decide) v n xs m ⟨d,0,none⟩ 1 1 b (by omega)
  (fun j u t=>by rw[Addr.add_lit,Nat.zero_add,s.cell];exact t) q (by unfold maxLen;omega) (by omega)
 obtain⟨c,w',o,f,k,l⟩:=p 225;have x:(v = .slice none 0 0/\n=0)\/∃g a,v = .slice (some ⟨g,0,none⟩) n a/\n<=a:=by
  rcases m.2 with h|⟨g,a,L,h,_,i,_⟩
  ·exact .inl h
  ·exact .inr ⟨g,a,h,i⟩
 clear p;rcases x with⟨rfl,rfl⟩|⟨g,a,rfl,i⟩
 ·go_enter Tryz.func265,Tryz.ntmps265;go_wp2_with (at_builtin;refine Lib.wpList_append_run _ rfl _ _ 225 225 rfl _ _ rfl rfl _ _ o ?_);go_ret;exact⟨_,rfl,f,k,l⟩
 ·go_enter Tryz.func265,Tryz.ntmps265;go_wp2_with (at_builtin;refine Lib.wpList_append_run _ rfl _ _ 225 225 rfl _ _ rfl rfl _ _ o ?_)
  all_goals (go_ret;exact⟨_,rfl,f,k,l⟩)
theorem ZlB(w:World)(g n a:Nat)(xs L:LVa)(i d:Nat)(c:LVa)(h:RowIs w g 310 L)(v:L.length=a*3)(o:L.take (n*3)=xs)(hi:i<n)(ae:n+1<=a)(z:a<=maxLen)(hn:n<=10000)
  (f:RowIs w d 310 c) (l:c.length=3) (t:∀u∈xs,u.oneCell'=true) (s:∀u∈c,u.oneCell'=true) (B:d≠g):
  Calls Tryz.prog 265 #[.slice (some ⟨g,0,none⟩) n a,.int .i64 i,.slice (some ⟨d,0,none⟩) 1 1] w fun e w'=>e = .returned (.slice (some ⟨g,0,none⟩) (n+1) a)/\RowIs w' g 310 (spl (spl L ((i+1)*3) (xs.drop (i*3))) (i*3) c)/\w.grownBy w' (some g):=by
 have D:xs.length=n*3:=by rw[<-o,List.length_take];omega
 have k:(xs.drop (i*3)).length=(n-i)*3:=by rw[List.length_drop,D];omega
 obtain⟨p,G,x,m⟩:=JK (P:=Tryz.prog) w.drew 225 225 3 310 3 g ((i+1)*3) (n-i) (a-(i+1)) ⟨g,i*3,none⟩ (n+1-i) (a-i) L 310 (xs.drop (i*3)) Tryz.underlying225 UQ h
  (by rw[k];simp only[Nat.min_def];split<;>omega)
  (fun j u b=>by
   rw[Addr.add_lit,show(w.drew.cell? ⟨g,i*3+j,none⟩)=L[i*3+j]? from h.cell _];rw[List.getElem?_drop,<-o,List.getElem?_take]at b
   split at b
   ·exact b
   ·cases b) (by rw[k];omega) (fun u b=>t u (List.mem_of_mem_drop b))
 have C:RowIs p d 310 c:=(show RowIs w.drew d 310 c from f).kept m (by simpa using B);obtain⟨q,H,y,A⟩:=JK (P:=Tryz.prog) p 225 225 3 310 3 g (i*3) (n+1-i) (a-i) ⟨d,0,none⟩ 1 1 _ 310 c Tryz.underlying225 UQ x
  (by rw[l];simp only[Nat.min_def];split<;>omega)
  (fun j u b=>by rw[Addr.add_lit,Nat.zero_add,C.cell];exact b) (by rw[DV (by rw[k];omega),l];omega) s
 have F:∀lb cb,(callFunc 296 #[.slice (some ⟨d,0,none⟩) 1 1,.slice (some ⟨g,(i+1)*3,none⟩) lb cb]).run Tryz.prog w = .ok (.value (.bool false)) w:=fun lb cb=>by
  rw[run_callFunc_extern Tryz.func296 (by kernel_rfl) (by kernel_rfl) (by kernel_rfl) (e:=Extern.SlicesOverlaps.overlaps #[225,225] #[4]) (by kernel_rfl),
   Lib.run_overlaps_apart w 225 4 310 Tryz.underlying225 3 (fun _=>by kernel_rfl) ⟨d,0,none⟩ ⟨g,(i+1)*3,none⟩ 1 1 lb cb B 310 310 3 (a*3) (by unfold World.shape?;rw[f];simp[l]) (by unfold World.shape?;rw[h];simp[v]) (by omega) (f.frozen 0) (f.frozen 3)]
  rfl
 have af:a<=9223372036854775807:=by unfold maxLen at z;omega
 have r:RowIs q g 310 (spl (spl L ((i+1)*3) (xs.drop (i*3))) (i*3) c)/\w.grownBy q (some g):=⟨y,JL (show w.grownBy w.drew (some g) from QE (QG _ _)) (JL m A)⟩;have E:=Db r;clear r x y m A C t s z o k D v l f h;have ai:IntKind.i64.wrap ((i:Int)+1)=(i:Int)+1:=by rw[IntKind.wrap_i64];omega
 have aa:(0:Int)<=(i:Int)+1:=by omega
 have ag:i<=n:=by omega
 have ah:((i:Int)+1).toNat=i+1:=by omega
 have ab:¬(a=i+1):=by omega
 have ac:(i:Int)<=(n:Int)+1:=by omega
 have ad:¬(a=i):=by omega
 go_enter Tryz.func265,Tryz.ntmps265;go_wp2_with (simp only[F])
 go_region_law (refine KB rfl _ _ 225 225 rfl _ _ (by simp[Act.eval,Act.put]) (by simp[Act.eval,Act.put]) G ?_)
 go_wp2_with (at_builtin;refine D6 _ rfl _ _ 225 225 rfl _ _ rfl rfl H ?_);go_ret;exact⟨rfl,Da E⟩
theorem Zke(w:World)(g n b:Nat)(xs L:LVa)(i t:Nat)(c:LVa)(d:RowIs w g 310 L)(ae:L.length=b*3)(s:L.take (n*3)=xs)(hi:i<n)(ap:n<=b)(am:b<n+1)(hn:n<=10000)
  (D:RowIs w t 310 c) (r:c.length=3) (J:∀u∈xs,u.oneCell'=true) (I:∀u∈c,u.oneCell'=true):
  Calls Tryz.prog 265 #[.slice (some ⟨g,0,none⟩) n b,.int .i64 i,.slice (some ⟨t,0,none⟩) 1 1] w fun e w'=>∃G Z,e = .returned (.slice (some ⟨w.heap.size,0,none⟩) (n+1) G)/\n+1<=G/\G<=maxLen/\(xs.take (i*3)++Z).length=G*3/\
   RowIs w' w.heap.size 310 (spl (spl (xs.take (i*3)++Z) (i*3) c) ((i+1)*3) (xs.drop (i*3)))/\w.grownBy w' (some w.heap.size):=by
 have X:xs.length=n*3:=by rw[<-s,List.length_take];omega
 have A:(xs.drop (i*3)).length=(n-i)*3:=by rw[List.length_drop,X];omega
 obtain⟨i0,R,Y,aa,E⟩:=info_parts ZiP;have W:∀j u,xs[j]?=some u->w.cell? ⟨g,j,none⟩=some u:=fun j u a=>by
  rw[d.cell];rw[<-s,List.getElem?_take]at a
  split at a
  ·exact a
  ·cases a
 have U:(Builtin.firstCells i0.size i (.slice (some ⟨g,0,none⟩) i b)).run Tryz.prog w.drew = .ok (xs.take (i*3)).toArray w.drew:=by
  rw[aa];exact run_firstCells_some w.drew 3 i ⟨g,0,none⟩ i b (xs.take (i*3)) (by rw[List.length_take];omega) (fun j v q=>by
   rw[Addr.add_lit,Nat.zero_add];rw[List.getElem?_take]at q
   split at q
   ·exact W j v q
   ·cases q)
 have C:i+(n+1-i)=n+1:=by omega
 have S:(n:Int)+1-(i:Int)=((n+1-i:Nat):Int):=by omega
 obtain⟨G,p⟩:∃G,G=grownCap w (n+1) b 310:=⟨_,rfl⟩;obtain⟨Z,z⟩:∃Z:Array Value,Z=Builtin.zeroCells (Value.agg #[.string ⟨#[]⟩,.pointer none,.int .i64 0]).cells (n+1-i)++Builtin.zeroCells (Value.agg #[.string ⟨#[]⟩,.pointer none,.int .i64 0]).cells (G-(n+1)):=⟨_,rfl⟩;have V:∀ty,(Builtin.append_ #[225,3] ty #[.slice (some ⟨g,0,none⟩) i b,.int .i64 ((n:Int)+1-(i:Int))]).run Tryz.prog w =
   .ok (.slice (some ⟨w.heap.size,0,none⟩) (n+1) G) (w.drew.alloc (.cells (xs.take (i*3)++Z.toList).toArray 310)):=fun ty=>by
  have h:=Lib.run_append_grow_zeros w 225 3 ty 310 i0 _ .i64 .i64 Tryz.underlying225 Tryz.underlying3 R Y (some ⟨g,0,none⟩) i b (xs.take (i*3)) U (n+1-i) (by omega) (by omega) (by omega) (by omega) (by rw[E];omega) (by rw[E,C];exact growslice_fits (by omega) (by omega));rw[C,<-p]at h;rw[S,h,z]
  congr 2
  simp[Array.append_assoc]
 have ad:n+1<=G:=by rw[p];exact grownCap_ge w _ _ _
 have x:G<=maxLen:=by rw[p];exact grownCap_le_maxLen w _ _ _ (by unfold maxLen;omega)
 have f:(xs.take (i*3)++Z.toList).length=G*3:=by
  have e1:Z.size=(n+1-i)*3+(G-(n+1))*3:=by rw[z,Array.size_append,size_zeroCells,size_zeroCells];rfl
  have e2:Z.toList.length=Z.size:=Array.length_toList;rw[List.length_append,List.length_take,e2,e1];omega
 have y:RowIs (w.drew.alloc (.cells (xs.take (i*3)++Z.toList).toArray 310)) w.heap.size 310 (xs.take (i*3)++Z.toList):=heap_alloc_new w.drew _;have l:w.grownBy (w.drew.alloc (.cells (xs.take (i*3)++Z.toList).toArray 310)) (some w.heap.size):=⟨rfl,rfl,rfl,by simp,fun k hk _=>Below.heap_alloc w.drew _ k hk⟩;obtain⟨m,O⟩:∃m,m=w.drew.alloc (.cells (xs.take (i*3)++Z.toList).toArray 310):=⟨_,rfl⟩;rw[<-O]at V y l;have T:RowIs m t 310 c:=D.kept l (by have:=D.lt;simp;omega);obtain⟨o,af,M,B⟩:=JK (P:=Tryz.prog) m 225 225 3 310 3 w.heap.size (i*3) (n+1-i) (G-i) ⟨t,0,none⟩ 1 1 _ 310 c Tryz.underlying225 UQ y
  (by rw[r];simp only[Nat.min_def];split<;>omega)
  (fun j u a=>by rw[Addr.add_lit,Nat.zero_add,T.cell];exact a) (by rw[f,r];omega) I
 have K:RowIs o g 310 L:=(d.kept l (by have:=d.lt;simp;omega)).kept B (by have:=d.lt;simp;omega);obtain⟨F,ag,N,Q⟩:=JK (P:=Tryz.prog) o.drew 225 225 3 310 3 w.heap.size ((i+1)*3) (n-i) (G-(i+1)) ⟨g,i*3,none⟩ (n-i) (b-i) _ 310 (xs.drop (i*3)) Tryz.underlying225 UQ M
  (by rw[A];simp only[Nat.min_def];split<;>omega)
  (fun j u a=>by
   rw[Addr.add_lit,show(o.drew.cell? ⟨g,i*3+j,none⟩)=L[i*3+j]? from K.cell _];rw[List.getElem?_drop,<-s,List.getElem?_take]at a
   split at a
   ·exact a
   ·cases a) (by rw[DV (by rw[f,r];omega),f,A];omega) (fun u a=>J u (List.mem_of_mem_drop a))
 have H:(xs.take (i*3)++Z.toList).length=G*3/\RowIs F w.heap.size 310 (spl (spl (xs.take (i*3)++Z.toList) (i*3) c) ((i+1)*3) (xs.drop (i*3)))/\w.grownBy F (some w.heap.size):=
  ⟨f,N,JL l (JL B (JL (QE (QG o _)) Q))⟩
 have ab:=Db H;have aj:G<=9223372036854775807:=by unfold maxLen at x;omega
 have ah:¬(G=i):=by omega
 have ai:¬(G=i+1):=by omega
 have an:¬(b=i):=by omega
 have ar:IntKind.i64.wrap ((i:Int)+1)=(i:Int)+1:=by rw[IntKind.wrap_i64];omega
 have ak:(0:Int)<=(i:Int)+1:=by omega
 have ao:i<=n:=by omega
 have aq:((i:Int)+1).toNat=i+1:=by omega
 have al:(i:Int)<=(n:Int):=by omega
 clear H f y M N l B Q T K J I s A X ae r D d W U O p z C S R Y aa E;have ac:=Db x;clear x;go_enter Tryz.func265,Tryz.ntmps265;go_wp2_with (first
  | (at_builtin;refine Lib.wpList_append_run _ rfl _ _ _ _ rfl _ _ rfl rfl _ _ (V _) ?_)
  | (at_builtin;refine D6 _ rfl _ _ 225 225 rfl _ _ rfl rfl af ?_))
 go_region_law (refine KB rfl _ _ 225 225 rfl _ _ (by simp[Act.eval,Act.put]) (by simp[Act.eval,Act.put]) ag ?_)
 go_wp2;go_ret;exact⟨G,Z.toList,rfl,ad,Da ac,Da ab⟩
theorem del164(w:World)(g n b:Nat)(xs L:LVa)(i:Nat)(m:RowIs w g 310 L)(t:L.length=b*3)(v:L.take (n*3)=xs)(hi:i<n)(ai:n<=b)(D:b<=maxLen)(hn:n<=10000)
  (A:∀u∈xs,u.oneCell'=true):
  Calls Tryz.prog 268 #[.slice (some ⟨g,0,none⟩) n b,.int .i64 i,.int .i64 ((i:Int)+1)] w fun e w'=>e = .returned (.slice (some ⟨g,0,none⟩) (n-1) b)/\
   RowIs w' g 310 (spl (spl L (i*3) (xs.drop ((i+1)*3))) ((n-1)*3) [.string ⟨#[]⟩,.pointer none,.int .i64 0])/\w.grownBy w' (some g):=by
 have I:xs.length=n*3:=by rw[<-v,List.length_take];omega
 have l:(xs.drop ((i+1)*3)).length=(n-(i+1))*3:=by rw[List.length_drop,I];omega
 obtain⟨Q,G,N,r,O⟩:=info_parts ZiP;have H:spl L (i*3) (xs.drop ((i+1)*3))=L.toArray.toList.take (i*3)++xs.drop ((i+1)*3)++L.toArray.toList.drop (i*3+(xs.drop ((i+1)*3)).length):=rfl;obtain⟨f,o⟩:∃f,f=w.drew.setRow g (spl L (i*3) (xs.drop ((i+1)*3))).toArray:=⟨_,rfl⟩;have p:∀(a:Addr) (c:Nat),(n-(i+1)≠0->a=⟨g,(i+1)*3,none⟩)->(Builtin.append_ #[225,225] 225 #[.slice (some ⟨g,0,none⟩) i b,.slice (some a) (n-(i+1)) c]).run Tryz.prog w.drew = .ok (.slice (some ⟨g,0,none⟩) (n-1) b) f:=fun a c J=>by
  have h:=run_append_room (P:=Tryz.prog) w.drew 225 225 310 Q Tryz.underlying225 G g i b L.toArray m a (n-(i+1)) c (xs.drop ((i+1)*3)) (by rw[r];exact l)
   (fun j u d=>by
    by_cases z:n-(i+1)=0
    ·have:xs.drop ((i+1)*3)=[]:=List.eq_nil_of_length_eq_zero (by rw[l,z]);rw[this]at d;cases d
    ·rw[J z,Addr.add_lit,show(w.drew.cell? ⟨g,(i+1)*3+j,none⟩)=L[(i+1)*3+j]? from m.cell _];rw[List.getElem?_drop,<-v,List.getElem?_take]at d
     split at d
     ·exact d
     ·cases d) (fun u d=>A u (List.mem_of_mem_drop d)) (by omega) (by rw[r,l];simp[t];omega)
  rw[h,o,H,r,show i+(n-(i+1))=n-1 by omega]
 have B:RowIs f g 310 (spl L (i*3) (xs.drop ((i+1)*3))):=by rw[o];exact setRow_heap w.drew g L.toArray _ 310 _ m
 have E:w.grownBy f (some g):=by rw[o];exact⟨rfl,rfl,rfl,by simp,fun k _ M=>setRow_other w.drew g k _ (fun e=>M (by rw[e]))⟩
 obtain⟨x,q,C,F⟩:=ZdH (P:=Tryz.prog) f 225 310 0 (.agg #[.string ⟨#[]⟩,.pointer none,.int .i64 0]) Tryz.underlying225 (fun _=>by kernel_rfl) [.string ⟨#[]⟩,.pointer none,.int .i64 0] (by kernel_rfl) (by simp[Value.oneCell']) g ((n-1)*3) (b-(n-1)) _ 310 B (by rw[DV (by rw[l];omega),t];simp;omega);have y:RowIs x g 310 (spl (spl L (i*3) (xs.drop ((i+1)*3))) ((n-1)*3) [.string ⟨#[]⟩,.pointer none,.int .i64 0])/\w.grownBy x (some g):=⟨C,JL E F⟩;have s:=Db y;have ag:b<=9223372036854775807:=by unfold maxLen at D;omega
 have aa:(0:Int)<=(i:Int)+1:=by omega
 have ak:((i:Int)+1).toNat=i+1:=by omega
 have ab:(i:Int)<=(n:Int):=by omega
 have ac:(i:Int)+1<=(n:Int):=by omega
 have ad:(i:Int)<=(i:Int)+1:=by omega
 have ae:(i:Int)<=(b:Int):=by omega
 have af:¬(b=n-1):=by omega
 have ah:n-(n-1)=1:=by omega
 have aj:((i:Int)==(i:Int)+1)=false:=by rw[beq_eq_false_iff_ne];omega
 clear y B C E F o H m v l I t A G N r O D;go_enter Tryz.func268,Tryz.ntmps268;by_cases K:b=i+1
 ·subst K;obtain rfl:n=i+1:=by omega
  rw[Nat.sub_self]at p;rw[Nat.add_sub_cancel]at p s q;rw[Nat.add_sub_cancel_left]at q;go_wp2
  go_region_law (refine JM rfl _ _ 225 225 rfl _ _ (by simp[Act.eval,Act.put]) (by simp[Act.eval,Act.put]) (p ⟨g,0,none⟩ 0 (fun h=>absurd h (by omega))) ?_)
  go_wp2_with (at_builtin;refine Zbj _ rfl _ 225 rfl _ rfl q ?_);go_ret;exact⟨rfl,Da s⟩
 ·go_wp2
  go_region_law (refine JM rfl _ _ 225 225 rfl _ _ (by simp[Act.eval,Act.put]) (by simp[Act.eval,Act.put]) (p ⟨g,(i+1)*3,none⟩ (b-(i+1)) (fun _=>rfl)) ?_)
  go_wp2_with (at_builtin;refine Zbj _ rfl _ 225 rfl _ rfl q ?_);go_ret;exact⟨rfl,Da s⟩
theorem ZiQ:(Tryz.prog.info? 293).map (fun i=>(i.zero,i.size,i.bytes))=some (some (.agg #[.int .i64 0,.slice none 0 0,.int .i64 0]),3,40):=by kernel_rfl
theorem UP:(Tryz.prog.info? 293).map (fun i=>i.size)=some 3:=by kernel_rfl
theorem ZlF(w:World)(v:Value)(n:Nat)(xs:LVa)(d:Nat)(b:LVa)(m:Sl w 293 3 v n xs)(hn:n<=10000)
  (s:RowIs w d 293 b) (aa:b.length=3) (q:∀u∈b,u.oneCell'=true):
  Calls Tryz.prog 267 #[v,.int .i64 n,.slice (some ⟨d,0,none⟩) 1 1] w fun e w'=>∃c,e = .returned c/\Sl w' 293 3 c (n+1) (xs++b)/\w.grownBy w' v.ownBlock/\Dk w v c:=by
 obtain⟨B,r,y,z,A⟩:=info_parts ZiQ;have p:=fun ty=>KH (P:=Tryz.prog) w 210 ty 293 B _ 3 40 Tryz.underlying210 r y z A rfl (by decide) v n xs m ⟨d,0,none⟩ 1 1 b (by omega)
  (fun j u t=>by rw[Addr.add_lit,Nat.zero_add,s.cell];exact t) q (by unfold maxLen;omega) (by omega)
 obtain⟨c,w',o,f,k,l⟩:=p 210;have x:(v = .slice none 0 0/\n=0)\/∃g a,v = .slice (some ⟨g,0,none⟩) n a/\n<=a:=by
  rcases m.2 with h|⟨g,a,L,h,_,i,_⟩
  ·exact .inl h
  ·exact .inr ⟨g,a,h,i⟩
 clear p;rcases x with⟨rfl,rfl⟩|⟨g,a,rfl,i⟩
 ·go_enter Tryz.func267,Tryz.ntmps267;go_wp2_with (at_builtin;refine Lib.wpList_append_run _ rfl _ _ 210 210 rfl _ _ rfl rfl _ _ o ?_);go_ret;exact⟨_,rfl,f,k,l⟩
 ·go_enter Tryz.func267,Tryz.ntmps267;go_wp2_with (at_builtin;refine Lib.wpList_append_run _ rfl _ _ 210 210 rfl _ _ rfl rfl _ _ o ?_)
  all_goals (go_ret;exact⟨_,rfl,f,k,l⟩)
theorem ZlC(w:World)(g n a:Nat)(xs L:LVa)(i d:Nat)(c:LVa)(h:RowIs w g 293 L)(v:L.length=a*3)(o:L.take (n*3)=xs)(hi:i<n)(ae:n+1<=a)(z:a<=maxLen)(hn:n<=10000)
  (f:RowIs w d 293 c) (l:c.length=3) (t:∀u∈xs,u.oneCell'=true) (s:∀u∈c,u.oneCell'=true) (B:d≠g):
  Calls Tryz.prog 267 #[.slice (some ⟨g,0,none⟩) n a,.int .i64 i,.slice (some ⟨d,0,none⟩) 1 1] w fun e w'=>e = .returned (.slice (some ⟨g,0,none⟩) (n+1) a)/\RowIs w' g 293 (spl (spl L ((i+1)*3) (xs.drop (i*3))) (i*3) c)/\w.grownBy w' (some g):=by
 have D:xs.length=n*3:=by rw[<-o,List.length_take];omega
 have k:(xs.drop (i*3)).length=(n-i)*3:=by rw[List.length_drop,D];omega
 obtain⟨p,G,x,m⟩:=JK (P:=Tryz.prog) w.drew 210 210 3 293 3 g ((i+1)*3) (n-i) (a-(i+1)) ⟨g,i*3,none⟩ (n+1-i) (a-i) L 293 (xs.drop (i*3)) Tryz.underlying210 UP h
  (by rw[k];simp only[Nat.min_def];split<;>omega)
  (fun j u b=>by
   rw[Addr.add_lit,show(w.drew.cell? ⟨g,i*3+j,none⟩)=L[i*3+j]? from h.cell _];rw[List.getElem?_drop,<-o,List.getElem?_take]at b
   split at b
   ·exact b
   ·cases b) (by rw[k];omega) (fun u b=>t u (List.mem_of_mem_drop b))
 have C:RowIs p d 293 c:=(show RowIs w.drew d 293 c from f).kept m (by simpa using B);obtain⟨q,H,y,A⟩:=JK (P:=Tryz.prog) p 210 210 3 293 3 g (i*3) (n+1-i) (a-i) ⟨d,0,none⟩ 1 1 _ 293 c Tryz.underlying210 UP x
  (by rw[l];simp only[Nat.min_def];split<;>omega)
  (fun j u b=>by rw[Addr.add_lit,Nat.zero_add,C.cell];exact b) (by rw[DV (by rw[k];omega),l];omega) s
 have F:∀lb cb,(callFunc 298 #[.slice (some ⟨d,0,none⟩) 1 1,.slice (some ⟨g,(i+1)*3,none⟩) lb cb]).run Tryz.prog w = .ok (.value (.bool false)) w:=fun lb cb=>by
  rw[run_callFunc_extern Tryz.func298 (by kernel_rfl) (by kernel_rfl) (by kernel_rfl) (e:=Extern.SlicesOverlaps.overlaps #[210,210] #[4]) (by kernel_rfl),
   Lib.run_overlaps_apart w 210 4 293 Tryz.underlying210 3 (fun _=>by kernel_rfl) ⟨d,0,none⟩ ⟨g,(i+1)*3,none⟩ 1 1 lb cb B 293 293 3 (a*3) (by unfold World.shape?;rw[f];simp[l]) (by unfold World.shape?;rw[h];simp[v]) (by omega) (f.frozen 0) (f.frozen 3)]
  rfl
 have af:a<=9223372036854775807:=by unfold maxLen at z;omega
 have r:RowIs q g 293 (spl (spl L ((i+1)*3) (xs.drop (i*3))) (i*3) c)/\w.grownBy q (some g):=⟨y,JL (show w.grownBy w.drew (some g) from QE (QG _ _)) (JL m A)⟩;have E:=Db r;clear r x y m A C t s z o k D v l f h;have ai:IntKind.i64.wrap ((i:Int)+1)=(i:Int)+1:=by rw[IntKind.wrap_i64];omega
 have aa:(0:Int)<=(i:Int)+1:=by omega
 have ag:i<=n:=by omega
 have ah:((i:Int)+1).toNat=i+1:=by omega
 have ab:¬(a=i+1):=by omega
 have ac:(i:Int)<=(n:Int)+1:=by omega
 have ad:¬(a=i):=by omega
 go_enter Tryz.func267,Tryz.ntmps267;go_wp2_with (simp only[F])
 go_region_law (refine KB rfl _ _ 210 210 rfl _ _ (by simp[Act.eval,Act.put]) (by simp[Act.eval,Act.put]) G ?_)
 go_wp2_with (at_builtin;refine D6 _ rfl _ _ 210 210 rfl _ _ rfl rfl H ?_);go_ret;exact⟨rfl,Da E⟩
theorem Zkf(w:World)(g n b:Nat)(xs L:LVa)(i t:Nat)(c:LVa)(d:RowIs w g 293 L)(ae:L.length=b*3)(s:L.take (n*3)=xs)(hi:i<n)(ap:n<=b)(am:b<n+1)(hn:n<=10000)
  (D:RowIs w t 293 c) (r:c.length=3) (J:∀u∈xs,u.oneCell'=true) (I:∀u∈c,u.oneCell'=true):
  Calls Tryz.prog 267 #[.slice (some ⟨g,0,none⟩) n b,.int .i64 i,.slice (some ⟨t,0,none⟩) 1 1] w fun e w'=>∃G Z,e = .returned (.slice (some ⟨w.heap.size,0,none⟩) (n+1) G)/\n+1<=G/\G<=maxLen/\(xs.take (i*3)++Z).length=G*3/\
   RowIs w' w.heap.size 293 (spl (spl (xs.take (i*3)++Z) (i*3) c) ((i+1)*3) (xs.drop (i*3)))/\w.grownBy w' (some w.heap.size):=by
 have X:xs.length=n*3:=by rw[<-s,List.length_take];omega
 have A:(xs.drop (i*3)).length=(n-i)*3:=by rw[List.length_drop,X];omega
 obtain⟨i0,R,Y,aa,E⟩:=info_parts ZiQ;have W:∀j u,xs[j]?=some u->w.cell? ⟨g,j,none⟩=some u:=fun j u a=>by
  rw[d.cell];rw[<-s,List.getElem?_take]at a
  split at a
  ·exact a
  ·cases a
 have U:(Builtin.firstCells i0.size i (.slice (some ⟨g,0,none⟩) i b)).run Tryz.prog w.drew = .ok (xs.take (i*3)).toArray w.drew:=by
  rw[aa];exact run_firstCells_some w.drew 3 i ⟨g,0,none⟩ i b (xs.take (i*3)) (by rw[List.length_take];omega) (fun j v q=>by
   rw[Addr.add_lit,Nat.zero_add];rw[List.getElem?_take]at q
   split at q
   ·exact W j v q
   ·cases q)
 have C:i+(n+1-i)=n+1:=by omega
 have S:(n:Int)+1-(i:Int)=((n+1-i:Nat):Int):=by omega
 obtain⟨G,p⟩:∃G,G=grownCap w (n+1) b 293:=⟨_,rfl⟩;obtain⟨Z,z⟩:∃Z:Array Value,Z=Builtin.zeroCells (Value.agg #[.int .i64 0,.slice none 0 0,.int .i64 0]).cells (n+1-i)++Builtin.zeroCells (Value.agg #[.int .i64 0,.slice none 0 0,.int .i64 0]).cells (G-(n+1)):=⟨_,rfl⟩;have V:∀ty,(Builtin.append_ #[210,3] ty #[.slice (some ⟨g,0,none⟩) i b,.int .i64 ((n:Int)+1-(i:Int))]).run Tryz.prog w =
   .ok (.slice (some ⟨w.heap.size,0,none⟩) (n+1) G) (w.drew.alloc (.cells (xs.take (i*3)++Z.toList).toArray 293)):=fun ty=>by
  have h:=Lib.run_append_grow_zeros w 210 3 ty 293 i0 _ .i64 .i64 Tryz.underlying210 Tryz.underlying3 R Y (some ⟨g,0,none⟩) i b (xs.take (i*3)) U (n+1-i) (by omega) (by omega) (by omega) (by omega) (by rw[E];omega) (by rw[E,C];exact growslice_fits (by omega) (by omega));rw[C,<-p]at h;rw[S,h,z]
  congr 2
  simp[Array.append_assoc]
 have ad:n+1<=G:=by rw[p];exact grownCap_ge w _ _ _
 have x:G<=maxLen:=by rw[p];exact grownCap_le_maxLen w _ _ _ (by unfold maxLen;omega)
 have f:(xs.take (i*3)++Z.toList).length=G*3:=by
  have e1:Z.size=(n+1-i)*3+(G-(n+1))*3:=by rw[z,Array.size_append,size_zeroCells,size_zeroCells];rfl
  have e2:Z.toList.length=Z.size:=Array.length_toList;rw[List.length_append,List.length_take,e2,e1];omega
 have y:RowIs (w.drew.alloc (.cells (xs.take (i*3)++Z.toList).toArray 293)) w.heap.size 293 (xs.take (i*3)++Z.toList):=heap_alloc_new w.drew _;have l:w.grownBy (w.drew.alloc (.cells (xs.take (i*3)++Z.toList).toArray 293)) (some w.heap.size):=⟨rfl,rfl,rfl,by simp,fun k hk _=>Below.heap_alloc w.drew _ k hk⟩;obtain⟨m,O⟩:∃m,m=w.drew.alloc (.cells (xs.take (i*3)++Z.toList).toArray 293):=⟨_,rfl⟩;rw[<-O]at V y l;have T:RowIs m t 293 c:=D.kept l (by have:=D.lt;simp;omega);obtain⟨o,af,M,B⟩:=JK (P:=Tryz.prog) m 210 210 3 293 3 w.heap.size (i*3) (n+1-i) (G-i) ⟨t,0,none⟩ 1 1 _ 293 c Tryz.underlying210 UP y
  (by rw[r];simp only[Nat.min_def];split<;>omega)
  (fun j u a=>by rw[Addr.add_lit,Nat.zero_add,T.cell];exact a) (by rw[f,r];omega) I
 have K:RowIs o g 293 L:=(d.kept l (by have:=d.lt;simp;omega)).kept B (by have:=d.lt;simp;omega);obtain⟨F,ag,N,Q⟩:=JK (P:=Tryz.prog) o.drew 210 210 3 293 3 w.heap.size ((i+1)*3) (n-i) (G-(i+1)) ⟨g,i*3,none⟩ (n-i) (b-i) _ 293 (xs.drop (i*3)) Tryz.underlying210 UP M
  (by rw[A];simp only[Nat.min_def];split<;>omega)
  (fun j u a=>by
   rw[Addr.add_lit,show(o.drew.cell? ⟨g,i*3+j,none⟩)=L[i*3+j]? from K.cell _];rw[List.getElem?_drop,<-s,List.getElem?_take]at a
   split at a
   ·exact a
   ·cases a) (by rw[DV (by rw[f,r];omega),f,A];omega) (fun u a=>J u (List.mem_of_mem_drop a))
 have H:(xs.take (i*3)++Z.toList).length=G*3/\RowIs F w.heap.size 293 (spl (spl (xs.take (i*3)++Z.toList) (i*3) c) ((i+1)*3) (xs.drop (i*3)))/\w.grownBy F (some w.heap.size):=
  ⟨f,N,JL l (JL B (JL (QE (QG o _)) Q))⟩
 have ab:=Db H;have aj:G<=9223372036854775807:=by unfold maxLen at x;omega
 have ah:¬(G=i):=by omega
 have ai:¬(G=i+1):=by omega
 have an:¬(b=i):=by omega
 have ar:IntKind.i64.wrap ((i:Int)+1)=(i:Int)+1:=by rw[IntKind.wrap_i64];omega
 have ak:(0:Int)<=(i:Int)+1:=by omega
 have ao:i<=n:=by omega
 have aq:((i:Int)+1).toNat=i+1:=by omega
 have al:(i:Int)<=(n:Int):=by omega
 clear H f y M N l B Q T K J I s A X ae r D d W U O p z C S R Y aa E;have ac:=Db x;clear x;go_enter Tryz.func267,Tryz.ntmps267;go_wp2_with (first
  | (at_builtin;refine Lib.wpList_append_run _ rfl _ _ _ _ rfl _ _ rfl rfl _ _ (V _) ?_)
  | (at_builtin;refine D6 _ rfl _ _ 210 210 rfl _ _ rfl rfl af ?_))
 go_region_law (refine KB rfl _ _ 210 210 rfl _ _ (by simp[Act.eval,Act.put]) (by simp[Act.eval,Act.put]) ag ?_)
 go_wp2;go_ret;exact⟨G,Z.toList,rfl,ad,Da ac,Da ab⟩
theorem del160(w:World)(g n b:Nat)(xs L:LVa)(i:Nat)(m:RowIs w g 293 L)(t:L.length=b*3)(v:L.take (n*3)=xs)(hi:i<n)(ai:n<=b)(D:b<=maxLen)(hn:n<=10000)
  (A:∀u∈xs,u.oneCell'=true):
  Calls Tryz.prog 269 #[.slice (some ⟨g,0,none⟩) n b,.int .i64 i,.int .i64 ((i:Int)+1)] w fun e w'=>e = .returned (.slice (some ⟨g,0,none⟩) (n-1) b)/\
   RowIs w' g 293 (spl (spl L (i*3) (xs.drop ((i+1)*3))) ((n-1)*3) [.int .i64 0,.slice none 0 0,.int .i64 0])/\w.grownBy w' (some g):=by
 have I:xs.length=n*3:=by rw[<-v,List.length_take];omega
 have l:(xs.drop ((i+1)*3)).length=(n-(i+1))*3:=by rw[List.length_drop,I];omega
 obtain⟨Q,G,N,r,O⟩:=info_parts ZiQ;have H:spl L (i*3) (xs.drop ((i+1)*3))=L.toArray.toList.take (i*3)++xs.drop ((i+1)*3)++L.toArray.toList.drop (i*3+(xs.drop ((i+1)*3)).length):=rfl;obtain⟨f,o⟩:∃f,f=w.drew.setRow g (spl L (i*3) (xs.drop ((i+1)*3))).toArray:=⟨_,rfl⟩;have p:∀(a:Addr) (c:Nat),(n-(i+1)≠0->a=⟨g,(i+1)*3,none⟩)->(Builtin.append_ #[210,210] 210 #[.slice (some ⟨g,0,none⟩) i b,.slice (some a) (n-(i+1)) c]).run Tryz.prog w.drew = .ok (.slice (some ⟨g,0,none⟩) (n-1) b) f:=fun a c J=>by
  have h:=run_append_room (P:=Tryz.prog) w.drew 210 210 293 Q Tryz.underlying210 G g i b L.toArray m a (n-(i+1)) c (xs.drop ((i+1)*3)) (by rw[r];exact l)
   (fun j u d=>by
    by_cases z:n-(i+1)=0
    ·have:xs.drop ((i+1)*3)=[]:=List.eq_nil_of_length_eq_zero (by rw[l,z]);rw[this]at d;cases d
    ·rw[J z,Addr.add_lit,show(w.drew.cell? ⟨g,(i+1)*3+j,none⟩)=L[(i+1)*3+j]? from m.cell _];rw[List.getElem?_drop,<-v,List.getElem?_take]at d
     split at d
     ·exact d
     ·cases d) (fun u d=>A u (List.mem_of_mem_drop d)) (by omega) (by rw[r,l];simp[t];omega)
  rw[h,o,H,r,show i+(n-(i+1))=n-1 by omega]
 have B:RowIs f g 293 (spl L (i*3) (xs.drop ((i+1)*3))):=by rw[o];exact setRow_heap w.drew g L.toArray _ 293 _ m
 have E:w.grownBy f (some g):=by rw[o];exact⟨rfl,rfl,rfl,by simp,fun k _ M=>setRow_other w.drew g k _ (fun e=>M (by rw[e]))⟩
 obtain⟨x,q,C,F⟩:=ZdH (P:=Tryz.prog) f 210 293 0 (.agg #[.int .i64 0,.slice none 0 0,.int .i64 0]) Tryz.underlying210 (fun _=>by kernel_rfl) [.int .i64 0,.slice none 0 0,.int .i64 0] (by kernel_rfl) (by simp[Value.oneCell']) g ((n-1)*3) (b-(n-1)) _ 293 B (by rw[DV (by rw[l];omega),t];simp;omega);have y:RowIs x g 293 (spl (spl L (i*3) (xs.drop ((i+1)*3))) ((n-1)*3) [.int .i64 0,.slice none 0 0,.int .i64 0])/\w.grownBy x (some g):=⟨C,JL E F⟩;have s:=Db y;have ag:b<=9223372036854775807:=by unfold maxLen at D;omega
 have aa:(0:Int)<=(i:Int)+1:=by omega
 have ak:((i:Int)+1).toNat=i+1:=by omega
 have ab:(i:Int)<=(n:Int):=by omega
 have ac:(i:Int)+1<=(n:Int):=by omega
 have ad:(i:Int)<=(i:Int)+1:=by omega
 have ae:(i:Int)<=(b:Int):=by omega
 have af:¬(b=n-1):=by omega
 have ah:n-(n-1)=1:=by omega
 have aj:((i:Int)==(i:Int)+1)=false:=by rw[beq_eq_false_iff_ne];omega
 clear y B C E F o H m v l I t A G N r O D;go_enter Tryz.func269,Tryz.ntmps269;by_cases K:b=i+1
 ·subst K;obtain rfl:n=i+1:=by omega
  rw[Nat.sub_self]at p;rw[Nat.add_sub_cancel]at p s q;rw[Nat.add_sub_cancel_left]at q;go_wp2
  go_region_law (refine JM rfl _ _ 210 210 rfl _ _ (by simp[Act.eval,Act.put]) (by simp[Act.eval,Act.put]) (p ⟨g,0,none⟩ 0 (fun h=>absurd h (by omega))) ?_)
  go_wp2_with (at_builtin;refine Zbj _ rfl _ 210 rfl _ rfl q ?_);go_ret;exact⟨rfl,Da s⟩
 ·go_wp2
  go_region_law (refine JM rfl _ _ 210 210 rfl _ _ (by simp[Act.eval,Act.put]) (by simp[Act.eval,Act.put]) (p ⟨g,(i+1)*3,none⟩ (b-(i+1)) (fun _=>rfl)) ?_)
  go_wp2_with (at_builtin;refine Zbj _ rfl _ 210 rfl _ rfl q ?_);go_ret;exact⟨rfl,Da s⟩
end Go.Proofs.YtaieidcohdhgpaaGreatDoor
