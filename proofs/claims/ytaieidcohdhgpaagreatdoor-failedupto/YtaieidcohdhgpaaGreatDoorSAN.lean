/- Failed. -/
import Derived.Test.YtaieidcohdhgpaaGreatDoorSAH
namespace Go.Proofs.YtaieidcohdhgpaaGreatDoor
set_option maxHeartbeats 40000000
set_option maxRecDepth 100000
open Go.RowKit
theorem infoR:(Tryz.prog.info? 350).map (fun i=>(i.zero,i.size,i.bytes))=some (some (.agg #[.int .u64 0,.int .i64 0]),2,16):=by kernel_rfl
theorem Uv:(Tryz.prog.info? 350).map (fun i=>i.size)=some 2:=by kernel_rfl
theorem Zot(w:World)(v:Value)(n:Nat)(xs:LVa)(d:Nat)(b:LVa)(m:Sl w 350 2 v n xs)(hn:n<=10000)
  (s:RowIs w d 350 b) (aa:b.length=2) (q:∀u∈b,u.oneCell'=true):
  Calls Tryz.prog 274 #[v,.int .i64 n,.slice (some ⟨d,0,none⟩) 1 1] w fun e w'=>∃c,e = .returned c/\Sl w' 350 2 c (n+1) (xs++b)/\w.grownBy w' v.ownBlock/\Dk w v c:=by
 obtain⟨B,r,y,z,A⟩:=info_parts infoR;have p:=fun ty=>KH (P:=Tryz.prog) w 170 ty 350 B _ 2 16 Tryz.underlying170 r y z A rfl (by decide) v n xs m ⟨d,0,none⟩ 1 1 b (by omega)
  (fun j u t=>by rw[Addr.add_lit,Nat.zero_add,s.cell];exact t) q (by unfold maxLen;omega) (by omega)
 obtain⟨c,w',o,f,k,l⟩:=p 170;have x:(v = .slice none 0 0/\n=0)\/∃g a,v = .slice (some ⟨g,0,none⟩) n a/\n<=a:=by
  rcases m.2 with h|⟨g,a,L,h,_,i,_⟩
  ·exact .inl h
  ·exact .inr ⟨g,a,h,i⟩
 clear p;rcases x with⟨rfl,rfl⟩|⟨g,a,rfl,i⟩
 ·go_enter Tryz.func274,Tryz.ntmps274;go_wp2_with (at_builtin;refine Lib.wpList_append_run _ rfl _ _ 170 170 rfl _ _ rfl rfl _ _ o ?_);go_ret;exact⟨_,rfl,f,k,l⟩
 ·go_enter Tryz.func274,Tryz.ntmps274;go_wp2_with (at_builtin;refine Lib.wpList_append_run _ rfl _ _ 170 170 rfl _ _ rfl rfl _ _ o ?_)
  all_goals (go_ret;exact⟨_,rfl,f,k,l⟩)
theorem Zos(w:World)(g n a:Nat)(xs L:LVa)(i d:Nat)(c:LVa)(h:RowIs w g 350 L)(v:L.length=a*2)(o:L.take (n*2)=xs)(hi:i<n)(ae:n+1<=a)(z:a<=maxLen)(hn:n<=10000)
  (f:RowIs w d 350 c) (l:c.length=2) (t:∀u∈xs,u.oneCell'=true) (s:∀u∈c,u.oneCell'=true) (B:d≠g):
  Calls Tryz.prog 274 #[.slice (some ⟨g,0,none⟩) n a,.int .i64 i,.slice (some ⟨d,0,none⟩) 1 1] w fun e w'=>e = .returned (.slice (some ⟨g,0,none⟩) (n+1) a)/\RowIs w' g 350 (spl (spl L ((i+1)*2) (xs.drop (i*2))) (i*2) c)/\w.grownBy w' (some g):=by
 have D:xs.length=n*2:=by rw[<-o,List.length_take];omega
 have k:(xs.drop (i*2)).length=(n-i)*2:=by rw[List.length_drop,D];omega
 obtain⟨p,G,x,m⟩:=JK (P:=Tryz.prog) w.drew 170 170 3 350 2 g ((i+1)*2) (n-i) (a-(i+1)) ⟨g,i*2,none⟩ (n+1-i) (a-i) L 350 (xs.drop (i*2)) Tryz.underlying170 Uv h
  (by rw[k];simp only[Nat.min_def];split<;>omega)
  (fun j u b=>by
   rw[Addr.add_lit,show(w.drew.cell? ⟨g,i*2+j,none⟩)=L[i*2+j]? from h.cell _];rw[List.getElem?_drop,<-o,List.getElem?_take]at b
   split at b
   ·exact b
   ·cases b) (by rw[k];omega) (fun u b=>t u (List.mem_of_mem_drop b))
 have C:RowIs p d 350 c:=(show RowIs w.drew d 350 c from f).kept m (by simpa using B);obtain⟨q,H,y,A⟩:=JK (P:=Tryz.prog) p 170 170 3 350 2 g (i*2) (n+1-i) (a-i) ⟨d,0,none⟩ 1 1 _ 350 c Tryz.underlying170 Uv x
  (by rw[l];simp only[Nat.min_def];split<;>omega)
  (fun j u b=>by rw[Addr.add_lit,Nat.zero_add,C.cell];exact b) (by rw[DV (by rw[k];omega),l];omega) s
 have F:∀lb cb,(callFunc 306 #[.slice (some ⟨d,0,none⟩) 1 1,.slice (some ⟨g,(i+1)*2,none⟩) lb cb]).run Tryz.prog w = .ok (.value (.bool false)) w:=fun lb cb=>by
  rw[run_callFunc_extern Tryz.func306 (by kernel_rfl) (by kernel_rfl) (by kernel_rfl) (e:=Extern.SlicesOverlaps.overlaps #[170,170] #[4]) (by kernel_rfl),
   Lib.run_overlaps_apart w 170 4 350 Tryz.underlying170 2 (fun _=>by kernel_rfl) ⟨d,0,none⟩ ⟨g,(i+1)*2,none⟩ 1 1 lb cb B 350 350 2 (a*2) (by unfold World.shape?;rw[f];simp[l]) (by unfold World.shape?;rw[h];simp[v]) (by omega) (f.frozen 0) (f.frozen 2)]
  rfl
 have af:a<=9223372036854775807:=by unfold maxLen at z;omega
 have r:RowIs q g 350 (spl (spl L ((i+1)*2) (xs.drop (i*2))) (i*2) c)/\w.grownBy q (some g):=⟨y,JL (show w.grownBy w.drew (some g) from QE (QG _ _)) (JL m A)⟩;have E:=Db r;clear r x y m A C t s z o k D v l f h;have ai:IntKind.i64.wrap ((i:Int)+1)=(i:Int)+1:=by rw[IntKind.wrap_i64];omega
 have aa:(0:Int)<=(i:Int)+1:=by omega
 have ag:i<=n:=by omega
 have ah:((i:Int)+1).toNat=i+1:=by omega
 have ab:¬(a=i+1):=by omega
 have ac:(i:Int)<=(n:Int)+1:=by omega
 have ad:¬(a=i):=by omega
 go_enter Tryz.func274,Tryz.ntmps274;go_wp2_with (simp only[F])
 go_region_law (refine KB rfl _ _ 170 170 rfl _ _ (by simp[Act.eval,Act.put]) (by simp[Act.eval,Act.put]) G ?_)
 go_wp2_with (at_builtin;refine D6 _ rfl _ _ 170 170 rfl _ _ rfl rfl H ?_);go_ret;exact⟨rfl,Da E⟩
theorem ZmW(w:World)(g n b:Nat)(xs L:LVa)(i t:Nat)(c:LVa)(d:RowIs w g 350 L)(ae:L.length=b*2)(s:L.take (n*2)=xs)(hi:i<n)(ap:n<=b)(am:b<n+1)(hn:n<=10000)
  (D:RowIs w t 350 c) (r:c.length=2) (J:∀u∈xs,u.oneCell'=true) (I:∀u∈c,u.oneCell'=true):
  Calls Tryz.prog 274 #[.slice (some ⟨g,0,none⟩) n b,.int .i64 i,.slice (some ⟨t,0,none⟩) 1 1] w fun e w'=>∃G Z,e = .returned (.slice (some ⟨w.heap.size,0,none⟩) (n+1) G)/\n+1<=G/\G<=maxLen/\(xs.take (i*2)++Z).length=G*2/\
   RowIs w' w.heap.size 350 (spl (spl (xs.take (i*2)++Z) (i*2) c) ((i+1)*2) (xs.drop (i*2)))/\w.grownBy w' (some w.heap.size):=by
 have X:xs.length=n*2:=by rw[<-s,List.length_take];omega
 have A:(xs.drop (i*2)).length=(n-i)*2:=by rw[List.length_drop,X];omega
 obtain⟨i0,R,Y,aa,E⟩:=info_parts infoR;have W:∀j u,xs[j]?=some u->w.cell? ⟨g,j,none⟩=some u:=fun j u a=>by
  rw[d.cell];rw[<-s,List.getElem?_take]at a
  split at a
  ·exact a
  ·cases a
 have U:(Builtin.firstCells i0.size i (.slice (some ⟨g,0,none⟩) i b)).run Tryz.prog w.drew = .ok (xs.take (i*2)).toArray w.drew:=by
  rw[aa];exact run_firstCells_some w.drew 2 i ⟨g,0,none⟩ i b (xs.take (i*2)) (by rw[List.length_take];omega) (fun j v q=>by
   rw[Addr.add_lit,Nat.zero_add];rw[List.getElem?_take]at q
   split at q
   ·exact W j v q
   ·cases q)
 have C:i+(n+1-i)=n+1:=by omega
 have S:(n:Int)+1-(i:Int)=((n+1-i:Nat):Int):=by omega
 obtain⟨G,p⟩:∃G,G=grownCap w (n+1) b 350:=⟨_,rfl⟩;obtain⟨Z,z⟩:∃Z:Array Value,Z=Builtin.zeroCells (Value.agg #[.int .u64 0,.int .i64 0]).cells (n+1-i)++Builtin.zeroCells (Value.agg #[.int .u64 0,.int .i64 0]).cells (G-(n+1)):=⟨_,rfl⟩;have V:∀ty,(Builtin.append_ #[170,3] ty #[.slice (some ⟨g,0,none⟩) i b,.int .i64 ((n:Int)+1-(i:Int))]).run Tryz.prog w =
   .ok (.slice (some ⟨w.heap.size,0,none⟩) (n+1) G) (w.drew.alloc (.cells (xs.take (i*2)++Z.toList).toArray 350)):=fun ty=>by
  have h:=Lib.run_append_grow_zeros w 170 3 ty 350 i0 _ .i64 .i64 Tryz.underlying170 Tryz.underlying3 R Y (some ⟨g,0,none⟩) i b (xs.take (i*2)) U (n+1-i) (by omega) (by omega) (by omega) (by omega) (by rw[E];omega) (by rw[E,C];exact growslice_fits (by omega) (by omega));rw[C,<-p]at h;rw[S,h,z]
  congr 2
  simp[Array.append_assoc]
 have ad:n+1<=G:=by rw[p];exact grownCap_ge w _ _ _
 have x:G<=maxLen:=by rw[p];exact grownCap_le_maxLen w _ _ _ (by unfold maxLen;omega)
 have f:(xs.take (i*2)++Z.toList).length=G*2:=by
  have e1:Z.size=(n+1-i)*2+(G-(n+1))*2:=by rw[z,Array.size_append,size_zeroCells,size_zeroCells];rfl
  have e2:Z.toList.length=Z.size:=Array.length_toList;rw[List.length_append,List.length_take,e2,e1];omega
 have y:RowIs (w.drew.alloc (.cells (xs.take (i*2)++Z.toList).toArray 350)) w.heap.size 350 (xs.take (i*2)++Z.toList):=heap_alloc_new w.drew _;have l:w.grownBy (w.drew.alloc (.cells (xs.take (i*2)++Z.toList).toArray 350)) (some w.heap.size):=⟨rfl,rfl,rfl,by simp,fun k hk _=>Below.heap_alloc w.drew _ k hk⟩;obtain⟨m,O⟩:∃m,m=w.drew.alloc (.cells (xs.take (i*2)++Z.toList).toArray 350):=⟨_,rfl⟩;rw[<-O]at V y l;have T:RowIs m t 350 c:=D.kept l (by have:=D.lt;simp;omega);obtain⟨o,af,M,B⟩:=JK (P:=Tryz.prog) m 170 170 3 350 2 w.heap.size (i*2) (n+1-i) (G-i) ⟨t,0,none⟩ 1 1 _ 350 c Tryz.underlying170 Uv y
  (by rw[r];simp only[Nat.min_def];split<;>omega)
  (fun j u a=>by rw[Addr.add_lit,Nat.zero_add,T.cell];exact a) (by rw[f,r];omega) I
 have K:RowIs o g 350 L:=(d.kept l (by have:=d.lt;simp;omega)).kept B (by have:=d.lt;simp;omega);obtain⟨F,ag,N,Q⟩:=JK (P:=Tryz.prog) o.drew 170 170 3 350 2 w.heap.size ((i+1)*2) (n-i) (G-(i+1)) ⟨g,i*2,none⟩ (n-i) (b-i) _ 350 (xs.drop (i*2)) Tryz.underlying170 Uv M
  (by rw[A];simp only[Nat.min_def];split<;>omega)
  (fun j u a=>by
   rw[Addr.add_lit,show(o.drew.cell? ⟨g,i*2+j,none⟩)=L[i*2+j]? from K.cell _];rw[List.getElem?_drop,<-s,List.getElem?_take]at a
   split at a
   ·exact a
   ·cases a) (by rw[DV (by rw[f,r];omega),f,A];omega) (fun u a=>J u (List.mem_of_mem_drop a))
 have H:(xs.take (i*2)++Z.toList).length=G*2/\RowIs F w.heap.size 350 (spl (spl (xs.take (i*2)++Z.toList) (i*2) c) ((i+1)*2) (xs.drop (i*2)))/\w.grownBy F (some w.heap.size):=
  ⟨f,N,JL l (JL B (JL (QE (QG o _)) Q))⟩
 have ab:=Db H;have aj:G<=9223372036854775807:=by unfold maxLen at x;omega
 have ah:¬(G=i):=by omega
 have ai:¬(G=i+1):=by omega
 have an:¬(b=i):=by omega
 have ar:IntKind.i64.wrap ((i:Int)+1)=(i:Int)+1:=by rw[IntKind.wrap_i64];omega
 have ak:(0:Int)<=(i:Int)+1:=by omega
 have ao:i<=n:=by omega
 have aq:((i:Int)+1).toNat=i+1:=by omega
 have al:(i:Int)<=(n:Int):=by omega
 clear H f y M N l B Q T K J I s A X ae r D d W U O p z C S R Y aa E;have ac:=Db x;clear x;go_enter Tryz.func274,Tryz.ntmps274;go_wp2_with (first
  | (at_builtin;refine Lib.wpList_append_run _ rfl _ _ _ _ rfl _ _ rfl rfl _ _ (V _) ?_)
  | (at_builtin;refine D6 _ rfl _ _ 170 170 rfl _ _ rfl rfl af ?_))
 go_region_law (refine KB rfl _ _ 170 170 rfl _ _ (by simp[Act.eval,Act.put]) (by simp[Act.eval,Act.put]) ag ?_)
 go_wp2;go_ret;exact⟨G,Z.toList,rfl,ad,Da ac,Da ab⟩
theorem Zlx(s:Int)(w:World):Calls Tryz.prog 320 #[.int .u64 s] w fun e w'=>e = .returned (.bool false)/\w'=w:=by
 go_enter Tryz.func320,Tryz.ntmps320;go_wp2;go_ret;exact⟨by simp,rfl⟩
theorem Zna(a b:Int)(w:World):Calls Tryz.prog 305 #[.int .u64 a,.int .u64 b] w fun e w'=>e = .returned (.int .i64 (Kd a b))/\w'=w:=by
 have c:Kd a b=if a<b then -1 else if a=b then 0 else 1:=rfl
 have H:=Db c;clear c;by_cases d:a<b
 ·go_enter Tryz.func305,Tryz.ntmps305;go_wp2_with (go_at_call 320;refine(Zlx _ _).mono ?_;rintro e w' ⟨rfl,rfl⟩);go_ret;exact⟨by rw[Da H,if_pos d];rfl,rfl⟩
 ·by_cases h2:b<a
  ·go_enter Tryz.func305,Tryz.ntmps305;go_wp2_with (go_at_call 320;refine(Zlx _ _).mono ?_;rintro e w' ⟨rfl,rfl⟩);go_ret;exact⟨by rw[Da H,if_neg (by omega),if_neg (by omega)];rfl,rfl⟩
  ·go_enter Tryz.func305,Tryz.ntmps305;go_wp2_with (go_at_call 320;refine(Zlx _ _).mono ?_;rintro e w' ⟨rfl,rfl⟩);go_ret;exact⟨by rw[Da H,if_neg (by omega),if_pos (by omega)];rfl,rfl⟩
def clR(x:Int×Int):LVa:=[.int .u64 x.1,.int .i64 x.2]
def Du(es:LI):LVa:=es.flatMap clR
theorem Zg6(es:LI):(Du es).length=es.length*2:=by
 induction es with
 | nil=>rfl
 | cons a l ih=>simp[Du,clR]at ih ⊢;omega
theorem Zg7(a b:LI):Du (a++b)=Du a++Du b:=by simp[Du]
theorem Zi3(es:LI)(i:Nat):(Du es).take (i*2)=Du (es.take i):=by
 induction es generalizing i with
 | nil=>simp[Du]
 | cons a l ih=>
  cases i with
  | zero=>simp[Du]
  | succ i=>
   have:=ih i;simp only[Du,List.flatMap_cons,List.take_succ_cons]at this ⊢;rw[<-this,show(i+1)*2=(clR a).length+i*2 by simp[clR];omega,List.take_length_add_append]
theorem Zi4(es:LI)(i:Nat):(Du es).drop (i*2)=Du (es.drop i):=by
 induction es generalizing i with
 | nil=>simp[Du]
 | cons a l ih=>
  cases i with
  | zero=>simp[Du]
  | succ i=>
   have:=ih i;simp only[Du,List.flatMap_cons,List.drop_succ_cons]at this ⊢;rw[<-this,show(i+1)*2=(clR a).length+i*2 by simp[clR];omega,List.drop_length_add_append]
theorem Zes(es:LI):∀u∈Du es,u.oneCell'=true:=by
 intro u a;simp only[Du,List.mem_flatMap,clR,List.mem_cons,List.mem_nil_iff,or_false]at a;obtain⟨x,_,rfl|rfl⟩:=a<;>simp[Value.oneCell']
theorem Vh(es:LI)(k:Nat)(x:Int×Int)(h:es[k]?=some x):(Du es)[k*2]?=some (.int .u64 x.1)/\(Du es)[k*2+1]?=some (.int .i64 x.2):=by
 induction es generalizing k with
 | nil=>simp at h
 | cons a l ih=>
  cases k with
  | zero=>simp at h;subst h;simp[Du,clR]
  | succ k=>
   simp at h;have:=ih k h;simp only[Du,List.flatMap_cons]at this ⊢;have e:∀r,(clR a++List.flatMap clR l)[(k+1)*2+r]?=(List.flatMap clR l)[k*2+r]? := fun r=>by
    rw[List.getElem?_append_right (by simp[clR];omega)];congr 1;simp[clR];omega
   have b:=e 0;simp only[Nat.add_zero]at b;rw[b,e 1];exact this
def SrtR(es:LI):Prop:=∀(j k:Nat) (x y:Int×Int),j<k->es[j]?=some x->es[k]?=some y->ltI x.1 y.1=true
def AtR(es:LI)(t:Int)(i:Nat)(b:Bool):Prop:=
 i<=es.length/\(∀k x,k<i->es[k]?=some x->ltI x.1 t=true)/\(∀k x,i<=k->es[k]?=some x->ltI x.1 t=false)/\(b=true↔∃x,es[i]?=some x/\x.1=t)
theorem ZnJ(x:Int×Int)(a:Int)(w:World):Calls Tryz.prog 304 #[.agg #[.int .u64 x.1,.int .i64 x.2],.int .u64 a] w fun e w'=>e = .returned (.int .i64 (Kd x.1 a))/\Below w.heap.size w w':=by
 go_enter Tryz.func304,Tryz.ntmps304;go_wp2_with (go_at_call 305;refine(Zna _ _ _).mono ?_;rintro e w' ⟨rfl,rfl⟩);go_ret;exact⟨rfl,(Below.refl _ _).alloc (Nat.le_refl _) _⟩
theorem bsrR(g n H:Nat)(en:Nat->Int×Int)(d:Int)(w:World)(hn:n<=10000)
 (f:∀k,k<n->w.cell? ⟨g,k*2,none⟩=some (.int .u64 (en k).1))
 (l:∀k,k<n->w.cell? ⟨g,k*2+1,none⟩=some (.int .i64 (en k).2))
 (E:∀j k,j<k->k<n->ltI (en j).1 (en k).1=true):
  Calls Tryz.prog 303 #[.slice (some ⟨g,0,none⟩) n H,.int .u64 d,.func (.func 304) #[] #[]] w fun e w'=>∃(i:Nat) (b:Bool),e = .returned (.tuple #[.int .i64 i,.bool b])/\
   (i<=n/\(∀k,k<i->ltI (en k).1 d=true)/\(∀k,i<=k->k<n->ltI (en k).1 d=false)/\(b=true↔i<n/\(en i).1=d))/\Below w.heap.size w w':=by
 have z:=Db E;clear E;go_enter Tryz.func303,Tryz.ntmps303;go_wp2_with fail
 go_loopw [9,10] (fun i j wr=>∃a b:Nat,i = .int .i64 a/\j = .int .i64 b/\a<=b/\b<=n/\Hid (∀k,k<a->ltI (en k).1 d=true)/\Hid (∀k,b<=k->k<n->ltI (en k).1 d=false)/\Below w.heap.size w wr) (fun i j _=>(intOf j-intOf i).toNat)
 case atStart=>exact⟨0,n,rfl,rfl,Nat.zero_le _,Nat.le_refl _,fun _ h=>absurd h (Nat.not_lt_zero _),fun k I u=>absurd u (by omega),Below.refl _ _⟩
 case round=>
  obtain⟨a,b,rfl,rfl,aa,v,y,x,c⟩:=hrel;by_cases ab:a<b
  ·have t:(a+b)/2<n:=by omega
   have q:g<w.heap.size:=World.block_lt_of_cell? _ _ (f _ t);have J:=(c.cell (p:=⟨g,(a+b)/2*2,none⟩) q).trans (f _ t);have K:=(c.cell (p:=⟨g,(a+b)/2*2+1,none⟩) q).trans (l _ t);have A:=Db f;have B:=Db l;clear f l;go_wp2_with fail;refine(ZnJ (en ((a+b)/2)) _ _).mono ?_;rintro e w' ⟨rfl,s⟩;by_cases C:Kd (en ((a+b)/2)).1 d<0
   ·have r:=(UT _ _).1 C;have m:=Db r;clear r;go_wp2
    go_roundw
    case rel=>
     refine⟨(a+b)/2+1,b,by go_num,rfl,by omega,v,fun k hk=>?_,x,c.trans (s.mono c.size)⟩;rcases Nat.lt_or_ge k ((a+b)/2) with h|h
     ·exact ZdN (Da z _ _ h t) (Da m)
     ·obtain rfl:k=(a+b)/2:=by omega
      exact Da m
    case measure=>simp[intOf];omega
   ·have r:ltI (en ((a+b)/2)).1 d=false:=by
     cases h:ltI (en ((a+b)/2)).1 d with
     | false=>rfl
     | true=>exact absurd ((UT _ _).2 h) C
    have m:=Db r;clear r;go_wp2
    go_roundw
    case rel=>
     refine⟨a,(a+b)/2,rfl,by go_num,by omega,by omega,y,fun k I u=>?_,c.trans (s.mono c.size)⟩;rcases Nat.lt_or_ge ((a+b)/2) k with h|h
     ·cases D:ltI (en k).1 d with
      | false=>rfl
      | true=>exact absurd (ZdN (Da z _ _ h u) D) (by rw[Da m];simp)
     ·obtain rfl:k=(a+b)/2:=by omega
      exact Da m
    case measure=>simp[intOf];omega
  ·obtain rfl:a=b:=by omega
   by_cases o:a<n
   ·have q:g<w.heap.size:=World.block_lt_of_cell? _ _ (f _ o);have J:=(c.cell (p:=⟨g,a*2,none⟩) q).trans (f _ o);have K:=(c.cell (p:=⟨g,a*2+1,none⟩) q).trans (l _ o);have A:=Db f;have B:=Db l;clear f l;go_wp2_with fail;refine(ZnJ (en a) _ _).mono ?_;rintro e w' ⟨rfl,s⟩;have F:=Zie (en a).1 d;have G:=Db F;clear F;go_wp2
    go_ret2
    refine⟨a,_,rfl,⟨v,y,x,?_⟩,c.trans (s.mono c.size)⟩;simp[Da G,o]
   ·have D:decide (((a:Nat):Int)<(n:Int))=false:=by simp;omega
    have A:=Db f;have B:=Db l;clear f l;go_wp2
    go_ret2
    exact⟨a,_,rfl,⟨v,y,x,by simp[o]⟩,c⟩
theorem srchR(v:Value)(es:LI)(l:Int)(w:World)(B:Sl w 350 2 v es.length (Du es))(F:es.length<=10000)(G:SrtR es):
  Calls Tryz.prog 303 #[v,.int .u64 l,.func (.func 304) #[] #[]] w fun e w'=>∃(i:Nat) (b:Bool),e = .returned (.tuple #[.int .i64 i,.bool b])/\AtR es l i b/\Below w.heap.size w w':=by
 rcases B.2 with⟨rfl,z⟩|⟨g,q,L,rfl,A,hc,aa,hL,C⟩
 ·have:es=[]:=List.eq_nil_of_length_eq_zero z;subst this;go_enter Tryz.func303,Tryz.ntmps303;go_wp2_with fail
  go_loopw [9,10] (fun i j wr=>i = .int .i64 0/\j = .int .i64 0/\wr=w) (fun _ _ _=>0)
  case atStart=>exact⟨rfl,rfl,rfl⟩
  case round=>
   obtain⟨rfl,rfl,rfl⟩:=hrel;go_wp2
   go_ret2
   exact⟨0,false,rfl,⟨Nat.zero_le _,fun k x h _=>absurd h (Nat.not_lt_zero _),fun k x _ h=>by simp at h,by simp⟩,Below.refl _ _⟩
 ·have y:∀j u,(Du es)[j]?=some u->w.cell? ⟨g,j,none⟩=some u:=fun j u f=>by
   rw[A.cell];rw[<-C,List.getElem?_take]at f
   split at f
   ·exact f
   ·cases f
  cases hes:es with
  | nil=>
   subst hes;refine(bsrR g 0 q (fun _=>(0,0)) l w (by omega) (fun k h=>absurd h (by omega)) (fun k h=>absurd h (by omega)) (fun j k _ h=>absurd h (by omega))).mono ?_;rintro e w' ⟨i,b,rfl,⟨r,s,t,m⟩,n⟩;obtain rfl:i=0:=by omega
   exact⟨0,b,rfl,⟨Nat.le_refl _,fun k x h _=>absurd h (by omega),fun k x _ h=>by simp at h,by rw[m];simp⟩,n⟩
  | cons x0 l0=>
   rw[<-hes];have d:∀k,k<es.length->es[k]?=some (es.getD k x0):=fun k a=>by simp[List.getD,List.getElem?_eq_getElem a]
   refine(bsrR g es.length q (fun k=>es.getD k x0) l w F (fun k a=>y _ _ (Vh es k _ (d k a)).1) (fun k a=>y _ _ (Vh es k _ (d k a)).2)
    (fun j k E a=>G j k _ _ E (d j (by omega)) (d k a))).mono ?_
   rintro e w' ⟨i,b,rfl,⟨r,s,t,m⟩,n⟩;have o:∀k x,es[k]?=some x->k<es.length:=fun k x h=>(List.getElem?_eq_some_iff.1 h).1
   have p:∀k x,es[k]?=some x->x=es.getD k x0:=fun k x h=>by have:=d k (o k x h);rw[h]at this;exact Option.some.inj this
   refine⟨i,b,rfl,⟨r,fun k x a c=>?_,fun k x a c=>?_,?_⟩,n⟩
   ·rw[p k x c];exact s k a
   ·rw[p k x c];exact t k a (o k x c)
   ·rw[m];constructor
    ·rintro⟨D,e⟩;exact⟨_,d i D,e⟩
    ·rintro⟨x,c,e⟩;exact⟨o i x c,by rw[<-e,p i x c]⟩
theorem Zn0(L xs a:LVa)(i n:Nat)(hL:(n+1)*2<=L.length)(d:L.take (n*2)=xs)(hi:i<n)(b:a.length=2):
  (spl (spl L ((i+1)*2) (xs.drop (i*2))) (i*2) a).take ((n+1)*2)=xs.take (i*2)++a++xs.drop (i*2):=by
 have c:xs.length=n*2:=by rw[<-d,List.length_take];omega
 have g:(xs.drop (i*2)).length=(n-i)*2:=by rw[List.length_drop,c];omega
 have e:(spl L ((i+1)*2) (xs.drop (i*2))).take (i*2)=xs.take (i*2):=by
  unfold spl;rw[List.append_assoc,List.take_append_of_le_length (by rw[List.length_take];omega),List.take_take,Nat.min_eq_left (by omega),<-d,List.take_take,Nat.min_eq_left (by omega)]
 have f:(spl L ((i+1)*2) (xs.drop (i*2))).drop (i*2+a.length)=xs.drop (i*2)++L.drop ((i+1)*2+(xs.drop (i*2)).length):=by
  unfold spl;rw[List.append_assoc,b,show i*2+2=(L.take ((i+1)*2)).length by rw[List.length_take];omega,List.drop_left]
 rw[spl,e,f,<-List.append_assoc];exact List.take_left' (by simp only[List.length_append,List.length_take,g,b,c];omega)
theorem ZmB(Z xs a:LVa)(i n:Nat)(f:xs.length=n*2)(hi:i<n)(_hZ:(n+1)*2<=(xs.take (i*2)++Z).length)(c:a.length=2):
  (spl (spl (xs.take (i*2)++Z) (i*2) a) ((i+1)*2) (xs.drop (i*2))).take ((n+1)*2)=xs.take (i*2)++a++xs.drop (i*2):=by
 have e:(xs.drop (i*2)).length=(n-i)*2:=by rw[List.length_drop,f];omega
 have b:(xs.take (i*2)).length=i*2:=by rw[List.length_take];omega
 have d:(spl (xs.take (i*2)++Z) (i*2) a).take ((i+1)*2)=xs.take (i*2)++a:=by
  unfold spl;rw[List.take_left' b];exact List.take_left' (by simp only[List.length_append,b,c];omega)
 rw[spl,d];exact List.take_left' (by simp only[List.length_append,b,e,c];omega)
theorem Zok{w w2:World}{b ho:Nat}{v c:Value}{e:TypeId}{n:Nat}{xs:LVa}(f:w.cell? ⟨b,ho,none⟩=some v)(i:v.ownBlock≠some b)(m:Sl w2 e 2 c n xs)(r:Dk w v c)
  (s:w2.os=w.os) (x:w2.tape=w.tape) (t:w2.output=w.output) (u:w.heap.size<=w2.heap.size) (d:∀k,k<w.heap.size->v.ownBlock≠some k->w2.heap[k]?=w.heap[k]?):
  (w2.setCell ⟨b,ho,none⟩ c).cell? ⟨b,ho,none⟩=some c/\Sl (w2.setCell ⟨b,ho,none⟩ c) e 2 c n xs/\Zd7 w (w2.setCell ⟨b,ho,none⟩ c) b ho v c:=by
 have q:b<w.heap.size:=World.block_lt_of_cell? _ _ f;have g:w2.heap[b]?=w.heap[b]? := d b q i;have o:w2.cell? ⟨b,ho,none⟩=some v:=(World.cell?_of_block (w:=w) (a:=⟨b,ho,none⟩) g).trans f;refine⟨World.cell?_setCell_same _ _ _ o,m.setCell _ _ (fun e=>?_),s,x,t,by simpa [World.setCell] using u,fun k p j l=>?_,?_⟩
 ·rcases r b e with h|h
  ·exact i h
  ·omega
 ·rw[Below.heap_setCell _ _ _ _ j];exact d k p l
 ·simp only[World.setCell,Array.getElem?_modify,if_true];rw[g]
theorem insER(w:World)(v:Value)(es:LI)(i:Nat)(x:Int×Int)(d:Nat)(A:Sl w 350 2 v es.length (Du es))(hi:i<=es.length)(t:es.length<=10000)
  (y:RowIs w d 350 (clR x)) (H:v.ownBlock≠some d):
  Calls Tryz.prog 274 #[v,.int .i64 i,.slice (some ⟨d,0,none⟩) 1 1] w fun e w'=>∃l,e = .returned l/\Sl w' 350 2 l (es.length+1) (Du (es.take i++x::es.drop i))/\w.grownBy w' v.ownBlock/\Dk w v l:=by
 have o:∀u∈clR x,u.oneCell'=true:=fun u J=>Zes [x] u (by simpa [Du] using J)
 have f:Du (es.take i++x::es.drop i)=(Du es).take (i*2)++clR x++(Du es).drop (i*2):=by
  rw[Zi3,Zi4,Zg7,List.append_assoc];rfl
 have j:=Zg6 es;rcases Nat.lt_or_ge i es.length with n|aa
 ·rcases A.2 with⟨rfl,h0⟩|⟨g,m,L,rfl,z,E,B,c,s⟩
  ·omega
  ·have I:d≠g:=fun e=>H (by simp[Value.ownBlock,e])
   have C:((Du es).take (i*2)++clR x++(Du es).drop (i*2)).length=(es.length+1)*2:=by
    simp only[List.length_append,List.length_take,List.length_drop,j];simp[clR];omega
   rcases Nat.lt_or_ge m (es.length+1) with F|D
   ·refine(ZmW w g es.length m (Du es) L i d (clR x) z c s n E F t y rfl (Zes es) o).mono ?_;rintro e w' ⟨G,Z,rfl,p,q,a,r,b⟩;refine⟨_,rfl,⟨by rw[f];exact C,.inr ⟨_,G,_,rfl,r,p,q,?_,?_⟩⟩,⟨b.os,b.tape,b.output,b.size,fun k h _=>b.block k h (by simp;omega)⟩,fun k h => .inr (by simp[Value.ownBlock]at h;omega)⟩
    ·rw[DV,DV,a]
     ·rw[a];simp[clR];omega
     ·rw[DV (by rw[a];simp[clR];omega),a,List.length_drop,j];omega
    ·rw[f];exact ZmB Z (Du es) (clR x) i es.length j n (by rw[a];omega) rfl
   ·refine(Zos w g es.length m (Du es) L i d (clR x) z c s n D B t y rfl (Zes es) o I).mono ?_;rintro e w' ⟨rfl,r,b⟩;refine⟨_,rfl,⟨by rw[f];exact C,.inr ⟨_,m,_,rfl,r,D,B,?_,?_⟩⟩,b,fun k h => .inl h⟩
    ·rw[DV,DV,c]
     ·rw[List.length_drop,j,c];omega
     ·rw[DV (by rw[List.length_drop,j,c];omega),c];simp[clR];omega
    ·rw[f];exact Zn0 L (Du es) (clR x) i es.length (by rw[c];omega) s n rfl
 ·obtain rfl:i=es.length:=by omega
  refine(Zot w v es.length (Du es) d (clR x) A t y rfl o).mono ?_;rintro e w' ⟨l,rfl,p,q,a⟩;refine⟨l,rfl,?_,q,a⟩;rw[f,List.take_of_length_le (by omega),List.drop_eq_nil_of_le (by omega),List.append_nil];exact p
theorem findR(w:World)(a ho:Nat)(v:Value)(es:LI)(c:Int)(hc:w.cell? ⟨a,ho,none⟩=some v)(f:Sl w 350 2 v es.length (Du es))(g:es.length<=10000)(h:SrtR es):
  Calls Tryz.prog 273 #[.pointer (some ⟨a,ho,none⟩),.int .u64 c] w fun e w'=>∃(i:Nat) (b:Bool),e = .returned (.tuple #[.int .i64 i,.bool b])/\AtR es c i b/\Below w.heap.size w w':=by
 have k:=srchR v es c w f g h;clear f g h;go_enter Tryz.func273,Tryz.ntmps273;go_wp2_with fail;refine k.mono ?_;rintro e w' ⟨i,b,rfl,d,a⟩;have j:=Db d;clear d;go_wp2
 go_ret2
 exact⟨i,b,rfl,Da j,a⟩
def FoundR(es:LI)(key:Int)(r:Int)(b:Bool):Prop:=(b=true/\(key,r)∈es)\/(b=false/\r=0/\∀x∈es,x.1≠key)
theorem AtR.here{es:LI}{a:Int}{i:Nat}(h:AtR es a i true):∃r,es[i]?=some (a,r):=by
 obtain⟨x,b,c⟩:=h.2.2.2.1 rfl;exact⟨x.2,by rw[b,<-c]⟩
theorem AtR.not{es:LI}{j:Int}{i:Nat}(l:SrtR es)(h:AtR es j i false):∀x∈es,x.1≠j:=by
 intro x m e;obtain⟨k,a⟩:=List.getElem?_of_mem m;rcases Nat.lt_or_ge k i with g|g
 ·have:=h.2.1 k x g a;rw[e,KC]at this;cases this
 ·rcases Nat.lt_or_ge i k with b|b
  ·have f:i<es.length:=by have:=(List.getElem?_eq_some_iff.1 a).1;omega
   have c:=l i k _ x b (List.getElem?_eq_getElem f) a;have d:=h.2.2.1 i _ (Nat.le_refl _) (List.getElem?_eq_getElem f);rw[e]at c;rw[c]at d;cases d
  ·obtain rfl:k=i:=by omega
   have:=h.2.2.2.2 ⟨x,a,e⟩
   cases this
theorem getR(w:World)(a ho:Nat)(v:Value)(es:LI)(n:Int)(k:w.cell? ⟨a,ho,none⟩=some v)(h:Sl w 350 2 v es.length (Du es))(C:es.length<=10000)(x:SrtR es):
  Calls Tryz.prog 300 #[.pointer (some ⟨a,ho,none⟩),.int .u64 n] w fun e w'=>∃(r:Int) (b:Bool),e = .returned (.tuple #[.int .i64 r,.bool b])/\FoundR es n r b/\Below w.heap.size w w':=by
 have B:a<w.heap.size:=World.block_lt_of_cell? _ _ k;have t:=findR w a ho v es n k h C x;go_enter Tryz.func300,Tryz.ntmps300;go_wp2_with fail;refine t.mono ?_;rintro e w1 ⟨i,b,rfl,d,f⟩;clear t
 cases b with
 | false=>
  have z:=Db (AtR.not x d);clear d h;go_wp2
  go_ret2
  exact⟨0,false,rfl,.inr ⟨rfl,rfl,Da z⟩,f⟩
 | true=>
  obtain⟨r,c⟩:=d.here;rcases h.2 with⟨rfl,h0⟩|⟨g,aa,L,rfl,m,ab,ac,A,o⟩
  ·have:=(List.getElem?_eq_some_iff.1 c).1;omega
  ·have s:∀j u,(Du es)[j]?=some u->w1.cell? ⟨g,j,none⟩=some u:=fun j u l=>by
    rw[f.cell (p:=⟨g,j,none⟩) m.lt,m.cell];rw[<-o,List.getElem?_take]at l
    split at l
    ·exact l
    ·cases l
   have q:=Vh es i _ c;have q0:=(f.cell (p:=⟨a,ho,none⟩) B).trans k;have q1:=s _ _ q.2;have hi:i<es.length:=(List.getElem?_eq_some_iff.1 c).1;have y:=Db (List.mem_of_getElem? c);clear q s m A o h d c k;go_wp2
   go_ret2
   exact⟨r,true,rfl,.inl ⟨rfl,Da y⟩,f⟩
theorem ZlA{es:LI}{d:Int}{i:Nat}(e:Int)(g:SrtR es)(h:AtR es d i false):
  SrtR (es.take i++(d,e)::es.drop i)/\(es.take i++(d,e)::es.drop i).length=es.length+1/\∀x,x∈es.take i++(d,e)::es.drop i↔x=(d,e)\/x∈es:=by
 have hi:=h.1;have u:=AtR.not g h;have q:∀k x,i<=k->es[k]?=some x->ltI d x.1=true:=fun k x s b=>by
  have a:=h.2.2.1 k x s b;have f:=u x (List.mem_of_getElem? b);exact ZhS a f
 have t:(es.take i).length=i:=by rw[List.length_take];omega
 have p:∀k,(es.take i++(d,e)::es.drop i)[k]?=if k<i then es[k]? else if k=i then some (d,e) else es[k-1]? := fun k=>by
  by_cases a:k<i
  ·rw[if_pos a,List.getElem?_append_left (by omega),List.getElem?_take,if_pos a]
  ·rw[if_neg a,List.getElem?_append_right (by omega),t];by_cases f:k=i
   ·rw[if_pos f];simp[f]
   ·rw[if_neg f,show k-i=(k-i-1)+1 by omega,List.getElem?_cons_succ,List.getElem?_drop]
    congr 1;omega
 refine⟨fun j k x y r b c=>?_,?_,fun x=>?_⟩
 ·rw[p]at b c;by_cases n:j<i
  ·rw[if_pos n]at b;by_cases l:k<i
   ·rw[if_pos l]at c;exact g j k x y r b c
   ·rw[if_neg l]at c;by_cases m:k=i
    ·rw[if_pos m]at c;cases c;exact h.2.1 j x n b
    ·rw[if_neg m]at c;exact g j (k-1) x y (by omega) b c
  ·rw[if_neg n]at b;have l:¬k<i:=by omega
   have m:¬k=i:=by omega
   rw[if_neg l,if_neg m]at c;by_cases o:j=i
   ·rw[if_pos o]at b;cases b;exact q (k-1) y (by omega) c
   ·rw[if_neg o]at b;exact g (j-1) (k-1) x y (by omega) b c
 ·simp;omega
 ·have:es=es.take i++es.drop i:=(List.take_append_drop i es).symm;constructor
  ·intro b;simp only[List.mem_append,List.mem_cons]at b;rcases b with a|a|a
   ·exact .inr (List.mem_of_mem_take a)
   ·exact .inl a
   ·exact .inr (List.mem_of_mem_drop a)
  ·intro b;simp only[List.mem_append,List.mem_cons];rcases b with a|a
   ·exact .inr (.inl a)
   ·rw[this,List.mem_append]at a;rcases a with a|a
    ·exact .inl a
    ·exact .inr (.inr a)
theorem ZiG(w:World)(c ho:Nat)(v:Value)(es:LI)(f:Int)(r:Int)(n:w.cell? ⟨c,ho,none⟩=some v)(hf:w.frozen? ⟨c,ho,none⟩=false)(C:v.ownBlock≠some c)(u:Sl w 350 2 v es.length (Du es))(O:es.length<=10000)(D:SrtR es)(Q:∀x∈es,x.1≠f):
  Calls Tryz.prog 243 #[.pointer (some ⟨c,ho,none⟩),.int .u64 f,.int .i64 r] w fun e w'=>e = .returned (.tuple #[])/\∃d es',w'.cell? ⟨c,ho,none⟩=some d/\Sl w' 350 2 d es'.length (Du es')/\
   SrtR es'/\es'.length=es.length+1/\(∀x,x∈es'↔x=(f,r)\/x∈es)/\Dk w v d/\Zd7 w w' c ho v d:=by
 have A:c<w.heap.size:=World.block_lt_of_cell? _ _ n;have L:=findR w c ho v es f n u O D;go_enter Tryz.func243,Tryz.ntmps243;go_wp2_with fail;refine L.mono ?_;rintro e w1 ⟨i,b,rfl,s,j⟩;have aa:b=false:=by
  cases b with
  | false=>rfl
  | true=>obtain⟨r',ae⟩:=s.here;exact absurd rfl (Q _ (List.mem_of_getElem? ae))
 subst aa;have q0:w1.cell? ⟨c,ho,none⟩=some v:=(j.cell (p:=⟨c,ho,none⟩) A).trans n;have ah:w.heap.size<=w1.heap.size:=j.size;have y:Sl w1 350 2 v es.length (Du es):=u.kept (fun k B _=>j.block k B);have M:∀W:World,W.heap=(w1.alloc (.cells #[.int .u64 f,.int .i64 r] 350)).heap->W.os=w1.os->W.tape=w1.tape->W.output=w1.output->Calls Tryz.prog 274 #[v,.int .i64 i,.slice (some ⟨w1.heap.size,0,none⟩) 1 1] W fun e w'=>∃l q m d,e = .returned (.slice l q m)/\d = .slice l q m/\
   (w'.cell? ⟨c,ho,none⟩=some v/\w'.frozen? ⟨c,ho,none⟩=false)/\Hid ((w'.setCell ⟨c,ho,none⟩ d).cell? ⟨c,ho,none⟩=some d/\Sl (w'.setCell ⟨c,ho,none⟩ d) 350 2 d (es.length+1) (Du (es.take i++(f,r)::es.drop i))/\Zd7 w (w'.setCell ⟨c,ho,none⟩ d) c ho v d/\Dk w v d):=fun W t T U V=>by
  have Y:Sl W 350 2 v es.length (Du es):=(Sl.of_owns (y.owns.alloc _)).heap t;have X:RowIs W w1.heap.size 350 (clR (f,r)):=by unfold RowIs;rw[t];exact heap_alloc_new w1 _
  refine(insER W v es i (f,r) w1.heap.size Y s.1 O X (fun e=>by have:=y.lt e;omega)).mono ?_;rintro e w' ⟨d,rfl,K,o,ad⟩;have Z:w.heap.size<=W.heap.size:=by rw[t];simp;omega
  have z:∀k,k<w.heap.size->v.ownBlock≠some k->w'.heap[k]?=w.heap[k]? := fun k B ac=>by
   rw[o.block k (by omega) (fun e=>ac e.symm),t,Below.heap_alloc _ _ _ (by omega),j.block k B]
  have P:Dk w v d:=fun g ab=>(ad g ab).imp id (fun h=>by omega)
  obtain⟨F,G,H⟩:=Zok (ho:=ho) n C K P (o.os.trans (T.trans j.os)) (o.tape.trans (U.trans j.tape)) (o.output.trans (V.trans j.output)) (Nat.le_trans Z o.size) z;obtain⟨l,q,m,J⟩:=K.shape;exact⟨l,q,m,d,by rw[J],J,⟨(World.cell?_of_block (w:=w) (a:=⟨c,ho,none⟩) (z c A C)).trans n,(World.frozen?_of_block (w:=w) (a:=⟨c,ho,none⟩) (z c A C)).trans hf⟩,F,G,H,P⟩
 have E:=Db (ZlA r D s);have N:(es.take i++(f,r)::es.drop i).length=es.length+1:=(Da E).2.1;have I:=Db N;have S:=Db M;clear N s u y D Q L j M;go_wp2_with (go_at_call 274;refine(Da S _ (by exact rfl) (by exact rfl) (by exact rfl) (by exact rfl)).mono ?_;rintro e w2 ⟨l,q,m,d,rfl,rfl,⟨af,ag⟩,R⟩)
 all_goals (
  go_end0
  obtain⟨F,G,H,m4⟩:=Da R;exact⟨rfl,_,_,F,by rw[Da I];exact G,(Da E).1,Da I,(Da E).2.2,m4,H⟩)
section
open Go.RowKit Go.Shelf
attribute [local go_sem] Oper.semAt_some
theorem all1R(F:Fence)(n:Nat)(L:F.fn 270)(P:F.round=none)(hn:1<=n)(l s f z ho g C:Nat){α : Type}(a : α -> Int×Int)(es:List α)(ab:es.length<=10000)(A:g<f)(J w:List α -> World->Prop)
  (W:World) (E:AbidesFrom W.heap.size J)
  (K:∀pre x W,J pre W->pre.length<es.length->YieldAt F (n-1) Tryz.prog l #[.int .u64 (a x).1,.int .i64 (a x).2] W fun e b=>
   (e = .returned (.bool true)/\J (pre++[x]) b/\Below f W b)\/(e = .returned (.bool false)/\w (pre++[x]) b))
  (aa:W.cell? ⟨s,0,none⟩=some (.pointer (some ⟨z,ho,none⟩))) (hc:W.cell? ⟨z,ho,none⟩=some (.slice (some ⟨g,0,none⟩) es.length C))
  (m:∀j u,(Du (es.map a))[j]?=some u->W.cell? ⟨g,j,none⟩=some u) (O:f<=W.heap.size) (D:J [] W):
  CallsIn F n Tryz.prog 270 #[.func (.yield l) #[] #[],.pointer (some ⟨s,0,none⟩)] W fun e b=>(∃v,e = .returned v)/\
   ((∃ys,ys=es/\J ys b)\/(∃pre,pre <+: es/\w pre b)):=by
 refine callsIn_of_wp Tryz.func270 rfl L ?_ P;simp only[Tryz.ntmps270,List.size_toArray,List.length_cons,List.length_nil,Nat.reduceAdd,Nat.reduceSub,Array.replicate_succ,Array.replicate_zero,List.push_toArray,List.append_toArray,List.nil_append,List.cons_append]
 gi_wp2
 gi_loopw [10] (fun i wr=>∃k:Nat,k<=es.length/\i = .int .i64 k/\J (es.take k) wr/\Below f W wr)
  (fun i _=>es.length-(intOf i).toNat)
 case atStart=>exact⟨0,Nat.zero_le _,rfl,D,Below.refl _ _⟩
 case round=>
  obtain⟨k,hk,rfl,h,c⟩:=hrel;by_cases N:k<es.length
  ·obtain⟨x,d⟩:∃x,es[k]?=some x:=⟨_,List.getElem?_eq_getElem N⟩;have t:Hid (es.take (k+1)=es.take k++[x]):=by show _=_;rw[List.take_add_one,d];rfl
   have q:=Vh (es.map a) k (a x) (by rw[List.getElem?_map,d];rfl);have q0:=(c.cell (p:=⟨g,k*2,none⟩) A).trans (m _ _ q.1);have q1:=(c.cell (p:=⟨g,k*2+1,none⟩) A).trans (m _ _ q.2);have B:(es.take k).length<es.length:=by rw[List.length_take];omega
   have y:∀o,J (es.take k) (wr.alloc o):=fun o=>E _ _ _ none h (Zct wr o) (fun r e=>by cases e)
   obtain⟨fn,tmps,assign,body,hy,I⟩:=K _ x (wr.alloc (.cells #[.int .u64 (a x).1,.int .i64 (a x).2] 350)) (y _) B;have HX:=Db d;clear q d B y m
   gi_wp2
   refine I.mono ?_;rintro e W3 (⟨rfl,G,M⟩|⟨rfl,H⟩)
   ·gi_wp2
    go_roundw
    case rel=>exact⟨k+1,by omega,by go_num,by rw[Da t];exact G,(c.alloc (Nat.le_trans O c.size) _).trans M⟩
    case measure=>simp[intOf];omega
   ·gi_wp2
    refine bodyPost_ret (results_none rfl _ _ _) rfl ?_;exact⟨⟨_,rfl⟩,.inr ⟨_,by rw[<-Da t];exact List.take_prefix _ _,H⟩⟩
  ·obtain rfl:k=es.length:=by omega
   gi_wp2
   go_end0
   exact⟨⟨_,rfl⟩,.inl ⟨_,rfl,by rw[List.take_length]at h;exact h⟩⟩
theorem Zmj(F:Fence)(n:Nat)(g:F.fn 270)(h:F.round=none)(l a b ho:Nat){α : Type}(J:List α -> World->Prop)(W:World)
  (aa:W.cell? ⟨a,0,none⟩=some (.pointer (some ⟨b,ho,none⟩))) (hc:W.cell? ⟨b,ho,none⟩=some (.slice none 0 0)) (d:J [] W):
  CallsIn F n Tryz.prog 270 #[.func (.yield l) #[] #[],.pointer (some ⟨a,0,none⟩)] W fun e c=>(∃v,e = .returned v)/\J [] c:=by
 refine callsIn_of_wp Tryz.func270 rfl g ?_ h;simp only[Tryz.ntmps270,List.size_toArray,List.length_cons,List.length_nil,Nat.reduceAdd,Nat.reduceSub,Array.replicate_succ,Array.replicate_zero,List.push_toArray,List.append_toArray,List.nil_append,List.cons_append]
 gi_wp2
 gi_loopw [10] (fun i wr=>i = .int .i64 0/\J [] wr) (fun _ _=>0)
 case atStart=>exact⟨rfl,d⟩
 case round=>
  obtain⟨rfl,f⟩:=hrel
  gi_wp2
  go_end0
  exact⟨⟨_,rfl⟩,f⟩
theorem ZoQ(F:Fence)(n:Nat)(b:F.fn 235)(c:F.round=none)(a:OA)(w:World):
  CallsIn F n Tryz.prog 235 #[.pointer a] w fun e w'=>e = .returned (.func (.func 270) #[] #[.pointer (some ⟨w.heap.size,0,none⟩)])/\w'=w.alloc (.cells #[.pointer a] 294):=by
 refine callsIn_of_wp Tryz.func235 rfl b ?_ c;simp only[Tryz.ntmps235,List.size_toArray,List.length_cons,List.length_nil,Nat.reduceAdd,Nat.reduceSub,Array.replicate_succ,Array.replicate_zero,List.push_toArray,List.append_toArray,List.nil_append,List.cons_append]
 gi_wp2
 go_ret;exact⟨rfl,rfl⟩
theorem Zky(F:Fence)(n:Nat)(r:F.fn 270)(s:F.round=none)(L:1<=n)(a f b ho:Nat)(v:Value){α : Type}(h : α -> Int×Int)(es:List α)(I:es.length<=10000)(w:World)(A:a<w.heap.size)(G:b<w.heap.size)(M:f<=w.heap.size)
  (z:w.cell? ⟨a,0,none⟩=some (.pointer (some ⟨b,ho,none⟩))) (H:w.cell? ⟨b,ho,none⟩=some v) (C:Sl w 350 2 v es.length (Du (es.map h))) (N:∀g,v.ownBlock=some g->g<f):
  SeqStopsK F n Tryz.prog 270 #[.pointer (some ⟨a,0,none⟩)] (fun x : α => #[.int .u64 (h x).1,.int .i64 (h x).2]) (Below f) (fun P=>P=es) (fun O=>O <+: es) es.length w:=fun l J t W c B _ E k=>by
 have m:=(c.cell (p:=⟨a,0,none⟩) A).trans z;have q:=(c.cell (p:=⟨b,ho,none⟩) G).trans H;rcases C.2 with⟨rfl,i⟩|⟨g,y,R,rfl,o,_,_,_,D⟩
 ·obtain rfl:es=[]:=List.eq_nil_of_length_eq_zero i;exact(Zmj F n r s l a b ho J W m q k).mono fun e W' ⟨i,K⟩=>⟨i,.inl ⟨_,rfl,K⟩⟩
 ·exact all1R F n r s L l a f b ho g y h es I (N g rfl) J t W B E m q (fun j u d=>by
   rw[c.cell (p:=⟨g,j,none⟩) o.lt,o.cell];rw[<-D,List.getElem?_take]at d
   split at d
   ·exact d
   ·cases d) (Nat.le_trans M c.size) k
end
end Go.Proofs.YtaieidcohdhgpaaGreatDoor
