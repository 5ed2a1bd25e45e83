/- Cleaned. -/
import Derived.Test.YtaieidcohdhgpaaGreatDoorPAS
namespace Go.Proofs.YtaieidcohdhgpaaGreatDoor
set_option maxHeartbeats 8000000
set_option maxRecDepth 100000
section
open Go.RowKit Go.Shelf
attribute [local go_sem] Oper.semAt_some
def nil0:By:=⟨#[0]⟩
def DD:By:=Dw 3 nil0 63 0
theorem Sl.cellsKept{W b:World}{e:TypeId}{c:Nat}{v:Value}{n:Nat}{xs:LVa}(h:Sl W e c v n xs)(l:∀(j:Nat) (cs:Array Value) (t:TypeId),W.heap[j]?=some (Obj.cells cs t (0,0))->b.heap[j]?=some (Obj.cells cs t (0,0))):Sl b e c v n xs:=by
 rcases h.2 with⟨a,i⟩|⟨g,f,d,a,k,q⟩
 ·exact⟨h.1,.inl ⟨a,i⟩⟩
 ·exact⟨h.1,.inr ⟨g,f,d,a,l _ _ _ k,q⟩⟩
theorem Sl.isCells{W:World}{e:TypeId}{d:Nat}{v:Value}{n:Nat}{xs:LVa}(h:Sl W e d v n xs){k:Nat}(a:Own v k):∃cs t,W.heap[k]?=some (Obj.cells cs t (0,0)):=by
 rcases h.2 with⟨b,h0⟩|⟨g',c',L',b,c,q⟩
 ·rw[b]at a;simp[Own,Value.ownBlock]at a
 ·rw[b]at a;simp[Own,Value.ownBlock]at a;subst a;exact⟨_,_,c⟩
theorem PlanW.cellsKept{w w':World}{pb b e so:Nat}{d:Nat->Int}{cl:Bool}{c:Nat}{i:Value}{es:LI}{f g:Int}{k:Value}{ps:LB}(h:PlanW w pb b e so d cl c i es f g k ps)(a:∀(j:Nat) (cs:Array Value) (t:TypeId),w.heap[j]?=some (Obj.cells cs t (0,0))->w'.heap[j]?=some (Obj.cells cs t (0,0))):PlanW w' pb b e so d cl c i es f g k ps:=
 ⟨a _ _ _ h.row,h.sa.cellsKept a,Sl.cellsKept h.sp a,h.oa,h.op,h.ap⟩
theorem PlanW.fr{w w':World}{pb f j so:Nat}{i:Nat->Int}{cl:Bool}{g:Nat}{d:Value}{es:LI}{l m:Int}{e:Value}{ps:LB}(h:PlanW w pb f j so i cl g d es l m e ps){Z:Nat->Prop}(b:Fr Z w w')(a:∀k,(k=pb\/Own d k\/Own e k)->¬Z k):PlanW w' pb f j so i cl g d es l m e ps:=
 ⟨h.row.fr b (a _ (.inl rfl)),h.sa.fr b (fun _g c=>a _ (.inr (.inl c))),Sl.fr h.sp b (fun _g c=>a _ (.inr (.inr c))),h.oa,h.op,h.ap⟩
theorem PlanW.isCells{w:World}{pb d g so:Nat}{f:Nat->Int}{cl:Bool}{e:Nat}{b:Value}{es:LI}{i j:Int}{c:Value}{ps:LB}(h:PlanW w pb d g so f cl e b es i j c ps)(k:Nat)(a:k=pb\/Own b k\/Own c k):∃cs t,w.heap[k]?=some (Obj.cells cs t (0,0)):=by
 rcases a with rfl|a|a
 ·exact⟨_,_,h.row⟩
 ·exact h.sa.isCells a
 ·exact Sl.isCells h.sp a
theorem Zkf{W:World}{a:Addr}{v:Value}(h:W.cell? a=some v):∃cs t z,W.heap[a.block]?=some (Obj.cells cs t z):=by
 unfold World.cell? at h
 cases hb:W.heap[a.block]? with
 | none=>rw[hb]at h;cases h
 | some o=>cases o with
  | cells cs t z=>exact⟨cs,t,z,rfl⟩
  | _=>rw[hb]at h;cases h
end
section
open Go.RowKit Go.Shelf
attribute [local go_sem] Oper.semAt_some
def Calm(Q:Exit->Act->World->Prop):Exit->Act->World->Prop
 | .normal,a,w=>Q .normal a w
 | _,_,_=>False
theorem Qd{Q:Exit->Act->World->Prop}:∀e a w,Calm Q e a w->Q e a w:=fun e a w h=>by cases e<;>first|exact h|exact h.elim
theorem KU{Q:Exit->Act->World->Prop}{a:Act}{w:World}(h:Q .normal a w):Calm Q .normal a w:=h
theorem PlanW.top{w:World}{pb a d so:Nat}{c:Nat->Int}{cl:Bool}{b:Nat}{e:Value}{es:LI}{l k:Int}{f:Value}{ps:LB}(h:PlanW w pb a d so c cl b e es l k f ps)(tp' tx':Int):PlanW ((w.setCell ⟨pb,101,none⟩ (.int .i64 tp')).setCell ⟨pb,102,none⟩ (.int .u64 tx')) pb a d so c cl b e es tp' tx' f ps:=by
 refine⟨?_,(h.sa.setCell ⟨pb,101,none⟩ _ h.oa).setCell ⟨pb,102,none⟩ _ h.oa,Sl.setCell (Sl.setCell h.sp ⟨pb,101,none⟩ _ h.op) ⟨pb,102,none⟩ _ h.op,h.oa,h.op,h.ap⟩;have g:=h.row.set 101 (.int .i64 tp');rw[Uj (j:=3)]at g;have i:=RowIs.set (show RowIs _ pb 184 (J4 a d so c cl b e tp' k f) from g) 102 (.int .u64 tx');rw[Uj (j:=4)]at i;exact i
theorem UM(p x:Nat)(a:p<65536):rdP (DG p x)=p:=by
 have:(Dj (DG p x) 2).data.toList=DB p 2:=by
  unfold Dj;rw[if_pos (by rw[K4];omega),Lib.extract_data];simp only[DG];simp[D5]
 unfold rdP;rw[this,Kf 2 p a]
theorem Zis(p x:Nat)(b:x<18446744073709551616):rdX (DG p x)=x:=by
 have:(Dj ((DG p x).extract 2 (DG p x).size) 8).data.toList=DB x 8:=by
  unfold Dj;rw[if_pos (by rw[ByteArray.size_extract,K4];omega),Lib.extract_data,Lib.extract_data,K4];simp only[DG];have a:(DB p 2++DB x 8).drop 2=DB x 8:=List.drop_left' (D5 2 p);simp[a];rw[List.take_of_length_le (by rw[List.length_take,D5];omega),List.take_of_length_le (by rw[D5];omega)]
 unfold rdX;rw[this,Kf 8 x (by exact b)]
end
open Go.RowKit
theorem Uh{b:Nat->Option (Nat×Nat)}{a:LVa}{i off size:Nat}{v:Value}{d:List (Nat×Value)}(f:b i=some (off,size))(c:v.cells.size=size)(e:off+size<=a.length):
  Instr.fill b a.toArray ((i,v)::d)=Instr.fill b (spl a off v.cells.toList).toArray d:=by
 rw[Instr.fill,f];simp only;rw[if_neg (by simp only[c,List.size_toArray,ne_eq,not_true_eq_false,decide_false,Bool.false_or,decide_eq_true_eq];omega),UJ off v.cells a.toArray (by rw[c];simpa using e)]
def JE(a b:Value)(m t:LVa):LVa:=[a,b]++m++t
theorem Ui(a b:Value)(m t:LVa)(c:m.length=96)(d:t.length=6):(JE a b m t).length=104:=by simp[JE,c,d]
theorem ZnY(a b x:Value)(m t:LVa):spl (JE a b m t) 0 [x]=JE x b m t:=by simp[spl,JE]
theorem ZnX(a b x:Value)(m t:LVa):spl (JE a b m t) 1 [x]=JE a x m t:=by simp[spl,JE]
theorem ZnW(a b:Value)(m c t:LVa)(h:c.length=m.length):spl (JE a b m t) 2 c=JE a b c t:=by
 have d:(JE a b m t).take 2=[a,b]:=by simp[JE]
 have e:(JE a b m t).drop (2+c.length)=t:=by rw[h];unfold JE;exact List.drop_left' (by simp;omega)
 unfold spl;rw[d,e];rfl
theorem ZkS(a b x:Value)(m t:LVa)(d:m.length=96)(j:Nat):spl (JE a b m t) (98+j) [x]=JE a b m (spl t j [x]):=by
 unfold spl JE;have c:([a,b]++m).length=98:=by simp[d]
 rw[show 98+j=([a,b]++m).length+j by rw[c],List.take_length_add_append,Nat.add_assoc,List.drop_length_add_append];simp[List.append_assoc]
def planT:LVa:=[.bool false,.int .i64 0,.slice none 0 0,.int .i64 0,.int .u64 0,.slice none 0 0]
theorem Zg6(a:List (Nat×Value)):Tryz.prog.built 184 a=Instr.fill (#[(0,1),(1,1),(2,96),(98,1),(99,1),(100,3),(103,1)][·]?) (JE (.pointer none) (.pointer none) (List.replicate 96 (.int .i64 0)) planT).toArray a:=by kernel_rfl
theorem Zm2(b e so:Nat)(a:Nat->Int)(cl:Bool)(c:Nat):Tryz.prog.built 184 [(0,.pointer (some ⟨b,0,none⟩)),(1,.pointer (some ⟨e,so,none⟩)),(2,.agg (ndL a).toArray),(3,.bool cl),(4,.int .i64 (c:Nat))]=some (J4 b e so a cl c (.slice none 0 0) 0 0 (.slice none 0 0)).toArray:=by
 have d:(List.replicate 96 (Value.int .i64 0)).length=96:=List.length_replicate;rw[Zg6,Uh (off:=0) (size:=1) rfl rfl (by rw[Ui _ _ _ _ d rfl];decide)];rw[show(Value.pointer (some ⟨b,0,none⟩)).cells.toList=[.pointer (some ⟨b,0,none⟩)] from rfl,ZnY];rw[Uh (off:=1) (size:=1) rfl rfl (by rw[Ui _ _ _ _ d rfl];decide)];rw[show(Value.pointer (some ⟨e,so,none⟩)).cells.toList=[.pointer (some ⟨e,so,none⟩)] from rfl,ZnX];rw[Uh (off:=2) (size:=96) rfl (by show(ndL a).toArray.size=96;simp[Jp]) (by rw[Ui _ _ _ _ d rfl];decide)];rw[show(Value.agg (ndL a).toArray).cells.toList=ndL a from rfl,ZnW _ _ _ _ _ (by rw[Jp,d])];rw[Uh (off:=98) (size:=1) rfl rfl (by rw[Ui _ _ _ _ (Jp a) rfl];decide)];rw[show(Value.bool cl).cells.toList=[.bool cl] from rfl,ZkS _ _ _ _ _ (Jp a) 0];rw[Uh (off:=99) (size:=1) rfl rfl (by rw[Ui _ _ _ _ (Jp a) rfl];decide)];rw[show(Value.int .i64 (c:Nat)).cells.toList=[.int .i64 (c:Nat)] from rfl,ZkS _ _ _ _ _ (Jp a) 1]
 rfl
theorem Zen{P:Program}{o:Oper}{a:Act}(X:World)(t:TypeId)(c:Array (Nat×Operand))(ho:o.op = .build t c){vs:Array (Nat×Value)}(e:(c.map fun (i,x)=>(i,a.eval x))=vs){b:Array Value}(d:P.built t vs.toList=some b):(execOp a.eval o).run P X = .ok (.value (.agg b)) X:=by
 unfold execOp;simp only[ho,Sem.run_bind,e];rw[run_build X t vs b d]
 rfl
theorem Zmi{P:Program}{c:Array Oper}{o:Oper}{a:Act}{w:World}{K:Act->World->Prop}{Q:Exit->Act->World->Prop}{E:Prop}(d:o.guard=none)(t:TypeId)(x:Operand)(ho:o.op = .box t x)(b:LVa)(f:a.eval x = .agg b.toArray)
  (h:K (a.put o.dst (.pointer (some ⟨w.heap.size,0,none⟩))) (w.alloc (.cells b.toArray t))):if Region.wanted o (yielded c a.tmps)=true then Oper.wp P o a w K Q else E:=by
 have e:Region.wanted o (yielded c a.tmps)=true:=by simp[Region.wanted,d]
 rw[if_pos e];unfold Oper.wp execOp;simp only[ho,Instr.box,Sem.run_bind,f];simp[newVar,newRow,go_sem,Value.cells];exact h
theorem place0:DI (Dg []) 96 16%1536=16:=by
 have h:¬(16%16=0/\0<Dg [] (16/16%96)):=by rw[ZgP];decide
 rw[ZcX h]
theorem free0:DA (Dg [(((Dd 3 0 0:Nat):Int),((16:Nat):Int))]) 96=1504:=by
 have e:∀k,DA (Dg [(((Dd 3 0 0:Nat):Int),((16:Nat):Int))]) k=DA (fun j=>if j=0 then 2 else if j=1 then 1 else 0) k:=fun k=>by
  induction k with
  | zero=>rfl
  | succ k ih=>
   unfold DA;rw[ih]
   congr 1
   have c:Dg [(((Dd 3 0 0:Nat):Int),((16:Nat):Int))] k=if k=0 then 2 else if k=1 then 1 else 0:=by
    have:=Zfp [] (((Dd 3 0 0:Nat):Int),((16:Nat):Int)) k;rw[List.nil_append,ZgP]at this;rw[this];by_cases a:k=0
    ·subst a;decide
    ·by_cases b:k=1
     ·subst b;decide
     ·have d:¬((16:Nat):Int).toNat/16=k:=by rw[Int.toNat_natCast];omega
      rw[if_neg a,if_neg d,if_neg a,if_neg b];rfl
   rw[c]
 rw[e 96]
 decide
structure StW(w:World)(stb db:Nat)(vk:Value)(tp tx tn:Int)(vf vn vw ve:Value)(D:LY)(ps:LB)(es:List Int):Prop where
 row:RowIs w stb 179 [.pointer (some ⟨db,0,none⟩),vk,.int .i64 tp,.int .u64 tx,.int .u64 tn]
 disk:DO w db vf vn vw ve D
 sw:SlP w vw ps
 se:Sl w 3 1 ve es.length (es.map (.int .i64))
 ne:stb≠db
 ns:¬Own vn stb/\¬Own vw stb/\¬Own ve stb
 nd:¬Own vn db/\¬Own vw db/\¬Own ve db
 d1:∀k,Own vn k->¬Own vw k
 d2:∀k,Own vn k->¬Own ve k
 d3:∀k,Own vw k->¬Own ve k
theorem StW.below{w w':World}{d c:Nat}{l:Value}{f g e:Int}{j m vw i:Value}{D:LY}{ps:LB}{es:List Int}(h:StW w d c l f g e j m vw i D ps es)(a:Below w.heap.size w w'):StW w' d c l f g e j m vw i D ps es:=
 ⟨(a.block _ h.row.lt).trans h.row,⟨(a.block _ h.disk.1.lt).trans h.disk.1,⟨h.disk.2.1.1.kept (fun k b _=>a.block k b),h.disk.2.1.2⟩,h.disk.2.2⟩,Sl.kept h.sw (fun k b _=>a.block k b),h.se.kept (fun k b _=>a.block k b),h.ne,h.ns,h.nd,h.d1,h.d2,h.d3⟩
theorem StW.write{w w':World}{o c:Nat}{u:Value}{r t q:Int}{m f vw l:Value}{D:LY}{ps:LB}{es:List Int}(h:StW w o c u r t q m f vw l D ps es){p:Nat}{s:By}{e:Ending}(A:Zd2 w c m f vw l D ps p s e w'):
  ∃b,StW w' o c u r t q m f b l (D.set p s) (ps++[(p,s)]) es/\Dk w vw b/\Fr (fun k=>k=c\/Own f k\/Own vw k) w w':=by
 obtain⟨_,b,v,x,i,n⟩:=A;have d:∀k,k<w.heap.size->Own b k->Own vw k:=fun k a e=>(n k e).elim id (fun h'=>by omega)
 have z:=h.row.lt;have y:=h.disk.1.lt;refine⟨b,⟨h.row.fr i (fun e=>?_),v,x,h.se.fr i (fun g j e=>?_),h.ne,⟨h.ns.1,fun e=>h.ns.2.1 (d _ z e),h.ns.2.2⟩,⟨h.nd.1,fun e=>h.nd.2.1 (d _ y e),h.nd.2.2⟩,fun k a e=>h.d1 k a (d k (h.disk.2.1.1.lt a) e),h.d2,fun k a e=>h.d3 k (d k (h.se.lt e) a) e⟩,n,i⟩
 ·rcases e with e|e|e
  ·exact h.ne e
  ·exact h.ns.1 e
  ·exact h.ns.2.1 e
 ·rcases e with e|e|e
  ·subst e;exact h.nd.2.2 j
  ·exact h.d2 _ e j
  ·exact h.d3 _ e j
theorem StW.flush{w w':World}{p f:Nat}{t:Value}{r s q:Int}{l n vw c:Value}{D:LY}{ps:LB}{es:List Int}(h:StW w p f t r s q l n vw c D ps es){m:Int}{e:Ending}(z:ZfQ w f l n vw c es m e w'):
  ∃d,StW w' p f t r s q l n vw d D ps (es++[m])/\Dk w c d/\Fr (fun k=>k=f\/Own c k) w w':=by
 obtain⟨_,d,u,v,i,o⟩:=z;have j:∀k,k<w.heap.size->Own d k->Own c k:=fun k a e=>(o k e).elim id (fun h'=>by omega)
 have y:=h.row.lt;have x:=h.disk.1.lt;refine⟨d,⟨h.row.fr i (fun e=>?_),⟨u,⟨h.disk.2.1.1.fr i (fun g b e=>?_),h.disk.2.1.2⟩,h.disk.2.2⟩,Sl.fr h.sw i (fun g b e=>?_),by rw[List.length_append];exact v,h.ne,⟨h.ns.1,h.ns.2.1,fun e=>h.ns.2.2 (j _ y e)⟩,⟨h.nd.1,h.nd.2.1,fun e=>h.nd.2.2 (j _ x e)⟩,h.d1,fun k a e=>h.d2 k a (j k (h.disk.2.1.1.lt a) e),fun k a e=>h.d3 k a (j k (Sl.lt h.sw a) e)⟩,o,i⟩
 ·rcases e with e|e
  ·exact h.ne e
  ·exact h.ns.2.2 e
 ·rcases e with e|e
  ·subst e;exact h.nd.1 b
  ·exact h.d2 _ b e
 ·rcases e with e|e
  ·subst e;exact h.nd.2.1 b
  ·exact h.d3 _ b e
theorem Sl.len{w:World}{e:TypeId}{b:Nat}{a:OA}{l c n:Nat}{xs:LVa}(h:Sl w e b (.slice a l c) n xs):l=n:=by
 rcases h.2 with⟨e,rfl⟩|⟨g,aa,L,e,_⟩
 ·simp only[Value.slice.injEq]at e;exact e.2.1
 ·simp only[Value.slice.injEq]at e;exact e.2.1
theorem Zh2:∀{ps:LB},(∀x∈ps,x.2.size=64)->∀(i j:Nat) (x:Nat×By),ps[i]?=some x->j<65->(KR ps)[i*65+j]?=(pcL x.1 x.2)[j]?
 | [],_,i,j,s,hi,_=>by simp at hi
 | x::D,h,0,j,s,hi,hj=>by
  simp at hi;subst hi;have a:=h x List.mem_cons_self;unfold KR;rw[List.flatMap_cons,Nat.zero_mul,Nat.zero_add,List.getElem?_append_left (by rw[JS];omega)]
 | x::D,h,i+1,j,s,hi,hj=>by
  have a:=h x List.mem_cons_self;have:=Zh2 (ps:=D) (fun y b=>h y (List.mem_cons_of_mem _ b)) i j s (by simpa using hi) hj;unfold KR at this ⊢;rw[List.flatMap_cons,List.getElem?_append_right (by rw[JS];omega),JS,<-this]
  congr 1;omega
theorem SlP.range{w:World}{a:OA}{l c:Nat}{ps:LB}(h:SlP w (.slice a l c) ps)(d:∀x∈ps,x.2.size=64)(i:Nat)(x:Nat×By)(b:ps[i]?=some x):∃g,a=some ⟨g,0,none⟩/\l=ps.length/\w.rangeAt g (i*65) (pcL x.1 x.2):=by
 have ab:=(List.getElem?_eq_some_iff.1 b).1;rcases h.2 with⟨e,h0⟩|⟨g,aa,L,e,m,h1,h2,h3,k⟩
 ·omega
 ·simp only[Value.slice.injEq]at e;obtain⟨rfl,rfl,rfl⟩:=e;refine⟨g,rfl,rfl,fun j v f=>?_⟩;have ac:=d x (List.mem_of_getElem? b);have n:j<65:=by have:=(List.getElem?_eq_some_iff.1 f).1;rw[JS]at this;omega
  have:=Zh2 d i j x b n;rw[f,<-k,List.getElem?_take]at this
  split at this
  ·rw[m.cell];exact this
  ·cases this
def Jv(D:LY)(qs:LB):LY:=qs.foldl (fun D x=>D.set x.1 x.2) D
theorem ZjC(D:LY)(a:LB)(p:Nat)(s:By):Jv D (a++[(p,s)])=(Jv D a).set p s:=by simp[Jv]
theorem StW.head{w w':World}{c d:Nat}{p:Value}{n o m:Int}{i j vw f:Value}{D:LY}{ps:LB}{es:List Int}(h:StW w c d p n o m i j vw f D ps es)(b:Fr (fun k=>k=c) w w'){vk':Value}{tp' tx' tn':Int}(l:RowIs w' c 179 [.pointer (some ⟨d,0,none⟩),vk',.int .i64 tp',.int .u64 tx',.int .u64 tn']):StW w' c d vk' tp' tx' tn' i j vw f D ps es:=
 ⟨l,⟨h.disk.1.fr b (fun e=>h.ne e.symm),⟨h.disk.2.1.1.fr b (fun g a e=>h.ns.1 (by rw[<-e];exact a)),h.disk.2.1.2⟩,h.disk.2.2⟩,Sl.fr h.sw b (fun g a e=>h.ns.2.1 (by rw[<-e];exact a)),h.se.fr b (fun g a e=>h.ns.2.2 (by rw[<-e];exact a)),h.ne,h.ns,h.nd,h.d1,h.d2,h.d3⟩
def CarI(w:World)(stb db:Nat)(vk:Value)(tp tx tn:Int)(vf vn vw ve:Value)(D:LY)(ps:LB)(es:List Int)(qs:LB)(wr:World):Prop:=
 ∃vw',StW wr stb db vk tp tx tn vf vn vw' ve (Jv D qs) (ps++qs) es/\Dk w vw vw'/\Fr (fun k=>k=db\/Own vn k\/Own vw k) w wr
theorem CarI.start{w:World}{b a:Nat}{j:Value}{d e c:Int}{i k vw f:Value}{D:LY}{ps:LB}{es:List Int}(h:StW w b a j d e c i k vw f D ps es):CarI w b a j d e c i k vw f D ps es [] w:=
 ⟨vw,by rw[List.append_nil];exact h,fun g l => .inl l,Fr.refl _ _⟩
theorem StW.write_call{w:World}{i a:Nat}{m:Value}{k l j:Int}{c d vw b:Value}{D:LY}{ps:LB}{es:List Int}(h:StW w i a m k l j c d vw b D ps es)(e:ps.length<=1000000000)(p:Nat)(f:p<1536)(s:By)(g:s.size=64):Calls Tryz.prog 159 #[.pointer (some ⟨a,0,none⟩),pcV p s] w (Zd2 w a c d vw b D ps p s):=
 Ze7 w a c d vw b D ps h.disk h.sw h.nd.1 h.nd.2.1 h.d1 e p f s g
theorem CarI.step{w wr X:World}{o b:Nat}{x:Value}{r t q:Int}{v f vw u:Value}{D:LY}{ps:LB}{es:List Int}{i:LB}(h:CarI w o b x r t q v f vw u D ps es i wr)(d:Below wr.heap.size wr X)(hl:ps.length+i.length<=1000000000)(p:Nat)(B:p<1536)(s:By)(C:s.size=64):
  Calls Tryz.prog 159 #[.pointer (some ⟨b,0,none⟩),pcV p s] X fun e w'=>e = .returned (.tuple #[])/\CarI w o b x r t q v f vw u D ps es (i++[(p,s)]) w'/\∀k,wr.heap.size<=k->k<X.heap.size->w'.heap[k]?=X.heap[k]? := by
 obtain⟨G,c,j,l⟩:=h;have A:∀k,k=b\/Own f k\/Own G k->k<wr.heap.size:=fun k a=>by
  rcases a with rfl|a|a
  ·exact c.disk.1.lt
  ·exact c.disk.2.1.1.lt a
  ·exact Sl.lt c.sw a
 refine((c.below d).write_call (by rw[List.length_append];omega) p B s C).mono ?_;intro e w' m;obtain⟨H,E,F,n⟩:=(c.below d).write m;refine⟨m.1,⟨H,by rw[ZjC,<-List.append_assoc];exact E,fun g y=>?_,?_⟩,fun k a z=>n.block k z (fun e=>by have:=A k e;omega)⟩
 ·rcases F g y with e|e
  ·exact j g e
  ·exact .inr (by have:=l.size;have:=d.size;omega)
 ·refine(l.then (Fr.of_below (X:=fun k=>k=b\/Own f k\/Own vw k) d) (fun _ _ e=>e)).then n (fun k a e=>?_);rcases e with e|e|e
  ·exact .inl e
  ·exact .inr (.inl e)
  ·exact(j k e).elim (fun e => .inr (.inr e)) (fun e=>by omega)
def StO(stb db:Nat)(vn vw ve:Value)(k:Nat):Prop:=k=stb\/k=db\/Own vn k\/Own vw k\/Own ve k
def Zid(w:World)(stb db T:Nat)(vf vn vw ve:Value)(D:LY)(ps:LB)(es:List Int)(va:Value)(eP:LI)(tp tx:Nat)(qs:LB)(e:Ending)(w':World):Prop:=
 e = .returned (.tuple #[])/\∃vw' ve',StW w' stb db va (tp:Nat) (tx:Nat) ((T:Nat):Int) vf vn vw' ve' ((Jv D qs).set (T%2) (ckB T tp tx)) (ps++qs++[(T%2,ckB T tp tx)]) (es++[((ps.length+qs.length:Nat):Int)]++[((ps.length+qs.length+1:Nat):Int)])/\Dk w vw vw'/\Dk w ve ve'/\Fr (StO stb db vn vw ve) w w'/\Sl w' 350 2 va eP.length (Ds eP)/\∀k,Own va k->¬StO stb db vn vw' ve' k
theorem Zdn{w w1:World}{v a b:Value}(c:Dk w v a)(d:Dk w1 a b)(h:w.heap.size<=w1.heap.size):Dk w v b:=fun g f=>(d g f).elim (c g) (fun e => .inr (Nat.le_trans h e))
theorem Zg5(t p x:Int):Tryz.prog.built 191 [(0,.int .u64 t),(1,.agg #[.int .i64 p,.int .u64 x])]=some #[.int .u64 t,.int .i64 p,.int .u64 x]:=by kernel_rfl
theorem Zkh(w:World)(a b pb:Nat)(E:Value)(A B:Int)(L:Nat)(q l vw m:Value)(D:LY)(ps:LB)(es:List Int)(h:StW w a b E A B (L:Nat) q l vw m D ps es)
  (d1 sb so:Nat) (nd:Nat->Int) (cl:Bool) (hd:Nat) (va:Value) (eP:LI) (d f:Nat) (vp:Value) (c:LB) (n:PlanW w pb d1 sb so nd cl hd va eP (d:Nat) (f:Nat) vp c)
  (hq:∀x∈c,x.1<1536/\x.2.size=64) (aP:0<c.length) (hl:ps.length+c.length<=999999999) (bf:es.length<=999999998) (T:Nat) (hT:L+1=T) (aS:T<18446744073709551616) (aT:d<65536) (aU:f<18446744073709551616)
  (y:∀k,k=pb\/Own vp k\/Own va k->¬StO a b l vw m k):
  Calls Tryz.prog 133 #[.pointer (some ⟨a,0,none⟩),.pointer (some ⟨pb,0,none⟩)] w (Zid w a b T q l vw m D ps es va eP d f c):=by
 obtain⟨N,hN⟩:∃N,N=c.length:=⟨_,rfl⟩;have am:∀x∈c,x.2.size=64:=fun x hx=>(hq x hx).2
 obtain⟨ap,t,cp,rfl⟩:=Sl.shape n.sp;obtain⟨O,U,P,rfl⟩:=n.sa.shape;obtain⟨x0,aW⟩:∃x,c[0]?=some x:=⟨_,List.getElem?_eq_getElem aP⟩;obtain⟨g,rfl,aJ,-⟩:=SlP.range n.sp am 0 x0 aW;rw[<-hN]at aJ;subst aJ;have bq:=n.cells.2.2.2.2.2.2;have bv:=n.row.lt;have bx:=h.row.lt;have bi:¬a=pb:=fun e=>y pb (.inl rfl) (.inl e.symm)
 have a1:=Db (CarI.start h);have az:Hid (∀k,k<t->∀wr,CarI w a b E A B (L:Nat) q l vw m D ps es (c.take k) wr->∃p s,s.size=64/\wr.rangeAt g (k*65) (pcL p s)/\∃W o,wr.alloc (.cells (pcL 0 (Dp 64)).toArray 207)=W/\RowIs W wr.heap.size 207 (pcL 0 (Dp 64))/\W.setRow wr.heap.size (pcL p s).toArray=o/\o.cell? ⟨a,0,none⟩=some (.pointer (some ⟨b,0,none⟩))/\o.rangeAt wr.heap.size 0 (pcL p s)/\Hid (Calls Tryz.prog 159 #[.pointer (some ⟨b,0,none⟩),pcV p s] o.drew fun e w'=>e = .returned (.tuple #[])/\w'.cell? ⟨a,0,none⟩=some (.pointer (some ⟨b,0,none⟩))/\w'.rangeAt wr.heap.size 0 (pcL p s)/\Hid (CarI w a b E A B (L:Nat) q l vw m D ps es (c.take (k+1)) w'))):=fun k r wr G=>by
  obtain⟨⟨p,s⟩,hx⟩:∃x,c[k]?=some x:=⟨_,List.getElem?_eq_getElem (by omega)⟩;have ao:=hq _ (List.mem_of_getElem? hx);have a8:=G;obtain⟨F,u,q2,q3⟩:=a8;have a9:SlP wr (.slice (some ⟨g,0,none⟩) t cp) c:=Sl.fr n.sp q3 (fun k r e=>y k (.inr (.inl r)) (by rcases e with e|e|e;exact .inr (.inl e);exact .inr (.inr (.inl e));exact .inr (.inr (.inr (.inl e)))));obtain⟨g',be,-,af⟩:=SlP.range a9 am k _ hx
  cases be
  obtain⟨W,Q,xW,kW,sW,bW⟩:=De wr (pcL 0 (Dp 64)) 207;obtain⟨o,ab⟩:∃X,W.setRow wr.heap.size (pcL p s).toArray=X:=⟨_,rfl⟩;have an:RowIs o wr.heap.size 207 (pcL p s):=by rw[<-ab];exact setRow_heap W _ _ _ 207 _ xW
  have ac:Below wr.heap.size wr o:=by rw[<-ab];exact bW.trans ⟨rfl,rfl,rfl,by simp,fun j hj=>setRow_other W _ j _ (by omega)⟩
  have ba:Below wr.heap.size wr o.drew:=⟨ac.os,ac.tape,ac.output,ac.size,ac.block⟩;have I:RowIs o a 179 _:=(ac.block _ u.row.lt).trans u.row;refine⟨p,s,ao.2,af,W,o,Q,xW,ab,(I.cell 0).trans rfl,fun j v hv=>by rw[an.cell,Nat.zero_add];exact hv,?_⟩;refine(G.step ba (by rw[List.length_take];omega) p ao.1 s ao.2).mono ?_;rintro e w' ⟨rfl,J,r2⟩;have bk:RowIs w' wr.heap.size 207 (pcL p s):=(r2 _ (Nat.le_refl _) an.lt).trans an;have e1:c.take (k+1)=c.take k++[(p,s)]:=by rw[List.take_add_one,hx];rfl
  rw[<-e1]at J;obtain⟨bl,t1,-⟩:=id J;exact⟨rfl,(t1.row.cell 0).trans rfl,fun j v hv=>by rw[bk.cell,Nat.zero_add];exact hv,J⟩
 have ay:Hid (∀wr,CarI w a b E A B (L:Nat) q l vw m D ps es c wr->wr.cell? ⟨a,0,none⟩=some (.pointer (some ⟨b,0,none⟩))/\Hid (Calls Tryz.prog 200 #[.pointer (some ⟨b,0,none⟩)] wr fun e w'=>e = .returned (.tuple #[])/\w'.cell? ⟨pb,103,none⟩=some (.slice (some ⟨g,0,none⟩) t cp)/\w'.cell? ⟨a,4,none⟩=some (.int .u64 (L:Nat))/\w'.frozen? ⟨a,4,none⟩=false/\∃W,w'.setCell ⟨a,4,none⟩ (.int .u64 ((T:Nat):Int))=W/\
   W.cell? ⟨a,0,none⟩=some (.pointer (some ⟨b,0,none⟩))/\W.cell? ⟨a,4,none⟩=some (.int .u64 ((T:Nat):Int))/\W.cell? ⟨pb,101,none⟩=some (.int .i64 (d:Nat))/\W.cell? ⟨pb,102,none⟩=some (.int .u64 (f:Nat))/\
   Hid (∃F C,StW W a b E A B ((T:Nat):Int) q l F C (Jv D c) (ps++c) (es++[((ps.length+c.length:Nat):Int)])/\Dk w vw F/\Dk w m C/\Fr (StO a b l vw m) w W))):=fun wr G=>by
  obtain⟨F,u,q2,q3⟩:=G;obtain⟨av,lv,cv,rfl⟩:=Sl.shape u.sw;have aj:=Sl.len u.sw;refine⟨(u.row.cell 0).trans rfl,?_⟩;refine(Zel wr b q l m av lv cv u.disk.1 es u.se u.nd.2.2 (by omega)).mono ?_;intro e w' hw;obtain⟨C,J,r2,r3⟩:=u.flush hw;have ak:lv=ps.length+c.length:=by rw[aj,List.length_append]
  subst ak;have bj:=q3.size;have aF:Fr (StO a b l vw m) w w':=(q3.mono (Y:=StO a b l vw m) (fun k _ e=>by rcases e with e|e|e;exact .inr (.inl e);exact .inr (.inr (.inl e));exact .inr (.inr (.inr (.inl e))))).then r3 (fun k _ e=>by rcases e with e|e;exact .inr (.inl e);exact .inr (.inr (.inr (.inr e))));have aK:RowIs w' pb 184 _:=n.row.fr aF (y pb (.inl rfl));have I:=J.row.set 4 (.int .u64 ((T:Nat):Int));have ad:Fr (fun k=>k=a) w' (w'.setCell ⟨a,4,none⟩ (.int .u64 ((T:Nat):Int))):=(Fr.refl _ _).set _ _ rfl;have aL:RowIs (w'.setCell ⟨a,4,none⟩ (.int .u64 ((T:Nat):Int))) pb 184 _:=aK.fr ad (fun e=>bi e.symm);have r4:=J.head ad (vk':=E) (tp':=A) (tx':=B) (tn':=((T:Nat):Int)) I;refine⟨hw.1,(aK.cell 103).trans (Jk _ _ _ _ _ _ _ _ _ _ 5),(J.row.cell 4).trans rfl,J.row.frozen 4,_,rfl,(I.cell 0).trans rfl,(I.cell 4).trans rfl,(aL.cell 101).trans (Jk _ _ _ _ _ _ _ _ _ _ 3),(aL.cell 102).trans (Jk _ _ _ _ _ _ _ _ _ _ 4),_,C,r4,q2,Zdn (fun g hg => .inl hg) r2 bj,aF.then ad (fun k _ e => .inl e)⟩
 obtain⟨VK,ah⟩:∃V,V=pcV (T%2) (ckB T d f):=⟨_,rfl⟩;have ax:Hid (∀W,W.cell? ⟨a,0,none⟩=some (.pointer (some ⟨b,0,none⟩))/\W.cell? ⟨a,4,none⟩=some (.int .u64 ((T:Nat):Int))/\W.cell? ⟨pb,101,none⟩=some (.int .i64 (d:Nat))/\W.cell? ⟨pb,102,none⟩=some (.int .u64 (f:Nat))->Hid (∃F C,StW W a b E A B ((T:Nat):Int) q l F C (Jv D c) (ps++c) (es++[((ps.length+c.length:Nat):Int)])/\Dk w vw F/\Dk w m C/\Fr (StO a b l vw m) w W)->
   Calls Tryz.prog 160 #[.agg #[.int .u64 ((T:Nat):Int),.int .i64 (d:Nat),.int .u64 (f:Nat)]] W.drew fun e X=>e = .returned VK/\(X.cell? ⟨a,0,none⟩=some (.pointer (some ⟨b,0,none⟩))/\X.cell? ⟨a,4,none⟩=some (.int .u64 ((T:Nat):Int))/\X.cell? ⟨pb,101,none⟩=some (.int .i64 (d:Nat))/\X.cell? ⟨pb,102,none⟩=some (.int .u64 (f:Nat)))/\
    Hid (Calls Tryz.prog 159 #[.pointer (some ⟨b,0,none⟩),VK] X fun e Y=>e = .returned (.tuple #[])/\(Y.cell? ⟨a,0,none⟩=some (.pointer (some ⟨b,0,none⟩))/\Y.cell? ⟨a,4,none⟩=some (.int .u64 ((T:Nat):Int))/\Y.cell? ⟨pb,101,none⟩=some (.int .i64 (d:Nat))/\Y.cell? ⟨pb,102,none⟩=some (.int .u64 (f:Nat)))/\
     Hid (Calls Tryz.prog 200 #[.pointer (some ⟨b,0,none⟩)] Y fun e Z=>e = .returned (.tuple #[])/\RowIs Z a 179 [.pointer (some ⟨b,0,none⟩),E,.int .i64 A,.int .u64 B,.int .u64 ((T:Nat):Int)]/\Z.cell? ⟨pb,100,none⟩=some (.slice O U P)/\Z.cell? ⟨pb,101,none⟩=some (.int .i64 (d:Nat))/\Z.cell? ⟨pb,102,none⟩=some (.int .u64 (f:Nat))/\
      Hid (Zid w a b T q l vw m D ps es (.slice O U P) eP d f c (.returned (.tuple #[])) (((Z.setCell ⟨a,1,none⟩ (.slice O U P)).setCell ⟨a,2,none⟩ (.int .i64 (d:Nat))).setCell ⟨a,3,none⟩ (.int .u64 (f:Nat))))))):=fun W hc hh=>by
  obtain⟨F,C,s1,s2,s3,s4⟩:=Da hh;have bc:=U5 T d f;refine(Zee W.drew T d f aS aT aU).mono ?_;rintro e X ⟨rfl,R⟩;have ae:Below W.heap.size W X:=⟨R.os,R.tape,R.output,R.size,R.block⟩;have aM:RowIs W pb 184 _:=n.row.fr s4 (y pb (.inl rfl));have bw:=s4.size;have bn:=ae.size;have ag:=s1.below ae;have aN:RowIs X pb 184 _:=(ae.block _ aM.lt).trans aM;refine⟨by rw[ah],⟨(ag.row.cell 0).trans rfl,(ag.row.cell 4).trans rfl,(aN.cell 101).trans (Jk _ _ _ _ _ _ _ _ _ _ 3),(aN.cell 102).trans (Jk _ _ _ _ _ _ _ _ _ _ 4)⟩,?_⟩;rw[ah];refine(ag.write_call (by rw[List.length_append];omega) (T%2) (by omega) _ bc).mono ?_;intro e Y hw;obtain⟨bl,M,u2,u3⟩:=ag.write hw;have bg:∀k,k<w.heap.size->(k=b\/Own l k\/Own F k)->StO a b l vw m k:=fun k r e=>by
   rcases e with e|e|e
   ·exact .inr (.inl e)
   ·exact .inr (.inr (.inl e))
   ·exact(s2 k e).elim (fun e => .inr (.inr (.inr (.inl e)))) (fun e=>by omega)
  have bd:Fr (StO a b l vw m) w X:=s4.then (Fr.of_below (X:=fun _=>False) ae) (fun _ _ e=>e.elim);have aG:Fr (StO a b l vw m) w Y:=bd.then u3 bg;have aO:RowIs Y pb 184 _:=n.row.fr aG (y pb (.inl rfl));have bo:=u3.size;refine⟨hw.1,⟨(M.row.cell 0).trans rfl,(M.row.cell 4).trans rfl,(aO.cell 101).trans (Jk _ _ _ _ _ _ _ _ _ _ 3),(aO.cell 102).trans (Jk _ _ _ _ _ _ _ _ _ _ 4)⟩,?_⟩;obtain⟨av,lv,cv,rfl⟩:=Sl.shape M.sw;have aj:=Sl.len M.sw;have ak:lv=ps.length+c.length+1:=by rw[aj,List.length_append,List.length_append];rfl
  subst ak;refine(Zel Y b q l C av _ cv M.disk.1 _ M.se M.nd.2.2 (by rw[List.length_append];simp;omega)).mono ?_;intro e Z hz;obtain⟨aY,v1,v2,v3⟩:=M.flush hz;have aH:Fr (StO a b l vw m) w Z:=aG.then v3 (fun k r e=>by
   rcases e with e|e
   ·exact .inr (.inl e)
   ·exact(s3 k e).elim (fun e => .inr (.inr (.inr (.inr e)))) (fun e=>by omega))
  have al:RowIs Z pb 184 _:=n.row.fr aH (y pb (.inl rfl));have ad:Fr (fun k=>k=a) Z (((Z.setCell ⟨a,1,none⟩ (.slice O U P)).setCell ⟨a,2,none⟩ (.int .i64 (d:Nat))).setCell ⟨a,3,none⟩ (.int .u64 (f:Nat))):=(((Fr.refl (fun k=>k=a) Z).set ⟨a,1,none⟩ (.slice O U P) rfl).set ⟨a,2,none⟩ (.int .i64 (d:Nat)) rfl).set ⟨a,3,none⟩ (.int .u64 (f:Nat)) rfl;have z:=((v1.row.set 1 (.slice O U P)).set 2 (.int .i64 (d:Nat))).set 3 (.int .u64 (f:Nat));have aI:Fr (StO a b l vw m) w (((Z.setCell ⟨a,1,none⟩ (.slice O U P)).setCell ⟨a,2,none⟩ (.int .i64 (d:Nat))).setCell ⟨a,3,none⟩ (.int .u64 (f:Nat))):=aH.then ad (fun k _ e => .inl e);have n1:Dk w vw (.slice av (ps.length+c.length+1) cv):=Zdn s2 u2 (by omega);have n2:Dk w m aY:=Zdn s3 v2 (by omega);refine⟨hz.1,v1.row,(al.cell 100).trans (Jk _ _ _ _ _ _ _ _ _ _ 2),(al.cell 101).trans (Jk _ _ _ _ _ _ _ _ _ _ 3),(al.cell 102).trans (Jk _ _ _ _ _ _ _ _ _ _ 4),rfl,_,aY,v1.head ad z,n1,n2,aI,n.sa.fr aI (fun k r=>y k (.inr (.inr r))),fun k r e=>?_⟩;have bs:=n.sa.lt r;refine y k (.inr (.inr r)) ?_;rcases e with e|e|e|e|e
  ·exact .inl e
  ·exact .inr (.inl e)
  ·exact .inr (.inr (.inl e))
  ·exact(n1 k e).elim (fun e => .inr (.inr (.inr (.inl e)))) (fun e=>by omega)
  ·exact(n2 k e).elim (fun e => .inr (.inr (.inr (.inr e)))) (fun e=>by omega)
 have a3:=Db hN;have bz:IntKind.u64.wrap ((L:Int)+1)=((T:Nat):Int):=by simp[IntKind.wrap,IntKind.bits,IntKind.signed];omega
 have bt:¬(t:Int)=0:=by omega
 have bu:t<=999999999:=by omega
 obtain⟨dd,aV,aQ⟩:=Zku;have aZ:=Db (Zg5 ((T:Nat):Int) (d:Nat) (f:Nat));clear hT h n hq am aP hl bf aS aT aU y aW ah hN;go_enter Tryz.func133,Tryz.ntmps133;go_wp2
 go_loopw [11] (fun i wr=>∃k:Nat,k<=t/\i = .int .i64 k/\Hid (CarI w a b E A B (L:Nat) q l vw m D ps es (c.take k) wr)) (fun i _=>t-(intOf i).toNat)
 case atStart=>exact⟨0,Nat.zero_le _,rfl,by rw[List.take_zero];exact Da a1⟩
 case round=>
  obtain⟨k,r,rfl,HI⟩:=hrel;by_cases bh:k<t
  ·obtain⟨p,s,aR,af,W,o,Q,aX,ab,bb,I,aA⟩:=Da az k bh wr (Da HI);have HR:=Db af;have HW:=Db Q;have HX:=Db aX;have a5:=Db ab;have aC:(pcL p s).length=65:=by rw[JS,aR]
   have HL:=Db aC;have br:(k:Int)<(t:Int):=by omega
   obtain⟨VP,ai⟩:∃V,V=pcV p s:=⟨_,rfl⟩;have a4:=Db ai;have a0:=Db I;rw[<-ai]at aA;clear af Q aX ab aC ai aR I;go_upto_region 3 with(first|(refine wpList_load_mid rfl 207 _ rfl g (k*65) rfl (pcL p s) _ (Da HR) aV aQ (by rw[Qu,Da HL]) ?_)|(refine JO rfl 207 rfl Zii ?_;rw[show wr.alloc (.cells (pcL 0 (Dp 64)).toArray 207)=W from Da HW])|(refine wpList_store_row rfl 207 _ _ rfl wr.heap.size (pcL p s).toArray rfl rfl 207 _ (Da HX) (by rw[Qu];simp[Da HL]) (by simp[Da HL,JS,Jq]) (all_oneCell_toArray (Ziv _ _)) ?_;rw[Da a5]));refine wp_region_held_drew (S:=fun X=>X.cell? ⟨a,0,none⟩=some (.pointer (some ⟨b,0,none⟩))/\X.rangeAt wr.heap.size 0 (pcL p s)) (by kernel_rfl) ⟨bb,Da a0⟩ (fun aB=>?_);refine tk 0 ?_;try simp only[pE];refine tk 1 ?_;try simp only[pE];refine tk 2 ?_;try simp only[pE];refine tk 3 ?_;try simp only[pE];refine wpAnyH_take (i:=4) (v:=VP) rfl (by kernel_rfl) (by kernel_rfl) (by kernel_rfl) (fun _ _ _ h=>h) (by rw[Da a4];exact yieldsIf_load_mid (by rfl) 207 _ rfl wr.heap.size 0 rfl (pcL p s) _ (fun X R=>R.2) aV aQ (by rw[Qu,Da HL])) (by assumption) ?_
   (try simp only[pE])
   refine rk 5 (fun K H=>?_);go_simp;go_at_call 159;refine(Da aA).mono ?_;rintro e w' ⟨rfl,c3,r3,a2⟩;go_wp2_with fail;refine H.out _ _ ⟨c3,r3⟩ (fun bm=>?_);clear H K
   (try simp only[pE])
   refine wpAnyH_done (by kernel_rfl) ?_ _;go_wp2
   go_roundw
   case rel=>exact⟨k+1,by omega,by go_num,a2⟩
   case measure=>simp[intOf];omega
  ·obtain rfl:k=t:=by omega
   have G:=Da HI;rw[List.take_of_length_le (Nat.le_of_eq (Da a3).symm)]at G;obtain⟨bp,HF⟩:=Da ay wr G;clear G HI ay az;go_upto_region 8 with(go_at_call 200;refine(Da HF).mono ?_;rintro e w3 ⟨rfl,m1,m2,m3,W,Q,m4,m5,m6,m7,HS⟩;have HW:=Db Q;clear Q HF);rw[show w3.setCell ⟨a,4,none⟩ (.int .u64 ((T:Nat):Int))=W from Da HW];clear HW m1 m2 m3;have aq:=Da ax W ⟨m4,m5,m6,m7⟩ HS;have ar:=Db aq;clear aq ax HS;refine wp_region_held_drew (S:=fun X=>X.cell? ⟨a,0,none⟩=some (.pointer (some ⟨b,0,none⟩))/\X.cell? ⟨a,4,none⟩=some (.int .u64 ((T:Nat):Int))/\X.cell? ⟨pb,101,none⟩=some (.int .i64 (d:Nat))/\X.cell? ⟨pb,102,none⟩=some (.int .u64 (f:Nat))) (by kernel_rfl) ⟨m4,m5,m6,m7⟩ (fun aB=>?_);refine tk 0 ?_;try simp only[pE];refine tk 1 ?_;try simp only[pE];refine tk 2 ?_;try simp only[pE];refine tk 3 ?_;try simp only[pE];refine tk 4 ?_;try simp only[pE];refine tk 5 ?_;try simp only[pE];refine tk 6 ?_;try simp only[pE];refine tk 7 ?_;try simp only[pE];refine tk 8 ?_;try simp only[pE];refine tk 9 ?_;try simp only[pE];refine tk 10 ?_;try simp only[pE];refine tk 11 ?_;try simp only[pE];refine tk 12 ?_;try simp only[pE];refine wpAnyH_take (i:=13) (v := .agg #[.int .u64 ((T:Nat):Int),.int .i64 (d:Nat),.int .u64 (f:Nat)]) rfl (by kernel_rfl) (by kernel_rfl) (by kernel_rfl) (fun _ _ _ h=>h) (Or.inl ⟨by rfl,fun V _=>Zen V 191 _ rfl (vs := #[(0,.int .u64 ((T:Nat):Int)),(1,.agg #[.int .i64 (d:Nat),.int .u64 (f:Nat)])]) (by simp[Act.eval]) (Da aZ)⟩) (by assumption) ?_
   (try simp only[pE])
   refine rk 14 (fun K H=>?_);go_simp;go_at_call 160;refine(Da ar).mono ?_;rintro e X ⟨rfl,aD,au⟩;go_wp2_with fail;refine H.out _ _ aD (fun a6=>?_);clear H K
   (try simp only[pE])
   refine rk 15 (fun K H=>?_);go_simp;go_at_call 159;refine(Da au).mono ?_;rintro e Y ⟨rfl,aE,aw⟩;go_wp2_with fail;refine H.out _ _ aE (fun a7=>?_);clear H K
   (try simp only[pE])
   refine wpAnyH_done (by kernel_rfl) ?_ _;obtain⟨y0,y1,y2,y3⟩:=aE;clear ar au a6 a7 aB aD m4 m5 m6 m7;go_wp2_with (go_at_call 200;refine(Da aw).mono ?_;rintro e Z ⟨rfl,z,z0,z1,z2,HP⟩;have b1:=z.cell 1;have b2:=z.cell 2;have b3:=z.cell 3;have g1:=z.frozen 1;have g2:=z.frozen 2;have g3:=z.frozen 3;clear z aw y0 y1 y2 y3)
   go_end0
   exact Da HP
end Go.Proofs.YtaieidcohdhgpaaGreatDoor
