/- Cleaned. -/
import Derived.Test.YtaieidcohdhgpaaGreatDoorPAN
import Derived.Test.YtaieidcohdhgpaaGreatDoorPAO
namespace Go.Proofs.YtaieidcohdhgpaaGreatDoor
set_option maxHeartbeats 8000000
set_option maxRecDepth 100000
section
open Go.RowKit Go.Shelf
attribute [local go_sem] Oper.semAt_some
theorem Zlo:(Tryz.prog.info? 181).map (fun i=>(i.zero,i.size))=some (some (.agg (List.replicate 96 (.int .i64 0)).toArray),96):=by kernel_rfl
theorem Zkn:∀w,(zeroValue 181).run Tryz.prog w = .ok (.agg (List.replicate 96 (.int .i64 0)).toArray) w:=(zero_of_info Zlo).1
theorem UP:(Tryz.prog.info? 181).map (·.size)=some 96:=(zero_of_info Zlo).2
theorem Zkw:Tryz.prog.underlying 181=some (.array 96 3):=by kernel_rfl
theorem Zm3:Tryz.prog.built 181 [(0,.int .i64 2)]=some (Value.int .i64 2::List.replicate 95 (.int .i64 0)).toArray:=by kernel_rfl
def ndL(f:Nat->Int):LVa:=(List.range 96).map (fun j => .int .i64 (f j))
theorem Jp(f:Nat->Int):(ndL f).length=96:=by simp[ndL]
theorem Zk2(f:Nat->Int):∀u∈ndL f,u.oneCell'=true:=fun u a=>by
 obtain⟨j,_,e⟩:=List.mem_map.1 a;rw[<-e];rfl
theorem Qm(f:Nat->Int)(j:Nat)(h:j<96):(ndL f)[j]?=some (.int .i64 (f j)):=by
 simp[ndL,h]
theorem Zk3{f g:Nat->Int}(h:∀j,j<96->f j=g j):ndL f=ndL g:=by
 unfold ndL;exact List.map_congr_left (fun j a=>by rw[h j (by simpa using a)])
def Dg(es:LI)(j:Nat):Int:=(if j=0 then 2 else 0)+(es.countP (fun x=>x.2.toNat/16==j):Nat)
theorem ZgP(j:Nat):Dg [] j=if j=0 then 2 else 0:=by simp[Dg]
theorem Zfp(es:LI)(y:Int×Int)(j:Nat):Dg (es++[y]) j=Dg es j+if y.2.toNat/16=j then 1 else 0:=by
 unfold Dg;rw[List.countP_append,List.countP_singleton];by_cases h:y.2.toNat/16=j
 ·simp[h];omega
 ·simp[h]
theorem Zk1(es:LI)(j:Nat):Dg es j<=2+es.length:=by
 have:=List.countP_le_length (p:=fun x:Int×Int=>x.2.toNat/16==j) (l:=es);unfold Dg;split<;>omega
theorem Zcp(es:LI)(j:Nat):0<=Dg es j:=by
 unfold Dg;split<;>omega
theorem Zn2(es:LI)(y:Int×Int)(x:Nat)(c:y.2.toNat/16=x)(a:x<96):(ndL (Dg es)).set x (.int .i64 (Dg es x+1))=ndL (Dg (es++[y])):=by
 apply List.ext_getElem?;intro j;rw[List.getElem?_set];by_cases e:x=j
 ·subst e;rw[if_pos rfl,if_pos (by rw[Jp];exact a),Qm _ _ a,Zfp,if_pos c]
 ·rw[if_neg e];by_cases b:j<96
  ·rw[Qm _ _ b,Qm _ _ b,Zfp,if_neg (fun h=>e (c.symm.trans h)),Int.add_zero]
  ·rw[List.getElem?_eq_none (by rw[Jp];omega),List.getElem?_eq_none (by rw[Jp];omega)]
theorem ZmA:(Value.int .i64 2::List.replicate 95 (.int .i64 0))=ndL (Dg []):=by
 have:ndL (Dg [])=ndL (fun j=>if j=0 then 2 else 0):=Zk3 (fun j _=>ZgP j);rw[this];rfl
def Q7(es:LI):Prop:=es.length<=10000/\SrtR es/\∀x∈es,∃p:Nat,x.2=p/\p<1536
theorem Zfo(w:World)(a so:Nat)(v:Value)(es:LI)(G:w.cell? ⟨a,so,none⟩=some v)(E:Sl w 350 2 v es.length (Ds es))(aF:Q7 es):
  Calls Tryz.prog 198 #[.pointer (some ⟨a,so,none⟩)] w fun e w'=>e = .returned (.agg (ndL (Dg es)).toArray)/\Below w.heap.size w w':=by
 obtain⟨hn,_,hp⟩:=aF;refine(callsIn_wide (n:=3)).1 ?_;refine callsIn_of_wp_marks Tryz.func198 rfl trivial ?_ rfl;simp only[Tryz.ntmps198,List.size_toArray,List.length_cons,List.length_nil,Nat.reduceAdd,Nat.reduceSub,Array.replicate_succ,Array.replicate_zero,List.push_toArray,List.append_toArray,List.nil_append,List.cons_append]
 gi_step
 gi_step
 refine wpIn_wide.2 (wp_region_lit ?_);refine JO rfl 181 rfl Zkn ?_;refine wpList_nil ?_;obtain⟨W,Q,aj,aA,m,aa⟩:=De w (List.replicate 96 (.int .i64 0)) 181;rw[show w.alloc (.cells (List.replicate 96 (Value.int .i64 0)).toArray 181)=W from Q];clear Q;rename_i d;refine d _ _ ?_;clear d
 gi_step
 refine wpIn_wide.2 (wp_region_lit ?_);refine Zck rfl 181 0 _ rfl (.int .i64 2) rfl (Zm3.trans (congrArg some (congrArg List.toArray ZmA))) ?_;refine JO rfl 181 rfl Zkn ?_;obtain⟨o,R,L,aB,ai,ab⟩:=De W (List.replicate 96 (.int .i64 0)) 181;rw[show W.alloc (.cells (List.replicate 96 (Value.int .i64 0)).toArray 181)=o from R];clear R;refine wpList_store_row rfl 181 _ _ rfl W.heap.size (ndL (Dg [])).toArray rfl rfl 181 _ L ?_ ?_ (all_oneCell_toArray (Zk2 _)) ?_
 ·rw[UP];simp[Jp]
 ·simp[Jp]
 refine wpList_nil ?_;have M:RowIs (o.setRow W.heap.size (ndL (Dg [])).toArray) W.heap.size 181 (ndL (Dg [])):=setRow_heap o _ _ _ 181 _ L;have u:Below W.heap.size W (o.setRow W.heap.size (ndL (Dg [])).toArray):=ab.trans ⟨rfl,rfl,rfl,by simp,fun j hj=>setRow_other o _ j _ (by omega)⟩;have ag:(o.setRow W.heap.size (ndL (Dg [])).toArray).heap.size=W.heap.size+1:=by simp[World.setRow,ai]
 obtain⟨q,S⟩:∃X,X=o.setRow W.heap.size (ndL (Dg [])).toArray:=⟨_,rfl⟩;rw[<-S]at M u ag ⊢;have F:Below w.heap.size w q:=aa.trans (u.mono (by omega));have ak:RowIs q w.heap.size 181 (List.replicate 96 (.int .i64 0)):=(u.block _ (by omega)).trans aj;have ah:a<w.heap.size:=World.block_lt_of_cell? _ _ G;have ay:q.cell? ⟨a,so,none⟩=some v:=(F.cell (p:=⟨a,so,none⟩) ah).trans G;have au:Sl q 350 2 v es.length (Ds es):=E.kept (fun k H _=>F.block k H);rename_i d;refine d _ _ ?_;clear d L aB S aA aj;have N:=Db M;have O:=Db ak;have B:=Db m;clear M ak m
 gi_wp2_with (refine⟨trivial,?_⟩;gi_at_call 235;refine(Zoz _ _ trivial rfl _ _).mono ?_;rintro e w' ⟨rfl,rfl⟩)
 rename_i K0 aq;obtain⟨f,T,al,I,aJ,aw⟩:=De q [.pointer (some ⟨a,so,none⟩)] 294;rw[show q.alloc (.cells #[Value.pointer (some ⟨a,so,none⟩)] 294)=f from T];clear T;have m:=Da B;have hA:RowIs f W.heap.size 181 (ndL (Dg [])):=I _ _ _ (Da N);have hR:RowIs f w.heap.size 181 (List.replicate 96 (.int .i64 0)):=I _ _ _ (Da O);have C:Below w.heap.size w f:=F.trans (aw.mono (by omega));have ar:Sl f 350 2 v es.length (Ds es):=E.kept (fun k H _=>C.block k H);have ax:f.cell? ⟨a,so,none⟩=some v:=(C.cell (p:=⟨a,so,none⟩) ah).trans G;have ap:f.cell? ⟨W.heap.size+1,0,none⟩=some (.pointer (some ⟨a,so,none⟩)):=by rw[<-ag];exact(al.cell 0).trans rfl
 have V:es.attach.map (fun x=>x.1)=es:=List.attach_map_subtype_val es;clear N O al I ay au u aa ab ai;refine wpIn_rangeFunc_ownF (α := { x // x∈es }) rfl (by omega) (gf:=270) (lb := #[.pointer (some ⟨W.heap.size+1,0,none⟩)]) rfl trivial (enters_of Tryz.func270 (by kernel_rfl) rfl)
  (Zki Fence.wide 2 trivial rfl (by omega) (W.heap.size+1) w.heap.size a so v (fun x=>x.1) es.attach (by simpa using hn) f (by omega) (by omega) (by omega) ap ax (by rw[V];simpa using ar) (fun g hg=>E.lt hg))
  belowK_t (belowK_b (by omega)) (Below.refl _ _) (fun _=>rfl)
  (fun b X=>RowIs X W.heap.size 181 (ndL (Dg (b.map (·.1))))/\RowIs X w.heap.size 181 (List.replicate 96 (.int .i64 0))/\Below w.heap.size w X)
  (fun _ _ _=>False)
  (OwnFrom.and (Own.from (Uk _ _ (fun b:List { x // x∈es }=>ndL (Dg (b.map (·.1))))) _) (OwnFrom.and (Own.from (Uk _ _ (fun _:List { x // x∈es }=>List.replicate 96 (.int .i64 0))) _) (ownFrom_below (Nat.le_refl _) (by omega))))
  (fun _ _ _ _ _ hs _ _=>hs)
  ⟨hA,hR,C⟩
  (fun x=>{ tmps := #[.pointer (some ⟨a,so,none⟩),undef,.pointer (some ⟨w.heap.size,0,none⟩),.pointer (some ⟨W.heap.size,0,none⟩),undef,.int .i64 x.1.2,.agg (ndL (Dg [])).toArray,.pointer (some ⟨a,so,none⟩),.pointer (some ⟨a,so,none⟩),.pointer (some ⟨a,so,none⟩),.func (.func 270) #[] #[.pointer (some ⟨W.heap.size+1,0,none⟩)],.int .u64 x.1.1,.int .i64 x.1.2,undef,undef,undef,undef,undef,undef,undef],defers:=[] })
  ?assign ?body ?done ?stop
 case assign=>
  intro l x X K d;clear m
  gi_wp2
  exact d
 case body=>
  rintro l b x X ⟨i,r,s⟩ ae;obtain⟨p,am,aH⟩:=hp x.1 x.2;obtain⟨y,hy⟩:∃y,y=p/16:=⟨_,rfl⟩;have an:y<96:=by omega
  have af:x.1.2.toNat/16=y:=by rw[am,Int.toNat_natCast,hy]
  have e1:(IntKind.i64.wrap ((p:Int)/16))=(y:Int):=by rw[IntKind.wrap_i64];omega
  have J:=Zn2 (b.map (·.1)) x.1 y af an;have ac:=Zk1 (b.map (·.1)) y;have aE:=Zcp (b.map (·.1)) y;rw[List.length_map]at ac;have aI:b.length<es.length:=by simpa using ae
  have aC:Dg (b.map (·.1)) y<=10002:=by omega
  have az:=(i.cell y).trans (Qm (Dg (b.map (·.1))) y an);have aG:=i.frozen y;obtain⟨z,hz⟩:∃z,z=Dg (b.map (·.1)) y:=⟨_,rfl⟩;rw[<-hz]at az aC aE J;have HI:=Db i;have ao:=Db J;have aK:(y:Int)<96:=by omega
  have aL:¬(96:Int)<=(y:Int):=by omega
  clear i J ac hy af hz ae m;rw[am]
  gi_wp2
  have m:=Da B;have A:RowIs (X.setCell ⟨W.heap.size,y,none⟩ (.int .i64 (z+1))) W.heap.size 181 (ndL (Dg ((b++[x]).map (·.1)))):=by
   have:=(Da HI).set y (.int .i64 (z+1));rw[Da ao]at this;rw[List.map_append];exact this
  have ad:w.heap.size<=W.heap.size:=by omega
  have aD:w.heap.size≠W.heap.size:=by omega
  exact⟨KeepsOthers.setCell _ _ _,(Below.refl w.heap.size X).setCell (p:=⟨W.heap.size,y,none⟩) ad _,A,(Below.heap_setCell _ _ _ _ aD).trans r,s.setCell (p:=⟨W.heap.size,y,none⟩) ad _⟩
 case done=>
  rintro D ys X hD rfl ⟨i,r,s⟩ d;show K0 _ _;refine aq _ _ ?_
  gi_step
  refine wpIn_wide.2 (wp_region_lit ?_);rw[V]at i;refine wpList_load_row rfl 181 _ rfl W.heap.size rfl 181 _ (0,0) _ i Zkw rfl ?_ ?_
  ·rw[UP];simp[Jp]
  refine wpList_store_row rfl 181 _ _ rfl w.heap.size (ndL (Dg es)).toArray rfl rfl 181 _ r ?_ ?_ (all_oneCell_toArray (Zk2 _)) ?_
  ·rw[UP];simp[Jp]
  ·simp[Jp]
  refine wpList_nil ?_;have A:RowIs (X.setRow w.heap.size (ndL (Dg es)).toArray) w.heap.size 181 (ndL (Dg es)):=setRow_heap X _ _ _ 181 _ r;have Z:Below w.heap.size w (X.setRow w.heap.size (ndL (Dg es)).toArray):=s.trans ⟨rfl,rfl,rfl,by simp,fun j hj=>setRow_other X _ j _ (by omega)⟩;have t:(X.setRow w.heap.size (ndL (Dg es)).toArray).heap[D]?=some (.deferred (some [])):=(setRow_other X _ D _ (by omega)).trans d;obtain⟨P,U⟩:∃Y,Y=X.setRow w.heap.size (ndL (Dg es)).toArray:=⟨_,rfl⟩;rw[<-U]at A Z t ⊢;clear U i r s d m
  gi_wp2
  have m:=Da B;refine⟨by simp,.inl ⟨_,_,rfl,run_takeDeferred t,?_⟩⟩;have av:=belowK_b (w:=w) (Nat.le_refl _) P D _ (.deferred none) (by omega) t rfl rfl;refine⟨_,results_cell_row rfl _ _ w.heap.size 181 _ (0,0) _ rfl ?_ Zkw rfl ?_,rfl,Z.trans av⟩
  ·exact((belowK_b (w:=W) (Nat.le_refl _) P D _ (.deferred none) (by omega) t rfl rfl).block w.heap.size (by omega)).trans A
  ·rw[UP];simp[Jp]
 case stop=>
  rintro D c b X _ _ h _;exact h.elim
theorem ZmH(w:World)(L:LVa)(k:Nat)(z:Int)(b:k<96)(a:L[k]?=some (.int .i64 z)):(Instr.index 181 (.agg L.toArray) (.int .i64 k)).run Tryz.prog w = .ok (.int .i64 z) w:=by
 have h1:(k:Int)<96:=by omega
 simp[Instr.index,run_underlying Zkw,go_sem];rw[if_pos b,a]
 rfl
def DA(f:Nat->Int):Nat->Nat
 | 0=>0
 | k+1=>DA f k+if f k=0 then 16 else 0
theorem Kc(f:Nat->Int):∀k,DA f k<=16*k
 | 0=>by simp[DA]
 | k+1=>by have:=Kc f k;unfold DA;split<;>omega
theorem ZbY(w:World)(h so:Nat)(v:Value)(es:LI)(p:w.cell? ⟨h,so,none⟩=some v)(o:Sl w 350 2 v es.length (Ds es))(d:Q7 es):
  Calls Tryz.prog 132 #[.pointer (some ⟨h,so,none⟩)] w fun e w'=>e = .returned (.int .i64 (DA (Dg es) 96:Nat))/\Below w.heap.size w w':=by
 have a:=Zfo w h so v es p o d;have B:∀j,Dg es j<=10002/\0<=Dg es j:=fun j=>⟨by have:=Zk1 es j;have:=d.1;omega,Zcp es j⟩
 obtain⟨f,r⟩:∃f,f=Dg es:=⟨_,rfl⟩;rw[<-r]at a B ⊢;clear r p o d;have l:Hid (∀j,j<96->(ndL f)[j]?=some (.int .i64 (f j))):=fun j C=>Qm f j C
 have m:Hid ((ndL f).length=96):=Jp f;obtain⟨L,n⟩:∃L,L=ndL f:=⟨_,rfl⟩;rw[<-n]at a l m;clear n;have u:=Db a;clear a;go_enter Tryz.func132,Tryz.ntmps132;go_wp2_with (go_at_call 198;refine(Da u).mono ?_;rintro e w1 ⟨rfl,A⟩)
 go_loop [3,8] (fun x i=>∃(k y:Nat),k<=96/\i = .int .i64 k/\x = .int .i64 y/\Hid (y=DA f k)) (fun _ i=>96-(intOf i).toNat)
 case atStart=>exact⟨0,0,Nat.zero_le _,rfl,rfl,rfl⟩
 case round=>
  obtain⟨k,y,hk,rfl,rfl,b⟩:=hrel;have ad:y<=1536:=by have:=Kc f k;rw[<-Da b]at this;omega
  by_cases s:k<96
  ·have q:=Da l k s;have ac:=Da m;have ab:(k:Int)<96:=by omega
   obtain⟨z,g⟩:∃z,z=f k:=⟨_,rfl⟩;rw[<-g]at q;have aa:=ZmH w1 L k z s q;have t:Hid (DA f (k+1)=DA f k+if z=0 then 16 else 0):=by show _=_;rw[g];rfl
   clear g;by_cases c:z=0
   ·subst c;go_wp2
    go_round
    case rel=>exact⟨k+1,y+16,by omega,by go_num,by go_num,by show _=_;rw[Da t,<-Da b];simp⟩
    case measure=>simp[intOf];omega
   ·have ae:(z==0)=false:=by rw[beq_eq_false_iff_ne];exact c
    go_wp2
    go_round
    case rel=>exact⟨k+1,y,by omega,by go_num,by go_num,by show _=_;rw[Da t,<-Da b];simp[c]⟩
    case measure=>simp[intOf];omega
  ·obtain rfl:k=96:=by omega
   go_wp2;go_ret;exact⟨by rw[<-Da b]<;>rfl,A⟩
end
open Go.RowKit
theorem ZlP(w:World)(a:OA)(l c:Nat)(s:By)(h:RdB w a l c s)(n:Nat)(W:World)(q:Sl W 5 1 (.slice (some ⟨w.heap.size,0,none⟩) n n) n (List.replicate n (.int .u8 0)))(f:Below w.heap.size w W):
  ∃d,(Builtin.copy_ #[59,59] 3 #[.slice (some ⟨w.heap.size,0,none⟩) n n,.slice a l c]).run Tryz.prog W = .ok (goInt (Nat.min l n)) d/\Sl d 5 1 (.slice (some ⟨w.heap.size,0,none⟩) n n) n (Dc (Dj s n))/\Below w.heap.size w d:=by
 have G:=h.below f
 cases a with
 | none=>
  have p:s.size=0:=by
   rcases Nat.eq_zero_or_pos s.size with e|e
   ·exact e
   ·obtain⟨x,I,_⟩:=h.2.2 0 ((Dc s)[0]'(by rw[Dh];exact e)) (List.getElem?_eq_getElem _)
    cases I
  have F:l=0:=by rw[h.1,p]
  have D:=h.2.1 rfl;subst F D;refine⟨W,by rw[show Nat.min 0 n=0 from Nat.zero_min n];exact ZgW W _ _ _,?_,f⟩;have:Dc (Dj s n)=List.replicate n (.int .u8 0):=by
   have H:s=⟨#[]⟩:=by
    apply WideShapes.bytes_inj;have:s.data.toList.length=0:=by rw[<-p];exact Array.length_toList
    rw[List.eq_nil_of_length_eq_zero this]
   unfold Dj;by_cases r:n<=s.size
   ·rw[if_pos r];have:n=0:=by omega
    subst this;rw[Jn];simp
   ·rw[if_neg r,Jw,Ko,p,H];simp[Dc]
  rw[this];exact q
 | some x=>
  rcases q.2 with⟨e,_⟩|⟨g,aa,L,e,C,h1,u,z,A⟩
  ·cases e
  ·cases e
   have B:L=List.replicate n (.int .u8 0):=by
    rw[<-A,List.take_of_length_le (by omega)]
   have i:((Dc s).take (Nat.min l n)).length=Nat.min l n*1:=by
    rw[List.length_take,Dh,h.1,Nat.mul_one];exact Nat.min_eq_left (Nat.min_le_left _ _)
   obtain⟨d,K,t,M⟩:=JJ (P:=Tryz.prog) W 59 59 3 5 1 w.heap.size 0 n n x l c L 5 ((Dc s).take (Nat.min l n)) Tryz.underlying59 QR C i
    (fun j v b=>by
     rw[List.getElem?_take]at b
     split at b
     ·obtain⟨y,e,J⟩:=G.2.2 j v b;cases e;exact J
     ·cases b) (by rw[i,z];have:Nat.min l n<=n:=Nat.min_le_right _ _;omega) (fun v b=>Ke s v (List.mem_of_mem_take b))
   refine⟨d,K,?_,?_⟩
   ·have E:spl L 0 ((Dc s).take (Nat.min l n))=Dc (Dj s n):=by
     unfold spl;rw[i,B,List.take_zero,List.nil_append,Nat.zero_add,Nat.mul_one,List.drop_replicate];unfold Dj;by_cases o:n<=s.size
     ·have m:Nat.min l n=n:=by rw[h.1];exact Nat.min_eq_right o
      rw[if_pos o,Jn,m];simp
     ·have m:Nat.min l n=s.size:=by rw[h.1];exact Nat.min_eq_left (by omega)
      rw[if_neg o,Jw,Ko,m,List.take_of_length_le (by rw[Dh];exact Nat.le_refl _)]
    rw[E]at t;refine⟨by rw[Dh,Jc];omega,.inr ⟨w.heap.size,n,_,rfl,t,Nat.le_refl _,u,by rw[Dh,Jc];omega,by rw[List.take_of_length_le (by rw[Dh,Jc];omega)]⟩⟩
   ·exact f.grown M f.size (fun k e=>by cases e;exact Nat.le_refl _)
theorem RdB.drop{w:World}{x:Addr}{l c:Nat}{s:By}(h:RdB w (some x) l c s)(k:Nat)(b:Nat):RdB w (some (x.add k)) (l-k) b (s.extract k s.size):=by
 refine⟨by rw[ByteArray.size_extract,h.1];omega,fun e=>(by cases e),fun j v a=>?_⟩;rw[Jn,List.getElem?_take]at a
 split at a
 ·rw[List.getElem?_drop]at a;obtain⟨y,e,d⟩:=h.2.2 _ _ a
  cases e
  exact⟨_,rfl,by rw[Addr.add_add];exact d⟩
 ·cases a
theorem Addr.block_add'(x:Addr)(j:Nat):(x.add j).block=x.block:=by unfold Addr.add;split<;>rfl
def Zie(w:World)(fb:Nat)(a:OA)(l:Nat)(s:By)(n:Nat)(e:Ending)(w':World):Prop:=
 ∃a2 c2,e = .returned (.slice (some ⟨w.heap.size,0,none⟩) n n)/\Sl w' 5 1 (.slice (some ⟨w.heap.size,0,none⟩) n n) n (Dc (Dj s n))/\RowIs w' fb 287 [.slice a2 (l-n) c2]/\RdB w' a2 (l-n) c2 (s.extract n s.size)/\l-n<=c2/\(∀x,a2=some x->∃y,a=some y/\y.block=x.block)/\Fr (fun k=>k=fb) w w'
theorem Zgt(w:World)(d:Nat)(a:OA)(l c:Nat)(s:By)(g:RowIs w d 287 [.slice a l c])(h:RdB w a l c s)(am:l<=c)(ai:∀x,a=some x->x.block≠d)(n:Nat)(hn:n<=2000000)(hl:l<=2000000):
  Calls Tryz.prog 245 #[.pointer (some ⟨d,0,none⟩),.int .i64 n] w (Zie w d a l s n):=by
 obtain⟨Q,K,N,O,P⟩:=info_parts Kt;have ab:∀W:World,W.ownsRow 0 5 1 (.slice (some ⟨w.heap.size,0,none⟩) n n) n (madeCells (Value.int .u8 0).cells (n*1)).toList->w.grownBy W none->∃b,(Builtin.copy_ #[59,59] 3 #[.slice (some ⟨w.heap.size,0,none⟩) n n,.slice a l c]).run Tryz.prog W.drew = .ok (goInt (Nat.min l n)) b/\W.cell? ⟨d,0,none⟩=some (.slice a l c)/\b.cell? ⟨d,0,none⟩=some (.slice a l c)/\b.frozen? ⟨d,0,none⟩=false/\Hid (Sl b 5 1 (.slice (some ⟨w.heap.size,0,none⟩) n n) n (Dc (Dj s n))/\Below w.heap.size w b):=fun W hW hg=>by
  have U:=Sl.of_owns hW;have I:(madeCells (Value.int .u8 0).cells (n*1)).toList=List.replicate n (.int .u8 0):=by rw[Nat.mul_one];exact toList_madeCells_one (.int .u8 0) n
  rw[I]at U;have V:=KJ hg;obtain⟨b,r1,r2,r3⟩:=ZlP w a l c s h n W.drew U V.drew;have q1:RowIs W d 287 [.slice a l c]:=(V.block _ g.lt).trans g;have F:RowIs b d 287 [.slice a l c]:=(r3.block _ g.lt).trans g;exact⟨b,r1,(q1.cell 0).trans rfl,(F.cell 0).trans rfl,F.frozen 0,r2,r3⟩
 have D:=Db ab;have al:=g.lt;have ak:=Db g;have R:=Db h;obtain⟨m,B⟩:∃m,m=Nat.min l n:=⟨_,rfl⟩;have ap:m<=l:=by rw[B];exact Nat.min_le_left _ _
 rw[<-B]at D;have L:l-m=l-n:=by have e:m=min l n:=B;omega
 have G:Hid (∀b q r,Sl b 5 1 (.slice (some ⟨w.heap.size,0,none⟩) n n) n (Dc (Dj s n))->Below w.heap.size w b->(∀X,Below w.heap.size w X->RdB X q (l-n) r (s.extract n s.size))->l-n<=r->(∀x,q=some x->∃y,a=some y/\y.block=x.block)->Zie w d a l s n (.returned (.slice (some ⟨w.heap.size,0,none⟩) n n)) (b.setCell ⟨d,0,none⟩ (.slice q (l-n) r))):=fun b q r f A h3 h4 S=>by
  have F:RowIs b d 287 [.slice a l c]:=(A.block _ g.lt).trans g;refine⟨q,r,rfl,f.setCell _ _ (fun e=>?_),by simpa using F.set 0 (.slice q (l-n) r),?_,h4,S,(Fr.of_below A).set ⟨d,0,none⟩ _ rfl⟩
  ·simp[Value.ownBlock]at e;omega
  ·have J:=h3 b A;refine⟨J.1,J.2.1,fun j v p=>?_⟩;obtain⟨x,e,M⟩:=J.2.2 j v p;exact⟨x,e,(World.cell?_setCell_other _ _ _ _ (by intro ee;obtain⟨y,I,e2⟩:=S x e;exact ai y I (by have T:=(congrArg Addr.block ee).symm;rw[Addr.block_add']at T;exact e2.trans T))).trans M⟩
 have ah:Hid (∀x,a=some x->∀X,Below w.heap.size w X->RdB X (some (x.add m)) (l-n) (c-m) (s.extract n s.size)):=fun x e X hX=>by
  subst e;have f:=((Da R).below hX).drop m (c-m);rw[L]at f;have A:s.extract m s.size=s.extract n s.size:=by
   have e:m=min l n:=B;rw[h.1]at e;rcases Nat.le_total s.size n with E|E
   ·apply WideShapes.bytes_inj;simp only[Lib.extract_data];rw[e,Nat.min_eq_left E];simp[E]
   ·rw[e,Nat.min_eq_right E]
  rw[A]at f;exact f
 have H:Hid (a=none->∀X,RdB X none (l-n) 0 (s.extract n s.size)/\l=0/\c=0):=fun e X=>by
  subst e;have t:s.size=0:=by
   rcases Nat.eq_zero_or_pos s.size with e|e
   ·exact e
   ·obtain⟨x,M,_⟩:=h.2.2 0 ((Dc s)[0]'(by rw[Dh];exact e)) (List.getElem?_eq_getElem _)
    cases M
  have ad:l=0:=by rw[h.1,t]
  refine⟨⟨by rw[ByteArray.size_extract,t,ad];omega,fun _=>rfl,fun j v p=>?_⟩,ad,h.2.1 rfl⟩;have:Dc (s.extract n s.size)=[]:=List.eq_nil_of_length_eq_zero (by rw[Dh,ByteArray.size_extract,t];omega);rw[this]at p;simp at p
 have u:=Db L;have ao:(m:Int)<=(l:Int):=by omega
 clear ab g h B L
 cases a with
 | none=>
  obtain⟨aj,rfl,rfl⟩:=Da H rfl w;obtain rfl:m=0:=by omega
  have ag:Hid (∀X,RdB X none (0-n) 0 (s.extract n s.size)):=fun X=>(Da H rfl X).1
  clear aj H;go_enter Tryz.func245,Tryz.ntmps245;go_upto_region 2 with(at_make;refine wpList_make_full _ rfl _ _ 59 rfl 0 5 Q (.int .u8 0) 1 Tryz.underlying59 K N O _ _ _ _ n rfl rfl rfl rfl (by rw[P];omega) (by unfold maxLen;omega) (Nat.zero_le _) ?_;intro w1 o k;obtain⟨b,C,Z,aa,ac,i⟩:=Da D w1 o k;clear o k)
  go_region_law (refine KA rfl _ _ 59 59 rfl _ _ (by simp[Act.eval]) (by simp[Act.eval]) C ?_)
  all_goals
   go_wp2;go_ret;have f:=Da G b none 0 (Da i).1 (Da i).2 (fun X _=>Da ag X) (by omega) (fun x e=>by cases e);rw[show 0-n=0 from Nat.zero_sub n]at f;exact f
 | some x=>
  have Y:∀y,some (x.add m)=some y->∃z,some x=some z/\z.block=y.block:=fun y e=>by cases e;exact⟨x,rfl,(Addr.block_add' _ _).symm⟩
  have af:=Db Y;clear Y;by_cases ae:m=c
  ·have HE:Hid (∀X,RdB X (some x) (l-n) 0 (s.extract n s.size)):=fun X=>by
    have h0:l-n=0:=by have:=Da u;omega
    have t:(s.extract n s.size).size=0:=by rw[ByteArray.size_extract,<-(Da R).1];omega
    refine⟨by rw[h0,t],fun _=>rfl,fun j v p=>?_⟩;have:Dc (s.extract n s.size)=[]:=List.eq_nil_of_length_eq_zero (by rw[Dh,t]);rw[this]at p;simp at p
   obtain rfl:l=m:=by omega
   subst ae;go_enter Tryz.func245,Tryz.ntmps245;go_upto_region 2 with(at_make;refine wpList_make_full _ rfl _ _ 59 rfl 0 5 Q (.int .u8 0) 1 Tryz.underlying59 K N O _ _ _ _ n rfl rfl rfl rfl (by rw[P];omega) (by unfold maxLen;omega) (Nat.zero_le _) ?_;intro w1 o k;obtain⟨b,C,Z,aa,ac,i⟩:=Da D w1 o k;clear o k)
   go_region_law (refine KA rfl _ _ 59 59 rfl _ _ (by simp[Act.eval]) (by simp[Act.eval]) C ?_)
   all_goals
    go_wp2;go_ret;have f:=Da G b (some x) 0 (Da i).1 (Da i).2 (fun X _=>Da HE X) (by have:=Da u;omega) (fun y e=>⟨x,rfl,by cases e;rfl⟩);rw[show l-n=0 by have:=Da u;omega]at f;exact f
  ·have an:¬c=m:=fun e=>ae e.symm
   go_enter Tryz.func245,Tryz.ntmps245;go_upto_region 2 with(at_make;refine wpList_make_full _ rfl _ _ 59 rfl 0 5 Q (.int .u8 0) 1 Tryz.underlying59 K N O _ _ _ _ n rfl rfl rfl rfl (by rw[P];omega) (by unfold maxLen;omega) (Nat.zero_le _) ?_;intro w1 o k;obtain⟨b,C,Z,aa,ac,i⟩:=Da D w1 o k;clear o k)
   go_region_law (refine KA rfl _ _ 59 59 rfl _ _ (by simp[Act.eval]) (by simp[Act.eval]) C ?_)
   all_goals
    go_wp2;go_ret;rw[show l-m=l-n from Da u];have f:=Da G b (some (x.add m)) (c-m) (Da i).1 (Da i).2 (Da ah x rfl) (by have:=Da u;omega) (Da af);exact f
def DM:List UInt8->Nat
 | []=>0
 | b::l=>b.toNat+256*DM l
theorem QC:∀(l:List UInt8),DM l<256 ^ l.length
 | []=>by simp[DM]
 | b::l=>by
  have h1:=QC l;have h2:b.toNat<256:=b.toNat_lt;show b.toNat+256*DM l<256 ^ (l.length+1);rw[Nat.pow_succ];omega
theorem Zga:∀(l:List UInt8) (b:UInt8),DM (l++[b])=DM l+256 ^ l.length*b.toNat
 | [],b=>by simp[DM]
 | a::l,b=>by
  show a.toNat+256*DM (l++[b])=a.toNat+256*DM l+256 ^ (l.length+1)*b.toNat;rw[Zga l b,Nat.mul_add,<-Nat.add_assoc,<-Nat.mul_assoc,Nat.pow_succ,Nat.mul_comm 256 (256 ^ l.length)]
theorem Kf:∀(m x:Nat),x<256 ^ m->DM (DB x m)=x
 | 0,x,h=>by simp at h;subst h;rfl
 | m+1,x,h=>by
  show(UInt8.ofNat x).toNat+256*DM (DB (x/256) m)=x;have a:x/256<256 ^ m:=by rw[Nat.pow_succ]at h;omega
  rw[Kf m _ a];have b:(UInt8.ofNat x).toNat=x%256:=by simp
  rw[b];omega
theorem Zh6(a b:Int):bits BinOp.or IntKind.u64 a b=bits BinOp.or IntKind.u64 b a:=by
 show IntKind.u64.wrap (((BitVec.ofInt 64 a ||| BitVec.ofInt 64 b:BitVec 64).toNat:Nat):Int)=IntKind.u64.wrap (((BitVec.ofInt 64 b ||| BitVec.ofInt 64 a:BitVec 64).toNat:Nat):Int);rw[BitVec.or_comm]
theorem pow8(k:Nat):2 ^ (8*k)=256 ^ k:=by rw[Nat.pow_mul]
theorem ZnZ(y b k:Nat)(e:k<8)(f:y<256 ^ k)(hb:b<256):bits BinOp.or IntKind.u64 (y:Int) (IntKind.u64.wrap ((b:Int)*2 ^ (8*k)))=((y+256 ^ k*b:Nat):Int):=by
 have h1:256 ^ k*256<=256 ^ 8:=by rw[<-Nat.pow_succ];exact Nat.pow_le_pow_right (by omega) e
 have c:256 ^ k*b+y<256 ^ 8:=by
  have:256 ^ k*b<=256 ^ k*255:=Nat.mul_le_mul_left _ (by omega);have:256 ^ k*256=256 ^ k*255+256 ^ k:=by omega
  omega
 have d:(256:Nat) ^ 8=18446744073709551616:=by decide
 rw[d]at c;have a:((b:Int)*2 ^ (8*k))=((2 ^ (8*k)*b:Nat):Int):=by rw[Int.natCast_mul,Int.mul_comm];simp
 rw[a,Zko _ (by rw[pow8];omega),Zh6,ZiT b (8*k) y (by rw[pow8];exact f) (by rw[pow8];omega),pow8,Nat.add_comm]
def QJ(w:World)(fb:Nat)(a:OA)(l:Nat)(s:By)(n:Nat)(v:Value)(e:Ending)(w':World):Prop:=
 e = .returned v/\∃a2 c2,RowIs w' fb 287 [.slice a2 (l-n) c2]/\RdB w' a2 (l-n) c2 (s.extract n s.size)/\l-n<=c2/\(∀x,a2=some x->∃y,a=some y/\y.block=x.block)/\Fr (fun k=>k=fb) w w'
theorem Zcn(w:World)(d:Nat)(a:OA)(l c:Nat)(s:By)(B:RowIs w d 287 [.slice a l c])(h:RdB w a l c s)(u:l<=c)(v:∀x,a=some x->x.block≠d)(n:Nat)(hn:n<=8)(O:l<=2000000):
  Calls Tryz.prog 240 #[.pointer (some ⟨d,0,none⟩),.int .i64 n] w (QJ w d a l s n (.int .u64 (DM (Dj s n).data.toList:Nat))):=by
 have D:=Db (Zgt w d a l c s B h u v n (by omega) O);clear B h u v;obtain⟨t,f⟩:∃t,t=Dj s n:=⟨_,rfl⟩;have o:t.size=n:=by rw[f,Jc]
 have I:=Db f;rw[<-f];clear f;go_enter Tryz.func240,Tryz.ntmps240;go_wp2_with (go_at_call 245;refine(Da D).mono ?_;rintro e w1 ⟨J,K,rfl,j,q⟩;rw[<-Da I]at j;have A:=j.rdB;have F:=Db A.2.2;have G:=Db q;clear j q A)
 go_loop [5,12] (fun x i=>∃(k y:Nat),k<=n/\i = .int .i64 k/\x = .int .u64 y/\Hid (y=DM (t.data.toList.take k))) (fun _ i=>n-(intOf i).toNat)
 case atStart=>exact⟨0,0,Nat.zero_le _,rfl,rfl,rfl⟩
 case round=>
  obtain⟨k,y,r,rfl,rfl,p⟩:=hrel;by_cases aa:k<n
  ·obtain⟨g,N,P⟩:=Da F k _ (Zh3 t k (by omega))
   cases N
   obtain⟨b,m⟩:∃b,b=t.data[k]'(by show k<t.size;omega):=⟨_,rfl⟩;rw[<-m,Addr.add_lit,Nat.zero_add]at P;have M:b.toNat<256:=b.toNat_lt;have C:y<256 ^ k:=by
    have:=QC (t.data.toList.take k);rw[<-Da p,List.length_take,Array.length_toList,show t.data.size=n from o,Nat.min_eq_left r]at this;exact this
   have H:Hid (y+256 ^ k*b.toNat=DM (t.data.toList.take (k+1))):=by
    show _=_;rw[Zhn t k (by omega),Zga,<-Da p,List.length_take,Array.length_toList,show t.data.size=n from o,Nat.min_eq_left r,m]
   have z:=ZnZ y b.toNat k (by omega) C M;have E:=Db z;clear z m C;go_wp2
   go_round
   case rel=>exact⟨k+1,y+256 ^ k*b.toNat,by omega,by go_num,by rw[Da E],Da H⟩
   case measure=>simp[intOf];omega
  ·obtain rfl:k=n:=by omega
   go_wp2;go_ret;have L:t.data.toList.take k=t.data.toList:=List.take_of_length_le (by rw[Array.length_toList];exact Nat.le_of_eq o);exact⟨by rw[show y=DM t.data.toList by rw[Da p,L]]<;>rfl,J,K,Da G⟩
def rdP(s:By):Nat:=DM (Dj s 2).data.toList
def rdX(s:By):Nat:=DM (Dj (s.extract 2 s.size) 8).data.toList
theorem ZkO(s:By):rdP s<65536:=by
 have:=QC (Dj s 2).data.toList;rw[Array.length_toList,show(Dj s 2).data.size=2 from Jc s 2]at this;exact this
theorem RdB.fr{P:Nat->Prop}{w w':World}{a:OA}{l c:Nat}{s:By}(h:RdB w a l c s)(g:Fr P w w')(f:∀x,a=some x->0<s.size->¬P x.block):RdB w' a l c s:=
 ⟨h.1,h.2.1,fun j v b=>by
  obtain⟨x,e,d⟩:=h.2.2 j v b;have k:0<s.size:=by have:=(List.getElem?_eq_some_iff.1 b).1;rw[Dh]at this;omega
  have i:=World.block_lt_of_cell? _ _ d;refine⟨x,e,(World.cell?_of_block (g.block _ i ?_)).trans d⟩;rw[Addr.block_add'];exact f x e k⟩
theorem RdB.lt{w:World}{x:Addr}{l c:Nat}{s:By}(h:RdB w (some x) l c s)(a:0<s.size):x.block<w.heap.size:=by
 obtain⟨y,e,b⟩:=h.2.2 0 ((Dc s)[0]'(by rw[Dh];exact a)) (List.getElem?_eq_getElem _)
 cases e
 have:=World.block_lt_of_cell? _ _ b;rw[Addr.block_add']at this;exact this
theorem UU(w:World)(b:Nat)(a:OA)(l c:Nat)(s:By)(q:RowIs w b 287 [.slice a l c])(h:RdB w a l c s)(F:l<=c)(p:∀x,a=some x->x.block≠b)(V:l<=2000000):
  Calls Tryz.prog 238 #[.pointer (some ⟨b,0,none⟩)] w (QJ w b a l s 10 (.agg #[.int .i64 (rdP s:Nat),.int .u64 (rdX s:Nat)])):=by
 have ae:=q.lt;obtain⟨W,C,H,E,G,o⟩:=De w [.int .i64 0,.int .u64 0] 175;have t:=Db (Zcn W b a l c s (E _ _ _ q) (h.below o) F p 2 (by omega) V);have u:Hid (∀X,QJ W b a l s 2 (.int .u64 (rdP s:Nat)) (.returned (.int .u64 (rdP s:Nat))) X->Calls Tryz.prog 240 #[.pointer (some ⟨b,0,none⟩),.int .i64 8] X fun e Y=>e = .returned (.int .u64 (rdX s:Nat))/\RowIs Y w.heap.size 175 [.int .i64 0,.int .u64 0]/\Hid (∀Z,Fr (fun k=>k=w.heap.size) Y Z->QJ w b a l s 10 (.agg #[.int .i64 (rdP s:Nat),.int .u64 (rdX s:Nat)]) (.returned (.agg #[.int .i64 (rdP s:Nat),.int .u64 (rdX s:Nat)])) Z)):=fun X ⟨_,Q,S,p1,p2,p3,r,I⟩=>by
  refine(Zcn X b Q (l-2) S _ p1 p2 p3 (fun x e=>by obtain⟨y,d,f⟩:=r x e;rw[<-f];exact p y d) 8 (by omega) (by omega)).mono ?_;rintro e Y ⟨rfl,R,T,q1,q2,q3,J,K⟩;have r1:RowIs X w.heap.size 175 _:=H.fr I (by omega);have r2:RowIs Y w.heap.size 175 _:=r1.fr K (by omega);refine⟨rfl,r2,fun Z n=>⟨rfl,R,T,?_,?_,?_,fun x e=>?_,?_⟩⟩
  ·rw[show l-10=l-2-8 by omega];exact q1.fr n (by omega)
  ·have e:(s.extract 2 s.size).extract 8 (s.extract 2 s.size).size=s.extract 10 s.size:=by
    apply WideShapes.bytes_inj;simp;omega
   rw[show l-10=l-2-8 by omega,<-e];refine q2.fr n (fun x U ab hb=>?_);obtain⟨y,d,f⟩:=J x U;obtain⟨z,j,B⟩:=r y d;subst j;have:=h.lt (by rw[ByteArray.size_extract,ByteArray.size_extract]at ab;omega);omega
  ·omega
  ·obtain⟨y,d,f⟩:=J x e;obtain⟨z,j,B⟩:=r y d;exact⟨z,j,B.trans f⟩
  ·exact((Fr.of_below o).then (I.trans K) (fun k _ h=>h)).then n (fun k hk h=>by omega)
 have aa:=ZkO s;obtain⟨P,g⟩:∃P,P=rdP s:=⟨_,rfl⟩;obtain⟨O,D⟩:∃X,X=rdX s:=⟨_,rfl⟩;rw[<-g,<-D]at u ⊢;have L:Hid (Calls Tryz.prog 240 #[.pointer (some ⟨b,0,none⟩),.int .i64 2] W (QJ W b a l s 2 (.int .u64 (P:Nat)))):=by rw[g];exact Da t
 rw[<-g]at aa;have M:=Db C;have ad:=Db G;clear t g D h q F p H E o C G;go_enter Tryz.func238,Tryz.ntmps238;go_upto_region 1 with fail;rw[show w.alloc (.cells #[Value.int .i64 0,Value.int .u64 0] 175)=W from Da M];go_wp2_with (first|(have ac:=A;clear ac;go_at_call 240;refine(Da u _ (Da A)).mono ?_;rintro e Y ⟨rfl,i,N⟩;have m0:=i.cell 0;have m1:=i.cell 1;have f0:=i.frozen 0;have f1:=i.frozen 1)|(go_at_call 240;refine(Da L).mono ?_;rintro e X m;obtain rfl:=m.1;have A:=Db m;clear m));exact bodyPost_ret (v := .agg #[.int .i64 (P:Nat),.int .u64 (O:Nat)]) (by simp[results,Tryz.results238,go_sem,m0,m1]) rfl (Da N _ (((Fr.refl (fun k=>k=w.heap.size) Y).set ⟨w.heap.size,0,none⟩ _ rfl).set ⟨w.heap.size,1,none⟩ _ rfl))
theorem tk(i:Nat){P:Program}{e:Region.Mode}{b:Array Oper}{Q:Exit->Act->World->Prop}{S:World->Prop}{f:Oper}{v:Value}{g:Nat}{d:Array Bool}{a:Act}{w:World}
 (h:wpAnyH P e b Q S g (d.setIfInBounds i true) (a.put f.dst v) w) (n:b[i]?=some f:=by rfl)
 (p:Region.noSelect b=true:=by kernel_rfl) (m:Region.free e b d i=true:=by kernel_rfl) (o:(Region.ready e b d).contains i=true:=by kernel_rfl)
 (j:∀c a w,Q (.panic c) (a.put f.dst v) w->Q (.panic c) a w:=by exact fun _ _ _ h=>h) (q:YieldsIf P b S f v a:=by refine Or.inl ⟨by rfl,?_⟩;intro w l;(try dsimp only at l);go_simp<;>with_reducible rfl) (k:S w:=by assumption):wpAnyH P e b Q S (g+1) d a w:=
 wpAnyH_take n p m o j q k h
theorem tu(i:Nat){P:Program}{e:Region.Mode}{b:Array Oper}{Q:Exit->Act->World->Prop}{S:World->Prop}{f:Oper}{g:Nat}{d:Array Bool}{a:Act}{w:World}
 (h:wpAnyH P e b Q S g (d.setIfInBounds i true) (a.put f.dst undef) w) (m:b[i]?=some f:=by rfl)
 (o:Region.noSelect b=true:=by kernel_rfl) (l:Region.free e b d i=true:=by kernel_rfl) (n:(Region.ready e b d).contains i=true:=by kernel_rfl)
 (j:∀c a w,Q (.panic c) (a.put f.dst undef) w->Q (.panic c) a w:=by exact fun _ _ _ h=>h) (p:YieldsIf P b S f undef a:=by exact Or.inr ⟨by rfl,rfl⟩) (k:S w:=by assumption):wpAnyH P e b Q S (g+1) d a w:=
 wpAnyH_take m o l n j p k h
theorem rk(i:Nat){P:Program}{d:Region.Mode}{b:Array Oper}{Q:Exit->Act->World->Prop}{S:World->Prop}{o:Oper}{e:Nat}{c:Array Bool}{a:Act}{w:World}
 (h:∀K':Act->World->Prop,Shut (∀a w,S w->(S w->wpAnyH P d b Q S e (c.setIfInBounds i true) a w)->K' a w)->if Region.wanted o (yielded b a.tmps)=true then Oper.wp P o a w K' Q else K' (a.put o.dst undef) w)
 (f:Region.ready d b c=[i]:=by kernel_rfl) (ho:b[i]?=some o:=by rfl):wpAnyH P d b Q S (e+1) c a w:=
 wpAnyH_ready f (by simp) (AllReadyH.cons ho h AllReadyH.nil)
theorem ZfD(off:Nat):∀(vs:LVa) (k:Nat) (a:Array Value) (j:Nat),off+k+vs.length<=a.size->
  ((vs.zipIdx k).foldl (fun a x=>a.setIfInBounds (off+x.2) x.1) a)[j]?=if off+k<=j/\j<off+k+vs.length then vs[j-(off+k)]? else a[j]?
 | [],k,a,j,_=>by simp;intro b c;omega
 | v::vs,k,a,j,h=>by
  simp only[List.length_cons]at h;rw[List.zipIdx_cons,List.foldl_cons,ZfD off vs (k+1) _ j (by simp;omega)];by_cases b:off+(k+1)<=j/\j<off+(k+1)+vs.length
  ·rw[if_pos b,if_pos (by simp only[List.length_cons];omega),show j-(off+k)=(j-(off+(k+1)))+1 by omega,List.getElem?_cons_succ]
  ·rw[if_neg b];by_cases c:j=off+k
   ·subst c;rw[if_pos (by simp only[List.length_cons];omega),Nat.sub_self,List.getElem?_cons_zero];simp only[Array.getElem?_setIfInBounds,if_true];rw[if_pos (by omega)]
   ·rw[if_neg (by simp only[List.length_cons];omega)];simp only[Array.getElem?_setIfInBounds];rw[if_neg (by omega)]
theorem UJ(off:Nat)(vs a:Array Value)(h:off+vs.size<=a.size):(vs.zipIdx.foldl (fun a (x:Value×Nat)=>a.setIfInBounds (off+x.2) x.1) a)=(spl a.toList off vs.toList).toArray:=by
 apply Array.ext_getElem?;intro j;have b:(vs.zipIdx.foldl (fun a (x:Value×Nat)=>a.setIfInBounds (off+x.2) x.1) a)=((vs.toList.zipIdx 0).foldl (fun a x=>a.setIfInBounds (off+x.2) x.1) a):=by
  rw[<-Array.foldl_toList,Array.toList_zipIdx]
 rw[b,ZfD off vs.toList 0 a j (by simpa using h)];simp only[Nat.add_zero,Array.length_toList,List.getElem?_toArray];unfold spl;by_cases c:j<off
 ·rw[if_neg (by omega),List.append_assoc,List.getElem?_append_left (by simp;omega),List.getElem?_take,if_pos c];simp
 ·by_cases h2:j<off+vs.size
  ·rw[if_pos (by omega),List.append_assoc,List.getElem?_append_right (by simp;omega),List.getElem?_append_left (by simp;omega)]
   congr 1
   simp;omega
  ·rw[if_neg (by omega),List.getElem?_append_right (by simp;omega),List.getElem?_drop];simp only[List.length_append,List.length_take,Array.length_toList,Array.getElem?_toList]
   congr 1
   omega
def pcL(p:Nat)(s:By):LVa := .int .i64 (p:Nat)::Dc s
def pcV(p:Nat)(s:By):Value := .agg (pcL p s).toArray
theorem JS(p:Nat)(s:By):(pcL p s).length=s.size+1:=by simp[pcL,Dh]
theorem Ziv(p:Nat)(s:By):∀u∈pcL p s,u.oneCell'=true:=fun u a=>by
 rcases List.mem_cons.1 a with rfl|h
 ·rfl
 ·exact Ke s u h
theorem UL:(Tryz.prog.info? 207).map (fun i=>(i.zero,i.size,i.bytes))=some (some (.agg (pcL 0 (Dp 64)).toArray),65,72):=by kernel_rfl
theorem Qu:(Tryz.prog.info? 207).map (·.size)=some 65:=by
 have:=UL
 cases h:Tryz.prog.info? 207 with
 | none=>rw[h]at this;cases this
 | some i=>rw[h]at this;simp only[Option.map_some,Option.some.injEq,Prod.mk.injEq]at this ⊢;exact this.2.1
theorem Zku:∃d,Tryz.prog.underlying 207=some d/\d.isRow=true:=by
 have h:(Tryz.prog.underlying 207).map (·.isRow)=some true:=by kernel_rfl
 cases hd:Tryz.prog.underlying 207 with
 | none=>rw[hd]at h;cases h
 | some d=>rw[hd]at h;exact⟨d,rfl,by simpa using h⟩
theorem Zni:Tryz.prog.underlying 182=some (.slice 207):=by kernel_rfl
theorem Zg4(a:List (Nat×Value)):Tryz.prog.built 207 a=Instr.fill (#[(0,1),(1,64)][·]?) (pcL 0 (Dp 64)).toArray a:=by kernel_rfl
theorem Zc8(s:By):(Dx s).cells=(Dc s).toArray:=rfl
theorem Q1(p:Nat)(s:By)(b:s.size=64):Tryz.prog.built 207 [(0,.int .i64 (p:Nat)),(1,Dx s)]=some (pcL p s).toArray:=by
 rw[Zg4];have c:(pcL 0 (Dp 64)).length=65:=by rw[JS,Jq]
 have d:(Value.int .i64 (p:Nat)).cells = #[.int .i64 (p:Nat)]:=rfl;have g:spl (pcL 0 (Dp 64)) 0 [.int .i64 (p:Nat)] = .int .i64 (p:Nat)::Dc (Dp 64):=by simp[spl,pcL]
 have h:spl (.int .i64 (p:Nat)::Dc (Dp 64)) 1 (Dc s)=pcL p s:=by
  have:(Dc (Dp 64)).drop (Dc s).length=[]:=List.drop_eq_nil_of_le (by rw[Dh,Dh,b,Jq];exact Nat.le_refl _);simp[spl,pcL,Nat.add_comm 1,this]
 have e:(#[(0,1),(1,64)]:Array (Nat×Nat))[0]?=some (0,1):=rfl;have f:(#[(0,1),(1,64)]:Array (Nat×Nat))[1]?=some (1,64):=rfl;unfold Instr.fill;rw[e];simp only[d];rw[UJ 0 #[.int .i64 (p:Nat)] _ (by simp[c])];simp only[List.size_toArray,List.length_cons,List.length_nil,c];rw[if_neg (by decide)];rw[g];unfold Instr.fill;rw[f];simp only[Zc8];have a:(Dc s).toArray.size=64:=by simp[Dh,b]
 rw[UJ 1 _ _ (by rw[a];simp[Dh,Jq])];simp only[a];rw[if_neg (by simp[Dh,Jq])];rw[h]
 rfl
theorem Zii:∀w,(zeroValue 207).run Tryz.prog w = .ok (pcV 0 (Dp 64)) w:=(zero_of_info (n:=65) (by
 have:=UL
 cases h:Tryz.prog.info? 207 with
 | none=>rw[h]at this;cases this
 | some i=>rw[h]at this;simp only[Option.map_some,Option.some.injEq,Prod.mk.injEq]at this ⊢;exact⟨this.1,this.2.1⟩)).1
theorem Zom(p:Nat)(s:By)(c:s.size=64)(Z:Array Value)(a:Z.size=65):Instr.fill (fun i=>some (i*65,65)) Z [(0,pcV p s)]=some (pcL p s).toArray:=by
 have d:(pcV p s).cells=(pcL p s).toArray:=rfl;have b:(pcL p s).toArray.size=65:=by simp[JS,c]
 unfold Instr.fill;simp only[d];rw[UJ (0*65) _ _ (by rw[b,a];decide)];simp only[b,a];rw[if_neg (by decide)];have:spl Z.toList (0*65) (pcL p s)=pcL p s:=by
  unfold spl;rw[List.drop_eq_nil_of_le (by rw[Array.length_toList,a,JS,c];decide)];simp
 rw[this]
 rfl
theorem Zg7(w:World)(p:Nat)(s:By)(c:s.size=64):(Instr.buildSlice 182 1 #[(0,pcV p s)]).run Tryz.prog w = .ok (.slice (some ⟨w.heap.size,0,none⟩) 1 1) (w.alloc (.cells (pcL p s).toArray 207)):=by
 obtain⟨i0,b,aa,e,ab⟩:=info_parts UL;have d:(sizeOf 207).run Tryz.prog w = .ok 65 w:=by simp[sizeOf,typeInfo,b,e]
 have a:=Zom p s c;unfold Instr.buildSlice;simp only[Sem.run_bind,run_underlying Zni,Result.andThen_ok,d];rw[if_neg (by decide),if_neg (by decide)];simp only[Sem.run_bind,Zii w,Result.andThen_ok,Sem.run_pure];rw[a _ (by simp)]
 rfl
def KR(ps:LB):LVa:=ps.flatMap (fun x=>pcL x.1 x.2)
theorem ZiS(ps:LB)(p:Nat)(s:By):KR (ps++[(p,s)])=KR ps++pcL p s:=by simp[KR]
def SlP(w:World)(v:Value)(ps:LB):Prop:=Sl w 207 65 v ps.length (KR ps)
theorem SlP.nil(w:World):SlP w (.slice none 0 0) []:=⟨rfl,.inl ⟨rfl,rfl⟩⟩
theorem appP9(w:World)(v:Value)(ps:LB)(h:SlP w v ps)(nb p:Nat)(s:By)(o:s.size=64)(n:RowIs w nb 207 (pcL p s))(hl:ps.length<=1000000000):
  ∃f w',(Builtin.append_ #[182,182] 182 #[v,.slice (some ⟨nb,0,none⟩) 1 1]).run Tryz.prog w = .ok f w'/\∃a c b,f = .slice a c b/\SlP w' (.slice a c b) (ps++[(p,s)])/\Fr (Own v) w w'/\Dk w v (.slice a c b):=by
 obtain⟨y,l,r,t,x⟩:=info_parts UL;obtain⟨f,w2,z,g,d,A⟩:=KX (P:=Tryz.prog) w 182 182 207 y _ 65 72 Zni l r t x (by show(pcL 0 (Dp 64)).toArray.size=65;simp[JS,Jq]) (by decide) v ps.length (KR ps) h ⟨nb,0,none⟩ 1 1 (pcL p s) (by rw[JS,o])
  (fun j u q=>by rw[Addr.add_lit,Nat.zero_add,n.cell];exact q) (Ziv p s) (by unfold maxLen;omega) (by omega)
 obtain⟨a,c,b,rfl⟩:=g.shape;refine⟨_,w2,z,a,c,b,rfl,?_,⟨d.os,d.tape,d.output,d.size,fun k m i=>d.block k m (fun e=>i e.symm)⟩,A⟩;unfold SlP;rw[ZiS,List.length_append];exact g
theorem appP(w:World)(v:Value)(ps:LB)(a:SlP w v ps)(nb p:Nat)(s:By)(d:s.size=64)(c:RowIs w nb 207 (pcL p s))(b:ps.length<=1000000):
  ∃v' w',(Builtin.append_ #[182,182] 182 #[v,.slice (some ⟨nb,0,none⟩) 1 1]).run Tryz.prog w = .ok v' w'/\∃a' l' c',v' = .slice a' l' c'/\SlP w' (.slice a' l' c') (ps++[(p,s)])/\Fr (Own v) w w'/\Dk w v (.slice a' l' c'):=
 appP9 w v ps a nb p s d c (Nat.le_trans b (by decide))
theorem QH{P:Program}{c:Array Oper}{d:List Oper}{o:Oper}{a:Act}{w:World}{Q:Exit->Act->World->Prop}(f:o.guard=none)(t:TypeId)(x:Operand)(ho:o.op = .box t x)(b:LVa)(g:a.eval x = .agg b.toArray)
  (h:wpList P c Q d (a.put o.dst (.pointer (some ⟨w.heap.size,0,none⟩))) (w.alloc (.cells b.toArray t))):wpList P c Q (o::d) a w:=by
 refine wpList_plain f fun K e=>?_
 unfold Oper.wp execOp;simp only[ho,Instr.box,Sem.run_bind,g];simp[newVar,newRow,go_sem,Value.cells];exact e _ _ h
end Go.Proofs.YtaieidcohdhgpaaGreatDoor
