/- Failed. -/
import Derived.Test.YtaieidcohdhgpaaGreatDoorSAP
namespace Go.Proofs.YtaieidcohdhgpaaGreatDoor
set_option maxHeartbeats 40000000
set_option maxRecDepth 100000
open Go.RowKit
theorem ZeP{P:Program}(w:World)(g o:Nat)(t ty:TypeId)(L a:LVa)(h:RowIs w g t L)(f:o+a.length<=L.length)(b:(P.info? ty).map (·.size)=some a.length)(e:∀u∈a,u.oneCell'=true):
  (storeVar ty ⟨g,o,none⟩ (.agg a.toArray)).run P w = .ok () (w.setRow g (spl L o a).toArray):=by
 have d:=run_storeCells_at P g o t a 0 L.toArray w h (by simpa using f) e
 cases hq:P.info? ty with
 | none=>simp[hq]at b
 | some i=>
  have c:a.length=i.size:=by simp[hq]at b;omega
  simp only[Nat.add_zero]at d;simp[storeVar,sizeOf,typeInfo,hq,Value.cells,c,d];unfold spl;rw[c,List.append_assoc]
theorem Zez{P:Program}{c:Oper}{a:Act}{w:World}{K:Act->World->Prop}{Q:Exit->Act->World->Prop}(ty:TypeId)(x y:Operand)(ho:c.op = .store ty x y)
  (g o:Nat) (t:TypeId) (L b:LVa) (j:a.eval x = .pointer (some ⟨g,o,none⟩)) (k:a.eval y = .agg b.toArray)
  (f:RowIs w g t L) (e:o+b.length<=L.length) (i:(P.info? ty).map (·.size)=some b.length) (d:∀u∈b,u.oneCell'=true)
  (h:K (a.put c.dst undef) (w.setRow g (spl L o b).toArray)):c.wp P a w K Q:=by
 unfold Oper.wp execOp;simp only[ho,j,k,Instr.storeAt,Instr.sureAddr,Sem.run_bind,Sem.run_pure,Result.andThen_ok,ZeP w g o t ty L b f e i d];exact h
theorem Zdg{P:Program}{c:Array Oper}{o:Oper}{a:Act}{w:World}{K:Act->World->Prop}{Q:Exit->Act->World->Prop}{E:Prop}(i:o.guard=none)(ty:TypeId)(x y:Operand)(ho:o.op = .store ty x y)
  (g off:Nat) (t:TypeId) (L b:LVa) (m:a.eval x = .pointer (some ⟨g,off,none⟩)) (n:a.eval y = .agg b.toArray)
  (f:RowIs w g t L) (e:off+b.length<=L.length) (j:(P.info? ty).map (·.size)=some b.length) (d:∀u∈b,u.oneCell'=true) (w':World) (l:w.setRow g (spl L off b).toArray=w')
  (h:K (a.put o.dst undef) w'):if Region.wanted o (yielded c a.tmps)=true then Oper.wp P o a w K Q else E:=by
 have k:Region.wanted o (yielded c a.tmps)=true:=by simp[Region.wanted,i]
 rw[if_pos k];exact Zez ty x y ho g off t L b m n f e j d (by rw[l];exact h)
theorem ZbL{b:Array Oper}{o:Oper}{a:Act}{w:World}{K:Act->World->Prop}{Q:Exit->Act->World->Prop}{E:Prop}(c:o.guard=none)(x:Operand)(ho:o.op = .buildSlice 182 1 #[(0,x)])
  (p:Nat) (s:By) (d:s.size=64) (f:a.eval x=pcV p s)
  (h:K (a.put o.dst (.slice (some ⟨w.heap.size,0,none⟩) 1 1)) (w.alloc (.cells (pcL p s).toArray 207))):if Region.wanted o (yielded b a.tmps)=true then Oper.wp Tryz.prog o a w K Q else E:=by
 have e:Region.wanted o (yielded b a.tmps)=true:=by simp[Region.wanted,c]
 rw[if_pos e];unfold Oper.wp execOp;simp only[ho,List.map_toArray,List.map_cons,List.map_nil,f,Sem.run_bind,Zhe w p s d,Result.andThen_ok,Sem.run_pure,Oper.upon];exact h
theorem Zgs:∀{D:LY},(∀s∈D,s.size=64)->∀(i:Nat) (s:By),i<D.length->s.size=64->spl (JB D) (i*64) (Dc s)=JB (D.set i s)
 | [],_,i,s,hi,_=>by simp at hi
 | x::D,h,0,s,_,hs=>by
  have a:=h x List.mem_cons_self;unfold JB spl;simp only[List.flatMap_cons,List.set_cons_zero,Nat.zero_mul,List.take_zero,List.nil_append,Nat.zero_add];rw[Dg,hs,List.drop_left' (by rw[Dg,a])]
 | x::D,h,i+1,s,hi,hs=>by
  have a:=h x List.mem_cons_self;have ih:=Zgs (D:=D) (fun y c=>h y (List.mem_cons_of_mem _ c)) i s (by simpa using hi) hs;unfold JB at ih ⊢;simp only[List.flatMap_cons,List.set_cons_succ];rw[<-ih];unfold spl;have b:(Dc x).length=64:=by rw[Dg,a]
  rw[show(i+1)*64=(Dc x).length+i*64 by rw[b];omega,List.take_length_add_append,Nat.add_assoc,List.drop_length_add_append];simp[List.append_assoc]
theorem Zfe{D:LY}(h:∀s∈D,s.size=64)(i:Nat)(s:By)(b:s.size=64):∀x∈D.set i s,x.size=64:=fun x c=>by
 rcases List.mem_or_eq_of_mem_set c with a|a
 ·exact h x a
 ·rw[a];exact b
theorem SlD.row{w:World}{v:Value}{D:LY}(h:SlD w v D)(h0:0<D.length):∃g c L,v = .slice (some ⟨g,0,none⟩) D.length c/\RowIs w g 188 L/\L.take (D.length*64)=JB D/\D.length<=c/\c<=maxLen/\L.length=c*64:=by
 rcases h.1.2 with⟨_,aa⟩|⟨g,a,L,e,j,b,d,f,i⟩
 ·omega
 ·exact⟨g,a,L,e,j,i,b,d,f⟩
theorem ZiD(L:LVa)(o n:Nat)(a:LVa)(h:o+a.length<=n)(hn:n<=L.length):(spl L o a).take n=spl (L.take n) o a:=by
 unfold spl;rw[List.take_append,List.take_append];simp only[List.take_take,List.length_append,List.length_take];rw[List.drop_take];have b:min n o=o:=by omega
 have c:min o L.length=o:=by omega
 have d:min o n=o:=by omega
 rw[b,c,d,List.take_of_length_le (l:=a) (by omega)]
theorem SlD.set{w:World}{g c:Nat}{D:LY}{L:LVa}(_hR:RowIs w g 188 L)(e:L.take (D.length*64)=JB D)(f:D.length<=c)(h:c<=maxLen)(d:L.length=c*64)(b:∀s∈D,s.size=64)(i:Nat)(s:By)(j:i<D.length)(a:s.size=64)(w':World)(m:RowIs w' g 188 (spl L (i*64) (Dc s))):
  SlD w' (.slice (some ⟨g,0,none⟩) D.length c) (D.set i s):=by
 have k:(spl L (i*64) (Dc s)).length=c*64:=by rw[DV (by rw[Dg,a,d];omega),d]
 have l:(spl L (i*64) (Dc s)).take (D.length*64)=JB (D.set i s):=by
  rw[ZiD _ _ _ _ (by rw[Dg,a];omega) (by rw[d];omega),e,Zgs b i s j a]
 refine⟨⟨?_,.inr ⟨g,c,_,by rw[List.length_set],m,by rw[List.length_set];exact f,h,k,by rw[List.length_set];exact l⟩⟩,Zfe b i s a⟩;rw[Zcx (Zfe b i s a)]
def Zd4(w:World)(db:Nat)(vf vn vw ve:Value)(D:LY)(ps:LB)(p:Nat)(s:By)(e:Ending)(w':World):Prop:=
 e = .returned (.tuple #[])/\∃vw',DS w' db vf vn vw' ve (D.set p s)/\SlP w' vw' (ps++[(p,s)])/\Fr (fun k=>k=db\/Own vn k\/Own vw k) w w'/\Dk w vw vw'
theorem Ze5(w:World)(d:Nat)(C Q vw A:Value)(D:LY)(ps:LB)(h:DS w d C Q vw A D)(J:SlP w vw ps)(T:¬Own Q d)(U:¬Own vw d)(Y:∀k,Own Q k->¬Own vw k)(hl:ps.length<=1000000000)(p:Nat)(hp:p<1536)(s:By)(z:s.size=64):
  Calls Tryz.prog 159 #[.pointer (some ⟨d,0,none⟩),pcV p s] w (Zd4 w d C Q vw A D ps p s):=by
 obtain⟨g,c,L,rfl,E,hT,hc,ar,hL⟩:=h.2.1.row (by rw[h.2.2];decide);have aG:=h.2.2;obtain⟨n,q,o,rfl⟩:=J.shape;have aM:g≠d:=fun e=>T (by rw[<-e];rfl)
 have ac:(Dc s).length=64:=by rw[Dg,z]
 obtain⟨W,hW,N,H,az,ap⟩:=De w (pcL p s) 207;have aX:=E.lt;have aW:=h.1.lt;obtain⟨a,F⟩:∃a,a=W.drew.setRow g (spl L (p*64) (Dc s)).toArray:=⟨_,rfl⟩;have au:RowIs a g 188 (spl L (p*64) (Dc s)):=by rw[F];exact setRow_heap W.drew g _ _ 188 _ (show RowIs W g 188 L from H _ _ _ E)
 have aO:∀k,k≠g->a.heap[k]?=W.heap[k]? := fun k f=>by rw[F];exact setRow_other W.drew g k _ f
 have G:Fr (fun k=>k=g) W a:=by rw[F];exact⟨rfl,rfl,rfl,by simp[World.setRow],fun k _ f=>setRow_other W.drew g k _ f⟩
 have x:Fr (fun k=>k=g) w a:=(Fr.of_below ap).then G (fun _ _ h=>h);have O:RowIs a w.heap.size 207 (pcL p s):=N.fr G (by omega);have M:RowIs a d 204 [C,.slice (some ⟨g,0,none⟩) D.length c,.slice n q o,A]:=(H _ _ _ h.1).fr G (fun e=>aM e.symm);have ab:SlD a (.slice (some ⟨g,0,none⟩) D.length c) (D.set p s):=SlD.set E hT hc ar hL h.2.1.2 p s (by omega) z a au;have al:SlP a (.slice n q o) ps:=Sl.fr J x (fun k f e=>Y g rfl (by rw[<-e];exact f));have aC:Hid (∀X,Below a.heap.size a X->∀nb,RowIs X nb 207 (pcL p s)->∃v' w',(Builtin.append_ #[182,182] 182 #[.slice n q o,.slice (some ⟨nb,0,none⟩) 1 1]).run Tryz.prog X = .ok v' w'/\∃r u t,v' = .slice r u t/\RowIs w' w.heap.size 207 (pcL p s)/\RowIs w' d 204 [C,.slice (some ⟨g,0,none⟩) D.length c,.slice n q o,A]/\Hid (Zd4 w d C (.slice (some ⟨g,0,none⟩) D.length c) (.slice n q o) A D ps p s (.returned (.tuple #[])) (w'.setCell ⟨d,2,none⟩ (.slice r u t)))):=fun X l nb aN=>by
  obtain⟨v',w',r1,r,u,t,rfl,r2,P,r4⟩:=appP9 X _ ps (Sl.kept al (fun k f _=>l.block k f)) nb p s z aN hl;have aV:a.heap.size<=X.heap.size:=l.size;have aU:w.heap.size<=a.heap.size:=x.size;have q1:RowIs X d 204 _:=(l.block _ M.lt).trans M;have q2:RowIs w' d 204 [C,.slice (some ⟨g,0,none⟩) D.length c,.slice n q o,A]:=q1.fr P U;have q3:SlD w' (.slice (some ⟨g,0,none⟩) D.length c) (D.set p s):=⟨(Sl.kept ab.1 (fun k f _=>l.block k f)).fr P (fun k f e=>Y k f e),ab.2⟩;have aw:Dk w (.slice n q o) (.slice r u t):=fun k f=>(r4 k f).imp id (fun h=>by omega)
  have q0:RowIs w' w.heap.size 207 (pcL p s):=RowIs.fr (show RowIs X w.heap.size 207 (pcL p s) from (l.block _ O.lt).trans O) P (fun e=>by have:=J.lt e;omega);refine⟨_,w',r1,r,u,t,rfl,q0,q2,rfl,.slice r u t,⟨by simpa using q2.set 2 (.slice r u t),⟨q3.1.setCell _ _ (fun e=>T e),q3.2⟩,by rw[List.length_set];exact aG⟩,r2.setCell _ _ (fun e=>?_),?_,aw⟩
  ·rcases aw _ e with Z|Z
   ·exact U Z
   ·simp only at Z;omega
  ·refine Fr.set ?_ ⟨d,2,none⟩ _ (.inl rfl);refine Fr.then (Fr.then (w1:=a) ⟨x.os,x.tape,x.output,x.size,fun k f l=>x.block k f (fun e=>l (.inr (.inl (by rw[e];rfl))))⟩ (Fr.of_below l (X:=fun _=>False)) (fun _ _ h=>h.elim)) P (fun k _ e => .inr (.inr e))
 have c1:W.cell? ⟨d,1,none⟩=some (.slice (some ⟨g,0,none⟩) D.length c):=((H _ _ _ h.1).cell 1).trans rfl;have b0:W.cell? ⟨w.heap.size,0,none⟩=some (.int .i64 p):=(N.cell 0).trans rfl;have br:W.rangeAt w.heap.size 1 (Dc s):=fun j v m=>by rw[N.cell,Nat.add_comm];exact m
 have am:RowIs W.drew g 188 L:=H _ _ _ E;have aL:p*64+(Dc s).length<=L.length:=by rw[ac,hL];omega
 have aE:=Db am;have aF:=Db F;have HW:=Db hW;have I:=Db O;have R:=Db M;have aS:=Db G;have af:=Db ac;have aT:=Db az;have aY:g≠w.heap.size:=by omega
 have aZ:(p:Int)<(D.length:Int):=by omega
 have a0:(p:Int)<1536:=by omega
 clear h J E hT hc ar hL N H az ap au aO G x O M ab al hW F am T U Y ac;obtain⟨B,hB⟩:∃B,B=Value.agg (Dc s).toArray:=⟨_,rfl⟩;have HB:=Db hB;obtain⟨V,hV⟩:∃V,V=pcV p s:=⟨_,rfl⟩;have HV:=Db hV;rw[<-hV];clear hB hV;go_enter Tryz.func159,Tryz.ntmps159;go_upto_region 0 with fail;refine wp_region_lit ?_;refine ZbY rfl 207 _ rfl (pcL p s) (Da HV) ?_;refine wpList_nil ?_;rw[show w.alloc (.cells (pcL p s).toArray 207)=W from Da HW];go_upto_region 1 with fail;refine wp_region_held_drew (S:=fun X=>X.cell? ⟨d,1,none⟩=some (.slice (some ⟨g,0,none⟩) D.length c)/\X.cell? ⟨w.heap.size,0,none⟩=some (.int .i64 p)/\X.rangeAt w.heap.size 1 (Dc s)) (by kernel_rfl) ⟨c1,b0,br⟩ (fun aa=>?_);refine tk 0 ?_;try simp only[pE];refine tk 1 ?_;try simp only[pE];refine tk 2 ?_;try simp only[pE];refine tk 3 ?_;try simp only[pE];refine tk 4 ?_;try simp only[pE];refine tk 5 ?_;try simp only[pE];refine tk 6 ?_;try simp only[pE];refine wpAnyH_take (i:=7) (v:=B) rfl (by kernel_rfl) (by kernel_rfl) (by kernel_rfl) (fun _ _ _ h=>h) (by rw[Da HB];exact yieldsIf_load_mid (by rfl) 188 _ rfl w.heap.size 1 rfl (Dc s) _ (fun X l=>l.2.2) JQ rfl (by rw[D2,Da af])) (by assumption) ?_
 (try simp only[pE])
 refine tk 8 ?_;try simp only[pE];refine rk 9 (fun K b=>?_);have d1:a.cell? ⟨d,1,none⟩=some (.slice (some ⟨g,0,none⟩) D.length c):=((Da R).cell 1).trans rfl;have d2:a.cell? ⟨d,2,none⟩=some (.slice n q o):=((Da R).cell 2).trans rfl;have e0:a.cell? ⟨w.heap.size,0,none⟩=some (.int .i64 p):=((Da I).cell 0).trans rfl;have er:a.rangeAt w.heap.size 1 (Dc s):=fun j v m=>by rw[(Da I).cell,Nat.add_comm];exact m
 have e2:a.rangeAt w.heap.size 0 (pcL p s):=fun j v m=>by rw[(Da I).cell,Nat.zero_add];exact m
 have ax:(pcL p s).length=65:=by rw[JN,z]
 have aD:=Db ax;clear ax;refine Zdg rfl 188 _ _ rfl g (p*64) 188 L (Dc s) rfl (Da HB) (Da aE) aL (by rw[D2,Da af]) (Kc s) a (Da aF).symm ?_;refine b.out _ _ ⟨d1,e0,er⟩ (fun aK=>?_);clear b K aa aK e0 er;refine wpAnyH_done (by kernel_rfl) ?_ _;obtain⟨dd,aR,aP⟩:=UC;obtain⟨y,an,aA,ae,aQ,aq⟩:=De a.drew (pcL p s) 207;have s3:y.rangeAt w.heap.size 0 (pcL p s):=fun j v m=>by rw[(ae _ _ _ (show RowIs a.drew w.heap.size 207 (pcL p s) from Da I)).cell,Nat.zero_add];exact m
 have d3:y.cell? ⟨d,2,none⟩=some (.slice n q o):=((ae _ _ _ (show RowIs a.drew d 204 _ from Da R)).cell 2).trans rfl;have ao:Below a.heap.size a y:=((Below.refl a.heap.size a).drew).trans aq;obtain⟨v5,w5,ay,r,u,t,rfl,aB,ad,HP⟩:=Da aC y ao a.heap.size aA;have s5:w5.rangeAt w.heap.size 0 (pcL p s):=fun j v m=>by rw[aB.cell,Nat.zero_add];exact m
 have m5:w5.cell? ⟨d,2,none⟩=some (.slice n q o):=(ad.cell 2).trans rfl;have f5:=ad.frozen 2;have s6:(w5.setCell ⟨d,2,none⟩ (.slice r u t)).rangeAt w.heap.size 0 (pcL p s):=fun j v m=>(World.cell?_setCell_far _ _ _ _ (show d≠w.heap.size by omega)).trans (s5 j v m)
 have ai:=Db s6;have aj:=Db an;have ag:=Db s3;have ah:=Db s5;clear s6 an s3 s5 aB ad aA ae aq aQ ao;go_upto_region 2 with fail;refine wp_region_held_drew (S:=fun X=>X.rangeAt w.heap.size 0 (pcL p s)) (by kernel_rfl) e2 (fun aa=>?_);refine tk 0 ?_;try simp only[pE];refine tk 1 ?_;try simp only[pE];refine tk 2 ?_;try simp only[pE];refine tk 3 ?_;try simp only[pE];refine wpAnyH_take (i:=5) (v := .agg (pcL p s).toArray) rfl (by kernel_rfl) (by kernel_rfl) (by kernel_rfl) (fun _ _ _ h=>h) (yieldsIf_load_mid (by rfl) 207 _ rfl w.heap.size 0 rfl (pcL p s) _ (fun X l=>l) aR aP (by rw[KW,Da aD])) (by assumption) ?_
 (try simp only[pE])
 refine wpAnyH_ready (rs:=[4,6]) (by kernel_rfl) (by simp) ?_;refine AllReadyH.cons (i:=4) rfl ?_ (AllReadyH.cons (i:=6) rfl ?_ AllReadyH.nil)
 ·intro K b;go_simp;refine b.out _ _ aa (fun aI=>?_);clear b K
  (try simp only[pE])
  refine rk 6 (fun K b=>?_);refine ZbL rfl _ rfl p s z rfl ?_;rw[show a.drew.alloc (.cells (pcL p s).toArray 207)=y from Da aj];refine b.out _ _ (Da ag) (fun ak=>?_);clear b K
  (try simp only[pE])
  refine rk 7 (fun K b=>?_);refine JM rfl _ _ 182 182 rfl _ _ rfl rfl ay ?_;refine b.out _ _ (Da ah) (fun aJ=>?_);clear b K
  (try simp only[pE])
  refine tk 8 ?_;try simp only[pE];refine tk 9 ?_;try simp only[pE];refine rk 10 (fun K b=>?_);go_simp;refine b.out _ _ (Da ai) (fun aH=>?_);clear b K
  (try simp only[pE])
  refine wpAnyH_done (by kernel_rfl) ?_ _;go_wp2
  go_end0
  exact Da HP
 ·intro K b;refine ZbL rfl _ rfl p s z rfl ?_;rw[show a.drew.alloc (.cells (pcL p s).toArray 207)=y from Da aj];refine b.out _ _ (Da ag) (fun ak=>?_);clear b K
  (try simp only[pE])
  refine rk 4 (fun K b=>?_);go_simp;refine b.out _ _ ak (fun aI=>?_);clear b K
  (try simp only[pE])
  refine rk 7 (fun K b=>?_);refine JM rfl _ _ 182 182 rfl _ _ rfl rfl ay ?_;refine b.out _ _ (Da ah) (fun aJ=>?_);clear b K
  (try simp only[pE])
  refine tk 8 ?_;try simp only[pE];refine tk 9 ?_;try simp only[pE];refine rk 10 (fun K b=>?_);go_simp;refine b.out _ _ (Da ai) (fun aH=>?_);clear b K
  (try simp only[pE])
  refine wpAnyH_done (by kernel_rfl) ?_ _;go_wp2
  go_end0
  exact Da HP
theorem UL:(Tryz.prog.info? 188).map (fun i=>(i.zero,i.size,i.bytes))=some (some (DA (Dm 64)),64,64):=by kernel_rfl
theorem ZkK:Tryz.prog.underlying 186=some (.slice 188):=by kernel_rfl
theorem Zku(D:LY):∀u∈JB D,u.oneCell'=true:=fun u a=>by
 obtain⟨s,_,h⟩:=List.mem_flatMap.1 a;exact Kc s u h
theorem Sl.empty(w:World)(b:Nat)(h:RowIs w b 188 []):Sl w 188 64 (.slice (some ⟨b,0,none⟩) 0 0) 0 []:=⟨rfl,.inr ⟨b,0,[],rfl,h,Nat.le_refl _,Nat.zero_le _,rfl,rfl⟩⟩
theorem eql186(x:Addr)(n c:Nat)(w:World):(binOp .eql 186 (.slice (some x) n c) (.slice none 0 0)).run Tryz.prog w = .ok (.bool false) w:=by kernel_rfl
theorem ZfI(w:World)(y:Value)(D:LY)(h:SlD w y D)(A:0<D.length)(hl:D.length<=1000000):
  Calls Tryz.prog 141 #[y] w fun e w'=>∃a d b,e = .returned (.slice a d b)/\SlD w' (.slice a d b) D/\Below w.heap.size w w'/\∀g,Own (.slice a d b) g->w.heap.size<=g:=by
 obtain⟨g,c,L,rfl,l,o,hc,ab,B⟩:=h.row A;obtain⟨J,E,G,H,I⟩:=info_parts UL;obtain⟨W,p,s,q,r,m⟩:=De w [] 188;have ac:=l.lt;obtain⟨v',w2,t,i,v,x⟩:=KH (P:=Tryz.prog) W 186 186 188 J _ 64 64 ZkK E G H I (by show(Dc (Dm 64)).toArray.size=64;simp[Dg,Jl]) (by decide) (.slice (some ⟨w.heap.size,0,none⟩) 0 0) 0 [] (Sl.empty W _ s) ⟨g,0,none⟩ D.length c (JB D) (Zcx h.2)
  (fun j u f=>by
   rw[Addr.add_lit,Nat.zero_add,(q _ _ _ l).cell];rw[<-o,List.getElem?_take]at f
   split at f
   ·exact f
   ·cases f) (Zku D) (by unfold maxLen;omega) (by omega)
 obtain⟨a,d,b,rfl⟩:=i.shape;have C:Hid (SlD w2 (.slice a d b) D/\Below w.heap.size w w2/\∀g,Own (.slice a d b) g->w.heap.size<=g):=by
  refine⟨⟨by rw[List.nil_append,Nat.zero_add]at i;exact i,h.2⟩,m.grown v m.size (fun k e=>?_),fun k F=>?_⟩
  ·simp[Value.ownBlock]at e;omega
  ·rcases x k F with n|n
   ·simp[Value.ownBlock]at n;omega
   ·omega
 have z:=Db p;have aa:=Db r;clear h l o B s q m i v x p r;have hq:=eql186 ⟨g,0,none⟩ D.length c;go_enter Tryz.func141,Tryz.ntmps141;rw[<-Da z]at t;go_wp2_with (at_builtin;refine Lib.wpList_append_run _ rfl _ _ 186 186 rfl _ _ rfl rfl _ _ t ?_);go_ret;exact⟨a,d,b,rfl,Da C⟩
def Zis(w:World)(db:Nat)(vn:Value)(D:LY)(e:Ending)(w':World):Prop:=
 e = .returned (.tuple #[])/\∃vf',DS w' db vf' vn (.slice none 0 0) (.slice none 0 0) D/\SlD w' vf' D/\Fr (fun k=>k=db) w w'/\(∀g,Own vf' g->w.heap.size<=g)
theorem Zgw(w:World)(b:Nat)(q j vw p:Value)(D:LY)(h:DS w b q j vw p D)(n:¬Own j b):
  Calls Tryz.prog 161 #[.pointer (some ⟨b,0,none⟩)] w (Zis w b j D):=by
 have t:=ZfI w j D h.2.1 (by rw[h.2.2];decide) (by rw[h.2.2];decide);obtain⟨a,l,c,rfl⟩:=h.2.1.1.shape;have B:=h.1.lt;have x:Hid (Calls Tryz.prog 141 #[.slice a l c] w fun e w'=>∃d g f,e = .returned (.slice d g f)/\RowIs w' b 204 [q,.slice a l c,vw,p]/\Hid (Zis w b (.slice a l c) D (.returned (.tuple #[])) (((w'.setCell ⟨b,0,none⟩ (.slice d g f)).setCell ⟨b,2,none⟩ (.slice none 0 0)).setCell ⟨b,3,none⟩ (.slice none 0 0)))):=t.mono fun e w' ⟨d,g,f,z,r,m,s⟩=>by
  have u:RowIs w' b 204 [q,.slice a l c,vw,p]:=(m.block _ B).trans h.1;have v:SlD w' (.slice a l c) D:=⟨h.2.1.1.kept (fun k A _=>m.block k A),h.2.1.2⟩;have o:¬Own (.slice d g f) b:=fun e=>by have:=s _ e;omega
  refine⟨d,g,f,z,u,rfl,.slice d g f,⟨by simpa using ((u.set 0 (.slice d g f)).set 2 (.slice none 0 0)).set 3 (.slice none 0 0),⟨((v.1.setCell ⟨b,0,none⟩ _ n).setCell ⟨b,2,none⟩ _ n).setCell ⟨b,3,none⟩ _ n,v.2⟩,h.2.2⟩,⟨((r.1.setCell ⟨b,0,none⟩ _ o).setCell ⟨b,2,none⟩ _ o).setCell ⟨b,3,none⟩ _ o,r.2⟩,?_,s⟩;exact((Fr.set (X:=fun k=>k=b) (Fr.of_below m) ⟨b,0,none⟩ _ rfl).set ⟨b,2,none⟩ _ rfl).set ⟨b,3,none⟩ _ rfl
 have c1:w.cell? ⟨b,1,none⟩=some (.slice a l c):=(h.1.cell 1).trans rfl;clear h t;go_enter Tryz.func161,Tryz.ntmps161;go_wp2_with (go_at_call 141;refine(Da x).mono ?_;rintro e w' ⟨d,g,f,rfl,i,y⟩;have m0:=i.cell 0;have f0:=i.frozen 0;have m2:=i.cell 2;have f2:=i.frozen 2;have m3:=i.cell 3;have f3:=i.frozen 3)
 go_end0
 exact Da y
def ZfR(w:World)(vn:Value)(D:LY)(e:Ending)(w':World):Prop:=
 e = .returned (.pointer (some ⟨w.heap.size,0,none⟩))/\∃vf',DS w' w.heap.size vf' vn (.slice none 0 0) (.slice none 0 0) D/\SlD w' vf' D/\Below w.heap.size w w'/\(∀g,Own vf' g->w.heap.size<g)
theorem ZeC(w:World)(d:Value)(D:LY)(h:SlD w d D)(u:D.length=1536):
  Calls Tryz.prog 134 #[d] w (ZfR w d D):=by
 obtain⟨W,j,n,y,z,b⟩:=De w [.slice none 0 0,d,.slice none 0 0,.slice none 0 0] 204;have m:¬Own d w.heap.size:=fun e=>by have:=h.1.lt e;omega
 have o:Hid (Calls Tryz.prog 161 #[.pointer (some ⟨w.heap.size,0,none⟩)] W fun e w'=>e = .returned (.tuple #[])/\Hid (ZfR w d D (.returned (.pointer (some ⟨w.heap.size,0,none⟩))) w')):=(Zgw W w.heap.size (.slice none 0 0) d (.slice none 0 0) (.slice none 0 0) D ⟨n,⟨h.1.kept (fun k i _=>b.block k i),h.2⟩,u⟩ m).mono fun e w' ⟨v,A,r,s,f,t⟩=>
  ⟨v,rfl,A,r,s,⟨f.os.trans b.os,f.tape.trans b.tape,f.output.trans b.output,Nat.le_trans b.size f.size,fun k i=>(f.block k (by omega) (by omega)).trans (b.block k i)⟩,fun g x=>by have:=t g x;omega⟩
 have q:=Db j;obtain⟨a,l,c,rfl⟩:=h.1.shape;clear h n y z b m j;go_enter Tryz.func134,Tryz.ntmps134;go_wp2_with (go_at_call 161;rw[show w.alloc (.cells #[.slice none 0 0,.slice a l c,.slice none 0 0,.slice none 0 0] 204)=W from Da q];refine(Da o).mono ?_;rintro e w' ⟨rfl,p⟩);go_ret;exact Da p
theorem ZcR:∀n,JB (List.replicate n (Dm 64))=List.replicate (n*64) (.int .u8 0)
 | 0=>rfl
 | n+1=>by
  have ih:=ZcR n;unfold JB at ih ⊢;rw[List.replicate_succ,List.flatMap_cons,ih,QC,List.replicate_append_replicate]
  congr 1;omega
theorem Zgh(n:Nat):(madeCells (DA (Dm 64)).cells (n*64)).toList=List.replicate (n*64) (.int .u8 0):=by
 apply List.ext_getElem?;intro j;have d:(DA (Dm 64)).cells.size=64:=by rw[Ve];simp[Dg,Jl]
 by_cases b:j<n*64
 ·rw[List.getElem?_replicate,if_pos b];simp only[madeCells,Array.toList_map,List.getElem?_map,Array.toList_range,List.getElem?_range b,Option.map_some]
  congr 1
  have a:j%(DA (Dm 64)).cells.size<(DA (Dm 64)).cells.size:=Nat.mod_lt _ (by rw[d];decide);rw[getElem!_pos (DA (Dm 64)).cells (j%(DA (Dm 64)).cells.size) a];simp only[Ve,List.getElem_toArray];have c:=List.getElem_of_eq (QC 64) (i:=j%(Dc (Dm 64)).toArray.size) (by simpa [Ve] using a);rw[c,List.getElem_replicate]
 ·rw[List.getElem?_eq_none (by simp[madeCells];omega),List.getElem?_eq_none (by simp;omega)]
def J1:LY:=List.replicate 1536 (Dm 64)
theorem Ks:J1.length=1536:=List.length_replicate
theorem Zf4:∀s∈J1,s.size=64:=fun s a=>by rw[(List.mem_replicate.1 a).2,Jl]
def Zmw(w:World)(e:Ending)(w':World):Prop:=
 ∃db vf' vn',e = .returned (.pointer (some ⟨db,0,none⟩))/\w.heap.size<=db/\DS w' db vf' vn' (.slice none 0 0) (.slice none 0 0) J1/\SlD w' vf' J1/\Below w.heap.size w w'/\(∀g,Own vf' g->w.heap.size<=g/\g≠db)/\(∀g,Own vn' g->w.heap.size<=g/\g≠db)/\(∀g,Own vn' g->¬Own vf' g)
theorem Zlh(w:World):Calls Tryz.prog 98 #[] w (Zmw w):=by
 obtain⟨u,q,r,s,t⟩:=info_parts UL;have j:Hid (∀W:World,W.ownsRow 0 188 64 (.slice (some ⟨w.heap.size,0,none⟩) 1536 1536) 1536 (madeCells (DA (Dm 64)).cells (1536*64)).toList->w.grownBy W none->Calls Tryz.prog 134 #[.slice (some ⟨w.heap.size,0,none⟩) 1536 1536] W fun e w'=>∃c,e = .returned (.pointer (some ⟨c,0,none⟩))/\Hid (Zmw w (.returned (.pointer (some ⟨c,0,none⟩))) w')):=fun W m n=>by
  have d:=Sl.of_owns m;rw[Zgh 1536,<-ZcR]at d;have b:=KJ n;have aa:=d.lt (g:=w.heap.size) rfl;have o:SlD W (.slice (some ⟨w.heap.size,0,none⟩) 1536 1536) J1:=⟨by rw[Ks];exact d,Zf4⟩;refine(ZeC W _ J1 o Ks).mono ?_;rintro e w' ⟨rfl,z,v,x,y,i⟩;refine⟨W.heap.size,rfl,W.heap.size,z,_,rfl,b.size,v,x,b.trans (y.mono b.size),fun g a=>?_,fun g a=>?_,fun g a p=>?_⟩
  ·have:=i g a;have:=b.size;omega
  ·simp[Own,Value.ownBlock]at a;omega
  ·simp[Own,Value.ownBlock]at a;have:=i g p;omega
 go_enter Tryz.func98,Tryz.ntmps98;go_wp2_with (first|(at_make;refine wpList_make_full _ rfl _ _ 186 rfl 0 188 u (DA (Dm 64)) 64 ZkK q r s _ _ _ _ 1536 rfl rfl rfl rfl (by rw[t];decide) (by unfold maxLen;decide) (Nat.zero_le _) ?_;intro w1 h f;have k:=Db (Da j w1 h f);clear h f)|(go_at_call 134;refine(Da k).mono ?_;rintro e w' ⟨c,rfl,l⟩));go_ret;exact Da l
def JH(D:LY):By:=⟨(D.flatMap (fun s=>s.data.toList)).toArray⟩
theorem Zkd(D:LY)(s:By):JH (D++[s])=JH D++s:=by
 apply WideShapes.bytes_inj;simp[JH]
theorem Zej:∀{D:LY},(∀s∈D,s.size=64)->(JH D).size=D.length*64
 | [],_=>rfl
 | s::D,h=>by
  have ih:=Zej (D:=D) (fun x b=>h x (List.mem_cons_of_mem _ b));have a:s.data.toList.length=64:=by rw[Array.length_toList];exact h s List.mem_cons_self
  have e:∀D,(JH D).size=(D.flatMap (fun s=>s.data.toList)).length:=fun D=>by show(List.toArray _).size=_;simp
  rw[e]at ih ⊢;rw[List.flatMap_cons,List.length_append,ih,a,List.length_cons];omega
def Qi(w:World)(D:LY)(e:Ending)(w':World):Prop:=
 ∃a' l' c',e = .returned (.slice a' l' c')/\SlB w.heap.size w' (.slice a' l' c') (JH D)/\Below w.heap.size w w'
theorem Zfv(w:World)(vn:Value)(D:LY)(h:SlD w vn D)(H:0<D.length)(hl:D.length<=10000):
  Calls Tryz.prog 139 #[vn] w (Qi w D):=by
 have d:=Db h;obtain⟨g,c,L,rfl,K,hT,hc,ad,hL⟩:=h.row H;obtain⟨i0,af,al,am,an⟩:=info_parts Ku;have ap:=K.lt;clear K hT hc ad hL h;obtain⟨N,n⟩:∃N,N=D.length:=⟨_,rfl⟩;rw[<-n]at H hl;rw[<-n];have z:=Db n;clear n;have ar:IntKind.i64.wrap ((N:Int)*64)=((N*64:Nat):Int):=by rw[IntKind.wrap_i64];omega
 go_enter Tryz.func139,Tryz.ntmps139;go_wp2_with (at_make;refine wpList_make_own _ rfl _ _ 59 rfl 0 5 i0 (.int .u8 0) 1 Tryz.underlying59 af al am _ _ _ (N*64) rfl rfl (by omega) (by rw[an];omega) (by unfold maxLen;omega) (Nat.zero_le _) ?_;intro w1 U S;have E:=Db (And.intro (Sl.of_owns U) (KJ S));clear U S)
 go_loopw [3,12] (fun v i wr=>∃(k:Nat) (l:OA) (q m:Nat),k<=N/\i = .int .i64 k/\v = .slice l q m/\Hid (SlB w.heap.size wr (.slice l q m) (JH (D.take k))/\Below w.heap.size w wr)) (fun _ i _=>N-(intOf i).toNat)
 case atStart=>exact⟨0,_,_,_,Nat.zero_le _,rfl,rfl,⟨(Da E).1,fun g hg=>by simp[Value.ownBlock]at hg;omega⟩,(Da E).2⟩
 case round=>
  obtain⟨k,l,q,m,T,rfl,rfl,t⟩:=hrel;by_cases aj:k<N
  ·have ag:k<D.length:=by rw[<-Da z];exact aj
   obtain⟨s,p⟩:∃s,D[k]?=some s:=⟨_,List.getElem?_eq_getElem ag⟩;have A:s.size=64:=(Da d).2 s (List.mem_of_getElem? p);obtain⟨r,a⟩:=Da t;have O:SlD wr (.slice (some ⟨g,0,none⟩) N c) D:=by rw[Da z];exact⟨(Da d).1.kept (fun k T _=>a.block k T),(Da d).2⟩
   obtain⟨g',ae,ai,V⟩:=O.range k s p;clear ai
   cases ae
   obtain⟨W,P,C,ah,Y,Q⟩:=De wr (Dc (Dm 64)) 188;obtain⟨f,o⟩:∃X,W.setRow wr.heap.size (Dc s).toArray=X:=⟨_,rfl⟩;have Z:RowIs f wr.heap.size 188 (Dc s):=by rw[<-o];exact setRow_heap W _ _ _ 188 _ C
   have b:Below wr.heap.size wr f:=by rw[<-o];exact Q.trans ⟨rfl,rfl,rfl,by simp,fun j hj=>setRow_other W _ j _ (by omega)⟩
   have B:w.heap.size<=f.heap.size:=Nat.le_trans a.size b.size;obtain⟨F,l2,G,w3,ak,M,J,ac⟩:=JY f w.heap.size B _ _ (r.below b) ⟨wr.heap.size,0,none⟩ 64 64 s A (fun j u hu=>by rw[Addr.add_lit,Nat.zero_add,Z.cell];exact hu) (by rw[Zej (fun x hx=>(Da d).2 x (List.mem_of_mem_take hx)),List.length_take];omega);have aa:Hid (SlB w.heap.size w3 (.slice F l2 G) (JH (D.take (k+1)))/\Below w.heap.size w w3):=by
    have e:D.take (k+1)=D.take k++[s]:=by rw[List.take_add_one,p];rfl
    rw[e,Zkd];exact⟨M,a.trans ((b.mono a.size).trans ((r.below b).frBelow B J))⟩
   have HR:=Db V;have HX:=Db C;have HW:=Db P;have ab:=Db o;have ao:=Db Y;have R:(Dc s).length=64:=by rw[Dg,A]
   have y:=Db R;have aq:(k:Int)<(N:Int):=by omega
   clear M J ac Z b B C ah Y Q V O r a P o R t p A;go_wp2_with (first|(refine wpList_load_mid rfl 188 _ rfl g (k*64) rfl (Dc s) _ (Da HR) JQ rfl (by rw[D2,Da y]) ?_)|(refine JF rfl 188 rfl Kq ?_;rw[show wr.alloc (.cells (Dc (Dm 64)).toArray 188)=W from Da HW])|(refine wpList_store_row rfl 188 _ _ rfl wr.heap.size (Dc s).toArray rfl rfl 188 _ (Da HX) (by rw[D2];simp[Da y]) (by simp[Da y,Dg,Jl]) (KG _) ?_;rw[Da ab])|(at_builtin;refine Lib.wpList_append_run _ rfl _ _ 59 59 rfl _ _ rfl rfl _ _ ak ?_))
   go_roundw
   case rel=>exact⟨k+1,F,l2,G,by omega,by go_num,rfl,Da aa⟩
   case measure=>simp[intOf];omega
  ·obtain rfl:k=N:=by omega
   go_wp2;go_ret;have I:=Da t;rw[List.take_of_length_le (Nat.le_of_eq (Da z).symm)]at I;exact⟨l,q,m,rfl,I⟩
theorem Zkg(w:World)(d:Nat)(o f vw n:Value)(D:LY)(h:DS w d o f vw n D):
  Calls Tryz.prog 78 #[.pointer (some ⟨d,0,none⟩)] w (Qi w D):=by
 have g:=Db (Zfv w f D h.2.1 (by rw[h.2.2];decide) (by rw[h.2.2];decide));have c1:=h.1.cell 1;obtain⟨a,l,c,rfl⟩:=h.2.1.1.shape;clear h;go_enter Tryz.func78,Tryz.ntmps78;go_wp2_with (go_at_call 139;refine(Da g).mono ?_;rintro e w' ⟨j,m,k,rfl,b⟩;have i:=Db b;clear b);go_ret;exact⟨j,m,k,rfl,Da i⟩
end Go.Proofs.YtaieidcohdhgpaaGreatDoor
