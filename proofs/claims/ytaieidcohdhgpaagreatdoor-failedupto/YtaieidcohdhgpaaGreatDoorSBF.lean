/- Failed. -/
import Derived.Test.YtaieidcohdhgpaaGreatDoorSAT
namespace Go.Proofs.YtaieidcohdhgpaaGreatDoor
set_option maxHeartbeats 40000000
set_option maxRecDepth 100000
open Go.RowKit
theorem fields207 : (Tryz.prog.fieldsOf 207).toList.map (fun f => (f.name, f.type, f.offset)) = [("Place", 3, 0), ("Block", 188, 1)] := by kernel_rfl
theorem ZnU:Tryz.prog.underlying 207=some (.struct (Tryz.prog.fieldsOf 207)):=by kernel_rfl
theorem Zow:Tryz.prog.stoodInHeld 207=false:=by kernel_rfl
theorem ZmZ:Tryz.prog.eqGuardType Tryz.prog.depth 207=false:=by kernel_rfl
theorem part3(w:World)(xs:Array Value)(k:Nat)(v:Value)(h:xs[k]?=some v):(part 3 xs k).run Tryz.prog w = .ok v w:=by
 simp[part,isAgg,run_underlying Tryz.underlying3,h]
theorem Zk9(w:World)(p:Nat)(s:By)(b:s.size=64):(part 188 (pcL p s).toArray 1).run Tryz.prog w = .ok (DA s) w:=by
 obtain⟨i0,a,aa,c,ab⟩:=info_parts UL;have e:(pcL p s).toArray.extract 1 (1+64)=(Dc s).toArray:=by
  apply Array.ext';simp only[Array.toList_extract,List.extract_eq_take_drop];show List.take (1+64-1) (List.drop 1 (.int .i64 (p:Nat)::Dc s))=Dc s;rw[List.drop_succ_cons,List.drop_zero,List.take_of_length_le (by rw[Dg,b];decide)]
 simp[part,isAgg,run_underlying UB,sizeOf,typeInfo,a,c,DA]
 first|exact e|(rw[e])|(simpa using e)
theorem list2{α : Type}{l:List α}(h:l.length=2):∃a b,l=[a,b]:=by
 match l,h with
 | [a,b],_=>exact⟨a,b,rfl⟩
theorem eqF2 {P : Program} (w : World) (d : Nat) (xs ys : Array Value) (f0 f1 : Field) (n0 : f0.name ≠ "_") (n1 : f1.name ≠ "_") (u0 u1 v0 v1 : Value) (r0 r1 : Bool)
  (hx0:(part f0.type xs f0.offset).run P w = .ok u0 w) (hy0:(part f0.type ys f0.offset).run P w = .ok v0 w) (e0:(Op.equalIn d f0.type u0 v0).run P w = .ok r0 w)
  (hx1:(part f1.type xs f1.offset).run P w = .ok u1 w) (hy1:(part f1.type ys f1.offset).run P w = .ok v1 w) (e1:(Op.equalIn d f1.type u1 v1).run P w = .ok r1 w):
  (Op.eqFields d xs ys [f0,f1]).run P w = .ok (r0 && r1) w:=by
 unfold Op.eqFields;rw[if_pos n0];simp only[Sem.run_bind,hx0,hy0,e0,Result.andThen_ok]
 cases r0
 ·simp
 ·simp only[Bool.not_true,Bool.false_eq_true,if_false];unfold Op.eqFields;rw[if_pos n1];simp only[Sem.run_bind,hx1,hy1,e1,Result.andThen_ok]
  cases r1
  ·simp
  ·simp[Op.eqFields]
theorem eql207(w:World)(a b:Nat)(s t:By)(k:s.size=64)(l:t.size=64):(binOp .eql 207 (pcV a s) (pcV b t)).run Tryz.prog w = .ok (.bool (decide (a=b/\s=t))) w:=by
 obtain⟨f,i⟩:∃f,f=(Tryz.prog.fieldsOf 207).toList:=⟨_,rfl⟩;have e:=fields207;rw[<-i]at e;obtain⟨q,r,j⟩:=list2 (show f.length=2 by have:=congrArg List.length e;simpa using this);rw[j]at e;simp only[List.map_cons,List.map_nil,List.cons.injEq,Prod.mk.injEq,and_true]at e;obtain⟨⟨y,t0,m⟩,⟨z,t1,n⟩⟩:=e;have o:∀(c:Nat) (u:By),(part 3 (pcL c u).toArray 0).run Tryz.prog w = .ok (.int .i64 (c:Nat)) w:=fun c u=>part3 w _ 0 _ (by simp[pcL])
 have v:(Op.equalIn 9999 3 (.int .i64 (a:Nat)) (.int .i64 (b:Nat))).run Tryz.prog w = .ok (((a:Nat):Int)==((b:Nat):Int)) w:=run_equalIn_int w 9998 3 .i64 .i64 _ _ Tryz.underlying3;have p:(Op.equalIn 9999 188 (DA s) (DA t)).run Tryz.prog w = .ok (decide (s=t)) w:=by
  rw[Zd1,Zd1,run_equalIn_bytes w 9997 188 5 64 UB Tryz.underlying5 (fun w=>by kernel_rfl) s.data.toList t.data.toList (by rw[Array.length_toList];exact k) (by rw[Array.length_toList];exact l)]
  congr 1
  rw[Bool.eq_iff_iff,beq_iff_eq,decide_eq_true_eq];exact⟨fun h=>WideShapes.bytes_inj h,fun h=>by rw[h]⟩
 have A:=Zk9 w a s k;have B:=Zk9 w b t l;have x:(Op.eqFields 9999 (pcL a s).toArray (pcL b t).toArray f).run Tryz.prog w = .ok (decide (a=b/\s=t)) w:=by
  rw[j,eqF2 w 9999 _ _ q r (by rw[y];decide) (by rw[z];decide) _ _ _ _ _ _ (by rw[t0,m];exact o a s) (by rw[t0,m];exact o b t) (by rw[t0];exact v) (by rw[t1,n];exact A) (by rw[t1,n];exact B) (by rw[t1];exact p)]
  congr 1
  rw[Bool.eq_iff_iff,Bool.and_eq_true,beq_iff_eq,decide_eq_true_eq,decide_eq_true_eq];constructor
  ·rintro⟨g,d⟩;exact⟨by omega,d⟩
  ·rintro⟨g,d⟩;exact⟨by omega,d⟩
 have g:=run_eql_struct (P:=Tryz.prog) w 207 (pcL a s).toArray (pcL b t).toArray;have d:=run_equalIn_struct (P:=Tryz.prog) w 9999 207 (pcL a s).toArray (pcL b t).toArray ZnU Zow;rw[<-i,x]at d;unfold pcV;rw[g,d]
 rfl
def ckR(s:By):By:=s.extract 5 64
def ckT(s:By):Nat:=DL (Di (ckR s) 8).data.toList
def ckQ(s:By):By:=(ckR s).extract 8 (ckR s).size
theorem ckT_lt(s:By):ckT s<18446744073709551616:=by
 have:=QB (Di (ckR s) 8).data.toList;rw[Array.length_toList,show(Di (ckR s) 8).data.size=8 from Jc _ 8]at this;exact this
theorem Zk3(s:By):rdX s<18446744073709551616:=by
 have:=QB (Di (s.extract 2 s.size) 8).data.toList;rw[Array.length_toList,show(Di (s.extract 2 s.size) 8).data.size=8 from Jc _ 8]at this;exact this
def KM(i:Nat)(s:By):Bool:=decide (ckT s%2=i/\ckB (ckT s) (rdP (ckQ s)) (rdX (ckQ s))=s)
def Zet(w:World)(i:Nat)(s:By)(e:Ending)(w':World):Prop:=
 e = .returned (.tuple #[.agg #[.int .u64 (ckT s:Nat),.int .i64 (rdP (ckQ s):Nat),.int .u64 (rdX (ckQ s):Nat)],.bool (KM i s)])/\Below w.heap.size w w'
theorem Zfj(w:World)(E:Nat)(vf vw ve:Value)(a:OA)(l c:Nat)(D:LY)(h:DS w E vf (.slice a l c) vw ve D)(i:Nat)(s:By)(hi:D[i]?=some s):
  Calls Tryz.prog 201 #[.pointer (some ⟨E,0,none⟩),.int .i64 i] w (Zet w i s):=by
 have R:s.size=64:=h.2.1.2 s (List.mem_of_getElem? hi);obtain⟨W1,e1,x1,k1,s1,C⟩:=De w [.int .u64 0,.int .i64 0,.int .u64 0] 191;have an:DS W1 E vf (.slice a l c) vw ve D:=⟨k1 _ _ _ h.1,⟨h.2.1.1.kept (fun k Q _=>C.block k Q),h.2.1.2⟩,h.2.2⟩;obtain⟨T,H⟩:∃T,T=ckT s:=⟨_,rfl⟩;obtain⟨f,G⟩:∃T,T=rdP (ckQ s):=⟨_,rfl⟩;obtain⟨g,L⟩:∃T,T=rdX (ckQ s):=⟨_,rfl⟩;obtain⟨VB,aa⟩:∃V,V=DA s:=⟨_,rfl⟩;obtain⟨VK,ac⟩:∃V,V=pcV (T%2) (ckB T f g):=⟨_,rfl⟩;obtain⟨VI,ab⟩:∃V,V=pcV i s:=⟨_,rfl⟩;obtain⟨OK,ag⟩:∃b,b=KM i s:=⟨_,rfl⟩;have aC:Hid (∀V x y,(eqGuard .eql 207 x y VK VI).run Tryz.prog V = .ok () V):=fun V x y=>by
  rw[ac,ab];exact run_eqGuard_agg (P:=Tryz.prog) V .eql 207 x y _ _ ZmZ
 have aD:Hid (∀V,(binOp .eql 207 VK VI).run Tryz.prog V = .ok (.bool OK) V):=fun V=>by
  rw[ac,ab,eql207 V _ _ _ _ (Q8 _ _ _) R,ag,H,G,L];rfl
 have aA:Hid (Tryz.prog.built 207 [(0,.int .i64 (i:Nat)),(1,VB)]=some (pcL i s).toArray):=by rw[aa];exact Zhb i s R
 have aH:=Db ab;have am:=Db aa;have HA:Hid (Calls Tryz.prog 239 #[.pointer (some ⟨E,0,none⟩),.int .i64 i] W1 fun e X=>e = .returned VB/\∃Y Z,X.alloc (.cells (Dc (Dm 64)).toArray 188)=Y/\RowIs Y X.heap.size 188 (Dc (Dm 64))/\Y.setRow X.heap.size (Dc s).toArray=Z/\∃U,Z.alloc (.cells #[.slice (some ⟨X.heap.size,5,none⟩) 59 59] 287)=U/\
   Hid (Calls Tryz.prog 240 #[.pointer (some ⟨Z.heap.size,0,none⟩),.int .i64 8] U fun e r=>e = .returned (.int .u64 (T:Nat))/\Hid (Calls Tryz.prog 238 #[.pointer (some ⟨Z.heap.size,0,none⟩)] r fun e d=>e = .returned (.agg #[.int .i64 (f:Nat),.int .u64 (g:Nat)])/\∃q,d.alloc (.cells #[.int .u64 (T:Nat),.int .i64 (f:Nat),.int .u64 (g:Nat)] 191)=q/\
    q.cell? ⟨d.heap.size,0,none⟩=some (.int .u64 (T:Nat))/\q.cell? ⟨d.heap.size,1,none⟩=some (.int .i64 (f:Nat))/\q.cell? ⟨d.heap.size,2,none⟩=some (.int .u64 (g:Nat))/\q.rangeAt X.heap.size 0 (Dc s)/\
    Hid (Calls Tryz.prog 160 #[.agg #[.int .u64 (T:Nat),.int .i64 (f:Nat),.int .u64 (g:Nat)]] q.drew fun e m=>e = .returned VK/\(m.cell? ⟨d.heap.size,0,none⟩=some (.int .u64 (T:Nat))/\m.cell? ⟨d.heap.size,1,none⟩=some (.int .i64 (f:Nat))/\m.cell? ⟨d.heap.size,2,none⟩=some (.int .u64 (g:Nat))/\m.rangeAt X.heap.size 0 (Dc s))/\RowIs m w.heap.size 191 [.int .u64 0,.int .i64 0,.int .u64 0]/\Hid (Below w.heap.size w m)/\Hid (w.heap.size≠d.heap.size/\w.heap.size≠X.heap.size))))):=by
  refine(Zi9 W1 E vf vw ve a l c D an i s hi).mono ?_;rintro e X ⟨rfl,J⟩;obtain⟨Y,eY,xY,kY,sY,bY⟩:=De X (Dc (Dm 64)) 188;have aY:=J.size;have xZ:RowIs (Y.setRow X.heap.size (Dc s).toArray) X.heap.size 188 (Dc s):=setRow_heap Y _ _ _ 188 _ xY;have bZ:Below X.heap.size X (Y.setRow X.heap.size (Dc s).toArray):=bY.trans ⟨rfl,rfl,rfl,by simp,fun j hj=>setRow_other Y _ j _ (by omega)⟩;obtain⟨Z,B⟩:∃Z,Y.setRow X.heap.size (Dc s).toArray=Z:=⟨_,rfl⟩;rw[B]at xZ bZ;have sZ:Z.heap.size=X.heap.size+1:=by rw[<-B];simp[World.setRow,sY]
  obtain⟨U,eU,xU,kU,sU,bU⟩:=De Z [.slice (some ⟨X.heap.size,5,none⟩) 59 59] 287;have aP:Below w.heap.size w U:=C.trans ((J.mono (by omega)).trans ((bZ.mono (by omega)).trans (bU.mono (by omega))));have y1:RowIs U w.heap.size 191 [.int .u64 0,.int .i64 0,.int .u64 0]:=(bU.block _ (by omega)).trans ((bZ.block _ (by omega)).trans ((J.block _ x1.lt).trans x1));have yB:RowIs U X.heap.size 188 (Dc s):=kU _ _ _ xZ;have aO:RdB U (some ⟨X.heap.size,5,none⟩) 59 59 (ckR s):=by
   refine⟨by unfold ckR;rw[ByteArray.size_extract,R];rfl,fun e=>(by cases e),fun j v n=>⟨_,rfl,?_⟩⟩;rw[Addr.add_lit,yB.cell];unfold ckR at n;rw[Jn,List.getElem?_take]at n
   split at n
   ·rw[List.getElem?_drop]at n;exact n
   ·cases n
  have av:∀x,some (⟨X.heap.size,5,none⟩:Addr)=some x->x.block≠Z.heap.size:=fun x e=>by cases e;show X.heap.size≠Z.heap.size;omega
  refine⟨by rw[aa],Y,Z,eY,xY,B,U,eU,?_⟩;refine(Zco U Z.heap.size _ 59 59 (ckR s) xU aO (Nat.le_refl _) av 8 (by omega) (by omega)).mono ?_;rintro e r ⟨rfl,a2,c2,q1,q2,q3,q4,u⟩;refine⟨by rw[H];rfl,?_⟩;have aN:∀x,a2=some x->x.block≠Z.heap.size:=fun x e=>by obtain⟨y,e2,e3⟩:=q4 x e;rw[<-e3];exact av y e2
  have aZ:=u.size;refine(U6 r Z.heap.size a2 (59-8) c2 _ q1 q2 q3 aN (by omega)).mono ?_;rintro e d ⟨rfl,a3,c3,r1,r2,r3,r4,z⟩;obtain⟨q,aL,W,ax,a1,aK⟩:=De d [.int .u64 (T:Nat),.int .i64 (f:Nat),.int .u64 (g:Nat)] 191;have a0:=z.size;have aS:RowIs r X.heap.size 188 (Dc s):=yB.fr u (show ¬X.heap.size=Z.heap.size by omega);have aT:RowIs d X.heap.size 188 (Dc s):=aS.fr z (show ¬X.heap.size=Z.heap.size by omega);have ai:=ax _ _ _ aT;have aQ:RowIs r w.heap.size 191 _:=y1.fr u (show ¬w.heap.size=Z.heap.size by omega);have aR:RowIs d w.heap.size 191 _:=aQ.fr z (show ¬w.heap.size=Z.heap.size by omega);have ay:=ax _ _ _ aR;have aw:Below w.heap.size w q:=by
   have h1:Below w.heap.size U r:=⟨u.os,u.tape,u.output,u.size,fun k Q=>u.block k (by omega) (by omega)⟩;have h2:Below w.heap.size r d:=⟨z.os,z.tape,z.output,z.size,fun k Q=>z.block k (by omega) (by omega)⟩;exact aP.trans (h1.trans (h2.trans (aK.mono (by omega))))
  refine⟨by rw[G,L];rfl,q,aL,(W.cell 0).trans rfl,(W.cell 1).trans rfl,(W.cell 2).trans rfl,fun j v n=>by rw[ai.cell,Nat.zero_add];exact n,?_⟩;refine(Zef q.drew T f g (by rw[H];exact ckT_lt s) (by rw[G];exact Zk4 _) (by rw[L];exact Zk3 _)).mono ?_;rintro e m ⟨rfl,M⟩;have ad:Below q.heap.size q m:=⟨M.os,M.tape,M.output,M.size,M.block⟩;have z3:RowIs m d.heap.size 191 _:=(ad.block _ W.lt).trans W;have zB:RowIs m X.heap.size 188 (Dc s):=(ad.block _ ai.lt).trans ai;exact⟨by rw[ac],⟨(z3.cell 0).trans rfl,(z3.cell 1).trans rfl,(z3.cell 2).trans rfl,fun j v n=>by rw[zB.cell,Nat.zero_add];exact n⟩,(ad.block _ ay.lt).trans ay,aw.trans (ad.mono aw.size),by omega,by omega⟩
 have aq:(Dc s).length=64:=by rw[Dg,R]
 have af:=Db aq;have aB:=Db e1;have ak:Hid (Zet w i s=fun e w'=>e = .returned (.tuple #[.agg #[.int .u64 (T:Nat),.int .i64 (f:Nat),.int .u64 (g:Nat)],.bool OK])/\Below w.heap.size w w'):=by show _=_;unfold Zet;rw[H,G,L,ag]
 rw[Da ak];have aU:=Db (Zhc (T:Nat) (f:Nat) (g:Nat));clear ak e1 x1 k1 s1 C an h hi H G L aa ac ab ag R aq;go_enter Tryz.func201,Tryz.ntmps201;go_upto_region 1 with fail;rw[show w.alloc (.cells #[.int .u64 0,.int .i64 0,.int .u64 0] 191)=W1 from Da aB];go_upto_region 2 with(first|(go_at_call 239;refine(Da HA).mono ?_;rintro e X ⟨rfl,Y,Z,hY,xY,B,U,hU,HB⟩;have HY:=Db hY;have aJ:=Db xY;have HZ:=Db B;have HU:=Db hU;clear hY xY B hU)|(refine JF rfl 188 rfl Kq ?_;rw[show X.alloc (.cells (Dc (Dm 64)).toArray 188)=Y from Da HY])|(refine wpList_store_row rfl 188 _ _ rfl X.heap.size (Dc s).toArray rfl (Da am) 188 _ (Da aJ) (by rw[D2];simp[Da af]) (by simp[Da af,Dg,Jl]) (KG _) ?_;rw[Da HZ]));go_upto_region 3 with fail;rw[show Z.alloc (.cells #[.slice (some ⟨X.heap.size,5,none⟩) 59 59] 287)=U from Da HU];go_upto_region 4 with(first|(go_at_call 240;refine(Da HB).mono ?_;rintro e r ⟨rfl,HC⟩)|(go_at_call 238;refine(Da HC).mono ?_;rintro e d ⟨rfl,q,ao,u0,u1,u2,ur,HP⟩;have aE:=Db ao;have aF:=Db ur;clear ao ur));rw[show d.alloc (.cells #[.int .u64 (T:Nat),.int .i64 (f:Nat),.int .u64 (g:Nat)] 191)=q from Da aE];refine wp_region_held_drew (S:=fun V=>V.cell? ⟨d.heap.size,0,none⟩=some (.int .u64 (T:Nat))/\V.cell? ⟨d.heap.size,1,none⟩=some (.int .i64 (f:Nat))/\V.cell? ⟨d.heap.size,2,none⟩=some (.int .u64 (g:Nat))/\V.rangeAt X.heap.size 0 (Dc s)) (by kernel_rfl) ⟨u0,u1,u2,Da aF⟩ (fun aX=>?_);refine tk 0 ?_;try simp only[pE];refine tk 1 ?_;try simp only[pE];refine tk 3 ?_;try simp only[pE];refine wpAnyH_take (i:=4) (v:=VB) rfl (by kernel_rfl) (by kernel_rfl) (by kernel_rfl) (fun _ _ _ h=>h) (by rw[Da am];exact yieldsIf_load_mid (by rfl) 188 _ rfl X.heap.size 0 rfl (Dc s) _ (fun X J=>J.2.2.2) JQ rfl (by rw[D2,Da af])) (by assumption) ?_
 (try simp only[pE])
 refine wpAnyH_take (i:=5) (v:=VI) rfl (by kernel_rfl) (by kernel_rfl) (by kernel_rfl) (fun _ _ _ h=>h) (Or.inl ⟨by rfl,fun V _=>by rw[Da aH];exact ZfF V 207 0 1 _ _ rfl (.int .i64 (i:Nat)) VB rfl rfl (Da aA)⟩) (by assumption) ?_
 (try simp only[pE])
 refine rk 2 (fun K F=>?_);go_simp;go_at_call 160;refine(Da HP).mono ?_;rintro e m ⟨rfl,O,A,aj,al⟩;go_wp2_with fail;refine F.out _ _ O (fun aV=>?_);clear F K
 (try simp only[pE])
 refine wpAnyH_take (i:=6) (v := .bool OK) rfl (by kernel_rfl) (by kernel_rfl) (by kernel_rfl) (fun _ _ _ h=>h) (Or.inl ⟨by rfl,fun V _=>Zep V .eql 207 _ _ _ rfl VK VI rfl rfl (Da aC V _ _) (Da aD V)⟩) (by assumption) ?_
 (try simp only[pE])
 obtain⟨ae,au⟩:=Da al;have b0:=A.cell 0;have C:=A.cell 1;have b2:=A.cell 2;have g0:=A.frozen 0;have g1:=A.frozen 1;have g2:=A.frozen 2;obtain⟨t,I⟩:∃V,((m.setCell ⟨w.heap.size,0,none⟩ (.int .u64 (T:Nat))).setCell ⟨w.heap.size,1,none⟩ (.int .i64 (f:Nat))).setCell ⟨w.heap.size,2,none⟩ (.int .u64 (g:Nat))=V:=⟨_,rfl⟩;have x5:RowIs t w.heap.size 191 [.int .u64 (T:Nat),.int .i64 (f:Nat),.int .u64 (g:Nat)]:=by
  rw[<-I];exact((A.set 0 (.int .u64 (T:Nat))).set 1 (.int .i64 (f:Nat))).set 2 (.int .u64 (g:Nat))
 have ap:Below w.heap.size w t:=by
  rw[<-I];exact(((Da aj).setCell (p:=⟨w.heap.size,0,none⟩) (Nat.le_refl _) _).setCell (p:=⟨w.heap.size,1,none⟩) (Nat.le_refl _) _).setCell (p:=⟨w.heap.size,2,none⟩) (Nat.le_refl _) _
 have ar:Fr (fun k=>k=w.heap.size) m t:=by
  rw[<-I];exact(((Fr.refl (fun k=>k=w.heap.size) m).set ⟨w.heap.size,0,none⟩ (.int .u64 (T:Nat)) rfl).set ⟨w.heap.size,1,none⟩ (.int .i64 (f:Nat)) rfl).set ⟨w.heap.size,2,none⟩ (.int .u64 (g:Nat)) rfl
 have N:∀(k o:Nat) (v:Value),k≠w.heap.size->m.cell? ⟨k,o,none⟩=some v->t.cell? ⟨k,o,none⟩=some v:=fun k o v Q n=>(World.cell?_of_block (a:=⟨k,o,none⟩) (ar.block k (World.block_lt_of_cell? _ _ n) Q)).trans n
 have aM:t.cell? ⟨d.heap.size,0,none⟩=some (.int .u64 (T:Nat))/\t.cell? ⟨d.heap.size,1,none⟩=some (.int .i64 (f:Nat))/\t.cell? ⟨d.heap.size,2,none⟩=some (.int .u64 (g:Nat))/\t.rangeAt X.heap.size 0 (Dc s):=
  ⟨N _ _ _ ae.symm O.1,N _ _ _ ae.symm O.2.1,N _ _ _ ae.symm O.2.2.1,fun j v n=>N _ _ _ au.symm (O.2.2.2 j v n)⟩
 have aG:=Db I;have aI:=Db x5;have az:=Db ap;clear I x5 ap ar N ae au A aj al;refine rk 7 (fun K F=>?_);go_simp;rw[Da aG];refine F.out _ _ aM (fun aW=>?_);clear F K
 (try simp only[pE])
 refine tk 8 ?_;try simp only[pE];refine wpAnyH_done (by kernel_rfl) ?_ _;clear b0 C b2 g0 g1 g2;go_wp2;have ah:=Da aI;have r0:=ah.cell 0;have r1:=ah.cell 1;have r2:=ah.cell 2;exact bodyPost_ret (v := .tuple #[.agg #[.int .u64 (T:Nat),.int .i64 (f:Nat),.int .u64 (g:Nat)],.bool OK]) (by simp[results,Tryz.results201,go_sem,r0,r1,r2]) rfl ⟨rfl,Da az⟩
def KP(s0 s1:By):Option (Nat×Nat×Nat):=
 if KM 0 s0=true/\KM 1 s1=true then
  if ckT s0=(ckT s1+1)%18446744073709551616 then some (ckT s0,rdP (ckQ s0),rdX (ckQ s0))
  else if ckT s1=(ckT s0+1)%18446744073709551616 then some (ckT s1,rdP (ckQ s1),rdX (ckQ s1))
  else none
 else none
def Kg(o:Option (Nat×Nat×Nat)):Value:=
 match o with
 | some (t,p,x) => .tuple #[.agg #[.int .u64 (t:Nat),.int .i64 (p:Nat),.int .u64 (x:Nat)],.bool true]
 | none => .tuple #[.agg #[.int .u64 0,.int .i64 0,.int .u64 0],.bool false]
theorem QR{w:World}{g:Nat}{t:TypeId}{a b c:Value}(h:RowIs w g t [a,b,c])(x y z:Value):RowIs (((w.setCell ⟨g,0,none⟩ x).setCell ⟨g,1,none⟩ y).setCell ⟨g,2,none⟩ z) g t [x,y,z]:=((h.set 0 x).set 1 y).set 2 z
theorem Uo{n:Nat}{w w':World}{g:Nat}(h:Below n w w')(a:n<=g)(x y z:Value):Below n w (((w'.setCell ⟨g,0,none⟩ x).setCell ⟨g,1,none⟩ y).setCell ⟨g,2,none⟩ z):=
 ((h.setCell (p:=⟨g,0,none⟩) a _).setCell (p:=⟨g,1,none⟩) a _).setCell (p:=⟨g,2,none⟩) a _
theorem ZgM(w:World)(x:Nat)(L vw K:Value)(a:OA)(l c:Nat)(D:LY)(h:DS w x L (.slice a l c) vw K D)(j m:By)(h0:D[0]?=some j)(h1:D[1]?=some m):
  Calls Tryz.prog 135 #[.pointer (some ⟨x,0,none⟩)] w fun e w'=>e = .returned (Kg (KP j m))/\Below w.heap.size w w':=by
 obtain⟨G,e1,x1,k1,z1,R⟩:=De w [.int .u64 0,.int .i64 0,.int .u64 0] 191;have S:∀X,Below w.heap.size w X->DS X x L (.slice a l c) vw K D:=fun X hb=>⟨(hb.block _ h.1.lt).trans h.1,⟨h.2.1.1.kept (fun k hk _=>hb.block k hk),h.2.1.2⟩,h.2.2⟩
 obtain⟨f,aa⟩:∃T,T=ckT j:=⟨_,rfl⟩;obtain⟨r,W⟩:∃T,T=rdP (ckQ j):=⟨_,rfl⟩;obtain⟨t,ac⟩:∃T,T=rdX (ckQ j):=⟨_,rfl⟩;obtain⟨g,ab⟩:∃T,T=ckT m:=⟨_,rfl⟩;obtain⟨s,Z⟩:∃T,T=rdP (ckQ m):=⟨_,rfl⟩;obtain⟨u,ad⟩:∃T,T=rdX (ckQ m):=⟨_,rfl⟩;obtain⟨O,U⟩:∃b,b=KM 0 j:=⟨_,rfl⟩;obtain⟨K1,V⟩:∃b,b=KM 1 m:=⟨_,rfl⟩;have HC:Hid (Calls Tryz.prog 201 #[.pointer (some ⟨x,0,none⟩),.int .i64 0] G fun e X=>e = .returned (.tuple #[.agg #[.int .u64 (f:Nat),.int .i64 (r:Nat),.int .u64 (t:Nat)],.bool O])/\∃Y,X.alloc (.cells #[.int .u64 (f:Nat),.int .i64 (r:Nat),.int .u64 (t:Nat)] 191)=Y/\
   Hid (Calls Tryz.prog 201 #[.pointer (some ⟨x,0,none⟩),.int .i64 1] Y fun e y=>e = .returned (.tuple #[.agg #[.int .u64 (g:Nat),.int .i64 (s:Nat),.int .u64 (u:Nat)],.bool K1])/\∃n,y.alloc (.cells #[.int .u64 (g:Nat),.int .i64 (s:Nat),.int .u64 (u:Nat)] 191)=n/\RowIs n w.heap.size 191 [.int .u64 0,.int .i64 0,.int .u64 0]/\RowIs n X.heap.size 191 [.int .u64 (f:Nat),.int .i64 (r:Nat),.int .u64 (t:Nat)]/\RowIs n y.heap.size 191 [.int .u64 (g:Nat),.int .i64 (s:Nat),.int .u64 (u:Nat)]/\Hid (Below w.heap.size w n))):=by
  refine(Zfj G x L vw K a l c D (S G R) 0 j h0).mono ?_;rintro e X ⟨rfl,hX⟩;obtain⟨Y,eY,xY,kY,sY,bY⟩:=De X [.int .u64 (f:Nat),.int .i64 (r:Nat),.int .u64 (t:Nat)] 191;have aw:=hX.size;have aj:Below w.heap.size w X:=R.trans (hX.mono (by omega));have J:Below w.heap.size w Y:=aj.trans (bY.mono aj.size);refine⟨by rw[aa,W,ac,U],Y,eY,?_⟩;refine(Zfj Y x L vw K a l c D (S Y J) 1 m h1).mono ?_;rintro e y ⟨rfl,I⟩;obtain⟨n,an,au,ak,ax,am⟩:=De y [.int .u64 (g:Nat),.int .i64 (s:Nat),.int .u64 (u:Nat)] 191;have av:=I.size;have y1:RowIs Y w.heap.size 191 _:=kY _ _ _ ((hX.block _ x1.lt).trans x1);refine⟨by rw[ab,Z,ad,V],n,an,ak _ _ _ ((I.block _ y1.lt).trans y1),ak _ _ _ ((I.block _ xY.lt).trans xY),au,J.trans ((I.mono J.size).trans (am.mono (by have:=J.size;omega)))⟩
 have F:Hid (KP j m=if O=true/\K1=true then if f=(g+1)%18446744073709551616 then some (f,r,t) else if g=(f+1)%18446744073709551616 then some (g,s,u) else none else none):=by
  show KP j m=_;unfold KP;rw[aa,W,ac,ab,Z,ad,U,V]
 have aq:IntKind.u64.wrap ((f:Int)+1)=(((f+1)%18446744073709551616:Nat):Int):=by simp[IntKind.wrap,IntKind.bits,IntKind.signed]
 have ar:IntKind.u64.wrap ((g:Int)+1)=(((g+1)%18446744073709551616:Nat):Int):=by simp[IntKind.wrap,IntKind.bits,IntKind.signed]
 obtain⟨P,ag⟩:∃M,M=(f+1)%18446744073709551616:=⟨_,rfl⟩;obtain⟨Q,ah⟩:∃M,M=(g+1)%18446744073709551616:=⟨_,rfl⟩;rw[<-ag]at aq F;rw[<-ah]at ar F;obtain⟨LV,H⟩:∃v,v=Kg (KP j m):=⟨_,rfl⟩;rw[<-H];rw[Da F]at H;have A:=Db H;have al:=Db e1;clear H F ag ah e1 x1 k1 z1 R S h h0 h1 aa W ac ab Z ad U V;go_enter Tryz.func135,Tryz.ntmps135;go_upto_region 1 with fail;rw[show w.alloc (.cells #[.int .u64 0,.int .i64 0,.int .u64 0] 191)=G from Da al];go_upto_region 2 with(go_at_call 201;refine(Da HC).mono ?_;rintro e X ⟨rfl,Y,hY,ae⟩;have HY:=Db hY;clear hY);rw[show X.alloc (.cells #[.int .u64 (f:Nat),.int .i64 (r:Nat),.int .u64 (t:Nat)] 191)=Y from Da HY];go_upto_region 3 with(go_at_call 201;refine(Da ae).mono ?_;rintro e y ⟨rfl,n,ai,i,r1,r2,z⟩;have af:=Db ai;clear ai);rw[show y.alloc (.cells #[.int .u64 (g:Nat),.int .i64 (s:Nat),.int .u64 (u:Nat)] 191)=n from Da af];have a0:=i.cell 0;have a1:=i.cell 1;have a2:=i.cell 2;have f0:=i.frozen 0;have f1:=i.frozen 1;have f2:=i.frozen 2;have c0:=r1.cell 0;have c1:=r1.cell 1;have c2:=r1.cell 2;have d0:=r2.cell 0;have d1:=r2.cell 1;have d2:=r2.cell 2;clear HC ae HY af
 cases O
 ·go_wp2;have d:=QR i (.int .u64 0) (.int .i64 0) (.int .u64 0);have o:=d.cell 0;have p:=d.cell 1;have q:=d.cell 2;exact bodyPost_ret (v:=Kg none) (by simp[results,Tryz.results135,go_sem,o,p,q,Kg]) rfl ⟨by rw[Da A];simp,Uo (Da z) (Nat.le_refl _) _ _ _⟩
 ·cases K1
  ·go_wp2;have d:=QR i (.int .u64 0) (.int .i64 0) (.int .u64 0);have o:=d.cell 0;have p:=d.cell 1;have q:=d.cell 2;exact bodyPost_ret (v:=Kg none) (by simp[results,Tryz.results135,go_sem,o,p,q,Kg]) rfl ⟨by rw[Da A];simp,Uo (Da z) (Nat.le_refl _) _ _ _⟩
  ·by_cases B:f=Q
   ·have ao:((f:Int)==(Q:Int))=true:=by rw[B];simp
    have E:=Db B;clear B;go_wp2;have d:=QR i (.int .u64 (f:Nat)) (.int .i64 (r:Nat)) (.int .u64 (t:Nat));have o:=d.cell 0;have p:=d.cell 1;have q:=d.cell 2;exact bodyPost_ret (v:=Kg (some (f,r,t))) (by simp[results,Tryz.results135,go_sem,o,p,q,Kg]) rfl ⟨by rw[Da A];simp[Da E],Uo (Da z) (Nat.le_refl _) _ _ _⟩
   ·have ao:((f:Int)==(Q:Int))=false:=by rw[beq_eq_false_iff_ne];omega
    have E:=Db B;clear B;by_cases C:g=P
    ·have ap:((g:Int)==(P:Int))=true:=by rw[C];simp
     have N:=Db C;clear C;go_wp2;have d:=QR i (.int .u64 (g:Nat)) (.int .i64 (s:Nat)) (.int .u64 (u:Nat));have o:=d.cell 0;have p:=d.cell 1;have q:=d.cell 2;exact bodyPost_ret (v:=Kg (some (g,s,u))) (by simp[results,Tryz.results135,go_sem,o,p,q,Kg]) rfl ⟨by rw[Da A];simp[Da E,Da N],Uo (Da z) (Nat.le_refl _) _ _ _⟩
    ·have ap:((g:Int)==(P:Int))=false:=by rw[beq_eq_false_iff_ne];omega
     have N:=Db C;clear C;go_wp2;have d:=QR i (.int .u64 0) (.int .i64 0) (.int .u64 0);have o:=d.cell 0;have p:=d.cell 1;have q:=d.cell 2;exact bodyPost_ret (v:=Kg none) (by simp[results,Tryz.results135,go_sem,o,p,q,Kg]) rfl ⟨by rw[Da A];simp[Da E,Da N],Uo (Da z) (Nat.le_refl _) _ _ _⟩
theorem Zdd{P:Program}{fn:Func}{p q:Tmp}{ty:TypeId}(h:fn.results = #[.cell p ty,.tmp q])(tmps:Array Value)(w:World)(g:Nat)(t:TypeId)(a:Array Value)(b:Nat×Nat)(d:TypeDesc)
  (i:tmps.getD p undef = .pointer (some ⟨g,0,none⟩)) (e:w.heap[g]?=some (.cells a t b))
  (k:P.underlying ty=some d) (c:(match d with | .struct _ | .array _ _=>true|_=>false)=true) (f:(P.info? ty).map (·.size)=some a.size):
  (results fn tmps).run P w = .ok (.tuple #[.agg a,tmps.getD q undef]) w:=by
 have j:tmps[p]?.getD undef = .pointer (some ⟨g,0,none⟩):=by simpa using i
 simp[results,h,j,asAddr,run_loadVar_row w g t ty a b d e k c f]
theorem ZnZ(L a:LVa)(h:a.length=L.length):spl L 0 a=a:=by
 unfold spl;simp[h]
def Zno(w:World)(rb p:Nat)(L:LVa)(s:By)(e:Ending)(w':World):Prop:=
 e = .returned (.tuple #[DA s,.bool true])/\RowIs w' rb 197 (L.set (4+p) (.bool true))/\Fr (fun k=>k=rb) w w'
theorem ZnV(w:World)(b i:Nat)(L:LVa)(J:RowIs w b 197 L)(ac:L[0]?=some (.pointer (some ⟨i,0,none⟩)))(T vw R:Value)(a:OA)(l c:Nat)(D:LY)(h:DS w i T (.slice a l c) vw R D)(ah:b≠i)(ai:¬Own (.slice a l c) b)(p x:Nat)(aK:16<=p)(aL:p<1536)(H:L[4+p]?=some (.bool false))(s:By)(O:D[p]?=some s):
  Calls Tryz.prog 241 #[.pointer (some ⟨b,0,none⟩),.agg #[.int .i64 (p:Nat),.int .u64 (x:Nat)]] w (Zno w b p L s):=by
 have aj:s.size=64:=h.2.1.2 s (List.mem_of_getElem? O);obtain⟨E,e1,x1,k1,z1,b1⟩:=De w [.int .i64 (p:Nat),.int .u64 (x:Nat)] 175;obtain⟨j,e2,U,Q,z2,b2⟩:=De E (Dc (Dm 64)) 188;rw[z1]at U;have r:Below w.heap.size w j:=b1.trans (b2.mono (by omega));have aM:=J.lt;have W:=Q _ _ _ x1;have Y:=Q _ _ _ (k1 _ _ _ J);obtain⟨VB,I⟩:∃V,V=DA s:=⟨_,rfl⟩;have aa:Hid (∀f:World,f.heap=j.heap->f.os=j.os->f.tape=j.tape->f.output=j.output->f.cell? ⟨w.heap.size,0,none⟩=some (.int .i64 (p:Nat))/\f.cell? ⟨b,4+p,none⟩=some (.bool false)/\f.frozen? ⟨b,4+p,none⟩=false/\∃d,f.setCell ⟨b,4+p,none⟩ (.bool true)=d/\d.cell? ⟨w.heap.size,0,none⟩=some (.int .i64 (p:Nat))/\d.cell? ⟨b,0,none⟩=some (.pointer (some ⟨i,0,none⟩))/\
   Hid (Calls Tryz.prog 239 #[.pointer (some ⟨i,0,none⟩),.int .i64 (p:Nat)] d.drew fun e X=>e = .returned VB/\X.cell? ⟨w.heap.size,0,none⟩=some (.int .i64 (p:Nat))/\X.cell? ⟨b,0,none⟩=some (.pointer (some ⟨i,0,none⟩))/\RowIs X (w.heap.size+1) 188 (Dc (Dm 64))/\∃Z,X.setRow (w.heap.size+1) (Dc s).toArray=Z/\Z.cell? ⟨w.heap.size,0,none⟩=some (.int .i64 (p:Nat))/\Z.cell? ⟨b,0,none⟩=some (.pointer (some ⟨i,0,none⟩))/\RowIs Z (w.heap.size+1) 188 (Dc s)/\Hid (RowIs Z b 197 (L.set (4+p) (.bool true))/\Fr (fun k=>k=b) w Z))):=fun f u ho ht hu=>by
  have N:RowIs f b 197 L:=by unfold RowIs;rw[u];exact Y
  have ap:RowIs f w.heap.size 175 [.int .i64 (p:Nat),.int .u64 (x:Nat)]:=by unfold RowIs;rw[u];exact W
  have aB:RowIs f (w.heap.size+1) 188 (Dc (Dm 64)):=by unfold RowIs;rw[u];exact U
  obtain⟨d,n⟩:∃X,f.setCell ⟨b,4+p,none⟩ (.bool true)=X:=⟨_,rfl⟩;have t:Fr (fun k=>k=b) w d:=by
   rw[<-n];exact Fr.set (X:=fun k=>k=b) (w':=f) ⟨ho.trans r.os,ht.trans r.tape,hu.trans r.output,by rw[u];exact r.size,fun k A _=>by rw[u];exact r.block k A⟩ ⟨b,4+p,none⟩ _ rfl
  have M:RowIs d b 197 (L.set (4+p) (.bool true)):=by rw[<-n];exact N.set (4+p) _
  have P:RowIs d w.heap.size 175 [.int .i64 (p:Nat),.int .u64 (x:Nat)]:=by rw[<-n];exact(Below.heap_setCell _ _ _ _ (show w.heap.size≠b by omega)).trans ap
  have ak:RowIs d (w.heap.size+1) 188 (Dc (Dm 64)):=by rw[<-n];exact(Below.heap_setCell _ _ _ _ (show w.heap.size+1≠b by omega)).trans aB
  have G:(L.set (4+p) (.bool true))[0]?=some (.pointer (some ⟨i,0,none⟩)):=by rw[List.getElem?_set_ne (by omega)];exact ac
  have ae:Fr (fun k=>k=b) w d.drew:=⟨t.os,t.tape,t.output,t.size,t.block⟩;have ay:DS d.drew i T (.slice a l c) vw R D:=⟨h.1.fr ae (fun (e:i=b)=>ah e.symm),⟨h.2.1.1.fr ae (fun g hg (e:g=b)=>ai (by rw[<-e];exact hg)),h.2.1.2⟩,h.2.2⟩;refine⟨(ap.cell 0).trans rfl,(N.cell _).trans H,N.frozen _,d,n,(P.cell 0).trans rfl,(M.cell 0).trans G,?_⟩;refine(Zi9 d.drew i T vw R a l c D ay p s O).mono ?_;rintro e X ⟨rfl,y⟩;have C:Below d.heap.size d X:=⟨y.os,y.tape,y.output,y.size,y.block⟩;have af:RowIs X b 197 _:=(C.block _ M.lt).trans M;have ao:RowIs X w.heap.size 175 _:=(C.block _ P.lt).trans P;have al:RowIs X (w.heap.size+1) 188 _:=(C.block _ ak.lt).trans ak;have so:∀k,k≠w.heap.size+1->(X.setRow (w.heap.size+1) (Dc s).toArray).heap[k]?=X.heap[k]? := fun k A=>setRow_other X _ k _ A
  have ag:RowIs (X.setRow (w.heap.size+1) (Dc s).toArray) b 197 _:=(so _ (by omega)).trans af;have aC:RowIs (X.setRow (w.heap.size+1) (Dc s).toArray) w.heap.size 175 _:=(so _ (by omega)).trans ao;refine⟨by rw[I],(ao.cell 0).trans rfl,(af.cell 0).trans G,al,_,rfl,(aC.cell 0).trans rfl,(ag.cell 0).trans G,setRow_heap X _ _ _ 188 _ al,ag,?_⟩;have z:Fr (fun k=>k=b) w X:=t.then (Fr.of_below (X:=fun _=>False) C) (fun _ _ e=>e.elim);exact⟨z.os,z.tape,z.output,by simp[World.setRow];exact z.size,fun k A aA=>(so k (by omega)).trans (z.block k A aA)⟩
 have F:j.cell? ⟨w.heap.size,0,none⟩=some (.int .i64 (p:Nat)):=(W.cell 0).trans rfl;have ct:j.cell? ⟨b,4+p,none⟩=some (.bool false):=(Y.cell _).trans H;have aH:¬((p:Int)<16):=by omega
 have aI:¬((1536:Int)<=(p:Int)):=by omega
 have aJ:(p:Int)<1536:=by omega
 have ad:(Dc s).length=64:=by rw[Dg,aj]
 have B:=Db ad;have au:=Db I;have aq:=Db e1;have ar:=Db e2;clear e1 e2 x1 U k1 Q z1 z2 b1 b2 W Y J ac h ah ai H O aj I ad r;go_enter Tryz.func241,Tryz.ntmps241;go_upto_region 1 with(refine JF rfl 188 rfl Kq ?_);rw[show w.alloc (.cells #[.int .i64 (p:Nat),.int .u64 (x:Nat)] 175)=E from Da aq,show E.alloc (.cells (Dc (Dm 64)).toArray 188)=j from Da ar]
 go_quiet (fail)
 obtain⟨Wq,o⟩:∃X,j.drewN nq=X:=⟨_,rfl⟩;rw[o];have hq:=Da aa Wq.drew (by rw[<-o];rfl) (by rw[<-o];rfl) (by rw[<-o];rfl) (by rw[<-o];rfl);clear aa o F ct;obtain⟨F,ct,aG,d,n,c3,d3,HC⟩:=hq;have av:=Db n;clear n;go_upto_region 3 with fail;refine wp_region_held_drew (S:=fun X=>X.cell? ⟨w.heap.size,0,none⟩=some (.int .i64 (p:Nat))) (by kernel_rfl) F (fun az=>?_);refine tk 0 ?_;try simp only[pE];refine tk 1 ?_;try simp only[pE];refine tk 2 ?_;try simp only[pE];refine tk 3 ?_;try simp only[pE];refine tk 4 ?_;try simp only[pE];refine tk 5 ?_;try simp only[pE];refine rk 6 (fun K m=>?_);go_simp;rw[show(Wq.setCell ⟨b,4+p,none⟩ (.bool true)).drew=d from Da av];refine m.out _ _ c3 (fun aD=>?_);clear m K
 (try simp only[pE])
 refine wpAnyH_done (by kernel_rfl) ?_ _;go_upto_region 4 with fail;refine wp_region_held_drew (S:=fun X=>X.cell? ⟨w.heap.size,0,none⟩=some (.int .i64 (p:Nat))/\X.cell? ⟨b,0,none⟩=some (.pointer (some ⟨i,0,none⟩))) (by kernel_rfl) ⟨c3,d3⟩ (fun az=>?_);refine tk 0 ?_;try simp only[pE];refine tk 1 ?_;try simp only[pE];refine tk 2 ?_;try simp only[pE];refine tk 3 ?_;try simp only[pE];refine tk 4 ?_;try simp only[pE];refine tk 5 ?_;try simp only[pE];refine rk 6 (fun K m=>?_);go_simp;go_at_call 239;refine(Da HC).mono ?_;rintro e X ⟨rfl,cX,dX,am,Z,hZ,cZ,dZ,an,ab⟩;have aw:=Db am;have ax:=Db an;have HZ:=Db hZ;clear HC am an hZ;go_wp2_with fail;refine m.out _ _ ⟨cX,dX⟩ (fun aE=>?_);clear m K
 (try simp only[pE])
 refine rk 7 (fun K m=>?_);refine Zdg rfl 188 _ _ rfl (w.heap.size+1) 0 188 (Dc (Dm 64)) (Dc s) rfl (Da au) (Da aw) (by rw[Da B,Dg,Jl];omega) (by rw[D2,Da B]) (Kc s) Z (by rw[ZnZ _ _ (by rw[Da B,Dg,Jl])];exact Da HZ) ?_;refine m.out _ _ ⟨cZ,dZ⟩ (fun aF=>?_);clear m K
 (try simp only[pE])
 refine tk 8 ?_;try simp only[pE];refine wpAnyH_done (by kernel_rfl) ?_ _;go_wp2_with fail;refine bodyPost_ret (v := .tuple #[DA s,.bool true]) ?_ rfl ⟨rfl,(Da ab).1,(Da ab).2⟩;exact Zdd (fn:=Tryz.f241) (p:=4) (q:=5) (ty:=188) rfl _ _ (w.heap.size+1) 188 (Dc s).toArray (0,0) _ rfl (Da ax) UB rfl (by rw[D2];simp[Da B])
end Go.Proofs.YtaieidcohdhgpaaGreatDoor
