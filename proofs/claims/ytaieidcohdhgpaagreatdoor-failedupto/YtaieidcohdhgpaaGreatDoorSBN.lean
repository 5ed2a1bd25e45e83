/- Failed. -/
import Derived.Test.YtaieidcohdhgpaaGreatDoorSBM
namespace Go.Proofs.YtaieidcohdhgpaaGreatDoor
set_option maxHeartbeats 40000000
set_option maxRecDepth 100000
open Go.RowKit
def JU(G:Gh)(rd:Nat)(E:NS)(ns:LY):List Ek:=
 if ns=[] then (E rd).map Js else
 match atG G ns with
 | some ⟨some ⟨b,_,_⟩,_⟩=>(E b).map Js
 | _=>[]
def dvOf(I:LF)(n:Nat):Value:=
 match I.find? (fun x=>x.1==(n:Int)) with
 | some x => .slice x.2.a x.2.l x.2.c
 | none => .slice none 0 0
theorem SrtI.key{es:LF}(h:SrtI es){x y:Int×VF}(d:x∈es)(f:y∈es)(e:x.1=y.1):x=y:=by
 obtain⟨i,c⟩:=List.mem_iff_getElem?.1 d;obtain⟨j,b⟩:=List.mem_iff_getElem?.1 f;rcases Nat.lt_trichotomy i j with a|a|a
 ·have:=h i j x y a c b;rw[e,KC]at this;cases this
 ·subst a;rw[c]at b;exact Option.some.inj b
 ·have:=h j i y x a b c;rw[e,KC]at this;cases this
theorem Zi0{I:LF}(h:SrtI I){n:Nat}{r:VF}(b:((n:Int),r)∈I):dvOf I n = .slice r.a r.l r.c:=by
 unfold dvOf
 cases e:I.find? (fun x=>x.1==(n:Int)) with
 | none=>
  have:=List.find?_eq_none.1 e _ b;simp at this
 | some x=>
  have a:=List.find?_some e;simp only[beq_iff_eq]at a;have:=h.key (List.mem_of_find?_eq_some e) b a;rw[this]
theorem TW.wk{w:World}{tb rd:Nat}{V:NV}{E:NS}{vi:Value}{G:Gh}{I:LF}{CI:IB}(h:TW w tb rd V E vi G I CI)(c:GOk G)(e:G.length<=10000)(l:I.length<=10000)(i:∀x∈G,x.2.p=none->∃(n:Nat) (r:VF),x.2.f=n/\n<60/\((n:Int),r)∈I):WkT w tb rd V E vi G I CI (JU G rd E) (dvOf I):=by
 refine⟨h,c,e,l,fun ns b a=>?_,fun x k j=>?_⟩
 ·unfold JU;rcases a with⟨rfl,rfl⟩|a
  ·rw[if_pos rfl]
  ·rw[if_neg (c.ne _ a),KX c.nd a]
 ·obtain⟨n,r,f,g,d⟩:=i x k j;exact⟨n,r,f,g,d,Zi0 h.si d⟩
def itE(x:By×VS):It:=⟨[x.1],2,x.2.f.toNat⟩
theorem ZhY(a:LY->Seen->List It×Seen):∀(l:LS) (S:Seen),(∀x∈l,x.2.p=none)->(∀x∈l,S x.2.f.toNat=false)->(l.map (fun x=>x.2.f.toNat)).Nodup->(itL a [] (l.map Js) S).1=l.map itE
 | [],_,_,_,_=>rfl
 | x::l,S,h1,h2,h3=>by
  have f:=h1 x (by simp);have g:=h2 x (by simp);have c:Js x=(x.1,some x.2.f.toNat):=by unfold Js;rw[f];rfl
  have d:stp a [] S (Js x)=([⟨[x.1],2,x.2.f.toNat⟩],S.add x.2.f.toNat):=by
   rw[c];unfold stp;show(if S x.2.f.toNat=true then _ else _)=_;rw[g,if_neg (by decide)]
   rfl
  rw[List.map_cons,List.nodup_cons]at h3;show(stp a [] S (Js x)).1++(itL a [] (l.map Js) (stp a [] S (Js x)).2).1=_;rw[d];show [_]++(itL a [] (l.map Js) (S.add x.2.f.toNat)).1=_;rw[ZhY a l (S.add x.2.f.toNat) (fun y b=>h1 y (List.mem_cons_of_mem _ b)) (fun y b=>?_) h3.2]
  ·rfl
  ·unfold Seen.add;rw[if_neg (fun e=>h3.1 (List.mem_map.2 ⟨y,b,e⟩))];exact h2 y (List.mem_cons_of_mem _ b)
theorem Qf{α : Type}:∀(J K:List α),J.Nodup->(∀x∈J,x∈K)->J.length<=K.length
 | [],K,_,_=>Nat.zero_le _
 | a::J,K,hnd,hs=>by
  rw[List.nodup_cons]at hnd;obtain⟨s,t,rfl⟩:=List.append_of_mem (hs a (by simp));have ih:=Qf J (s++t) hnd.2 (fun x b=>by
   rcases List.mem_append.1 (hs x (by simp[b])) with h|h
   ·exact List.mem_append_left _ h
   ·rcases List.mem_cons.1 h with rfl|h
    ·exact absurd b hnd.1
    ·exact List.mem_append_right _ h)
  simp only[List.length_append,List.length_cons]at ih ⊢;omega
structure FlT(G:Gh)(I:LF)(CI:IB):Prop where
 fil:∀x∈G,∃n,∃f:Nat,x=([n],⟨none,(f:Int)⟩)/\DP n=true/\f<60
 nd:(G.map (·.1)).Nodup
 inj:∀x∈G,∀y∈G,x.2.f=y.2.f->x=y
 le:G.length<=8
 num:∀x∈G,∃r,(x.2.f,r)∈I
 sz:∀x∈G,(CI x.2.f).size<=1280
 back:∀x∈I,x.2.f=1/\x.2.l=(CI x.1).size/\∃y∈G,y.2.f=x.1
theorem FlT.gok{G:Gh}{I:LF}{CI:IB}(h:FlT G I CI):GOk G:=by
 refine⟨fun x a=>?_,fun x a=>?_,fun x a=>?_,h.nd,fun ns n u b=>?_⟩
 ·obtain⟨n,f,rfl,ho,_⟩:=h.fil x a;exact fun m b=>by rw[List.mem_singleton.1 b];exact ho
 ·obtain⟨n,f,rfl,ho,_⟩:=h.fil x a;exact fun e=>by cases e
 ·obtain⟨n,f,rfl,ho,_⟩:=h.fil x a;show 1<=6;omega
 ·obtain⟨m,f,e,ho,_⟩:=h.fil _ b;rw[Prod.mk.injEq]at e;have:=congrArg List.length e.1;simp at this;exact .inl this
section
variable{w:World}{tb rd:Nat}{V:NV}{E:NS}{vi:Value}{G:Gh}{I:LF}{CI:IB}
theorem FlT.root(h:FlT G I CI)(c:TW w tb rd V E vi G I CI){x:By×VS}(g:x∈E rd):([x.1],x.2)∈G/\x.2.p=none/\DP x.1=true/\∃f:Nat,x.2=⟨none,(f:Int)⟩/\f<60:=by
 have a:=(c.d.en [] rd (.inl ⟨rfl,rfl⟩) x.1 x.2).1 g;rw[List.nil_append]at a;obtain⟨n,f,e,ho,d⟩:=h.fil _ a;rw[Prod.mk.injEq]at e;have b:x.1=n:=by have:=e.1;injection this
 exact⟨a,by rw[e.2],by rw[b];exact ho,f,e.2,d⟩
theorem FlT.its(h:FlT G I CI)(c:TW w tb rd V E vi G I CI):DI (JU G rd E)=(E rd).map itE:=by
 have p:IsDir G rd [] rd := .inl ⟨rfl,rfl⟩;have d:=(c.d.srt [] rd p).nodup;show(itL (D4 (JU G rd E) 6) [] (JU G rd E []) (fun _=>false)).1=_;have e:JU G rd E []=(E rd).map Js:=by unfold JU;rw[if_pos rfl]
 rw[e];refine ZhY _ _ _ (fun x q=>(h.root c q).2.1) (fun _ _=>rfl) ?_;rw[List.nodup_iff_pairwise_ne,List.pairwise_map]at d ⊢;refine d.imp_of_mem (fun {a b} m o n e=>n ?_);obtain⟨i,_,_,f,j,_⟩:=h.root c m;obtain⟨k,_,_,g,l,_⟩:=h.root c o;have:=h.inj _ i _ k (by show a.2.f=b.2.f;rw[j,l]at e ⊢;show(f:Int)=(g:Int);have e2:(f:Int).toNat=(g:Int).toNat:=e;omega);rw[Prod.mk.injEq]at this;have:=this.1;injection this
theorem FlT.len(h:FlT G I CI)(c:TW w tb rd V E vi G I CI):(E rd).length<=8:=by
 have g:IsDir G rd [] rd := .inl ⟨rfl,rfl⟩;have d:=(c.d.srt [] rd g).nodup;have:=Qf ((E rd).map (fun x=>([x.1],x.2))) G (by
  rw[List.nodup_iff_pairwise_ne,List.pairwise_map]at d ⊢;refine d.imp (fun {a b} f e=>f ?_);rw[Prod.mk.injEq]at e;have:=e.1;injection this) (fun x i=>by
  obtain⟨y,j,rfl⟩:=List.mem_map.1 i;exact(h.root c j).1)
 rw[List.length_map]at this;have:=h.le;omega
theorem FlT.keep(h:FlT G I CI)(c:TW w tb rd V E vi G I CI):FlatL (fun n=>CI (n:Int)) ((E rd).map itE)/\TrW w tb rd V E vi G I CI (JU G rd E) (dvOf I) (fun n=>CI (n:Int)):=by
 have k:IsDir G rd [] rd := .inl ⟨rfl,rfl⟩;have p:=(c.d.srt [] rd k).nodup;have s:FlatL (fun n=>CI (n:Int)) ((E rd).map itE):=by
  refine⟨fun x d=>?_,fun x d=>?_,?_,?_,by rw[List.length_map];exact h.len c,fun x d=>?_,fun x d=>?_⟩
  ·obtain⟨y,i,rfl⟩:=List.mem_map.1 d;rfl
  ·obtain⟨y,i,rfl⟩:=List.mem_map.1 d;exact⟨y.1,rfl,(h.root c i).2.2.1⟩
  ·rw[List.map_map,List.nodup_iff_pairwise_ne,List.pairwise_map];rw[List.nodup_iff_pairwise_ne,List.pairwise_map]at p;refine p.imp (fun {a b} q e=>q ?_);have m:[a.1]=[b.1]:=e;injection m
  ·rw[List.map_map,List.nodup_iff_pairwise_ne,List.pairwise_map];rw[List.nodup_iff_pairwise_ne,List.pairwise_map]at p;refine p.imp_of_mem (fun {a b} v A q e=>q ?_);obtain⟨l,_,_,f,j,_⟩:=h.root c v;obtain⟨t,_,_,g,u,_⟩:=h.root c A;have m:a.2.f.toNat=b.2.f.toNat:=e;have:=h.inj _ l _ t (by show a.2.f=b.2.f;rw[j,u]at m ⊢;show(f:Int)=(g:Int);have e2:(f:Int).toNat=(g:Int).toNat:=m;omega);rw[Prod.mk.injEq]at this;have:=this.1;injection this
  ·obtain⟨y,i,rfl⟩:=List.mem_map.1 d;obtain⟨l,_,_,f,j,_⟩:=h.root c i;have:=h.sz _ l;show(CI ((y.2.f.toNat:Nat):Int)).size<=_;have e:((y.2.f.toNat:Nat):Int)=y.2.f:=by rw[j];simp
   rw[e];exact this
  ·obtain⟨y,i,rfl⟩:=List.mem_map.1 d;obtain⟨l,_,_,f,j,o⟩:=h.root c i;show y.2.f.toNat<60;rw[j];simpa using o
 have aa:I.length<=8:=by
  have:=Qf (I.map (·.1)) (G.map (fun y=>y.2.f)) c.si.nd (fun x d=>by
   obtain⟨y,i,rfl⟩:=List.mem_map.1 d;obtain⟨_,_,z,B,e⟩:=h.back y i;exact List.mem_map.2 ⟨z,B,e⟩)
  rw[List.length_map,List.length_map]at this;have:=h.le;omega
 refine⟨s,c.wk h.gok (by have:=h.le;omega) (by omega) (fun x d _=>?_),by rw[h.its c];exact s.ok,fun y i _=>?_⟩
 ·obtain⟨n,f,rfl,_,o⟩:=h.fil x d;obtain⟨r,k⟩:=h.num _ d;exact⟨f,r,rfl,o,k⟩
 ·rw[h.its c]at i;obtain⟨x,d,rfl⟩:=List.mem_map.1 i;obtain⟨l,_,_,f,j,o⟩:=h.root c d;obtain⟨r,k⟩:=h.num _ l;have e:((x.2.f.toNat:Nat):Int)=x.2.f:=by rw[j];simp
  have ab:((x.2.f.toNat:Nat):Int)=x.2.f/\(x.2.f,r)∈I:=⟨e,k⟩;refine⟨r.a,r.l,r.c,Zi0 c.si (by show(((x.2.f.toNat:Nat):Int),r)∈I;rw[e];exact k),?_⟩;have:=c.dat _ k;show Sl w 5 1 (.slice r.a r.l r.c) r.l (Dc (CI ((x.2.f.toNat:Nat):Int)));rw[e];exact this
end
theorem SrtS.ext{a b:LS}(g:SrtS a)(k:SrtS b)(h:∀x,x∈a↔x∈b):a=b:=by
 have m:∀{l:LS},SrtS l->l.Nodup:=fun {l} q=>by
  have:=q.nodup;rw[List.nodup_iff_pairwise_ne,List.pairwise_map]at this;rw[List.nodup_iff_pairwise_ne];exact this.imp (fun {a b} p e=>p (by rw[e]))
 have r:List.Perm a b:=(List.perm_ext_iff_of_nodup (m g) (m k)).2 h;refine List.Perm.eq_of_pairwise (le:=fun x y=>ltS x.1 y.1=true) (fun x y _ _ n o=>?_) ?_ ?_ r
 ·have:=Zfr n o;rw[Uh]at this;cases this
 ·rw[List.pairwise_iff_getElem];exact fun i j c f d=>g i j _ _ d (List.getElem?_eq_getElem c) (List.getElem?_eq_getElem f)
 ·rw[List.pairwise_iff_getElem];exact fun i j c f d=>k i j _ _ d (List.getElem?_eq_getElem c) (List.getElem?_eq_getElem f)
theorem TreeOf.flt{C:NB}{L:List It}(c:FlatL C L){G:Gh}{I:LF}{CI:IB}(h:TreeOf C L G I CI):FlT G I CI:=by
 have f:=h.g;have d:∀x∈G,∃z∈L,x=(z.ns,(⟨none,(z.f:Int)⟩:VS)):=fun x b=>by
  rw[f]at b;obtain⟨z,a,rfl⟩:=List.mem_map.1 b;exact⟨z,a,rfl⟩
 have aa:=c.fd;refine⟨fun x b=>?_,?_,fun x b y r e=>?_,by rw[f,List.length_map];exact c.le,fun x b=>?_,fun x b=>?_,fun x b=>?_⟩
 ·obtain⟨z,a,rfl⟩:=d x b;obtain⟨n,p,ho⟩:=c.ns z a;exact⟨n,z.f,by rw[p],ho,c.num z a⟩
 ·rw[f,List.map_map];exact c.nd
 ·obtain⟨z,a,rfl⟩:=d x b;obtain⟨u,q,rfl⟩:=d y r;have e':((z.f:Nat):Int)=((u.f:Nat):Int):=e;obtain⟨i,l⟩:=List.mem_iff_getElem?.1 a;obtain⟨j,g⟩:=List.mem_iff_getElem?.1 q;have:=c.fresh l g (by omega);subst this;rw[l]at g;rw[Option.some.inj g]
 ·obtain⟨z,a,rfl⟩:=d x b;exact h.i2 z a
 ·obtain⟨z,a,rfl⟩:=d x b;show(CI (z.f:Int)).size<=_;rw[h.c z a];exact c.sz z a
 ·obtain⟨m,z,a,k,o⟩:=h.i1 x b;refine⟨m,by rw[o,k,h.c z a],(z.ns,⟨none,(z.f:Int)⟩),?_,k.symm⟩;rw[f];exact List.mem_map.2 ⟨z,a,rfl⟩
theorem TreeOf.same{C:NB}{es:LS}(n:SrtS es)(g:∀x∈es,∃f:Nat,x.2=⟨none,(f:Int)⟩){G:Gh}{I:LF}{CI:IB}(h:TreeOf C (es.map itE) G I CI)
  {w:World} {tb rd:Nat} {V:NV} {E:NS} {vi:Value} (d:TW w tb rd V E vi G I CI):E rd=es:=by
 have j:IsDir G rd [] rd := .inl ⟨rfl,rfl⟩;refine(d.d.srt [] rd j).ext n (fun x=>?_);have i:=d.d.en [] rd j x.1 x.2;rw[List.nil_append]at i;refine i.trans ?_;rw[h.g,List.map_map];constructor
 ·intro a;obtain⟨y,k,e⟩:=List.mem_map.1 a;obtain⟨f,c⟩:=g y k;have b:([y.1],(⟨none,((y.2.f.toNat:Nat):Int)⟩:VS))=([x.1],x.2):=e;rw[Prod.mk.injEq]at b;have l:y.1=x.1:=by have:=b.1;injection this
  have m:y.2=x.2:=by rw[<-b.2,c];simp
  have:x=y:=Prod.ext l.symm m.symm;rw[this];exact k
 ·intro a;obtain⟨f,c⟩:=g x a;refine List.mem_map.2 ⟨x,a,?_⟩;show([x.1],(⟨none,((x.2.f.toNat:Nat):Int)⟩:VS))=([x.1],x.2);rw[c];simp
theorem Zh2(f:Nat->Int):∀k,0<DY f k->∃j,j<k/\f j=0
 | 0,h=>by simp[DY]at h
 | k+1,h=>by
  unfold DY at h;by_cases e:f k=0
  ·exact⟨k,by omega,e⟩
  ·rw[if_neg e]at h;obtain⟨j,hj,a⟩:=Zh2 f k (by omega);exact⟨j,by omega,a⟩
theorem InvS.part{s:KS}(h:InvS s):∃j,j<96/\Dj s.es j<=0:=by
 obtain⟨j,a,e⟩:=Zh2 (Dj s.es) 96 (by have:=h.fr;omega);exact⟨j,a,by omega⟩
theorem ItOk.congr{C C':NB}{L:List It}(h:ItOk C L)(e:∀y∈L,C y.f=C' y.f):ItOk C' L:=⟨h.len,h.kind,h.path,h.num,fun x a b=>by rw[<-e x a];exact h.size x a b,h.fresh⟩
theorem TrW.congr{w:World}{tb g:Nat}{V:NV}{c:NS}{i:Value}{G:Gh}{I:LF}{b:IB}{a:LY->List Ek}{d:NV}{C C':NB}(h:TrW w tb g V c i G I b a d C)(e:∀y∈DI a,C y.f=C' y.f):TrW w tb g V c i G I b a d C':=
 ⟨h.wk,h.ok.congr e,fun y f j=>by rw[<-e y f];exact h.dat y f j⟩
def ZjR(w:World)(db:Nat)(s:KS)(C:NB)(L:List It)(vf vn:Value)(e:Ending)(w':World):Prop:=
 ∃stb tb va,e = .returned (.tuple #[.pointer (some ⟨stb,0,none⟩),.pointer (some ⟨tb,0,none⟩),.bool true])/\StK w' stb db va s vf vn (.slice none 0 0) (.slice none 0 0) [] []/\(∃G I CI,PS w' tb G I CI/\TreeOf C L G I CI)/\Below w.heap.size w w'/\w.heap.size<tb/\w.heap.size<=stb/\∀k,Own va k->w.heap.size<=k
theorem ZhL{s:KS}(i:InvS s)(hC:InvC s)(aH:s.tn+1<18446744073709551616){es:LS}(av:SrtS es)(ar:∀x∈es,∃f:Nat,x.2=⟨none,(f:Int)⟩){C:NB}(O:FlatL C (es.map itE))(U:Stands s C (es.map itE))
  (w:World) (b:Nat) (K:Value) (a:OA) (l c:Nat) (h:DS w b K (.slice a l c) (.slice none 0 0) (.slice none 0 0) s.D) (ay:¬Own (.slice a l c) b) (aA:PkgOk w):
  Calls Tryz.prog 76 #[.pointer (some ⟨b,0,none⟩)] w (ZjR w b s C (es.map itE) K (.slice a l c)):=by
 obtain⟨t,B,hO,_⟩:=U.on i.w O.ok O.k2;obtain⟨s0,s1,aD,aE,ax⟩:=hC.last i.ok.tp aH;obtain⟨u,J⟩:∃t,t=s.tp:=⟨_,rfl⟩;obtain⟨F,R⟩:∃t,t=s.tx:=⟨_,rfl⟩;obtain⟨H,ai⟩:∃t,t=s.tn:=⟨_,rfl⟩;obtain⟨Z,Q⟩:∃Z,Z=rdZ (.pointer (some ⟨b,0,none⟩)):=⟨_,rfl⟩;obtain⟨L,ae⟩:∃Z,Z=rdZ (.pointer none):=⟨_,rfl⟩;have aM:Z.length=1549:=by rw[Q];exact Zgc _
 have aK:L.length=1549:=by rw[ae];exact Zgc _
 have D:∀k,¬Own (.slice none 0 0) k:=fun k e=>by simp[Own,Value.ownBlock]at e
 have HC:Hid (Calls Tryz.prog 135 #[.pointer (some ⟨b,0,none⟩)] w fun e X=>e = .returned (.tuple #[.agg #[.int .u64 (H:Nat),.int .i64 (u:Nat),.int .u64 (F:Nat)],.bool true])/\∃Y,X.alloc (.cells #[.int .u64 (H:Nat),.int .i64 (u:Nat),.int .u64 (F:Nat)] 191)=Y/\∃n,Y.alloc (.cells L.toArray 197)=n/\RowIs n Y.heap.size 197 L/\
   ∃W,n.setRow Y.heap.size Z.toArray=W/\W.cell? ⟨X.heap.size,1,none⟩=some (.int .i64 (u:Nat))/\W.cell? ⟨X.heap.size,2,none⟩=some (.int .u64 (F:Nat))/\
   Hid (Calls Tryz.prog 136 #[.pointer (some ⟨Y.heap.size,0,none⟩),.agg #[.int .i64 (u:Nat),.int .u64 (F:Nat)]] W fun e d=>∃tb z E A,e = .returned (.tuple #[.pointer (some ⟨tb,0,none⟩),.bool true])/\d.cell? ⟨Y.heap.size,1,none⟩=some (.slice z E A)/\d.cell? ⟨Y.heap.size,2,none⟩=some (.int .i64 (u:Nat))/\d.cell? ⟨Y.heap.size,3,none⟩=some (.int .u64 (F:Nat))/\d.cell? ⟨X.heap.size,0,none⟩=some (.int .u64 (H:Nat))/\
   ∃m,d.alloc (.cells #[.pointer (some ⟨b,0,none⟩),.slice z E A,.int .i64 (u:Nat),.int .u64 (F:Nat),.int .u64 (H:Nat)] 179)=m/\
   Hid (Calls Tryz.prog 137 #[.pointer (some ⟨d.heap.size,0,none⟩),.pointer (some ⟨Y.heap.size,4,none⟩)] m fun e M=>e = .returned (.bool true)/\
   Hid (Calls Tryz.prog 138 #[.pointer (some ⟨d.heap.size,0,none⟩),.pointer (some ⟨tb,0,none⟩)] M fun e X8=>e = .returned (.bool true)/\Hid (ZjR w b s C (es.map itE) K (.slice a l c) (.returned (.tuple #[.pointer (some ⟨d.heap.size,0,none⟩),.pointer (some ⟨tb,0,none⟩),.bool true])) X8))))):=by
  refine(ZgM w b K _ _ a l c s.D h s0 s1 aD aE).mono ?_;rintro e X ⟨rfl,hX⟩;obtain⟨Y,eY,xY,kY,sY,bY⟩:=De X [.int .u64 (H:Nat),.int .i64 (u:Nat),.int .u64 (F:Nat)] 191;obtain⟨n,aS,aO,bg,bi,aQ⟩:=De Y L 197;have a3:=hX.size;have S:Below w.heap.size w Y:=hX.trans (bY.mono a3);refine⟨by rw[ax,J,R,ai];rfl,Y,eY,n,aS,aO,_,rfl,?_⟩;obtain⟨W,o⟩:∃W,W=n.setRow Y.heap.size Z.toArray:=⟨_,rfl⟩;have xW:RowIs W Y.heap.size 197 Z:=by rw[o];exact setRow_heap n _ _ _ 197 _ aO
  have bW:Below Y.heap.size Y W:=aQ.trans ⟨by rw[o];rfl,by rw[o];rfl,by rw[o];rfl,by rw[o];simp,fun j hj=>by rw[o];exact setRow_other n _ j _ (by omega)⟩;rw[<-o];have lW:RowIs W X.heap.size 191 _:=(bW.block _ xY.lt).trans xY;refine⟨(lW.cell 1).trans rfl,(lW.cell 2).trans rfl,?_⟩;have aW:DS Y b K (.slice a l c) (.slice none 0 0) (.slice none 0 0) s.D:=⟨(S.block _ h.1.lt).trans h.1,⟨h.2.1.1.kept (fun k g _=>S.block k g),h.2.1.2⟩,h.2.2⟩;have bc:=h.1.lt;have ao:=S.size;have ah:∀k,Own (.slice a l c) k->k<w.heap.size:=fun k g=>h.2.1.1.lt g
  have h0:0<w.heap.size:=by omega
  have a6:PkgOk W:=aA.fr (Fr.of_below (S.trans (bW.mono ao))) (X:=fun _=>False) (fun e=>e);have a9:RdS Y Y.heap.size Y.heap.size b 0 0 J7 (.slice none 0 0) (.slice none 0 0) W:=RdS.start (by rw[Q]at xW;exact xW) bW (Nat.le_refl _) (Nat.le_refl _);have aC:=Zn5 i O hO W Y Y.heap.size Y.heap.size b _ _ a9 aW ⟨by omega,fun k g=>by have:=ah k g;omega⟩ (by omega) a6;rw[<-J,<-R]at aC;refine aC.mono ?_;rintro e d ⟨q,⟨tb,va,vt,rfl,P,⟨G,I,CI,aX,ab⟩,bd,bf⟩,aB,a8⟩;obtain⟨L5,r0,r1,r2,r3,r4,r5,r6,r7⟩:=P.row;obtain⟨aT,au,ag⟩:=P.es;obtain⟨z,E,A,rfl⟩:=ag.shape;have af:=P.bel;have aU:=af.size;have l5:RowIs d X.heap.size 191 _:=(af.block _ xY.lt).trans xY;rw[<-J]at r3;rw[<-R]at r4;refine⟨tb,z,E,A,rfl,(r0.cell 1).trans r2,(r0.cell 2).trans r3,(r0.cell 3).trans r4,(l5.cell 0).trans rfl,?_⟩;obtain⟨m,aR,aN,ba,bh,ad⟩:=De d [.pointer (some ⟨b,0,none⟩),.slice z E A,.int .i64 (u:Nat),.int .u64 (F:Nat),.int .u64 (H:Nat)] 179;refine⟨m,aR,?_⟩;have a5:aT=s.es:=au.1.ext i.ok.srt (fun x=>by
   rw[au.2.2];constructor
   ·rintro⟨y,T,rfl⟩;exact(aB y).1 T
   ·intro hx;obtain⟨y,T,rfl⟩:=(U.es.2.2 x).1 hx;exact⟨y,(aB y).2 hx,rfl⟩)
  subst a5;have a4:Below Y.heap.size Y m:=af.trans (ad.mono aU);have ac:Below w.heap.size w m:=S.trans (a4.mono ao);have aV:DS m b K (.slice a l c) (.slice none 0 0) (.slice none 0 0) s.D:=⟨(ac.block _ h.1.lt).trans h.1,⟨h.2.1.1.kept (fun k g _=>ac.block k g),h.2.1.2⟩,h.2.2⟩;have aF:Sl m 350 2 (.slice z E A) s.es.length (Du s.es):=ag.kept (fun k g _=>ad.block k g);have aG:StK m d.heap.size b (.slice z E A) s K (.slice a l c) (.slice none 0 0) (.slice none 0 0) [] []:=by
   refine⟨⟨by rw[<-J,<-R,<-ai];exact aN,aV,SlP.nil _,⟨rfl,.inl ⟨rfl,rfl⟩⟩,by omega,⟨fun e=>by have:=ah _ e;omega,D _,D _⟩,⟨ay,D _,D _⟩,fun k _=>D k,fun k _=>D k,fun k _=>D k⟩,aF,fun k g e=>?_⟩;have h1:=(P.oa k g).1;have h2:=ag.lt g;rcases e with e|e|e|e|e
   ·omega
   ·omega
   ·have:=ah k e;omega
   ·exact D k e
   ·exact D k e
  have a7:Uc s.es:=⟨i.ok.len,i.ok.srt,i.ok.pl⟩;refine(ZiR m d.heap.size Y.heap.size u _ _ _ _ s.es aN aF a7 (by rw[J];exact i.ok.tp) q.tk L5 (ba _ _ _ r0) r5 i.fr (fun p h1 h2=>?_)).mono ?_
  ·cases g:q.tk p with
   | false=>rfl
   | true=>
    obtain⟨r,hr⟩:=a8 p g;have:=i.cur _ hr (by simp only[Int.toNat_natCast];rw[h2,J]);simp only[Int.toNat_natCast]at this;omega
  rintro e M ⟨rfl,N⟩;refine⟨rfl,?_⟩;have bb:=N.size;obtain⟨rd,V,Ed,vi,aZ⟩:=aX;have aY:Below d.heap.size d M:=ad.trans (N.mono (by omega));have aa:=aZ.below aY (Nat.le_refl _);have aw:=ab.flt O;obtain⟨_,a0⟩:=aw.keep aa;have ap:DI (JU G rd Ed)=es.map itE:=by rw[aw.its aa,ab.same av ar aa]
  have a2:=a0.congr (C':=C) (fun y T=>by rw[ap]at T;exact ab.c y T);refine(ZiC (aG.below N) i.ok i.part a2 (by rw[ap];exact U)).mono ?_;rintro e X8 ⟨rfl,h8⟩;have aI:Below w.heap.size w M:=ac.trans (N.mono ac.size);have be:W.heap.size=n.heap.size:=by rw[o];simp
  refine⟨rfl,d.heap.size,tb,.slice z E A,rfl,(aG.below N).below h8,⟨G,I,CI,⟨rd,V,Ed,vi,aa.below h8 (Nat.le_refl _)⟩,ab⟩,aI.trans (h8.mono aI.size),by omega,by omega,fun k g=>by have:=(P.oa k g).1;omega⟩
 have aq:Tryz.prog.built 197 [(0,.pointer (some ⟨b,0,none⟩))]=some Z.toArray:=by rw[Q];exact Znh b
 have aL:∀w,(zeroValue 197).run Tryz.prog w = .ok (.agg L.toArray) w:=by rw[ae];exact ZnT
 have az:Z.toArray.all (·.oneCell')=true:=by rw[Q];exact Zn7 b
 clear i hC aH av ar O U h ay aA hO aD aE ax J R ai Q ae D;have HL:=Db aM;have aP:=Db aK;clear aM aK;go_enter Tryz.func76,Tryz.ntmps76;go_upto_region 2 with(go_at_call 135;refine(Da HC).mono ?_;rintro e X ⟨rfl,Y,hY,n,an,aJ,W,o,A,c2,HR⟩;have HY:=Db hY;have al:=Db an;have HW:=Db o;have ak:=Db aJ;clear hY an o aJ);rw[show X.alloc (.cells #[.int .u64 (H:Nat),.int .i64 (u:Nat),.int .u64 (F:Nat)] 191)=Y from Da HY];go_upto_region 4 with fail;refine wp_region_lit ?_;refine Ze8 rfl _ rfl ?_;refine Zck rfl 197 0 _ rfl (.pointer (some ⟨b,0,none⟩)) rfl aq ?_;refine JF rfl 197 rfl aL ?_;rw[show Y.alloc (.cells L.toArray 197)=n from Da al];refine wpList_store_row rfl 197 _ _ rfl Y.heap.size Z.toArray rfl rfl 197 _ (Da ak) ?_ ?_ az ?_
 ·rw[Zn1,List.size_toArray,Da HL]
 ·rw[List.size_toArray,List.size_toArray,Da HL,Da aP]
 refine wpList_nil ?_;rw[show n.setRow Y.heap.size Z.toArray=W from Da HW];clear aq aL az HC;go_upto_region 6 with(go_at_call 136;refine(Da HR).mono ?_;rintro e d ⟨tb,z,E,k1,rfl,d1,d2,d3,d0,m,am,HG⟩;have aj:=Db am;clear am);go_upto_region 7 with fail;rw[show d.alloc (.cells #[.pointer (some ⟨b,0,none⟩),.slice z E k1,.int .i64 (u:Nat),.int .u64 (F:Nat),.int .u64 (H:Nat)] 179)=m from Da aj];clear d0 d1 d2 d3 A c2 aj HR HW HY al ak;go_wp2_with (first|(go_at_call 137;refine(Da HG).mono ?_;rintro e M ⟨rfl,HS⟩)|(go_at_call 138;refine(Da HS).mono ?_;rintro e X8 ⟨rfl,HP⟩));exact bodyPost_ret (v := .tuple #[.pointer (some ⟨d.heap.size,0,none⟩),.pointer (some ⟨tb,0,none⟩),.bool true]) (by simp[results,Tryz.results76,go_sem]) rfl (Da HP)
def In64(c:Int):Prop := -9223372036854775808<=c/\c<=9223372036854775807
theorem In64.wrap(c:Int):In64 (IntKind.i64.wrap c):=by unfold In64;rw[IntKind.wrap_i64];omega
def JW(c:Int)(n:Nat):Nat:=(if c<0 then -(c+1) else c).toNat%n
theorem QA(c:Int){n:Nat}(h:0<n):JW c n<n:=Nat.mod_lt _ h
theorem QL(w:World)(c:Int)(n:Nat)(l:In64 c)(d:0<n)(b:n<=2000000000):
  Calls Tryz.prog 24 #[.int .i64 c,.int .i64 n] w fun e w'=>e = .returned (.int .i64 (JW c n:Nat))/\w'=w:=by
 obtain⟨f,g⟩:=l;have o:¬((n:Int)=0):=by omega
 have aa:((n:Int)==0)=false:=by rw[beq_eq_false_iff_ne];exact o
 by_cases i:c<0
 ·have e1:IntKind.i64.wrap (c+1)=c+1:=by rw[IntKind.wrap_i64];omega
  have k:IntKind.i64.wrap (-(c+1))=(((-(c+1)).toNat:Nat):Int):=by rw[IntKind.wrap_i64];omega
  have a:(((-(c+1)).toNat:Nat):Int)%(n:Int)=((JW c n:Nat):Int):=by
   unfold JW;rw[if_pos i,<-Int.natCast_emod]
  generalize (-(c+1)).toNat=m at k a
  generalize JW c n=r at a ⊢
  have j:=Db b;clear b f g d;go_enter Tryz.func24,Tryz.ntmps24;go_wp2;go_ret;exact⟨congrArg (fun z=>Ending.returned (Value.int .i64 z)) a,rfl⟩
 ·have a:c%(n:Int)=((JW c n:Nat):Int):=by
   unfold JW;rw[if_neg i];have h:c=((c.toNat:Nat):Int):=by omega
   generalize c.toNat=m at h ⊢
   subst h;rw[<-Int.natCast_emod]
  generalize JW c n=r at a ⊢
  have j:=Db b;clear b f g d;go_enter Tryz.func24,Tryz.ntmps24;go_wp2;go_ret;exact⟨rfl,rfl⟩
theorem UU{W:World}{a:OA}{m c:Nat}{s:By}(h:Sl W 5 1 (.slice a m c) m (Dc s))(d:m=s.size):(convert 59 9 (.slice a m c)).run Tryz.prog W = .ok (.string s) W:=by
 rcases h.2 with⟨e,h0⟩|⟨g,aa,R,e,j,ac,ab,hl,k⟩
 ·simp only[Value.slice.injEq]at e;obtain⟨rfl,rfl,rfl⟩:=e;rw[Go.Lib.run_convert_nil_bytes W 59 9 5 0 Tryz.underlying59 Tryz.underlying5 Tryz.underlying9]
  congr 2
  apply ByteArray.ext;exact(Array.size_eq_zero_iff.1 d.symm).symm
 ·simp only[Value.slice.injEq]at e;obtain⟨rfl,-,rfl⟩:=e;subst d;refine Go.Lib.run_convert_whole W 59 5 9 Tryz.underlying59 Tryz.underlying5 Tryz.underlying9 g 0 s (fun i f=>?_) c;rw[Nat.zero_add,j.cell];have b:(R.take (s.size*1))[i]?=(Dc s)[i]? := by rw[k]
  rw[List.getElem?_take_of_lt (by omega)]at b;rw[b];unfold Dc;rw[List.getElem?_map,Array.getElem?_toList,Array.getElem?_eq_getElem f]
  rfl
def pth(i:Nat):By:=⟨#[47,102,UInt8.ofNat (48+i)]⟩
theorem ZdJ(w:World)(i:Nat)(hi:i<8):Calls Tryz.prog 72 #[.int .i64 i] w fun e w'=>e = .returned (.string (pth i))/\Below w.heap.size w w':=by
 have e1:IntKind.i64.wrap (48+(i:Int))=((48+i:Nat):Int):=by rw[IntKind.wrap_i64];omega
 obtain⟨W,f,g,l,n,d⟩:=De w [.int .u8 (48+(i:Int))] 5;have b:Dc ⟨#[UInt8.ofNat (48+i)]⟩=[.int .u8 (48+(i:Int))]:=by
  have:(UInt8.ofNat (48+i)).toNat=48+i:=by simp;omega
  show [Value.int .u8 ((UInt8.ofNat (48+i)).toNat:Int)]=_;rw[this];simp
 have k:=UU (W:=W) (a:=some ⟨w.heap.size,0,none⟩) (m:=1) (c:=1) (s:=⟨#[UInt8.ofNat (48+i)]⟩) ⟨by rw[b];rfl,.inr ⟨w.heap.size,1,_,rfl,g,Nat.le_refl _,by decide,rfl,by rw[b];rfl⟩⟩ rfl;have h:=Db d;have j:=Db f;clear g l n d b f;go_enter Tryz.func72,Tryz.ntmps72;go_wp2;rw[show w.alloc (.cells #[.int .u8 (48+(i:Int))] 5)=W from Da j];rw[k];go_wp2;go_ret;refine⟨?_,Da h⟩;show Ending.returned (Value.string _)=_
 congr 2
 apply ByteArray.ext;simp[pth]
theorem Zmf(s:By)(q:Nat)(x:Nat):(Dc s).set q (.int .u8 ((x%256:Nat):Int))=Dc ⟨s.data.setIfInBounds q (UInt8.ofNat x)⟩:=by
 unfold Dc;rw[Array.toList_setIfInBounds,List.map_set];simp
def ZoZ(w:World)(n:Nat)(e:Ending)(w':World):Prop:=∃s:By,s.size=n/\e = .returned (.slice (some ⟨w.heap.size,0,none⟩) n n)/\RowIs w' w.heap.size 5 (Dc s)/\Below w.heap.size w w'
theorem ZiS(w:World)(c:Int)(n:Nat)(y:In64 c)(hn:n<=2000000):
  Calls Tryz.prog 73 #[.int .i64 c,.int .i64 n] w (ZoZ w n):=by
 obtain⟨M,I,J,K,L⟩:=info_parts Ku;have C:=Db y;clear y;go_enter Tryz.func73,Tryz.ntmps73;go_wp2_with (at_make;refine wpList_make_full _ rfl _ _ 59 rfl 0 5 M (.int .u8 0) 1 Tryz.underlying59 I J K _ _ _ _ n rfl rfl rfl rfl (by rw[L];omega) (by unfold maxLen;omega) (Nat.zero_le _) ?_;intro w1 A z;have o:=Db (And.intro (Sl.of_owns A) (KJ z));clear A z)
 go_loopw [0,6] (fun c i wr=>∃(d:Int) (q:Nat),q<=n/\c = .int .i64 d/\i = .int .i64 q/\Hid (In64 d)/\Hid (∃s:By,s.size=n/\RowIs wr w.heap.size 5 (Dc s))/\Hid (Below w.heap.size w wr)) (fun _ i _=>n-(intOf i).toNat)
 case atStart=>
  refine⟨c,0,Nat.zero_le _,rfl,rfl,C,?_,(Da o).2⟩;have x:=(Da o).1;have F:(madeCells (Value.int .u8 0).cells (n*1)).toList=List.replicate n (.int .u8 0):=by rw[Nat.mul_one];exact toList_madeCells_one (.int .u8 0) _
  rw[F,<-QC]at x;rcases x.2 with⟨e,_⟩|⟨g,aa,Q,e,f,H,u,h3,v⟩
  ·cases e
  ·simp only[Value.slice.injEq,Option.some.injEq,Addr.mk.injEq]at e;obtain⟨⟨rfl,-,-⟩,-,rfl⟩:=e;rw[List.take_of_length_le (by omega)]at v;subst v;exact⟨Dm n,Jl n,f⟩
 case round=>
  obtain⟨d,q,hq,rfl,rfl,HD,t,m⟩:=hrel;by_cases ae:q<n
  ·obtain⟨h,H⟩:∃h,IntKind.i64.wrap (d*1103515245)=h:=⟨_,rfl⟩;obtain⟨b,u⟩:∃b,IntKind.i64.wrap (h+12345)=b:=⟨_,rfl⟩;have j:In64 b:=by rw[<-u];exact In64.wrap _
   obtain⟨r,f⟩:∃r,r=JW b 1073741824:=⟨_,rfl⟩;have k:=QL wr b 1073741824 j (by omega) (by omega);rw[<-f]at k;have af:r<1073741824:=by rw[f];exact QA _ (by omega)
   have D:=Db k;have B:=Db j;clear k j f;obtain⟨s,l,a⟩:=Da t;have ab:wr.cell? ⟨w.heap.size,q,none⟩=some (Dc s)[q]! := by
    rw[a.cell,List.getElem!_eq_getElem?_getD,List.getElem?_eq_getElem (by rw[Dg];omega)];rfl
   have ac:=a.frozen q;have E:=Db a;clear a;have ad:(q:Int)<(n:Int):=by omega
   go_wp2_with (go_at_call 24;refine(Da D).mono ?_;rintro e w' ⟨rfl,rfl⟩);have a:=(Da E).set q (.int .u8 (((r/65536)%256:Nat):Int));rw[Zmf]at a;have G:((r:Int)/65536%256)=(((r/65536)%256:Nat):Int):=by omega
   rw[G];refine⟨⟨b,q+1,by omega,rfl,by go_num,B,⟨_,?_,a⟩,(Da m).setCell (p:=⟨w.heap.size,q,none⟩) (Nat.le_refl _) _⟩,by simp[intOf];omega⟩;show(s.data.setIfInBounds q _).size=n;rw[Array.size_setIfInBounds];exact l
  ·obtain rfl:q=n:=by omega
   go_wp2;go_ret;obtain⟨s,l,a⟩:=Da t;exact⟨s,l,rfl,a,Da m⟩
def fn(i:Nat):By:=⟨#[102,UInt8.ofNat (48+i)]⟩
theorem fn_all:(List.range 8).all (fun i=>DP (fn i))=true:=by kernel_rfl
theorem fn_ok{i:Nat}(h:i<8):DP (fn i)=true:=List.all_eq_true.1 fn_all i (List.mem_range.2 h)
theorem UF{i j:Nat}(hi:i<8)(hj:j<8)(h:fn i=fn j):i=j:=by
 unfold fn at h;injection h with h;simp only[Array.mk.injEq,List.cons.injEq,and_true,true_and]at h;have:=congrArg UInt8.toNat h;simp at this;omega
theorem pth_jn(i:Nat):pth i=jn [fn i]:=by
 apply ByteArray.ext;simp[pth,jn,jl,fn]
theorem Kb{i:Nat}(h:i<8):Df (pth i)=[fn i]/\DQ (pth i)=true/\(pth i).size<=78:=by
 have a:Nms [fn i]:=fun m c=>by rw[List.mem_singleton.1 c];exact fn_ok h
 have:=Zlf a (by simp) (by simp);rw[pth_jn];exact⟨ZgS a (by simp),this,Zfm _ this⟩
def JO(b:Nat->Option By)(i:Nat)(v:Option By):Nat->Option By:=fun j=>if j=i then v else b j
structure SetT(b:Nat->Option By)(G:Gh)(I:LF)(CI:IB):Prop where
 fl:FlT G I CI
 nm:∀x∈G,∃i,i<8/\x.1=[fn i]
 yes:∀i,i<8->∀s,b i=some s->∃f:Nat,([fn i],(⟨none,(f:Int)⟩:VS))∈G/\CI f=s
 no:∀i,i<8->b i=none->∀u,([fn i],u)∉G
section
variable{b:Nat->Option By}{G:Gh}{I:LF}{CI:IB}
theorem SetT.empty:SetT (fun _=>none) [] [] (fun _=>⟨#[]⟩):=
 ⟨⟨fun x a=>(by cases a),List.nodup_nil,fun x a=>(by cases a),Nat.zero_le _,fun x a=>(by cases a),fun x a=>(by cases a),fun x a=>(by cases a)⟩,fun x a=>(by cases a),fun i _ s h=>(by cases h),fun i _ _ u h=>(by cases h)⟩
theorem FlT.ilen(h:FlT G I CI)(a:SrtI I):I.length<=G.length:=by
 have:=Qf (I.map (·.1)) (G.map (fun y=>y.2.f)) a.nd (fun x c=>by
  obtain⟨y,d,rfl⟩:=List.mem_map.1 c;obtain⟨_,_,z,f,e⟩:=h.back y d;exact List.mem_map.2 ⟨z,f,e⟩)
 rwa [List.length_map,List.length_map]at this
theorem FlT.csz(h:FlT G I CI){x:Int×VF}(c:x∈I):(CI x.1).size<=1280/\x.2.l<=1280/\0<=x.1:=by
 obtain⟨_,h2,y,a,e⟩:=h.back x c;have:=h.sz y a;rw[e]at this;obtain⟨n,f,rfl,_⟩:=h.fil y a;exact⟨this,by omega,by rw[<-e];exact Int.natCast_nonneg f⟩
theorem FlT.flok(h:FlT G I CI):FlOk G I:=fun x c _=>by
 obtain⟨r,a⟩:=h.num x c;have:=(h.back _ a).1;have h1:r.f=1:=this;exact⟨r,a,by omega,by omega⟩
theorem SetT.at(h:SetT b G I CI){i:Nat}(c:i<8){s:By}(d:b i=some s):∃f:Nat,atG G (Df (pth i))=some ⟨none,(f:Int)⟩/\([fn i],(⟨none,(f:Int)⟩:VS))∈G/\CI f=s:=by
 obtain⟨f,a,e⟩:=h.yes i c s d;rw[(Kb c).1];exact⟨f,KX h.fl.nd a,a,e⟩
theorem SetT.none'(h:SetT b G I CI){i:Nat}(a:i<8)(c:b i=none):atG G (Df (pth i))=none:=by
 rw[(Kb a).1]
 cases e:atG G [fn i] with
 | none=>rfl
 | some u=>exact absurd (KT e) (h.no i a c u)
theorem Ux(G:Gh){i:Nat}(d:i<8):DJ G (pth i) true=0:=by
 obtain⟨a,c,_⟩:=Kb d;unfold DJ;rw[c,a]
 rfl
theorem SetT.file(h:SetT b G I CI){i:Nat}(a:i<8){s:By}(d:b i=some s):DH G (pth i) true=0:=by
 obtain⟨f,c,_⟩:=h.at a d;unfold DH;rw[Ux G a,c,(Kb a).1];simp
theorem SetT.nofile(h:SetT b G I CI){i:Nat}(a:i<8)(d:b i=none):DH G (pth i) true=3:=by
 have c:=h.none' a d;unfold DH;rw[Ux G a,c,(Kb a).1];simp
theorem SetT.rm(h:SetT b G I CI){i:Nat}(a:i<8){s:By}(d:b i=some s):rmE G (pth i)=0:=by
 obtain⟨f,c,_⟩:=h.at a d;unfold rmE thE;rw[Ux G a,c,(Kb a).1];simp
theorem SetT.lt7(h:SetT b G I CI){i:Nat}(g:i<8)(f:b i=none):G.length<=7:=by
 have:=Qf (G.map (·.1)) (((List.range 8).filter (fun j=>decide (j≠i))).map (fun j=>[fn j])) h.fl.nd (fun x l=>by
  obtain⟨y,c,rfl⟩:=List.mem_map.1 l;obtain⟨j,k,e⟩:=h.nm y c;refine List.mem_map.2 ⟨j,List.mem_filter.2 ⟨List.mem_range.2 k,decide_eq_true (fun d=>?_)⟩,e.symm⟩;subst d;have a:(y.1,y.2)∈G:=c;rw[e]at a;exact h.no j g f _ a)
 rw[List.length_map,List.length_map]at this;have h7:((List.range 8).filter (fun j=>decide (j≠i))).length=7:=by
  have:i=0\/i=1\/i=2\/i=3\/i=4\/i=5\/i=6\/i=7:=by omega
  rcases this with rfl|rfl|rfl|rfl|rfl|rfl|rfl|rfl<;>decide
 omega
theorem SetT.may(h:SetT b G I CI)(e:SrtI I){i:Nat}(d:i<8)(a:b i=none):JD G I (Df (pth i)).dropLast=true:=by
 have h7:=h.lt7 d a;have aa:=h.fl.ilen e;unfold JD;have hc:G.countP (qIn (Df (pth i)).dropLast)<=G.length:=List.countP_le_length;have c:cD G []=1:=by
  unfold cD;have:G.countP (fun x=>x.2.p.isSome && qB [] x)=0:=by
   rw[List.countP_eq_zero];intro x g;obtain⟨n,f,rfl,_⟩:=h.fl.fil x g;simp
  rw[this]
 rw[c];exact decide_eq_true ⟨⟨by omega,by omega⟩,by omega⟩
theorem SetT.wr(h:SetT b G I CI)(j:SrtI I){i:Nat}(a:i<8){p:Int}{d:By}(g:K8 p d=true):wrE G I (pth i) p d=0:=by
 unfold wrE;rw[g,Ux G a];have c:Df (pth i)≠[]:=by rw[(Kb a).1];simp
 cases hb:b i with
 | none=>
  rw[h.none' a hb,h.may j a hb];simp[c]
 | some s=>
  obtain⟨f,e,_⟩:=h.at a hb;rw[e];simp[c]
theorem SetT.del(h:SetT b G I CI){i:Nat}(B:i<8){f:Nat}(A:([fn i],(⟨none,(f:Int)⟩:VS))∈G){t:LF}(z:Us I t f):SetT (JO b i none) (JZ G (Df (pth i))) t CI:=by
 rw[(Kb B).1];have n:∀x,x∈JZ G [fn i]↔x∈G/\x.1≠[fn i]:=Qy G [fn i];have m:∀x∈JZ G [fn i],x∈G:=fun x a=>((n x).1 a).1
 have F:∀x∈JZ G [fn i],x.2.f≠(f:Int):=fun x a e=>by
  obtain⟨d,k⟩:=(n x).1 a;have:=h.fl.inj _ d _ A e;exact k (by rw[this])
 refine⟨⟨fun x a=>h.fl.fil x (m x a),?_,fun x a y q=>h.fl.inj x (m x a) y (m y q),?_,fun x a=>?_,fun x a=>h.fl.sz x (m x a),fun x a=>?_⟩,fun x a=>h.nm x (m x a),fun j p s c=>?_,fun j p c u J=>?_⟩
 ·have:=h.fl.nd;unfold JZ;exact List.Nodup.sublist (List.Sublist.map _ List.filter_sublist) this
 ·have d:=h.fl.le;have k:(JZ G [fn i]).length<=G.length:=List.length_filter_le _ _;omega
 ·obtain⟨r,H⟩:=h.fl.num x (m x a);exact⟨r,(z.2 _).2 ⟨H,F x a⟩⟩
 ·obtain⟨d,k⟩:=(z.2 x).1 a;obtain⟨C,D,y,q,e⟩:=h.fl.back x d;refine⟨C,D,y,(n y).2 ⟨q,fun o=>k ?_⟩,e⟩;have:y=([fn i],(⟨none,(f:Int)⟩:VS)):=by
   have E:=KX h.fl.nd A;have v:(y.1,y.2)∈G:=q;rw[o]at v;have w:=KX h.fl.nd v;rw[E]at w;exact Prod.ext o (Option.some.inj w).symm
  rw[<-e,this]
 ·unfold JO at c;by_cases l:j=i
  ·rw[if_pos l]at c;cases c
  ·rw[if_neg l]at c;obtain⟨g,d,k⟩:=h.yes j p s c;refine⟨g,(n _).2 ⟨d,fun e=>l (UF p B ?_)⟩,k⟩;have o:[fn j]=[fn i]:=e;injection o
 ·obtain⟨d,k⟩:=(n _).1 J;unfold JO at c;by_cases l:j=i
  ·exact k (by rw[l])
  ·rw[if_neg l]at c;exact h.no j p c u d
theorem SetT.over(h:SetT b G I CI){i:Nat}(C:i<8){f:Nat}(v:([fn i],(⟨none,(f:Int)⟩:VS))∈G){s:By}(H:s.size<=1280){y:LF}{r:VF}(D:((f:Int),r)∈I){a:OA}{c:Nat}(w:Jm I y f ⟨a,s.size,c,r.f⟩):
  SetT (JO b i (some s)) G y (fun k=>if k=(f:Int) then s else CI k):=by
 have F:r.f=1:=(h.fl.back _ D).1;refine⟨⟨h.fl.fil,h.fl.nd,h.fl.inj,h.fl.le,fun x m=>?_,fun x m=>?_,fun x m=>?_⟩,h.nm,fun j o t d=>?_,fun j o d u J=>?_⟩
 ·obtain⟨K,E⟩:=h.fl.num x m;by_cases e:x.2.f=(f:Int)
  ·exact⟨_,(w.2 _).2 (.inl (by rw[e]))⟩
  ·exact⟨K,(w.2 _).2 (.inr ⟨E,e⟩)⟩
 ·show(if x.2.f=(f:Int) then s else CI x.2.f).size<=1280
  split
  ·exact H
  ·exact h.fl.sz x m
 ·rcases (w.2 x).1 m with rfl|⟨n,q⟩
  ·refine⟨F,?_,_,v,rfl⟩;show s.size=(if (f:Int)=(f:Int) then s else _).size;rw[if_pos rfl]
  ·obtain⟨z,A,B⟩:=h.fl.back x n;refine⟨z,?_,B⟩;show _=(if x.1=(f:Int) then s else CI x.1).size;rw[if_neg q];exact A
 ·unfold JO at d;by_cases l:j=i
  ·rw[if_pos l]at d
   cases d
   exact⟨f,by rw[l];exact v,by rw[if_pos rfl]⟩
  ·rw[if_neg l]at d;obtain⟨g,n,q⟩:=h.yes j o t d;refine⟨g,n,?_⟩;rw[if_neg (fun e=>l ?_)];exact q;have:=h.fl.inj _ n _ v e;rw[Prod.mk.injEq]at this;have p:=this.1;injection p with p;exact UF o C p
 ·unfold JO at d;by_cases l:j=i
  ·rw[if_pos l]at d;cases d
  ·rw[if_neg l]at d;exact h.no j o d u J
theorem SetT.made(h:SetT b G I CI)(T:SrtI I){i:Nat}(p:i<8)(K:b i=none){f:Nat}(aa:f<=I.length)(R:∀x∈I,x.1≠(f:Int)){s:By}(S:s.size<=1280){F H:LF}(J:∀x,x∈F↔x=((f:Int),⟨none,0,0,1⟩)\/x∈I){a:OA}{c:Nat}(E:Jm F H f ⟨a,s.size,c,1⟩)
  {o:IB} (C:o f=s) (L:∀x∈I,o x.1=CI x.1):SetT (JO b i (some s)) (G++[([fn i],⟨none,(f:Int)⟩)]) H o:=by
 have h7:=h.lt7 p K;have ab:=h.fl.ilen T;have D:∀x∈G,x.2.f≠(f:Int):=fun x d e=>by
  obtain⟨r,q⟩:=h.fl.num x d;exact R _ q e
 have M:∀x∈G,o x.2.f=CI x.2.f:=fun x d=>by
  obtain⟨r,q⟩:=h.fl.num x d;exact L _ q
 have O:([fn i],(⟨none,(f:Int)⟩:VS))∈G++[([fn i],⟨none,(f:Int)⟩)]:=List.mem_append_right _ (List.mem_singleton.2 rfl);refine⟨⟨fun x d=>?_,?_,fun x d y k e=>?_,by rw[List.length_append,List.length_singleton];omega,fun x d=>?_,fun x d=>?_,fun x d=>?_⟩,fun x d=>?_,fun j w t l=>?_,fun j w l u v=>?_⟩
 ·rcases List.mem_append.1 d with d|d
  ·exact h.fl.fil x d
  ·rw[List.mem_singleton.1 d];exact⟨fn i,f,rfl,fn_ok p,by omega⟩
 ·rw[List.map_append,List.nodup_append];refine⟨h.fl.nd,by simp,fun x d y k e=>?_⟩;obtain⟨z,U,rfl⟩:=List.mem_map.1 d;simp only[List.map_cons,List.map_nil,List.mem_singleton]at k;rw[k]at e;have N:(z.1,z.2)∈G:=U;rw[e]at N;exact h.no i p K _ N
 ·rcases List.mem_append.1 d with d|d
  ·rcases List.mem_append.1 k with k|k
   ·exact h.fl.inj x d y k e
   ·rw[List.mem_singleton.1 k]at e;exact absurd e (D x d)
  ·rcases List.mem_append.1 k with k|k
   ·rw[List.mem_singleton.1 d]at e;exact absurd e.symm (D y k)
   ·rw[List.mem_singleton.1 d,List.mem_singleton.1 k]
 ·rcases List.mem_append.1 d with d|d
  ·obtain⟨r,q⟩:=h.fl.num x d;exact⟨r,(E.2 _).2 (.inr ⟨(J _).2 (.inr q),D x d⟩)⟩
  ·rw[List.mem_singleton.1 d];exact⟨_,(E.2 _).2 (.inl rfl)⟩
 ·rcases List.mem_append.1 d with d|d
  ·rw[M x d];exact h.fl.sz x d
  ·rw[List.mem_singleton.1 d];show(o (f:Int)).size<=_;rw[C];exact S
 ·rcases (E.2 x).1 d with rfl|⟨m,B⟩
  ·refine⟨rfl,?_,_,O,rfl⟩;show s.size=(o (f:Int)).size;rw[C]
  ·rcases (J x).1 m with rfl|m
   ·exact absurd rfl B
   ·obtain⟨P,Q,y,k,e⟩:=h.fl.back x m;exact⟨P,by rw[L x m];exact Q,y,List.mem_append_left _ k,e⟩
 ·rcases List.mem_append.1 d with d|d
  ·exact h.nm x d
  ·rw[List.mem_singleton.1 d];exact⟨i,p,rfl⟩
 ·unfold JO at l;by_cases n:j=i
  ·rw[if_pos n]at l
   cases l
   exact⟨f,by rw[n];exact O,C⟩
  ·rw[if_neg n]at l;obtain⟨g,m,B⟩:=h.yes j w t l;refine⟨g,List.mem_append_left _ m,?_⟩;have:=M _ m;rw[<-B];exact this
 ·unfold JO at l;by_cases n:j=i
  ·rw[if_pos n]at l;cases l
  ·rw[if_neg n]at l;rcases List.mem_append.1 v with v|v
   ·exact h.no j w l u v
   ·have:=List.mem_singleton.1 v;rw[Prod.mk.injEq]at this;have A:=this.1;injection A with A;exact n (UF w p A)
end
end Go.Proofs.YtaieidcohdhgpaaGreatDoor
