/- Long. -/
import Derived.Test.YtaieidcohdhgpaaGreatDoorPBN
namespace Go.Proofs.YtaieidcohdhgpaaGreatDoor
set_option maxHeartbeats 8000000
set_option maxRecDepth 100000
open Go.RowKit
theorem Zju{P:Program}{e:Array Oper}{f:List Oper}{o:Oper}{a:Act}{w:World}{Q:Exit->Act->World->Prop}(j:o.guard=none)(d:TypeId)(x:Operand)(ho:o.op = .sliceToArrayPointer d x)(n:Nat)(g:TypeId)(k:P.underlying d=some (.array n g))(b:OA)(l c:Nat)(m:a.eval x = .slice b l c)(hn:n<=l)
  (h:wpList P e Q f (a.put o.dst (.pointer b)) w):wpList P e Q (o::f) a w:=by
 refine wpList_plain j fun K i=>?_
 unfold Oper.wp execOp;simp only[ho,Instr.arrayAt,Sem.run_bind,m];simp[underlying,k,go_sem,show ¬l<n by omega];exact i _ _ h
theorem ZeK{P:Program}{c:Array Oper}{d:List Oper}{o:Oper}{a:Act}{w:World}{Q:Exit->Act->World->Prop}(k:o.guard=none)(ty:TypeId)(x y:Operand)(ho:o.op = .store ty x y)
  (g off:Nat) (t:TypeId) (L b:LVa) (m:a.eval x = .pointer (some ⟨g,off,none⟩)) (n:a.eval y = .agg b.toArray)
  (j:RowIs w g t L) (i:off+b.length<=L.length) (l:(P.info? ty).map (·.size)=some b.length) (e:∀u∈b,u.oneCell'=true)
  (h:wpList P c Q d (a.put o.dst undef) (w.setRow g (spl L off b).toArray)):wpList P c Q (o::d) a w:=
 wpList_plain k fun _K f=>Zev ty x y ho g off t L b m n j i l e (f _ _ h)
theorem Zit(D:LY):Dc (JP D)=Jz D:=by
 unfold JP Jz Dc;simp[List.map_flatMap]
theorem take_set{D Z:LY}{k:Nat}{s:By}(a:D[k]?=some s)(hl:Z.length=D.length):(D.take k++Z.drop k).set k s=D.take (k+1)++Z.drop (k+1):=by
 have hk:=(List.getElem?_eq_some_iff.1 a).1;have e:D.take (k+1)=D.take k++[s]:=by rw[List.take_add_one,a];rfl
 have b:Z.drop k=Z[k]::Z.drop (k+1):=List.drop_eq_getElem_cons (by omega);rw[e,b,List.set_append_right _ _ (by rw[List.length_take];omega),List.length_take,show k-min k D.length=0 by omega,List.set_cons_zero,List.append_assoc]
 rfl
def Zl0(w:World)(D:LY)(e:Ending)(w':World):Prop:=
 ∃db vf a l c,e = .returned (.tuple #[.pointer (some ⟨db,0,none⟩),.bool true])/\DN w' db vf (.slice a l c) (.slice none 0 0) (.slice none 0 0) D/\¬Own (.slice a l c) db/\w.heap.size<=db/\(∀k,Own (.slice a l c) k->w.heap.size<=k)/\Below w.heap.size w w'
theorem ZnV(w:World)(a:OA)(l c:Nat)(D:LY)(h:Sl w 5 1 (.slice a l c) (JP D).size (Dc (JP D)))(n:D.length=1536)(d:∀s∈D,s.size=64):
  Calls Tryz.prog 75 #[.slice a l c] w (Zl0 w D):=by
 have Y:(JP D).size=98304:=by rw[Zef d,n]
 rw[Y,Zit]at h;obtain⟨i0,aj,am,an,ao⟩:=info_parts UJ;rcases h.2 with⟨_,h0⟩|⟨g,aq,L,e,E,K,g2,g3,M⟩
 ·omega
 simp only[Value.slice.injEq]at e;obtain⟨rfl,rfl,rfl⟩:=e;have ai:=E.lt;have af:Hid (∀X k s,Below w.heap.size w X->D[k]?=some s->X.rangeAt g (k*64) (Dc s)):=fun X k s r V j v Z=>by
  have aw:=d s (List.mem_of_getElem? V);have S:j<64:=by have:=(List.getElem?_eq_some_iff.1 Z).1;rw[Dg]at this;omega
  have:=ZfE d k j s V S;rw[Z,<-M,List.getElem?_take]at this
  split at this
  ·have ag:RowIs X g 5 L:=(r.block _ ai).trans E;rw[ag.cell];exact this
  ·cases this
 have I:Hid (∀X,Below w.heap.size w X->SlD X (.slice (some ⟨w.heap.size,0,none⟩) 1536 1536) D->Calls Tryz.prog 134 #[.slice (some ⟨w.heap.size,0,none⟩) 1536 1536] X fun e w'=>∃m,e = .returned (.pointer (some ⟨m,0,none⟩))/\Hid (Zl0 w D (.returned (.tuple #[.pointer (some ⟨m,0,none⟩),.bool true])) w')):=fun X r N=>by
  refine(Zey X _ D N n).mono ?_;rintro e w' ⟨rfl,ap,x,G,p,q4⟩;have P:=r.size;have ak:=N.1.lt (g:=w.heap.size) rfl;refine⟨X.heap.size,rfl,X.heap.size,ap,_,_,_,rfl,x,fun e=>?_,P,fun k T=>?_,r.trans (p.mono P)⟩
  ·simp[Own,Value.ownBlock]at e;omega
  ·simp[Own,Value.ownBlock]at T;omega
 have aa:=Db d;have H:=Db n;have ac:=Db K;clear h Y E g3 M d n K;go_enter Tryz.func75,Tryz.ntmps75;go_wp2_with (at_make;refine wpList_make_full _ rfl _ _ 186 rfl 0 188 i0 (Dx (Dp 64)) 64 Zkn aj am an _ _ _ _ 1536 rfl rfl rfl rfl (by rw[ao];decide) (by unfold maxLen;decide) (Nat.zero_le _) ?_;intro w1 U R;have J:=Db (And.intro (Sl.of_owns U) (KI R));clear U R)
 go_loopw [12] (fun i wr=>∃k:Nat,k<=1536/\i = .int .i64 k/\Hid (SlD wr (.slice (some ⟨w.heap.size,0,none⟩) 1536 1536) (D.take k++JY.drop k)/\Below w.heap.size w wr)) (fun i _=>1536-(intOf i).toNat)
 case atStart=>
  obtain⟨b,o⟩:=Da J;rw[Zf8 1536,<-ZcN]at b;exact⟨0,Nat.zero_le _,rfl,⟨by rw[List.take_zero,List.nil_append,List.drop_zero,Kq];exact b,by rw[List.take_zero,List.nil_append,List.drop_zero];exact ZfU⟩,o⟩
 case round=>
  obtain⟨k,T,rfl,y⟩:=hrel;by_cases ak:k<1536
  ·obtain⟨b,o⟩:=Da y;have n:=Da H;have d:=Da aa;obtain⟨s,t⟩:∃s,D[k]?=some s:=⟨_,List.getElem?_eq_getElem (by omega)⟩;have F:s.size=64:=d s (List.mem_of_getElem? t);have C:(D.take k++JY.drop k).length=1536:=by rw[List.length_append,List.length_take,List.length_drop,Kq];omega
   obtain⟨g',c',A,B,q,O,x,G,p⟩:=b.row (by omega);rw[C]at B;simp only[Value.slice.injEq,Option.some.injEq,Addr.mk.injEq]at B;obtain⟨⟨e1,_,_⟩,_,e3⟩:=B;subst e1 e3;obtain⟨W,f⟩:∃X,wr.setRow w.heap.size (spl A (k*64) (Dc s)).toArray=X:=⟨_,rfl⟩;have Q:(Dc s).length=64:=by rw[Dg,F]
   have xW:RowIs W w.heap.size 188 (spl A (k*64) (Dc s)):=by rw[<-f];exact setRow_heap wr _ _ _ 188 _ q
   have ab:Hid (SlD W (.slice (some ⟨w.heap.size,0,none⟩) 1536 1536) (D.take (k+1)++JY.drop (k+1))/\Below w.heap.size w W):=by
    have:=SlD.set q O x G p b.2 k s (by omega) F W xW;rw[take_set t (by rw[Kq,n]),C]at this;exact⟨this,o.trans ⟨by rw[<-f];rfl,by rw[<-f];rfl,by rw[<-f];rfl,by rw[<-f];simp,fun j S=>by rw[<-f];exact setRow_other wr _ j _ (by omega)⟩⟩
   have ae:=Db (Da af wr k s o t);have HX:=Db q;have HW:=Db f;have z:=Db Q;have ad:=Db p;have ax:IntKind.i64.wrap ((k:Int)*64)=((k*64:Nat):Int):=by rw[IntKind.wrap_i64];omega
   have au:(k:Int)<1536:=by omega
   have ah:=Da ac;have ar:¬c=k*64:=by omega
   have av:k*64<=98304:=by omega
   clear ah;have al:Hid (∀u∈Dc s,u.oneCell'=true):=Kc s;clear b o xW q O x G p C n d F Q t f y J I;go_wp2_with (first|(refine Zju rfl 188 _ rfl 64 5 JD _ _ _ rfl (by omega) ?_)|(refine wpList_load_mid rfl 188 _ rfl g (k*64) rfl (Dc s) _ (Da ae) JD rfl (by rw[D6,Da z]) ?_)|(refine ZeK rfl 188 _ _ rfl w.heap.size (k*64) 188 A (Dc s) rfl rfl (Da HX) (by rw[Da z,Da ad];omega) (by rw[D6,Da z]) (Da al) ?_;rw[Da HW]))
   go_roundw
   case rel=>exact⟨k+1,by omega,by go_num,Da ab⟩
   case measure=>simp[intOf];omega
  ·obtain rfl:k=1536:=by omega
   have HC:Hid (Calls Tryz.prog 134 #[.slice (some ⟨w.heap.size,0,none⟩) 1536 1536] wr fun e w'=>∃m,e = .returned (.pointer (some ⟨m,0,none⟩))/\Hid (Zl0 w D (.returned (.tuple #[.pointer (some ⟨m,0,none⟩),.bool true])) w')):=by
    obtain⟨b,o⟩:=Da y;rw[List.take_of_length_le (Nat.le_of_eq (Da H)),List.drop_of_length_le (Nat.le_of_eq Kq),List.append_nil]at b;exact Da I wr o b
   go_wp2_with (go_at_call 134;refine(Da HC).mono ?_;rintro e w' ⟨m,rfl,HP⟩);exact bodyPost_ret (v := .tuple #[.pointer (some ⟨m,0,none⟩),.bool true]) (by simp[results,Tryz.results75,go_sem]) rfl (Da HP)
theorem syncV(w:World)(a tb f b:Nat)(h:VolR w a tb f b)(Q:World->Prop)(g:∀w',Q w'->VolR w' a tb f b)(i:Calls Tryz.prog 74 #[.pointer (some ⟨b,0,none⟩),.pointer (some ⟨tb,0,none⟩)] w.drew fun e w'=>e = .returned (.tuple #[])/\Q w'):
  Calls Tryz.prog 26 #[.pointer (some ⟨a,0,none⟩)] w fun e w'=>e = .returned (.int .i64 0)/\Q w':=by
 have l:=Kl w a tb h.vol;have c1:w.cell? ⟨a,1,none⟩=some (.pointer (some ⟨tb,0,none⟩)):=(RowIs.cell h 1).trans rfl;have c3:w.cell? ⟨a,3,none⟩=some (.pointer (some ⟨b,0,none⟩)):=(RowIs.cell h 3).trans rfl;have j:=Db i;have d:=Db g;clear h i g;go_enter Tryz.func26,Tryz.ntmps26;go_upto_region 3 with(go_at_call 53;refine l.mono ?_;rintro e w' ⟨rfl,rfl⟩)
 go_region_held3 (fun W=>W.cell? ⟨a,1,none⟩=some (.pointer (some ⟨tb,0,none⟩))/\W.cell? ⟨a,3,none⟩=some (.pointer (some ⟨b,0,none⟩))) (go_keep) (first|(go_at_call 74;refine(Da j).mono ?_;rintro e w2 ⟨rfl,c⟩;have d1:w2.cell? ⟨a,1,none⟩=some (.pointer (some ⟨tb,0,none⟩)):=(RowIs.cell (Da d w2 c) 1).trans rfl;have d3:w2.cell? ⟨a,3,none⟩=some (.pointer (some ⟨b,0,none⟩)):=(RowIs.cell (Da d w2 c) 3).trans rfl;have k:=Db c;clear c))
 go_wp2;go_ret;exact⟨rfl,Da k⟩
theorem openV(w:World)(a:OA)(l c:Nat)(Q:World->Nat->Prop)
  (h:Calls Tryz.prog 75 #[.slice a l c] w fun e X=>∃b:Nat,e = .returned (.tuple #[.pointer (some ⟨b,0,none⟩),.bool true])/\Hid (Calls Tryz.prog 76 #[.pointer (some ⟨b,0,none⟩)] X fun e Y=>∃d tb:Nat,e = .returned (.tuple #[.pointer (some ⟨d,0,none⟩),.pointer (some ⟨tb,0,none⟩),.bool true])/\Hid (∀Z,VolR Z Y.heap.size tb b d->Below Y.heap.size Y Z->Q Z Y.heap.size))):
  Calls Tryz.prog 27 #[.slice a l c] w fun e w'=>∃vb,e = .returned (.tuple #[.pointer (some ⟨vb,0,none⟩),.int .i64 0])/\Q w' vb:=by
 have k:=Db h;clear h;go_enter Tryz.func27,Tryz.ntmps27;go_wp2_with (first|(go_at_call 75;refine(Da k).mono ?_;rintro e X ⟨b,rfl,i⟩)|(go_at_call 76;refine(Da i).mono ?_;rintro e Y ⟨d,tb,rfl,j⟩)|(go_at_call 77;refine(Zdc Y tb b d).mono ?_;rintro e Z ⟨rfl,f,g,-⟩;have m:=Db (Da j Z f g);clear f g));exact bodyPost_ret (v := .tuple #[.pointer (some ⟨Y.heap.size,0,none⟩),.int .i64 0]) (by simp[results,Tryz.results27,go_sem]) rfl ⟨_,rfl,Da m⟩
def Kp62(w w':World):Prop:=∀k t R,RowIs w k t R->(t=62\/t=5)->RowIs w' k t R
theorem Kp62.trans{a b c:World}(h:Kp62 a b)(k:Kp62 b c):Kp62 a c:=fun i t R e d=>k i t R (h i t R e d) d
theorem Kp62.below{w w':World}(h:Below w.heap.size w w'):Kp62 w w':=fun k _ _ a _=>(h.block k a.lt).trans a
theorem Kp62.fr{X:Nat->Prop}{w w':World}(d:Fr X w w')(c:∀k t R,X k->RowIs w k t R->t≠62/\t≠5):Kp62 w w':=fun k t R a f=>a.fr d (fun e=>by
 have:=c k t R e a;rcases f with rfl|rfl
 ·exact this.1 rfl
 ·exact this.2 rfl)
theorem Kp62.prog{tb:Nat}{w w':World}(c:Fr (DM tb w) w w'):Kp62 w w':=Kp62.fr c (fun k t R ⟨⟨t',R',a,e⟩,_⟩ d=>by
 have:=a.type d;subst this;rcases e with rfl|rfl|rfl|rfl<;>decide)
section
variable{w w':World}{stb db:Nat}{vk:Value}{s:KS}{vf vn vw ve:Value}{ps:LB}{ep:List Int}
theorem StK.fr{X:Nat->Prop}(h:StK w stb db vk s vf vn vw ve ps ep)(d:Fr X w w')(c:∀k t R,X k->RowIs w k t R->t≠179/\t≠204/\t≠188/\t≠207/\t≠3/\t≠350):StK w' stb db vk s vf vn vw ve ps ep:=by
 have a:∀{e:TypeId} {sz:Nat} {v:Value} {n:Nat} {xs:LVa},Sl w e sz v n xs->(e=188\/e=207\/e=3\/e=350)->Sl w' e sz v n xs:=fun f j=>f.fr d (fun g l e=>by
  obtain⟨R,i⟩:=f.type l;have:=c _ _ _ e i;rcases j with rfl|rfl|rfl|rfl
  ·exact this.2.2.1 rfl
  ·exact this.2.2.2.1 rfl
  ·exact this.2.2.2.2.1 rfl
  ·exact this.2.2.2.2.2 rfl)
 refine⟨⟨h.st.row.fr d (fun e=>(c _ _ _ e h.st.row).1 rfl),⟨h.st.disk.1.fr d (fun e=>(c _ _ _ e h.st.disk.1).2.1 rfl),⟨a h.st.disk.2.1.1 (.inl rfl),h.st.disk.2.1.2⟩,h.st.disk.2.2⟩,a h.st.sw (.inr (.inl rfl)),a h.st.se (.inr (.inr (.inl rfl))),h.st.ne,h.st.ns,h.st.nd,h.st.d1,h.st.d2,h.st.d3⟩,a h.sk (.inr (.inr (.inr rfl))),h.ok⟩
theorem StK.types(h:StK w stb db vk s vf vn vw ve ps ep){k:Nat}(f:StO stb db vn vw ve k){t:TypeId}{R:LVa}(c:RowIs w k t R):t=179\/t=204\/t=188\/t=207\/t=3:=by
 rcases f with rfl|rfl|e|e|e
 ·exact .inl (c.type h.st.row)
 ·exact .inr (.inl (c.type h.st.disk.1))
 ·obtain⟨d,a⟩:=h.st.disk.2.1.1.type e;exact .inr (.inr (.inl (c.type a)))
 ·obtain⟨d,a⟩:=Sl.type h.st.sw e;exact .inr (.inr (.inr (.inl (c.type a))))
 ·obtain⟨d,a⟩:=h.st.se.type e;exact .inr (.inr (.inr (.inr (c.type a))))
end
def StI(N n0:Nat)(w:World)(vb stb db:Nat)(K:KS->Prop):Prop:=
 ∃s vk vf vn vw ve ps ep,StK w stb db vk s vf vn vw ve ps ep/\K s/\InvS s/\InvC s/\s.tn<=N+1/\ps.length<=256*N/\ep.length<=2*N/\(∀k,StO stb db vn vw ve k->n0<=k/\k≠vb)/\∀k,Own vk k->n0<=k
theorem StI.fr{N n0:Nat}{w w':World}{vb stb db:Nat}{K:KS->Prop}(h:StI N n0 w vb stb db K){X:Nat->Prop}(e:Fr X w w')(d:∀k t R,X k->RowIs w k t R->t≠179/\t≠204/\t≠188/\t≠207/\t≠3/\t≠350):StI N n0 w' vb stb db K:=by
 obtain⟨s,vk,vf,vn,vw,ve,ps,ep,a,c⟩:=h;exact⟨s,vk,vf,vn,vw,ve,ps,ep,a.fr e d,c⟩
theorem StI.mono{N n0:Nat}{w:World}{vb stb db:Nat}{K a:KS->Prop}(h:StI N n0 w vb stb db K)(f:∀s,K s->a s):StI N n0 w vb stb db a:=by
 obtain⟨s,vk,vf,vn,vw,ve,ps,ep,c,d,e⟩:=h;exact⟨s,vk,vf,vn,vw,ve,ps,ep,c,f s d,e⟩
def Km(s:KS):Prop:=∃C L,FlatL C L/\Stands s C L
def KeptB(b:Nat->Option By)(s:KS):Prop:=
 ∃(C:NB) (es:LS),SrtS es/\(∀x∈es,∃f:Nat,x.2=⟨none,(f:Int)⟩)/\FlatL C (es.map itE)/\Stands s C (es.map itE)/\(∀x∈es,∃i,i<8/\x.1=fn i)/\(∀i,i<8->∀t,b i=some t->∃f:Nat,(fn i,(⟨none,(f:Int)⟩:VS))∈es/\C f=t)/\∀i,i<8->b i=none->∀u,(fn i,u)∉es
theorem KeptB.any{b:Nat->Option By}{s:KS}(h:KeptB b s):Km s:=by
 obtain⟨C,es,_,_,a,c,_⟩:=h;exact⟨C,_,a,c⟩
structure LgI(N n0:Nat)(w0 w:World)(vb tb db stb:Nat)(b:Nat->Option By)(K:KS->Prop):Prop where
 vol:VolR w vb tb db stb
 tr:∃G I CI,PS w tb G I CI/\SetT b G I CI
 st:StI N n0 w vb stb db K
 bel:Below n0 w0 w
 lo:n0<tb/\n0<=vb/\n0<=w0.heap.size/\0<n0
theorem PS.si{w:World}{tb:Nat}{G:Gh}{I:LF}{C:IB}(h:PS w tb G I C):SrtI I:=by
 obtain⟨rd,V,E,vi,h⟩:=h;exact h.si
theorem Uc{n0:Nat}{w0 w w':World}(h:Below n0 w0 w){X:Nat->Prop}(a:Fr X w w')(c:∀k,X k->n0<=k)(hn:n0<=w0.heap.size):Below n0 w0 w':=
 ⟨a.os.trans h.os,a.tape.trans h.tape,a.output.trans h.output,Nat.le_trans h.size a.size,fun k d=>(a.block k (by have:=h.size;omega) (fun e=>by have:=c k e;omega)).trans (h.block k d)⟩
section
variable{N n0:Nat}{w0 w w':World}{vb tb db stb:Nat}{b b':Nat->Option By}{K:KS->Prop}
theorem LgI.prog(h:LgI N n0 w0 w vb tb db stb b K)(c:Fr (DM tb w) w w'){G:Gh}{I:LF}{a:IB}(i:PS w' tb G I a)(j:SetT b' G I a):LgI N n0 w0 w' vb tb db stb b' K:=by
 have f:∀k t R,DM tb w k->RowIs w k t R->t=214\/t=229\/t=310\/t=293:=fun k t R ⟨⟨t',R',g,l⟩,_⟩ d=>by
  have:=g.type d;subst this;exact l
 obtain⟨l1,l2,m,l4⟩:=h.lo;refine⟨RowIs.fr h.vol c (fun e=>?_),⟨G,I,a,i,j⟩,h.st.fr c (fun k t R e d=>?_),Uc h.bel c (fun k e=>?_) m,h.lo⟩
 ·have:=f _ _ _ e h.vol
  revert this;decide
 ·rcases f k t R e d with rfl|rfl|rfl|rfl<;>decide
 ·have:=e.2;omega
theorem LgI.fr62(h:LgI N n0 w0 w vb tb db stb b K){X:Nat->Prop}(a:Fr X w w')(c:∀k t R,X k->RowIs w k t R->t=62)(f:∀k,X k->n0<=k):LgI N n0 w0 w' vb tb db stb b K:=by
 obtain⟨l1,l2,l,l4⟩:=h.lo;obtain⟨G,I,g,⟨m,V,E,n,i⟩,j⟩:=h.tr;refine⟨RowIs.fr h.vol a (fun e=>?_),⟨G,I,g,⟨m,V,E,n,i.fr a (fun e=>?_) (fun k t R e d=>?_)⟩,j⟩,h.st.fr a (fun k t R e d=>?_),Uc h.bel a f l,h.lo⟩
 ·have:=c _ _ _ e h.vol
  revert this;decide
 ·have:=f 0 e;omega
 ·rw[c k t R e d];decide
 ·rw[c k t R e d];decide
theorem LgI.below(h:LgI N n0 w0 w vb tb db stb b K)(a:Below w.heap.size w w'):LgI N n0 w0 w' vb tb db stb b K:=
 h.fr62 (X:=fun _=>False) (Fr.of_below a) (fun _ _ _ e=>e.elim) (fun _ e=>e.elim)
theorem LgI.any(h:LgI N n0 w0 w vb tb db stb b K)(a:∀s,K s->Km s):LgI N n0 w0 w vb tb db stb b Km:=⟨h.vol,h.tr,h.st.mono a,h.bel,h.lo⟩
theorem ZnI(h:LgI N n0 w0 w vb tb db stb b K){i:Nat}(c:i<8){s:By}(l:b i=some s):
  Calls Tryz.prog 63 #[.pointer (some ⟨vb,0,none⟩),.string (pth i)] w fun e w'=>e = .returned (.int .i64 0)/\LgI N n0 w0 w' vb tb db stb (JJ b i none) K/\Kp62 w w':=by
 obtain⟨G,I,j,n,a⟩:=h.tr;have aa:=a.fl.le;have ab:=a.fl.ilen n.si;refine(ZkD w vb tb h.vol.vol (pth i) (QV w tb G I j (pth i)) (fun e w' z=>⟨_,z.1⟩) (Zfd w tb G I j n a.fl.gok (by omega) (by omega) a.fl.flok (pth i) (by have:=(J7 c).2.2;omega))).mono ?_;rintro e w' ⟨rfl,m,d⟩;have o:=a.rm c l;refine⟨by rw[o],?_,Kp62.prog m⟩;rcases d with⟨g,_⟩|⟨_,u,k,d⟩
 ·exact absurd o g
 ·obtain⟨f,p,q,_⟩:=a.at c l;rw[p]at k
  cases k
  rcases d with⟨B,_⟩|⟨_,r,I',x,t,y⟩
  ·cases B
  ·have A:r.f=1:=(a.fl.back _ x).1;rcases t with⟨_,v⟩|⟨g,_⟩
   ·exact h.prog m (y _ (Qx G _)) (a.del c q v)
   ·exact absurd A g
theorem cutL(h:LgI N n0 w0 w vb tb db stb b K){i:Nat}(o:i<8){s:By}(q:b i=some s)(n:Nat)(P:n<=1280):
  Calls Tryz.prog 60 #[.pointer (some ⟨vb,0,none⟩),.string (pth i),.int .i64 n] w fun e w'=>e = .returned (.int .i64 0)/\LgI N n0 w0 w' vb tb db stb (JJ b i (some (Di s n))) K/\Kp62 w w':=by
 obtain⟨G,I,g,B,d⟩:=h.tr;have aa:=d.fl.le;have ab:=d.fl.ilen B.si;have T:ctE G (pth i) n=0:=by
  unfold ctE;rw[show decide ((0:Int)<=(n:Int)/\(n:Int)<=1280)=true from decide_eq_true ⟨by omega,by omega⟩];exact d.file o q
 have A:∀e w',QS w tb G I g (pth i) n e w'->e = .returned (.int .i64 0)/\LgI N n0 w0 w' vb tb db stb (JJ b i (some (Di s n))) K/\Kp62 w w':=by
  rintro e w' (⟨Q,_⟩|⟨_,u,r,a,c,p,_,L,t,l,v,H⟩)
  ·exact absurd T Q
  ·obtain⟨f,C,D,F⟩:=d.at o q;rw[C]at p
   cases p
   have y:(Di s n).size=n:=Ja s n;have M:Jj I l f ⟨a,(Di s n).size,c,r.f⟩:=by rw[y];exact v
   have J:g (f:Int)=s:=F;have z:=d.over o D (s:=Di s n) (by rw[y];exact P) L M;rcases H with⟨_,hu,_⟩|⟨rfl,_,R⟩
   ·have ac:DP (l.map (·.2.l))<=160:=by
     have E:=U8 (l.map (·.2.l)) (fun m O=>by
      obtain⟨x,j,rfl⟩:=List.mem_map.1 O;exact(z.fl.csz j).2.1)
     rw[List.length_map,v.1]at E;omega
    omega
   ·refine⟨rfl,h.prog t R ?_,Kp62.prog t⟩;show SetT _ G l (fun k=>if k=(f:Int) then Di (g (f:Int)) (n:Int).toNat else g k);rw[J,Int.toNat_natCast];exact z
 exact(cutV w vb tb h.vol.vol (pth i) n (QS w tb G I g (pth i) n) (fun e w' S=>⟨0,(A e w' S).1⟩) (ZlG w tb G I g B d.fl.gok (by omega) (by omega) d.fl.flok (fun x j=>by have:=(d.fl.csz j).2.1;omega) (fun x j=>(d.fl.csz j).1) (pth i) (by have:=(J7 o).2.2;omega) n)).mono A
def ovB(o:Option By)(p:Nat)(d:By):By:=ovR (o.getD ⟨#[]⟩) p d
theorem ZiY(s:By)(p:Nat)(d:By)(a:s.size<=1280)(hp:p+d.size<=1280):(ovR s p d).size<=1280:=by
 unfold ovR
 split
 ·exact a
 ·rw[Int.toNat_natCast,QZ];omega
theorem writeL(h:LgI N n0 w0 w vb tb db stb b K){i:Nat}(l:i<8)(p:Nat)(d:By)(P:p+d.size<=1280)(B:OA)(C:Nat)(U:Sl w 5 1 (.slice B d.size C) d.size (Dc d)):
  Calls Tryz.prog 59 #[.pointer (some ⟨vb,0,none⟩),.string (pth i),.int .i64 p,.slice B d.size C] w fun e w'=>e = .returned (.int .i64 0)/\LgI N n0 w0 w' vb tb db stb (JJ b i (some (ovB (b i) p d))) K/\Kp62 w w':=by
 obtain⟨G,I,o,z,g⟩:=h.tr;have af:=g.fl.le;have ag:=g.fl.ilen z.si;have X:K8 (p:Int) d=true:=decide_eq_true ⟨by omega,by omega⟩;have hz:=g.wr z.si l X;have Q:∀e w',KC w tb G I o (pth i) p d e w'->e = .returned (.int .i64 0)/\LgI N n0 w0 w' vb tb db stb (JJ b i (some (ovB (b i) p d))) K/\Kp62 w w':=by
  rintro e w' (⟨ab,_⟩|⟨_,⟨u,r,a,c,n,_,Y,_,v,y,t,E⟩|⟨n,v,f,I1,L,a,c,_,V,W,aa,q,t,E⟩⟩)
  ·exact absurd hz ab
  ·cases hb:b i with
   | none=>rw[g.none' l hb]at n;cases n
   | some s=>
    obtain⟨f,q,M,R⟩:=g.at l hb;rw[q]at n
    cases n
    have F:o (f:Int)=s:=R;have Z:Jj I y f ⟨a,(ovR s p d).size,c,r.f⟩:=by
     have:=t;dsimp only at this;rw[F]at this;exact this
    have A:s.size<=1280:=by have:=g.fl.sz _ M;rw[<-F];exact this
    have O:=g.over l M (s:=ovR s p d) (ZiY s p d A P) Y Z;rcases E with⟨_,hu,_⟩|⟨rfl,_,J⟩
    ·have ac:DP (y.map (·.2.l))<=160:=by
      have D:=U8 (y.map (·.2.l)) (fun m H=>by
       obtain⟨x,j,rfl⟩:=List.mem_map.1 H;exact(O.fl.csz j).2.1)
      rw[List.length_map,t.1]at D;omega
     omega
    ·refine⟨rfl,h.prog v J ?_,Kp62.prog v⟩;show SetT (JJ b i (some (ovR s p d))) G y (fun k=>if k=(f:Int) then ovR (o (f:Int)) p d else o k);rw[F];exact O
  ·cases hb:b i with
   | some s=>
    obtain⟨f,q,_⟩:=g.at l hb;rw[q]at n;cases n
   | none=>
    have A:=ZiY ⟨#[]⟩ p d (by show 0<=1280;omega) P;rcases E with⟨_,hu,_⟩|⟨rfl,_,C2,J,S,T⟩
    ·have h7:=g.lt7 l hb;have ac:DP (L.map (·.2.l))<=160:=by
      have D:=U8 (L.map (·.2.l)) (fun m H=>by
       obtain⟨x,j,rfl⟩:=List.mem_map.1 H;rcases (t.2 x).1 j with rfl|⟨j,ae⟩
       ·exact A
       ·rcases (q x).1 j with rfl|j
        ·exact absurd rfl ae
        ·exact(g.fl.csz j).2.1)
      rw[List.length_map,t.1,aa]at D;omega
     omega
    ·refine⟨rfl,h.prog v (G:=G++[([fn i],⟨none,(f:Int)⟩)]) (by rw[<-(J7 l).1];exact J) ?_,Kp62.prog v⟩;exact g.made z.si l hb V W A q t S T
 exact(Zna w vb tb h.vol.vol (pth i) p _ (KC w tb G I o (pth i) p d) (fun e w' hq=>⟨0,(Q e w' hq).1⟩) (Zia w tb G I o z g.fl.gok (by omega) (by omega) (fun x j=>(g.fl.csz j).2.2) g.fl.flok (fun x j=>by have:=(g.fl.csz j).2.1;omega) (fun x j=>(g.fl.csz j).1) (pth i) (by have:=(J7 l).2.2;omega) p d (by omega) B C U)).mono Q
end
theorem SetT.kept{b:Nat->Option By}{G:Gh}{I:LF}{g:IB}(h:SetT b G I g){w:World}{tb a:Nat}{V:NV}{E:NS}{y:Value}(c:TW w tb a V E y G I g){s:KS}(r:Stands s (fun n=>g (n:Int)) ((E a).map itE)):KeptB b s:=by
 have p:IsDir G a [] a := .inl ⟨rfl,rfl⟩;have o:=c.d.en [] a p;refine⟨fun n=>g (n:Int),E a,c.d.srt [] a p,fun x m=>?_,(h.fl.keep c).1,r,fun x m=>?_,fun i d t l=>?_,fun i d l u v=>?_⟩
 ·obtain⟨_,_,_,f,e,_⟩:=h.fl.root c m;exact⟨f,e⟩
 ·obtain⟨k,_⟩:=h.fl.root c m;obtain⟨i,d,e⟩:=h.nm _ k;have j:[x.1]=[fn i]:=e;injection j with j;exact⟨i,d,j⟩
 ·obtain⟨f,k,q⟩:=h.yes i d t l;exact⟨f,(o (fn i) _).2 k,q⟩
 ·exact h.no i d l u ((o (fn i) u).1 v)
section
variable{N n0:Nat}{w0 w w':World}{vb tb db stb:Nat}{b b':Nat->Option By}{K:KS->Prop}
theorem LgI.drew(h:LgI N n0 w0 w vb tb db stb b K):LgI N n0 w0 w.drew vb tb db stb b K:=h.below (Below.refl _ _).drew
theorem syncL(h:LgI N n0 w0 w vb tb db stb b K)(O:∀s,K s->Km s)(hN:N<=2000000):
  Calls Tryz.prog 26 #[.pointer (some ⟨vb,0,none⟩)] w fun e w'=>e = .returned (.int .i64 0)/\LgI (N+1) n0 w0 w' vb tb db stb b (KeptB b)/\Kp62 w w':=by
 refine syncV w vb tb db stb h.vol (fun w'=>LgI (N+1) n0 w0 w' vb tb db stb b (KeptB b)/\Kp62 w w') (fun w' q=>q.1.vol) ?_;have c:=h.drew;obtain⟨G,I,n,⟨x,V,E,y,l⟩,i⟩:=c.tr;obtain⟨s,vk,vf,z,vw,Z,ps,ep,r,P,g,L,h1,h2,h3,a,J⟩:=c.st;obtain⟨C0,L0,M,Q⟩:=O s P;obtain⟨o,S⟩:=i.fl.keep l;obtain⟨l1,l2,v,l4⟩:=c.lo;have T:=i.fl.its l;refine(ZcK r g.ok g.part S (by omega) (by omega) (by omega)).mono ?_;rintro e w' ⟨rfl,Y,vk',ab,aa,X,A,B,j,C,g4,D,F,H,f⟩;rw[T]at j C;obtain⟨U,W,i3,i4⟩:=j.ok g o Q M;have u:∀k t R,StO stb db z vw Z k->RowIs w.drew k t R->t=179\/t=204\/t=188\/t=207\/t=3:=fun k t R e d=>r.types e d
 have p:TW w' tb x V E y G I n:=l.fr f (fun e=>by have:=(a 0 e).1;omega) (fun k t R e d=>by
  rcases u k t R e d with rfl|rfl|rfl|rfl|rfl<;>decide)
 have ad:vb<w.drew.heap.size:=RowIs.lt c.vol;have ac:n0<=w.drew.heap.size:=Nat.le_trans v c.bel.size;refine⟨rfl,⟨RowIs.fr c.vol f (fun e=>(a _ e).2 rfl),⟨G,I,n,⟨x,V,E,y,p⟩,i⟩,⟨Y,vk',vf,z,ab,aa,X,A,B,i.kept p W,U,j.ck g o L,by omega,by omega,by omega,fun k m=>?_,fun k m=>?_⟩,Uc c.bel f (fun k e=>(a k e).1) v,c.lo⟩,Kp62.trans (Kp62.below (Below.refl _ _).drew) (Kp62.fr f (fun k t R e d=>?_))⟩
 ·rcases m with e|e|e|e|e
  ·exact a k (.inl e)
  ·exact a k (.inr (.inl e))
  ·exact a k (.inr (.inr (.inl e)))
  ·rcases D k e with q|q
   ·exact a k (.inr (.inr (.inr (.inl q))))
   ·exact⟨by omega,by omega⟩
  ·rcases F k e with q|q
   ·exact a k (.inr (.inr (.inr (.inr q))))
   ·exact⟨by omega,by omega⟩
 ·rcases H k m with q|q
  ·exact J k q
  ·omega
 ·rcases u k t R e d with rfl|rfl|rfl|rfl|rfl<;>decide
end
def qa:By:=⟨#[47,97]⟩
def qaf:By:=⟨#[47,97,47,102]⟩
def qg:By:=⟨#[47,103]⟩
def na:By:=⟨#[97]⟩
def nf:By:=⟨#[102]⟩
def ng:By:=⟨#[103]⟩
def d3:By:=⟨#[120,121,122]⟩
def s6:By:=⟨#[0,0,0,120,121,122]⟩
def G1(nb:Nat):Gh:=[([na],⟨some ⟨nb,0,none⟩,0⟩)]
def G2(nb:Nat):Gh:=[([na],⟨some ⟨nb,0,none⟩,0⟩),([na,nf],⟨none,0⟩)]
def G3(nb:Nat):Gh:=[([na],⟨some ⟨nb,0,none⟩,0⟩),([na,nf],⟨none,0⟩),([ng],⟨none,0⟩)]
theorem nm_a:Df qa=[na]:=by kernel_rfl
theorem nm_af:Df qaf=[na,nf]:=by kernel_rfl
theorem nm_g:Df qg=[ng]:=by kernel_rfl
theorem ok_a:DQ na=true:=by kernel_rfl
theorem ok_f:DQ nf=true:=by kernel_rfl
theorem ok_g:DQ ng=true:=by kernel_rfl
theorem mk0:mkE [] [] qa=0:=by kernel_rfl
theorem wr1(nb:Nat):wrE (G1 nb) [] qaf 3 d3=0:=by kernel_rfl
theorem at1(nb:Nat):atG (G1 nb) (Df qaf)=none:=by kernel_rfl
theorem at2(nb:Nat):atG (G2 nb) (Df qaf)=some ⟨none,0⟩:=by kernel_rfl
theorem rd2(nb:Nat):rdE (G2 nb) qaf 0 9=0:=by kernel_rfl
theorem ln2(nb:Nat):lnE (G2 nb) qaf qg=0:=by kernel_rfl
theorem rm3(nb:Nat):rmE (G3 nb) qa=7:=by kernel_rfl
theorem th3(nb:Nat):thE (G3 nb) qg=0:=by kernel_rfl
theorem at3(nb:Nat):atG (G3 nb) (Df qg)=some ⟨none,0⟩:=by kernel_rfl
theorem ov3:ovR ⟨#[]⟩ 3 d3=s6:=by kernel_rfl
theorem cut9:cutR s6 0 9=s6:=by kernel_rfl
theorem gok3(nb:Nat):GOk (G3 nb):=by
 refine⟨fun x a=>?_,fun x a=>?_,fun x a=>?_,?_,fun ns n u b=>?_⟩
 ·rcases List.mem_cons.1 a with rfl|a
  ·exact fun m b=>by rw[List.mem_singleton.1 b];exact ok_a
  rcases List.mem_cons.1 a with rfl|a
  ·intro m b;rcases List.mem_cons.1 b with rfl|b
   ·exact ok_a
   ·rw[List.mem_singleton.1 b];exact ok_f
  ·rw[List.mem_singleton.1 a];exact fun m b=>by rw[List.mem_singleton.1 b];exact ok_g
 ·rcases List.mem_cons.1 a with rfl|a
  ·exact fun e=>by cases e
  rcases List.mem_cons.1 a with rfl|a
  ·exact fun e=>by cases e
  ·rw[List.mem_singleton.1 a];exact fun e=>by cases e
 ·rcases List.mem_cons.1 a with rfl|a
  ·show 1<=6;omega
  rcases List.mem_cons.1 a with rfl|a
  ·show 2<=6;omega
  ·rw[List.mem_singleton.1 a];show 1<=6;omega
 ·show([[na],[na,nf],[ng]]:List (LY)).Nodup
  decide
 ·have d:(G3 nb)[0]?=some ([na],⟨some ⟨nb,0,none⟩,0⟩):=rfl;have c:∀{l m:LY} {x y:By},l++[x]=m++[y]->l=m:=fun {l m x y} e=>by
   have:=congrArg List.dropLast e
   rwa [List.dropLast_concat,List.dropLast_concat]at this
  rcases List.mem_cons.1 b with e|b
  ·rw[Prod.mk.injEq]at e;exact .inl (c (m:=[]) (y:=na) e.1)
  rcases List.mem_cons.1 b with e|b
  ·rw[Prod.mk.injEq]at e;have:=c (m:=[na]) (y:=nf) e.1;exact .inr ⟨_,by rw[this];exact List.mem_of_getElem? d,rfl⟩
  ·have e:=List.mem_singleton.1 b;rw[Prod.mk.injEq]at e;exact .inl (c (m:=[]) (y:=ng) e.1)
theorem Zlq{nb:Nat}{G:Gh}(d:∀x∈G,x∈G3 nb)(i:(G.map (·.1)).Nodup)(f:([na],(⟨some ⟨nb,0,none⟩,0⟩:VS))∈G):GOk G:=by
 have h:=gok3 nb;refine⟨fun x c=>h.nms x (d x c),fun x c=>h.ne x (d x c),fun x c=>h.le x (d x c),i,fun ns n u g=>?_⟩;rcases h.up ns n u (d _ g) with e|⟨v,b,a⟩
 ·exact .inl e
 ·right;refine⟨v,?_,a⟩;rcases List.mem_cons.1 b with e|b
  ·rw[e];exact f
  rcases List.mem_cons.1 b with e|b
  ·rw[Prod.mk.injEq]at e;rw[e.2]at a;cases a
  ·have e:=List.mem_singleton.1 b;rw[Prod.mk.injEq]at e;rw[e.2]at a;cases a
theorem gok1(nb:Nat):GOk (G1 nb):=Zlq (nb:=nb) (fun x a=>by rw[List.mem_singleton.1 a];exact List.mem_cons_self) (by show([[na]]:List (LY)).Nodup;decide) (List.mem_singleton.2 rfl)
theorem gok2(nb:Nat):GOk (G2 nb):=Zlq (nb:=nb) (fun x a=>by
  rcases List.mem_cons.1 a with rfl|a
  ·exact List.mem_cons_self
  ·rw[List.mem_singleton.1 a];exact List.mem_cons_of_mem _ List.mem_cons_self) (by show([[na],[na,nf]]:List (LY)).Nodup;decide) List.mem_cons_self
theorem gok0:GOk []:=⟨fun x a=>(by cases a),fun x a=>(by cases a),fun x a=>(by cases a),List.nodup_nil,fun _ _ _ a=>(by cases a)⟩
structure XtI(n1:Nat)(wA w:World)(vb tb db stb:Nat)(G:Gh)(I:LF)(C:IB):Prop where
 vol:VolR w vb tb db stb
 ps:PS w tb G I C
 st:StI 0 n1 w vb stb db (fun s=>s=ks0)
 bel:Below n1 wA w
 lo:n1<tb/\n1<=vb/\n1<=wA.heap.size/\0<n1
section
variable{n1:Nat}{wA w w':World}{vb tb db stb:Nat}{G G':Gh}{I I':LF}{C C':IB}
theorem XtI.prog(h:XtI n1 wA w vb tb db stb G I C)(a:Fr (DM tb w) w w')(f:PS w' tb G' I' C'):XtI n1 wA w' vb tb db stb G' I' C':=by
 have c:∀k t R,DM tb w k->RowIs w k t R->t=214\/t=229\/t=310\/t=293:=fun k t R ⟨⟨t',R',d,g⟩,_⟩ b=>by
  have:=d.type b;subst this;exact g
 obtain⟨l1,l2,i,l4⟩:=h.lo;refine⟨RowIs.fr h.vol a (fun e=>?_),f,h.st.fr a (fun k t R e b=>?_),Uc h.bel a (fun k e=>?_) i,h.lo⟩
 ·have:=c _ _ _ e h.vol
  revert this;decide
 ·rcases c k t R e b with rfl|rfl|rfl|rfl<;>decide
 ·have:=e.2;omega
theorem XtI.below(h:XtI n1 wA w vb tb db stb G I C)(a:Below w.heap.size w w'):XtI n1 wA w' vb tb db stb G I C:=by
 obtain⟨c,V,E,d,b⟩:=h.ps;exact h.prog (Fr.of_below a) ⟨c,V,E,d,b.below a (Nat.le_refl _)⟩
theorem mkX(h:XtI n1 wA w vb tb db stb [] [] C):Calls Tryz.prog 58 #[.pointer (some ⟨vb,0,none⟩),.string qa] w fun e w'=>e = .returned (.int .i64 0)/\∃nb,XtI n1 wA w' vb tb db stb (G1 nb) [] C:=by
 have a:∀e w',QU w tb [] [] C qa e w'->e = .returned (.int .i64 0)/\∃nb,XtI n1 wA w' vb tb db stb (G1 nb) [] C:=by
  rintro e w' ⟨rfl,d,c⟩;refine⟨by rw[mk0],?_⟩;rcases c with⟨f,_⟩|⟨_,nb,b⟩
  ·exact absurd mk0 f
  ·rw[nm_a]at b;exact⟨nb,h.prog d b⟩
 exact(mkdirV w vb tb h.vol.vol qa (QU w tb [] [] C qa) (fun e w' g=>⟨_,(a e w' g).1⟩) (ZjH w tb [] [] C h.ps gok0 (by simp) (by simp) qa (by show 2<=_;omega))).mono a
def KpX(w w':World):Prop:=∀k t R,RowIs w k t R->(t=5\/t=112)->RowIs w' k t R
theorem KpX.trans{a b c:World}(h:KpX a b)(k:KpX b c):KpX a c:=fun i t R e d=>k i t R (h i t R e d) d
theorem KpX.below(h:Below w.heap.size w w'):KpX w w':=fun k _ _ a _=>(h.block k a.lt).trans a
theorem KpX.fr{X:Nat->Prop}(c:Fr X w w')(b:∀k t R,X k->RowIs w k t R->t≠5/\t≠112):KpX w w':=fun k t R a d=>a.fr c (fun e=>by
 have:=b k t R e a;rcases d with rfl|rfl
 ·exact this.1 rfl
 ·exact this.2 rfl)
theorem KpX.prog(b:Fr (DM tb w) w w'):KpX w w':=KpX.fr b (fun k t R ⟨⟨t',R',a,d⟩,_⟩ c=>by
 have:=a.type c;subst this;rcases d with rfl|rfl|rfl|rfl<;>decide)
def One(I:LF)(l:Nat)(f:Int):Prop:=I.length=1/\∃r:VF,r.l=l/\r.f=f/\∀x,x∈I↔x=((0:Int),r)
theorem One.in{l:Nat}{f:Int}(h:One I l f){x:Int×VF}(d:x∈I):x.1=0/\x.2.l=l/\x.2.f=f:=by
 obtain⟨_,r,a,b,c⟩:=h;rw[(c x).1 d];exact⟨rfl,a,b⟩
theorem One.use{f:Int}(h:One I 6 f):DP (I.map (·.2.l))=1:=by
 obtain⟨a,r,h1,h2,b⟩:=h;obtain⟨x,rfl⟩:∃x,I=[x]:=by
  match I,a with
  | [x],_=>exact⟨x,rfl⟩
 have:=(b x).1 (List.mem_singleton.2 rfl);rw[this];show(r.l+63)/64+0=1;omega
theorem wrX{nb:Nat}(h:XtI n1 wA w vb tb db stb (G1 nb) [] C)(d:OA)(g:Nat)(z:RdB w d 3 g d3):
  Calls Tryz.prog 59 #[.pointer (some ⟨vb,0,none⟩),.string qaf,.int .i64 3,.slice d 3 g] w fun e w'=>e = .returned (.int .i64 0)/\∃I' C',XtI n1 wA w' vb tb db stb (G2 nb) I' C'/\One I' 6 1/\C' 0=s6:=by
 have p:∀e w',KC w tb (G1 nb) [] C qaf 3 d3 e w'->e = .returned (.int .i64 0)/\∃I' C',XtI n1 wA w' vb tb db stb (G2 nb) I' C'/\One I' 6 1/\C' 0=s6:=by
  rintro e w' (⟨E,_⟩|⟨_,⟨u,r,a,c,j,_⟩|⟨j,A,f,I1,l,a,c,_,B,aa,D,t,k,m⟩⟩)
  ·exact absurd (wr1 nb) E
  ·rw[at1]at j;cases j
  ·obtain rfl:f=0:=by simpa using B
   rw[ov3]at k m;have n:One l 6 1:=by
    refine⟨by rw[k.1,D];rfl,⟨a,s6.size,c,1⟩,rfl,rfl,fun x=>?_⟩;rw[k.2];constructor
    ·rintro(e|⟨i,v⟩)
     ·exact e
     ·rcases (t x).1 i with rfl|i
      ·exact absurd rfl v
      ·cases i
    ·exact fun e => .inl e
   rcases m with⟨_,hu,_⟩|⟨rfl,_,s,q,y,_⟩
   ·have:=n.use;omega
   ·rw[nm_af]at q;exact⟨rfl,l,s,h.prog A q,n,y⟩
 exact(Zna w vb tb h.vol.vol qaf 3 _ (KC w tb (G1 nb) [] C qaf 3 d3) (fun e w' F=>⟨_,(p e w' F).1⟩) (Zha w tb (G1 nb) [] C h.ps (gok1 nb) (by show 1<=_;omega) (by simp) (fun x b=>(by cases b)) (fun x b o=>by rw[List.mem_singleton.1 b]at o;cases o) (fun x b=>(by cases b)) (fun x b=>(by cases b)) qaf (by show 4<=_;omega) 3 d3 (by show 3<=_;omega) d g z)).mono p
theorem Zol{nb:Nat}{f:Int}(h:One I 6 f)(h1:0<f)(h2:f<=10000):FlOk (G3 nb) I:=fun x a b=>by
 obtain⟨_,r,_,hf,c⟩:=h;refine⟨r,(c _).2 ?_,by omega,by omega⟩;rcases List.mem_cons.1 a with rfl|a
 ·cases b
 rcases List.mem_cons.1 a with rfl|a
 ·rfl
 ·rw[List.mem_singleton.1 a]
theorem Znl{nb:Nat}{f:Int}(h:One I 6 f)(b:0<f)(c:f<=10000):FlOk (G2 nb) I:=fun x a d=>Zol (nb:=nb) h b c x (by
 rcases List.mem_cons.1 a with rfl|a
 ·exact List.mem_cons_self
 ·rw[List.mem_singleton.1 a];exact List.mem_cons_of_mem _ List.mem_cons_self) d
theorem rdX'{nb:Nat}(h:XtI n1 wA w vb tb db stb (G2 nb) I C)(ho:One I 6 1)(c:C 0=s6):
  Calls Tryz.prog 55 #[.pointer (some ⟨vb,0,none⟩),.string qaf,.int .i64 0,.int .i64 9] w fun e w'=>∃x,e = .returned (.tuple #[.slice (some ⟨x,0,none⟩) 6 6,.int .i64 0])/\Sl w' 5 1 (.slice (some ⟨x,0,none⟩) 6 6) 6 (Dc s6)/\Below w.heap.size w w':=by
 obtain⟨n,V,E,o,f⟩:=h.ps;have d:∀e w',Qj w (G2 nb) C qaf 0 9 e w'->∃x,e = .returned (.tuple #[.slice (some ⟨x,0,none⟩) 6 6,.int .i64 0])/\Sl w' 5 1 (.slice (some ⟨x,0,none⟩) 6 6) 6 (Dc s6)/\Below w.heap.size w w':=by
  rintro e w' ⟨⟨j,_⟩|⟨_,u,b,_,x,m,rfl,_,a⟩,g⟩
  ·exact absurd (rd2 nb) j
  ·rw[at2]at b
   cases b
   rw[show C (VS.mk none 0).f=s6 from c,cut9]at a;have i:m=6:=by
    have:=a.1;rw[Dg]at this;have h6:s6.size=6:=rfl;omega
   subst i;exact⟨x,rfl,a,g⟩
 have aa:=ho.1;exact(readV w vb tb h.vol.vol qaf 0 9 (Qj w (G2 nb) C qaf 0 9) (fun e w' k=>by obtain⟨x,rfl,_⟩:=d e w' k;exact⟨_,_,_,_,rfl⟩) (Zf2 w tb n V E o (G2 nb) I C f (gok2 nb) (by show 2<=_;omega) (by omega) (Znl ho (by omega) (by omega)) (fun x l=>by rw[(ho.in l).1,c];show 6<=_;omega) qaf (by show 4<=_;omega) 0 9 (by omega) (by omega))).mono d
theorem lnX{nb:Nat}(h:XtI n1 wA w vb tb db stb (G2 nb) I C)(ho:One I 6 1):
  Calls Tryz.prog 61 #[.pointer (some ⟨vb,0,none⟩),.string qaf,.string qg] w fun e w'=>e = .returned (.int .i64 0)/\(∃I',XtI n1 wA w' vb tb db stb (G3 nb) I' C/\One I' 6 2)/\KpX w w':=by
 have d:∀e w',QT w tb (G2 nb) I C qaf qg e w'->e = .returned (.int .i64 0)/\(∃I',XtI n1 wA w' vb tb db stb (G3 nb) I' C/\One I' 6 2)/\KpX w w':=by
  rintro e w' ⟨rfl,b,j⟩;refine⟨by rw[ln2],?_,KpX.prog b⟩;rcases j with⟨l,_⟩|⟨_,u,r,I',a,_,k,c,f⟩
  ·exact absurd (ln2 nb) l
  ·rw[at2]at a
   cases a
   rw[nm_g]at f;obtain⟨_,n,p⟩:=ho.in k;have o:r.l=6:=n;have ab:r.f=1:=p;refine⟨I',h.prog b f,by rw[c.1];exact ho.1,⟨r.a,r.l,r.c,r.f+1⟩,o,by show r.f+1=2;omega,fun x=>?_⟩;rw[c.2];exact⟨fun e=>e.elim id (fun ⟨g,i⟩=>absurd (ho.in g).1 i),fun e => .inl e⟩
 have aa:=ho.1;exact(linkV w vb tb h.vol.vol qaf qg (QT w tb (G2 nb) I C qaf qg) (fun e w' m=>⟨_,(d e w' m).1⟩) (ZjL w tb (G2 nb) I C h.ps (gok2 nb) (by show 2<=_;omega) (by omega) (Znl ho (by omega) (by omega)) qaf qg (by show 4<=_;omega) (by show 2<=_;omega))).mono d
theorem rmX{nb:Nat}(h:XtI n1 wA w vb tb db stb (G3 nb) I C)(ho:One I 6 2):
  Calls Tryz.prog 63 #[.pointer (some ⟨vb,0,none⟩),.string qa] w fun e w'=>e = .returned (.int .i64 7)/\XtI n1 wA w' vb tb db stb (G3 nb) I C/\KpX w w':=by
 have aa:=ho.1;refine(ZkD w vb tb h.vol.vol qa (QV w tb (G3 nb) I C qa) (fun e w' f=>⟨_,f.1⟩) (Zfd w tb (G3 nb) I C h.ps (gok3 nb) (by show 3<=_;omega) (by omega) (Zol ho (by omega) (by omega)) qa (by show 2<=_;omega))).mono ?_;rintro e w' ⟨rfl,b,c⟩;refine⟨by rw[rm3],?_,KpX.prog b⟩;rcases c with⟨_,d⟩|⟨a,_⟩
 ·exact h.prog b d
 ·rw[rm3]at a;cases a
theorem stX{nb:Nat}(h:XtI n1 wA w vb tb db stb (G3 nb) I C)(ho:One I 6 2):
  Calls Tryz.prog 57 #[.pointer (some ⟨vb,0,none⟩),.string qg] w fun e w'=>(e = .returned (.tuple #[.agg #[.string ng,.bool false,.int .i64 6,.int .i64 2],.int .i64 0]))/\Below w.heap.size w w':=by
 have aa:=ho.1;obtain⟨y,V,E,z,f⟩:=h.ps;refine statV w vb tb h.vol.vol qg (fun e=>e = .returned (.tuple #[.agg #[.string ng,.bool false,.int .i64 6,.int .i64 2],.int .i64 0])) (fun e j=>⟨_,_,_,_,_,j⟩) (fun W g=>?_);refine(Zjz W tb y V E z (G3 nb) I C (f.below g (Nat.le_refl _)) (gok3 nb) (by show 3<=_;omega) (by omega) (Zol ho (by omega) (by omega)) qg (by show 2<=_;omega)).mono ?_;rintro e w' ⟨⟨k,_⟩|⟨_,v,p,rfl⟩,i⟩
 ·exact absurd (th3 nb) k
 ·refine⟨?_,i⟩;rcases p with⟨a,_⟩|⟨ds,n,u,c,b,o⟩
  ·rw[nm_g]at a;cases a
  ·rw[at3]at b
   cases b
   rw[nm_g]at c;have l:n=ng:=by
    have:=congrArg List.getLast? c;simp at this;exact this.symm
   rcases o with⟨d,_⟩|⟨_,r,m,rfl⟩
   ·cases d
   ·obtain⟨_,q,t⟩:=ho.in m;have s:r.l=6:=q;have x:r.f=2:=t;rw[l];unfold filV;rw[s,x]
    rfl
theorem usX{nb:Nat}(f:VolW w vb tb)(c:PS w tb (G3 nb) I C)(ho:One I 6 2):Calls Tryz.prog 34 #[.pointer (some ⟨vb,0,none⟩)] w fun e w'=>e = .returned (.int .i64 1)/\Below w.heap.size w w':=by
 obtain⟨rd,V,E,h,a⟩:=c;have aa:=ho.1;have b:=Zd4 w tb _ h I a.t a.i (by omega) (fun x g=>by rw[(ho.in g).2.1];omega);rw[ho.use]at b;exact Znb w vb tb f _ (fun e w' d=>⟨_,d.1⟩) b
end
end Go.Proofs.YtaieidcohdhgpaaGreatDoor
