/- Cleaned. -/
import Derived.Test.YtaieidcohdhgpaaGreatDoorPBN
namespace Go.Proofs.YtaieidcohdhgpaaGreatDoor
set_option maxHeartbeats 8000000
set_option maxRecDepth 100000
open Go.RowKit
theorem ZjD{P:Program}{e:Array Oper}{f:List Oper}{o:Oper}{a:Act}{w:World}{Q:Exit->Act->World->Prop}(j:o.guard=none)(d:TypeId)(x:Operand)(ho:o.op = .sliceToArrayPointer d x)(n:Nat)(g:TypeId)(k:P.underlying d=some (.array n g))(b:OA)(l c:Nat)(m:a.eval x = .slice b l c)(hn:n<=l)
  (h:wpList P e Q f (a.put o.dst (.pointer b)) w):wpList P e Q (o::f) a w:=by
 refine wpList_plain j fun K i=>?_
 unfold Oper.wp execOp;simp only[ho,Instr.arrayAt,Sem.run_bind,m];simp[underlying,k,go_sem,show ¬l<n by omega];exact i _ _ h
theorem ZeO{P:Program}{c:Array Oper}{d:List Oper}{o:Oper}{a:Act}{w:World}{Q:Exit->Act->World->Prop}(k:o.guard=none)(ty:TypeId)(x y:Operand)(ho:o.op = .store ty x y)
  (g off:Nat) (t:TypeId) (L b:LVa) (m:a.eval x = .pointer (some ⟨g,off,none⟩)) (n:a.eval y = .agg b.toArray)
  (j:RowIs w g t L) (i:off+b.length<=L.length) (l:(P.info? ty).map (·.size)=some b.length) (e:∀u∈b,u.oneCell'=true)
  (h:wpList P c Q d (a.put o.dst undef) (w.setRow g (spl L off b).toArray)):wpList P c Q (o::d) a w:=
 wpList_plain k fun _K f=>Zez ty x y ho g off t L b m n j i l e (f _ _ h)
theorem ZiB(D:LY):Dc (Jl D)=JC D:=by
 unfold Jl JC Dc;simp[List.map_flatMap]
theorem take_set{D Z:LY}{k:Nat}{s:By}(a:D[k]?=some s)(hl:Z.length=D.length):(D.take k++Z.drop k).set k s=D.take (k+1)++Z.drop (k+1):=by
 have hk:=(List.getElem?_eq_some_iff.1 a).1;have e:D.take (k+1)=D.take k++[s]:=by rw[List.take_add_one,a];rfl
 have b:Z.drop k=Z[k]::Z.drop (k+1):=List.drop_eq_getElem_cons (by omega);rw[e,b,List.set_append_right _ _ (by rw[List.length_take];omega),List.length_take,show k-min k D.length=0 by omega,List.set_cons_zero,List.append_assoc]
 rfl
def Zl7(w:World)(D:LY)(e:Ending)(w':World):Prop:=
 ∃db vf a l c,e = .returned (.tuple #[.pointer (some ⟨db,0,none⟩),.bool true])/\DO w' db vf (.slice a l c) (.slice none 0 0) (.slice none 0 0) D/\¬Own (.slice a l c) db/\w.heap.size<=db/\(∀k,Own (.slice a l c) k->w.heap.size<=k)/\Below w.heap.size w w'
theorem Zn1(w:World)(a:OA)(l c:Nat)(D:LY)(h:Sl w 5 1 (.slice a l c) (Jl D).size (Dc (Jl D)))(n:D.length=1536)(d:∀s∈D,s.size=64):
  Calls Tryz.prog 75 #[.slice a l c] w (Zl7 w D):=by
 have Y:(Jl D).size=98304:=by rw[Zei d,n]
 rw[Y,ZiB]at h;obtain⟨i0,aj,am,an,ao⟩:=info_parts UK;rcases h.2 with⟨_,h0⟩|⟨g,aq,L,e,E,K,g2,g3,M⟩
 ·omega
 simp only[Value.slice.injEq]at e;obtain⟨rfl,rfl,rfl⟩:=e;have ai:=E.lt;have af:Hid (∀X k s,Below w.heap.size w X->D[k]?=some s->X.rangeAt g (k*64) (Dc s)):=fun X k s r V j v Z=>by
  have aw:=d s (List.mem_of_getElem? V);have S:j<64:=by have:=(List.getElem?_eq_some_iff.1 Z).1;rw[Dh]at this;omega
  have:=ZfL d k j s V S;rw[Z,<-M,List.getElem?_take]at this
  split at this
  ·have ag:RowIs X g 5 L:=(r.block _ ai).trans E;rw[ag.cell];exact this
  ·cases this
 have I:Hid (∀X,Below w.heap.size w X->SlD X (.slice (some ⟨w.heap.size,0,none⟩) 1536 1536) D->Calls Tryz.prog 134 #[.slice (some ⟨w.heap.size,0,none⟩) 1536 1536] X fun e w'=>∃m,e = .returned (.pointer (some ⟨m,0,none⟩))/\Hid (Zl7 w D (.returned (.tuple #[.pointer (some ⟨m,0,none⟩),.bool true])) w')):=fun X r N=>by
  refine(ZeC X _ D N n).mono ?_;rintro e w' ⟨rfl,ap,x,G,p,q4⟩;have P:=r.size;have ak:=N.1.lt (g:=w.heap.size) rfl;refine⟨X.heap.size,rfl,X.heap.size,ap,_,_,_,rfl,x,fun e=>?_,P,fun k T=>?_,r.trans (p.mono P)⟩
  ·simp[Own,Value.ownBlock]at e;omega
  ·simp[Own,Value.ownBlock]at T;omega
 have aa:=Db d;have H:=Db n;have ac:=Db K;clear h Y E g3 M d n K;go_enter Tryz.func75,Tryz.ntmps75;go_wp2_with (at_make;refine wpList_make_full _ rfl _ _ 186 rfl 0 188 i0 (Dx (Dp 64)) 64 Zkv aj am an _ _ _ _ 1536 rfl rfl rfl rfl (by rw[ao];decide) (by unfold maxLen;decide) (Nat.zero_le _) ?_;intro w1 U R;have J:=Db (And.intro (Sl.of_owns U) (KJ R));clear U R)
 go_loopw [12] (fun i wr=>∃k:Nat,k<=1536/\i = .int .i64 k/\Hid (SlD wr (.slice (some ⟨w.heap.size,0,none⟩) 1536 1536) (D.take k++JX.drop k)/\Below w.heap.size w wr)) (fun i _=>1536-(intOf i).toNat)
 case atStart=>
  obtain⟨b,o⟩:=Da J;rw[Zgf 1536,<-ZcP]at b;exact⟨0,Nat.zero_le _,rfl,⟨by rw[List.take_zero,List.nil_append,List.drop_zero,Kq];exact b,by rw[List.take_zero,List.nil_append,List.drop_zero];exact Zf0⟩,o⟩
 case round=>
  obtain⟨k,T,rfl,y⟩:=hrel;by_cases ak:k<1536
  ·obtain⟨b,o⟩:=Da y;have n:=Da H;have d:=Da aa;obtain⟨s,t⟩:∃s,D[k]?=some s:=⟨_,List.getElem?_eq_getElem (by omega)⟩;have F:s.size=64:=d s (List.mem_of_getElem? t);have C:(D.take k++JX.drop k).length=1536:=by rw[List.length_append,List.length_take,List.length_drop,Kq];omega
   obtain⟨g',c',A,B,q,O,x,G,p⟩:=b.row (by omega);rw[C]at B;simp only[Value.slice.injEq,Option.some.injEq,Addr.mk.injEq]at B;obtain⟨⟨e1,_,_⟩,_,e3⟩:=B;subst e1 e3;obtain⟨W,f⟩:∃X,wr.setRow w.heap.size (spl A (k*64) (Dc s)).toArray=X:=⟨_,rfl⟩;have Q:(Dc s).length=64:=by rw[Dh,F]
   have xW:RowIs W w.heap.size 188 (spl A (k*64) (Dc s)):=by rw[<-f];exact setRow_heap wr _ _ _ 188 _ q
   have ab:Hid (SlD W (.slice (some ⟨w.heap.size,0,none⟩) 1536 1536) (D.take (k+1)++JX.drop (k+1))/\Below w.heap.size w W):=by
    have:=SlD.set q O x G p b.2 k s (by omega) F W xW;rw[take_set t (by rw[Kq,n]),C]at this;exact⟨this,o.trans ⟨by rw[<-f];rfl,by rw[<-f];rfl,by rw[<-f];rfl,by rw[<-f];simp,fun j S=>by rw[<-f];exact setRow_other wr _ j _ (by omega)⟩⟩
   have ae:=Db (Da af wr k s o t);have HX:=Db q;have HW:=Db f;have z:=Db Q;have ad:=Db p;have ax:IntKind.i64.wrap ((k:Int)*64)=((k*64:Nat):Int):=by rw[IntKind.wrap_i64];omega
   have au:(k:Int)<1536:=by omega
   have ah:=Da ac;have ar:¬c=k*64:=by omega
   have av:k*64<=98304:=by omega
   clear ah;have al:Hid (∀u∈Dc s,u.oneCell'=true):=Ke s;clear b o xW q O x G p C n d F Q t f y J I;go_wp2_with (first|(refine ZjD rfl 188 _ rfl 64 5 JF _ _ _ rfl (by omega) ?_)|(refine wpList_load_mid rfl 188 _ rfl g (k*64) rfl (Dc s) _ (Da ae) JF rfl (by rw[D7,Da z]) ?_)|(refine ZeO rfl 188 _ _ rfl w.heap.size (k*64) 188 A (Dc s) rfl rfl (Da HX) (by rw[Da z,Da ad];omega) (by rw[D7,Da z]) (Da al) ?_;rw[Da HW]))
   go_roundw
   case rel=>exact⟨k+1,by omega,by go_num,Da ab⟩
   case measure=>simp[intOf];omega
  ·obtain rfl:k=1536:=by omega
   have HC:Hid (Calls Tryz.prog 134 #[.slice (some ⟨w.heap.size,0,none⟩) 1536 1536] wr fun e w'=>∃m,e = .returned (.pointer (some ⟨m,0,none⟩))/\Hid (Zl7 w D (.returned (.tuple #[.pointer (some ⟨m,0,none⟩),.bool true])) w')):=by
    obtain⟨b,o⟩:=Da y;rw[List.take_of_length_le (Nat.le_of_eq (Da H)),List.drop_of_length_le (Nat.le_of_eq Kq),List.append_nil]at b;exact Da I wr o b
   go_wp2_with (go_at_call 134;refine(Da HC).mono ?_;rintro e w' ⟨m,rfl,HP⟩);exact bodyPost_ret (v := .tuple #[.pointer (some ⟨m,0,none⟩),.bool true]) (by simp[results,Tryz.results75,go_sem]) rfl (Da HP)
theorem syncV(w:World)(a tb f b:Nat)(h:VolR w a tb f b)(Q:World->Prop)(g:∀w',Q w'->VolR w' a tb f b)(i:Calls Tryz.prog 74 #[.pointer (some ⟨b,0,none⟩),.pointer (some ⟨tb,0,none⟩)] w.drew fun e w'=>e = .returned (.tuple #[])/\Q w'):
  Calls Tryz.prog 26 #[.pointer (some ⟨a,0,none⟩)] w fun e w'=>e = .returned (.int .i64 0)/\Q w':=by
 have l:=Kd w a tb h.vol;have c1:w.cell? ⟨a,1,none⟩=some (.pointer (some ⟨tb,0,none⟩)):=(RowIs.cell h 1).trans rfl;have c3:w.cell? ⟨a,3,none⟩=some (.pointer (some ⟨b,0,none⟩)):=(RowIs.cell h 3).trans rfl;have j:=Db i;have d:=Db g;clear h i g;go_enter Tryz.func26,Tryz.ntmps26;go_upto_region 3 with(go_at_call 53;refine l.mono ?_;rintro e w' ⟨rfl,rfl⟩)
 go_region_held3 (fun W=>W.cell? ⟨a,1,none⟩=some (.pointer (some ⟨tb,0,none⟩))/\W.cell? ⟨a,3,none⟩=some (.pointer (some ⟨b,0,none⟩))) (go_keep) (first|(go_at_call 74;refine(Da j).mono ?_;rintro e w2 ⟨rfl,c⟩;have d1:w2.cell? ⟨a,1,none⟩=some (.pointer (some ⟨tb,0,none⟩)):=(RowIs.cell (Da d w2 c) 1).trans rfl;have d3:w2.cell? ⟨a,3,none⟩=some (.pointer (some ⟨b,0,none⟩)):=(RowIs.cell (Da d w2 c) 3).trans rfl;have k:=Db c;clear c))
 go_wp2;go_ret;exact⟨rfl,Da k⟩
theorem openV(w:World)(a:OA)(l c:Nat)(Q:World->Nat->Prop)
  (h:Calls Tryz.prog 75 #[.slice a l c] w fun e X=>∃b:Nat,e = .returned (.tuple #[.pointer (some ⟨b,0,none⟩),.bool true])/\Hid (Calls Tryz.prog 76 #[.pointer (some ⟨b,0,none⟩)] X fun e Y=>∃d tb:Nat,e = .returned (.tuple #[.pointer (some ⟨d,0,none⟩),.pointer (some ⟨tb,0,none⟩),.bool true])/\Hid (∀Z,VolR Z Y.heap.size tb b d->Below Y.heap.size Y Z->Q Z Y.heap.size))):
  Calls Tryz.prog 27 #[.slice a l c] w fun e w'=>∃vb,e = .returned (.tuple #[.pointer (some ⟨vb,0,none⟩),.int .i64 0])/\Q w' vb:=by
 have k:=Db h;clear h;go_enter Tryz.func27,Tryz.ntmps27;go_wp2_with (first|(go_at_call 75;refine(Da k).mono ?_;rintro e X ⟨b,rfl,i⟩)|(go_at_call 76;refine(Da i).mono ?_;rintro e Y ⟨d,tb,rfl,j⟩)|(go_at_call 77;refine(Zdh Y tb b d).mono ?_;rintro e Z ⟨rfl,f,g,-⟩;have m:=Db (Da j Z f g);clear f g));exact bodyPost_ret (v := .tuple #[.pointer (some ⟨Y.heap.size,0,none⟩),.int .i64 0]) (by simp[results,Tryz.results27,go_sem]) rfl ⟨_,rfl,Da m⟩
def Kp62(w w':World):Prop:=∀k t R,RowIs w k t R->(t=62\/t=5\/t=75)->RowIs w' k t R
theorem Kp62.trans{a b c:World}(h:Kp62 a b)(k:Kp62 b c):Kp62 a c:=fun i t R e d=>k i t R (h i t R e d) d
theorem Kp62.below{w w':World}(h:Below w.heap.size w w'):Kp62 w w':=fun k _ _ a _=>(h.block k a.lt).trans a
theorem Kp62.fr{X:Nat->Prop}{w w':World}(d:Fr X w w')(c:∀k t R,X k->RowIs w k t R->t≠62/\t≠5/\t≠75):Kp62 w w':=fun k t R a f=>a.fr d (fun e=>by
 have:=c k t R e a;rcases f with rfl|rfl|rfl
 ·exact this.1 rfl
 ·exact this.2.1 rfl
 ·exact this.2.2 rfl)
theorem Kp62.prog{tb:Nat}{w w':World}(c:Fr (DN tb w) w w'):Kp62 w w':=Kp62.fr c (fun k t R ⟨⟨t',R',a,e⟩,_⟩ d=>by
 have:=a.type d;subst this;rcases e with rfl|rfl|rfl|rfl<;>decide)
section
variable{w w':World}{stb db:Nat}{vk:Value}{s:KS}{vf vn vw ve:Value}{ps:LB}{ep:List Int}
theorem StK.fr{X:Nat->Prop}(h:StK w stb db vk s vf vn vw ve ps ep)(d:Fr X w w')(c:∀k t R,X k->RowIs w k t R->t≠179/\t≠204/\t≠188/\t≠207/\t≠3/\t≠350):StK w' stb db vk s vf vn vw ve ps ep:=by
 have a:∀{e:TypeId} {sz:Nat} {v:Value} {n:Nat} {xs:LVa},Sl w e sz v n xs->(e=188\/e=207\/e=3\/e=350)->Sl w' e sz v n xs:=fun f j=>f.fr d (fun g l e=>by
  obtain⟨R,i⟩:=f.type l;have:=c _ _ _ e i;rcases j with rfl|rfl|rfl|rfl
  ·exact this.2.2.1 rfl
  ·exact this.2.2.2.1 rfl
  ·exact this.2.2.2.2.1 rfl
  ·exact this.2.2.2.2.2 rfl)
 refine⟨⟨h.st.row.fr d (fun e=>(c _ _ _ e h.st.row).1 rfl),⟨h.st.disk.1.fr d (fun e=>(c _ _ _ e h.st.disk.1).2.1 rfl),⟨a h.st.disk.2.1.1 (.inl rfl),h.st.disk.2.1.2⟩,h.st.disk.2.2⟩,a h.st.sw (.inr (.inl rfl)),a h.st.se (.inr (.inr (.inl rfl))),h.st.ne,h.st.ns,h.st.nd,h.st.d1,h.st.d2,h.st.d3⟩,a h.sk (.inr (.inr (.inr rfl))),h.ok⟩
theorem StK.types(h:StK w stb db vk s vf vn vw ve ps ep){k:Nat}(f:StO stb db vn vw ve k){t:TypeId}{R:LVa}(c:RowIs w k t R):t=179\/t=204\/t=188\/t=207\/t=3:=by
 rcases f with rfl|rfl|e|e|e
 ·exact .inl (c.type h.st.row)
 ·exact .inr (.inl (c.type h.st.disk.1))
 ·obtain⟨d,a⟩:=h.st.disk.2.1.1.type e;exact .inr (.inr (.inl (c.type a)))
 ·obtain⟨d,a⟩:=Sl.type h.st.sw e;exact .inr (.inr (.inr (.inl (c.type a))))
 ·obtain⟨d,a⟩:=h.st.se.type e;exact .inr (.inr (.inr (.inr (c.type a))))
end
def StI(N n0:Nat)(w:World)(vb stb db:Nat)(K:KS->Prop):Prop:=
 ∃s vk vf vn vw ve ps ep,StK w stb db vk s vf vn vw ve ps ep/\K s/\InvS s/\InvC s/\s.tn<=N+1/\ps.length<=256*N/\ep.length<=2*N/\(∀k,StO stb db vn vw ve k->n0<=k/\k≠vb)/\∀k,Own vk k->n0<=k
theorem StI.fr{N n0:Nat}{w w':World}{vb stb db:Nat}{K:KS->Prop}(h:StI N n0 w vb stb db K){X:Nat->Prop}(e:Fr X w w')(d:∀k t R,X k->RowIs w k t R->t≠179/\t≠204/\t≠188/\t≠207/\t≠3/\t≠350):StI N n0 w' vb stb db K:=by
 obtain⟨s,vk,vf,vn,vw,ve,ps,ep,a,c⟩:=h;exact⟨s,vk,vf,vn,vw,ve,ps,ep,a.fr e d,c⟩
theorem StI.mono{N n0:Nat}{w:World}{vb stb db:Nat}{K a:KS->Prop}(h:StI N n0 w vb stb db K)(f:∀s,K s->a s):StI N n0 w vb stb db a:=by
 obtain⟨s,vk,vf,vn,vw,ve,ps,ep,c,d,e⟩:=h;exact⟨s,vk,vf,vn,vw,ve,ps,ep,c,f s d,e⟩
def Qq(s:KS):Prop:=∃C L,FlatL C L/\Stands s C L
def KeptB(b:Nat->Option By)(s:KS):Prop:=
 ∃(C:NB) (es:LS),SrtS es/\(∀x∈es,∃f:Nat,x.2=⟨none,(f:Int)⟩)/\FlatL C (es.map itE)/\Stands s C (es.map itE)/\(∀x∈es,∃i,i<8/\x.1=fn i)/\(∀i,i<8->∀t,b i=some t->∃f:Nat,(fn i,(⟨none,(f:Int)⟩:VS))∈es/\C f=t)/\∀i,i<8->b i=none->∀u,(fn i,u)∉es
theorem KeptB.any{b:Nat->Option By}{s:KS}(h:KeptB b s):Qq s:=by
 obtain⟨C,es,_,_,a,c,_⟩:=h;exact⟨C,_,a,c⟩
structure LgI(N n0:Nat)(w0 w:World)(vb tb db stb:Nat)(b:Nat->Option By)(K:KS->Prop):Prop where
 vol:VolR w vb tb db stb
 tr:∃G I CI,PS w tb G I CI/\SetT b G I CI
 st:StI N n0 w vb stb db K
 bel:Below n0 w0 w
 lo:n0<tb/\n0<=vb/\n0<=w0.heap.size/\0<n0
theorem PS.si{w:World}{tb:Nat}{G:Gh}{I:LF}{C:IB}(h:PS w tb G I C):SrtI I:=by
 obtain⟨rd,V,E,vi,h⟩:=h;exact h.si
theorem Uf{n0:Nat}{w0 w w':World}(h:Below n0 w0 w){X:Nat->Prop}(a:Fr X w w')(c:∀k,X k->n0<=k)(hn:n0<=w0.heap.size):Below n0 w0 w':=
 ⟨a.os.trans h.os,a.tape.trans h.tape,a.output.trans h.output,Nat.le_trans h.size a.size,fun k d=>(a.block k (by have:=h.size;omega) (fun e=>by have:=c k e;omega)).trans (h.block k d)⟩
section
variable{N n0:Nat}{w0 w w':World}{vb tb db stb:Nat}{b b':Nat->Option By}{K:KS->Prop}
theorem LgI.prog(h:LgI N n0 w0 w vb tb db stb b K)(c:Fr (DN tb w) w w'){G:Gh}{I:LF}{a:IB}(i:PS w' tb G I a)(j:SetT b' G I a):LgI N n0 w0 w' vb tb db stb b' K:=by
 have f:∀k t R,DN tb w k->RowIs w k t R->t=214\/t=229\/t=310\/t=293:=fun k t R ⟨⟨t',R',g,l⟩,_⟩ d=>by
  have:=g.type d;subst this;exact l
 obtain⟨l1,l2,m,l4⟩:=h.lo;refine⟨RowIs.fr h.vol c (fun e=>?_),⟨G,I,a,i,j⟩,h.st.fr c (fun k t R e d=>?_),Uf h.bel c (fun k e=>?_) m,h.lo⟩
 ·have:=f _ _ _ e h.vol
  revert this;decide
 ·rcases f k t R e d with rfl|rfl|rfl|rfl<;>decide
 ·have:=e.2;omega
theorem LgI.fr62(h:LgI N n0 w0 w vb tb db stb b K){X:Nat->Prop}(a:Fr X w w')(c:∀k t R,X k->RowIs w k t R->t=62)(f:∀k,X k->n0<=k):LgI N n0 w0 w' vb tb db stb b K:=by
 obtain⟨l1,l2,l,l4⟩:=h.lo;obtain⟨G,I,g,⟨m,V,E,n,i⟩,j⟩:=h.tr;refine⟨RowIs.fr h.vol a (fun e=>?_),⟨G,I,g,⟨m,V,E,n,i.fr a (fun e=>?_) (fun k t R e d=>?_)⟩,j⟩,h.st.fr a (fun k t R e d=>?_),Uf h.bel a f l,h.lo⟩
 ·have:=c _ _ _ e h.vol
  revert this;decide
 ·have:=f 0 e;omega
 ·rw[c k t R e d];decide
 ·rw[c k t R e d];decide
theorem LgI.below(h:LgI N n0 w0 w vb tb db stb b K)(a:Below w.heap.size w w'):LgI N n0 w0 w' vb tb db stb b K:=
 h.fr62 (X:=fun _=>False) (Fr.of_below a) (fun _ _ _ e=>e.elim) (fun _ e=>e.elim)
theorem ZnO(h:LgI N n0 w0 w vb tb db stb b K){i:Nat}(c:i<8){s:By}(l:b i=some s):
  Calls Tryz.prog 63 #[.pointer (some ⟨vb,0,none⟩),.string (pth i)] w fun e w'=>e = .returned (.int .i64 0)/\LgI N n0 w0 w' vb tb db stb (JM b i none) K/\Kp62 w w':=by
 obtain⟨G,I,j,n,a⟩:=h.tr;have aa:=a.fl.le;have ab:=a.fl.ilen n.si;refine(ZkL w vb tb h.vol.vol (pth i) (QX w tb G I j (pth i)) (fun e w' z=>⟨_,z.1⟩) (Zfi w tb G I j n a.fl.gok (by omega) (by omega) a.fl.flok (pth i) (by have:=(J6 c).2.2;omega))).mono ?_;rintro e w' ⟨rfl,m,d⟩;have o:=a.rm c l;refine⟨by rw[o],?_,Kp62.prog m⟩;rcases d with⟨g,_⟩|⟨_,u,k,d⟩
 ·exact absurd o g
 ·obtain⟨f,p,q,_⟩:=a.at c l;rw[p]at k
  cases k
  rcases d with⟨B,_⟩|⟨_,r,I',x,t,y⟩
  ·cases B
  ·have A:r.f=1:=(a.fl.back _ x).1;rcases t with⟨_,v⟩|⟨g,_⟩
   ·exact h.prog m (y _ (Qz G _)) (a.del c q v)
   ·exact absurd A g
theorem cutL(h:LgI N n0 w0 w vb tb db stb b K){i:Nat}(o:i<8){s:By}(q:b i=some s)(n:Nat)(P:n<=1280):
  Calls Tryz.prog 60 #[.pointer (some ⟨vb,0,none⟩),.string (pth i),.int .i64 n] w fun e w'=>e = .returned (.int .i64 0)/\LgI N n0 w0 w' vb tb db stb (JM b i (some (Dj s n))) K/\Kp62 w w':=by
 obtain⟨G,I,g,B,d⟩:=h.tr;have aa:=d.fl.le;have ab:=d.fl.ilen B.si;have T:ctE G (pth i) n=0:=by
  unfold ctE;rw[show decide ((0:Int)<=(n:Int)/\(n:Int)<=1280)=true from decide_eq_true ⟨by omega,by omega⟩];exact d.file o q
 have A:∀e w',QS w tb G I g (pth i) n e w'->e = .returned (.int .i64 0)/\LgI N n0 w0 w' vb tb db stb (JM b i (some (Dj s n))) K/\Kp62 w w':=by
  rintro e w' (⟨Q,_⟩|⟨_,u,r,a,c,p,_,L,t,l,v,H⟩)
  ·exact absurd T Q
  ·obtain⟨f,C,D,F⟩:=d.at o q;rw[C]at p
   cases p
   have y:(Dj s n).size=n:=Jc s n;have M:Jm I l f ⟨a,(Dj s n).size,c,r.f⟩:=by rw[y];exact v
   have J:g (f:Int)=s:=F;have z:=d.over o D (s:=Dj s n) (by rw[y];exact P) L M;rcases H with⟨_,hu,_⟩|⟨rfl,_,R⟩
   ·have ac:DP (l.map (·.2.l))<=160:=by
     have E:=U8 (l.map (·.2.l)) (fun m O=>by
      obtain⟨x,j,rfl⟩:=List.mem_map.1 O;exact(z.fl.csz j).2.1)
     rw[List.length_map,v.1]at E;omega
    omega
   ·refine⟨rfl,h.prog t R ?_,Kp62.prog t⟩;show SetT _ G l (fun k=>if k=(f:Int) then Dj (g (f:Int)) (n:Int).toNat else g k);rw[J,Int.toNat_natCast];exact z
 exact(cutV w vb tb h.vol.vol (pth i) n (QS w tb G I g (pth i) n) (fun e w' S=>⟨0,(A e w' S).1⟩) (ZlN w tb G I g B d.fl.gok (by omega) (by omega) d.fl.flok (fun x j=>by have:=(d.fl.csz j).2.1;omega) (fun x j=>(d.fl.csz j).1) (pth i) (by have:=(J6 o).2.2;omega) n)).mono A
def ovB(o:Option By)(p:Nat)(d:By):By:=ovR (o.getD ⟨#[]⟩) p d
theorem Zi8(s:By)(p:Nat)(d:By)(a:s.size<=1280)(hp:p+d.size<=1280):(ovR s p d).size<=1280:=by
 unfold ovR
 split
 ·exact a
 ·rw[Int.toNat_natCast,Q0];omega
theorem writeL(h:LgI N n0 w0 w vb tb db stb b K){i:Nat}(l:i<8)(p:Nat)(d:By)(P:p+d.size<=1280)(B:OA)(C:Nat)(U:Sl w 5 1 (.slice B d.size C) d.size (Dc d)):
  Calls Tryz.prog 59 #[.pointer (some ⟨vb,0,none⟩),.string (pth i),.int .i64 p,.slice B d.size C] w fun e w'=>e = .returned (.int .i64 0)/\LgI N n0 w0 w' vb tb db stb (JM b i (some (ovB (b i) p d))) K/\Kp62 w w':=by
 obtain⟨G,I,o,z,g⟩:=h.tr;have af:=g.fl.le;have ag:=g.fl.ilen z.si;have X:Qa (p:Int) d=true:=decide_eq_true ⟨by omega,by omega⟩;have hz:=g.wr z.si l X;have Q:∀e w',KE w tb G I o (pth i) p d e w'->e = .returned (.int .i64 0)/\LgI N n0 w0 w' vb tb db stb (JM b i (some (ovB (b i) p d))) K/\Kp62 w w':=by
  rintro e w' (⟨ab,_⟩|⟨_,⟨u,r,a,c,n,_,Y,_,v,y,t,E⟩|⟨n,v,f,I1,L,a,c,_,V,W,aa,q,t,E⟩⟩)
  ·exact absurd hz ab
  ·cases hb:b i with
   | none=>rw[g.none' l hb]at n;cases n
   | some s=>
    obtain⟨f,q,M,R⟩:=g.at l hb;rw[q]at n
    cases n
    have F:o (f:Int)=s:=R;have Z:Jm I y f ⟨a,(ovR s p d).size,c,r.f⟩:=by
     have:=t;dsimp only at this;rw[F]at this;exact this
    have A:s.size<=1280:=by have:=g.fl.sz _ M;rw[<-F];exact this
    have O:=g.over l M (s:=ovR s p d) (Zi8 s p d A P) Y Z;rcases E with⟨_,hu,_⟩|⟨rfl,_,J⟩
    ·have ac:DP (y.map (·.2.l))<=160:=by
      have D:=U8 (y.map (·.2.l)) (fun m H=>by
       obtain⟨x,j,rfl⟩:=List.mem_map.1 H;exact(O.fl.csz j).2.1)
      rw[List.length_map,t.1]at D;omega
     omega
    ·refine⟨rfl,h.prog v J ?_,Kp62.prog v⟩;show SetT (JM b i (some (ovR s p d))) G y (fun k=>if k=(f:Int) then ovR (o (f:Int)) p d else o k);rw[F];exact O
  ·cases hb:b i with
   | some s=>
    obtain⟨f,q,_⟩:=g.at l hb;rw[q]at n;cases n
   | none=>
    have A:=Zi8 ⟨#[]⟩ p d (by show 0<=1280;omega) P;rcases E with⟨_,hu,_⟩|⟨rfl,_,C2,J,S,T⟩
    ·have h7:=g.lt7 l hb;have ac:DP (L.map (·.2.l))<=160:=by
      have D:=U8 (L.map (·.2.l)) (fun m H=>by
       obtain⟨x,j,rfl⟩:=List.mem_map.1 H;rcases (t.2 x).1 j with rfl|⟨j,ae⟩
       ·exact A
       ·rcases (q x).1 j with rfl|j
        ·exact absurd rfl ae
        ·exact(g.fl.csz j).2.1)
      rw[List.length_map,t.1,aa]at D;omega
     omega
    ·refine⟨rfl,h.prog v (G:=G++[([fn i],⟨none,(f:Int)⟩)]) (by rw[<-(J6 l).1];exact J) ?_,Kp62.prog v⟩;exact g.made z.si l hb V W A q t S T
 exact(Znf w vb tb h.vol.vol (pth i) p _ (KE w tb G I o (pth i) p d) (fun e w' hq=>⟨0,(Q e w' hq).1⟩) (Zij w tb G I o z g.fl.gok (by omega) (by omega) (fun x j=>(g.fl.csz j).2.2) g.fl.flok (fun x j=>by have:=(g.fl.csz j).2.1;omega) (fun x j=>(g.fl.csz j).1) (pth i) (by have:=(J6 l).2.2;omega) p d (by omega) B C U)).mono Q
end
theorem SetT.kept{b:Nat->Option By}{G:Gh}{I:LF}{g:IB}(h:SetT b G I g){w:World}{tb a:Nat}{V:NV}{E:NS}{y:Value}(c:TW w tb a V E y G I g){s:KS}(r:Stands s (fun n=>g (n:Int)) ((E a).map itE)):KeptB b s:=by
 have p:IsDir G a [] a := .inl ⟨rfl,rfl⟩;have o:=c.d.en [] a p;refine⟨fun n=>g (n:Int),E a,c.d.srt [] a p,fun x m=>?_,(h.fl.keep c).1,r,fun x m=>?_,fun i d t l=>?_,fun i d l u v=>?_⟩
 ·obtain⟨_,_,_,f,e,_⟩:=h.fl.root c m;exact⟨f,e⟩
 ·obtain⟨k,_⟩:=h.fl.root c m;obtain⟨i,d,e⟩:=h.nm _ k;have j:[x.1]=[fn i]:=e;injection j with j;exact⟨i,d,j⟩
 ·obtain⟨f,k,q⟩:=h.yes i d t l;exact⟨f,(o (fn i) _).2 k,q⟩
 ·exact h.no i d l u ((o (fn i) u).1 v)
section
variable{N n0:Nat}{w0 w w':World}{vb tb db stb:Nat}{b b':Nat->Option By}{K:KS->Prop}
theorem LgI.drew(h:LgI N n0 w0 w vb tb db stb b K):LgI N n0 w0 w.drew vb tb db stb b K:=h.below (Below.refl _ _).drew
theorem LgI.to{a:KS->Prop}(h:LgI N n0 w0 w vb tb db stb b K)(c:∀s,K s->a s):LgI N n0 w0 w vb tb db stb b a:=⟨h.vol,h.tr,h.st.mono c,h.bel,h.lo⟩
theorem LgI.after{mf:Nat}(U:512<=mf)(d:LgI N n0 w0 w vb tb db stb b K){s:KS}{x u i vw m:Value}{ps:LB}{o:List Int}(W:StK w stb db x s u i vw m ps o)(P:Qq s)(z:InvS s)(Q:InvC s)(h1:s.tn<=N+1)(h2:ps.length<=256*N)(h3:o.length<=2*N)(a:∀k,StO stb db i vw m k->n0<=k/\k≠vb)(O:∀k,Own x k->n0<=k)
  {h:Nat} {V:NV} {E:NS} {v:Value} {G:Gh} {I:LF} {c:IB} (A:TW w tb h V E v G I c) (r:SetT b G I c) {e:Ending} (f:QO mf w stb db x s u i vw m ps o (fun n=>c (n:Int)) ((E h).map itE) e w'):
  e = .returned (.tuple #[])/\LgI (N+1) n0 w0 w' vb tb db stb b (fun l=>KeptB b l/\KNext mf (fun n=>c (n:Int)) ((E h).map itE) s l)/\Kp62 w w':=by
 obtain⟨rfl,l,vk',ab,aa,Z,F,H,p,g3,g4,J,L,M,j⟩:=f;obtain⟨C0,L0,S,T⟩:=P;obtain⟨y,_⟩:=r.fl.keep A;obtain⟨l1,l2,D,l4⟩:=d.lo;obtain⟨X,Y,i3,i4⟩:=p.ok U z y T S;have C:∀k t R,StO stb db i vw m k->RowIs w k t R->t=179\/t=204\/t=188\/t=207\/t=3:=fun k t R e g=>W.types e g
 have B:TW w' tb h V E v G I c:=A.fr j (fun e=>by have:=(a 0 e).1;omega) (fun k t R e g=>by
  rcases C k t R e g with rfl|rfl|rfl|rfl|rfl<;>decide)
 have ad:vb<w.heap.size:=RowIs.lt d.vol;have ac:n0<=w.heap.size:=Nat.le_trans D d.bel.size;refine⟨rfl,⟨RowIs.fr d.vol j (fun e=>(a _ e).2 rfl),⟨G,I,c,⟨h,V,E,v,B⟩,r⟩,⟨l,vk',u,i,ab,aa,Z,F,H,⟨r.kept B Y,p⟩,X,p.ck z y Q,by omega,by omega,by omega,fun k f=>?_,fun k f=>?_⟩,Uf d.bel j (fun k e=>(a k e).1) D,d.lo⟩,Kp62.fr j (fun k t R e g=>?_)⟩
 ·rcases f with e|e|e|e|e
  ·exact a k (.inl e)
  ·exact a k (.inr (.inl e))
  ·exact a k (.inr (.inr (.inl e)))
  ·rcases J k e with q|q
   ·exact a k (.inr (.inr (.inr (.inl q))))
   ·exact⟨by omega,by omega⟩
  ·rcases L k e with q|q
   ·exact a k (.inr (.inr (.inr (.inr q))))
   ·exact⟨by omega,by omega⟩
 ·rcases M k f with q|q
  ·exact O k q
  ·omega
 ·rcases C k t R e g with rfl|rfl|rfl|rfl|rfl<;>decide
theorem keepL(h:LgI N n0 w0 w vb tb db stb b K)(n:∀s,K s->Qq s)(hN:N<=2000000):
  Calls Tryz.prog 74 #[.pointer (some ⟨stb,0,none⟩),.pointer (some ⟨tb,0,none⟩)] w fun e w'=>e = .returned (.tuple #[])/\LgI (N+1) n0 w0 w' vb tb db stb b (KeptB b)/\Kp62 w w':=by
 obtain⟨G,I,CI,⟨rd,V,E,vi,c⟩,d⟩:=h.tr;obtain⟨s,vk,vf,vn,vw,ve,ps,ep,f,o,a,m,g,i,j,k,l⟩:=h.st;refine(ZcM f a.ok a.part (d.fl.keep c).2 (by omega) (by omega) (by omega)).mono fun e w' q=>?_
 rw[d.fl.its c]at q;obtain⟨p,r,t⟩:=h.after (Nat.le_refl _) f (n s o) a m g i j k l c d q;exact⟨p,r.to (fun _ h=>h.1),t⟩
theorem syncL(h:LgI N n0 w0 w vb tb db stb b K)(a:∀s,K s->Qq s)(c:N<=2000000):
  Calls Tryz.prog 26 #[.pointer (some ⟨vb,0,none⟩)] w fun e w'=>e = .returned (.int .i64 0)/\LgI (N+1) n0 w0 w' vb tb db stb b (KeptB b)/\Kp62 w w':=
 syncV w vb tb db stb h.vol (fun w'=>LgI (N+1) n0 w0 w' vb tb db stb b (KeptB b)/\Kp62 w w') (fun _ q=>q.1.vol) ((keepL h.drew a c).mono fun _ _ q=>⟨q.1,q.2.1,(Kp62.below (Below.refl _ _).drew).trans q.2.2⟩)
end
def VlW(w:World)(vb:Nat)(b:Nat->Option By):Prop:=∃tb G I CI,VolW w vb tb/\PS w tb G I CI/\SetT b G I CI
theorem VlW.below{w w':World}{e:Nat}{b:Nat->Option By}(h:VlW w e b)(a:Below w.heap.size w w'):VlW w' e b:=by
 obtain⟨tb,G,I,f,⟨d,s,c⟩,⟨j,V,E,k,g⟩,i⟩:=h;exact⟨tb,G,I,f,⟨d,s,(a.block _ (RowIs.lt c)).trans c⟩,⟨j,V,E,k,g.below a (Nat.le_refl _)⟩,i⟩
theorem LgI.vl{N g:Nat}{j w:World}{a tb d i:Nat}{b:Nat->Option By}{K:KS->Prop}(h:LgI N g j w a tb d i b K):VlW w a b:=by
 obtain⟨G,I,c,e,f⟩:=h.tr;exact⟨tb,G,I,c,h.vol.vol,e,f⟩
theorem KeptB.set{b:Nat->Option By}{C:NB}{es:LS}(o:∀x∈es,∃f:Nat,x.2=⟨none,(f:Int)⟩)(p:FlatL C (es.map itE))(q:∀x∈es,∃i,i<8/\x.1=fn i)(r:∀i,i<8->∀t,b i=some t->∃f:Nat,(fn i,(⟨none,(f:Int)⟩:VS))∈es/\C f=t)(s:∀i,i<8->b i=none->∀u,(fn i,u)∉es)
  {G:Gh} {I:LF} {l:IB} (h:TreeOf C (es.map itE) G I l):SetT b G I l:=by
 have k:=h.g;rw[List.map_map]at k;have m:∀x∈G,∃y∈es,x=([y.1],y.2):=fun x d=>by
  rw[k]at d;obtain⟨y,a,rfl⟩:=List.mem_map.1 d;obtain⟨f,v⟩:=o y a;refine⟨y,a,?_⟩;show([y.1],(⟨none,((y.2.f.toNat:Nat):Int)⟩:VS))=([y.1],y.2);rw[v];simp
 refine⟨h.flt p,fun x d=>?_,fun i c t j=>?_,fun i c j u w=>?_⟩
 ·obtain⟨y,a,rfl⟩:=m x d;obtain⟨i,c,e⟩:=q y a;exact⟨i,c,by show [y.1]=_;rw[e]⟩
 ·obtain⟨f,n,z⟩:=r i c t j;refine⟨f,?_,?_⟩
  ·rw[k];exact List.mem_map.2 ⟨_,n,rfl⟩
  ·have:=h.c (itE (fn i,⟨none,(f:Int)⟩)) (List.mem_map.2 ⟨_,n,rfl⟩);rw[<-z];exact this
 ·obtain⟨y,a,e⟩:=m _ w;rw[Prod.mk.injEq]at e;have g:=e.1;injection g with g;refine s i c j y.2 ?_;rw[g];exact a
def VlX(w:World)(vb:Nat)(b:Nat->Option By)(s:KS):Prop:=∃tb db stb G I CI C L va vf vn,VolR w vb tb db stb/\PS w tb G I CI/\SetT b G I CI/\TreeOf C L G I CI/\FlatL C L/\Stands s C L/\StK w stb db va s vf vn (.slice none 0 0) (.slice none 0 0) [] []
theorem VlX.vl{w:World}{a:Nat}{b:Nat->Option By}{s:KS}(h:VlX w a b s):VlW w a b:=by
 obtain⟨tb,db,aa,G,I,c,C,L,va,vf,vn,d,e,f,_⟩:=h;exact⟨tb,G,I,c,d.vol,e,f⟩
theorem openX{s:KS}(k:InvS s)(z:InvC s)(N:s.tn+1<18446744073709551616){b:Nat->Option By}(B:KeptB b s)(w:World)(a:OA)(l c:Nat)(h:Sl w 5 1 (.slice a l c) (Jl s.D).size (Dc (Jl s.D)))(y:∀x∈s.D,x.size=64)(L:PkgOk w):
  Calls Tryz.prog 27 #[.slice a l c] w fun e w'=>∃d,e = .returned (.tuple #[.pointer (some ⟨d,0,none⟩),.int .i64 0])/\VlX w' d b s/\Below w.heap.size w w':=by
 obtain⟨C,es,O,o,j,p,P,Q,R⟩:=B;refine openV w a l c (fun w' d=>VlX w' d b s/\Below w.heap.size w w') ?_;refine(Zn1 w a l c s.D h k.ok.dl y).mono ?_;rintro e X ⟨f,r,u,S,v,rfl,A,K,ab,ac,g⟩;refine⟨f,rfl,?_⟩;refine(ZhA k z N O o j p X f r u S v A K (L.fr (Fr.of_below g) (X:=fun _=>False) (fun e=>e))).mono ?_;rintro e Y ⟨q,tb,U,rfl,M,⟨G,I,t,D,m⟩,n,_,_,_⟩;refine⟨q,tb,rfl,fun Z H i=>?_⟩;have J:=g.size;have aa:=n.size;obtain⟨T,V,E,W,F⟩:=D;exact⟨⟨tb,f,q,G,I,t,C,_,U,r,_,H,⟨T,V,E,W,F.below i (Nat.le_refl _)⟩,KeptB.set o j P Q R m,m,j,p,M.below i⟩,g.trans ((n.mono J).trans (i.mono (by omega)))⟩
theorem openL{s:KS}(m:InvS s)(k:InvC s)(p:s.tn+1<18446744073709551616){b:Nat->Option By}(n:KeptB b s)(w:World)(a:OA)(l c:Nat)(h:Sl w 5 1 (.slice a l c) (Jl s.D).size (Dc (Jl s.D)))(j:∀x∈s.D,x.size=64)(o:PkgOk w):
  Calls Tryz.prog 27 #[.slice a l c] w fun e w'=>∃d,e = .returned (.tuple #[.pointer (some ⟨d,0,none⟩),.int .i64 0])/\VlW w' d b/\Below w.heap.size w w':=
 (openX m k p n w a l c h j o).mono fun _ _ ⟨d,f,g,i⟩=>⟨d,f,g.vl,i⟩
theorem Zka{s:KS}{C a:NB}{L c:List It}(e:InvS s)(d:FlatL C L)(j:Stands s a c)(i:FlatL a c)(h:(Dq s true C L).2.ps=[]):DA (ndP (Dq s true C L).2.puts) 96=DA (Dg s.es) 96:=by
 obtain⟨f,g⟩:=Zdg e d h;rw[(Stays.stands e d j i f).es.nd,g]
section
variable{N n0:Nat}{w0 w:World}{vb tb db stb:Nat}{b:Nat->Option By}{K:KS->Prop}
theorem StK.places{w:World}{stb db:Nat}{c:Value}{s:KS}{g i vw f:Value}{ps:LB}{d:List Int}(h:StK w stb db c s g i vw f ps d)(a:KsOk s):
  Calls Tryz.prog 132 #[.pointer (some ⟨stb,1,none⟩)] w fun e w'=>e = .returned (.int .i64 (DA (Dg s.es) 96:Nat))/\Below w.heap.size w w':=
 ZbY w stb 1 c s.es ((h.st.row.cell 1).trans rfl) h.sk ⟨a.len,a.srt,a.pl⟩
def ClI(N n0:Nat)(w0 w:World)(vb tb db stb:Nat)(b:Nat->Option By)(X:World):Prop:=
 ∃M,LgI M n0 w0 X vb tb db stb b (fun s=>KeptB b s/\M<=N+1+DA (Dg s.es) 96)/\Kp62 w X
theorem ClI.tn{X:World}(h:ClI N n0 w0 w vb tb db stb b X):KC X ⟨stb,4,none⟩<=N+1538/\X.cell? ⟨stb,0,none⟩=some (.pointer (some ⟨db,0,none⟩)):=by
 obtain⟨M,h,_⟩:=h;obtain⟨s,vk,vf,vn,vw,ve,ps,ep,a,aa,hI,hC,h1,h2,h3,h4,h5⟩:=h.st;have:=Kc (Dg s.es) 96;have e:=Q3 (x:=s.tn) ((a.st.row.cell 4).trans rfl);exact⟨by rw[e];omega,(a.st.row.cell 0).trans rfl⟩
def ClR(N n0:Nat)(w0 w:World)(vb tb db stb:Nat)(b:Nat->Option By)(X:World)(e:Ending)(Y:World):Prop:=
 ∃pb F f:Nat,e = .returned (.pointer (some ⟨pb,0,none⟩))/\Y.cell? ⟨stb,0,none⟩=some (.pointer (some ⟨db,0,none⟩))/\F<=1536/\f<=1536/\
  Hid (∀(g k:Nat) Z,(g=pb/\k=100\/g=stb/\k=1)->Below Y.heap.size Y Z->Calls Tryz.prog 132 #[.pointer (some ⟨g,k,none⟩)] Z fun e Z'=>e = .returned (.int .i64 ((if k=100 then F else f:Nat):Int))/\Below Y.heap.size Y Z')/\
  Hid (∀Z,Below Y.heap.size Y Z->ClI N n0 w0 w vb tb db stb b Z)/\
  Hid (f<F->∀Z,Below Y.heap.size Y Z->Calls Tryz.prog 133 #[.pointer (some ⟨stb,0,none⟩),.pointer (some ⟨pb,0,none⟩)] Z fun e Z'=>e = .returned (.tuple #[])/\ClI N n0 w0 w vb tb db stb b Z'/\KC X ⟨stb,4,none⟩<KC Z' ⟨stb,4,none⟩)
theorem ClI.round(hN:N<=1000000){X:World}(h:ClI N n0 w0 w vb tb db stb b X):
  Calls Tryz.prog 131 #[.pointer (some ⟨db,0,none⟩),.pointer (some ⟨stb,1,none⟩),.pointer (some ⟨tb,0,none⟩),.bool true] X.drew (ClR N n0 w0 w vb tb db stb b X):=by
 obtain⟨M,ae,Q⟩:=h;have L:Below X.heap.size X X.drew:=(Below.refl _ _).drew;have r:=ae.drew;obtain⟨G,I,i,⟨o,V,E,vi,d⟩,f⟩:=r.tr;obtain⟨s,vk,vf,vn,vw,ve,ps,ep,l,⟨ad,hM⟩,c,hC,h1,h2,h3,h4,h5⟩:=r.st;have aj:=Kc (Dg s.es) 96;obtain⟨hF,v⟩:=f.fl.keep d;have p:=QB v.ok (Di s.es true s.tp s.D) (c.ok.env true) (s.tp+1) (by have:=c.ok.tp;omega);change ZoF (Dq s true _ _) at p;have J:=ad.any;have am:KC X ⟨stb,4,none⟩=s.tn:=Q3 (x:=s.tn) ((l.st.row.cell 4).trans rfl);refine(l.newPlan c.ok c.part v true).mono ?_;rintro e Y ⟨pb,O',rfl,ax,av,u,ai,hO⟩;rw[f.fl.its d]at u p;have j:Below X.drew.heap.size X.drew Y:=ai;have af:=r.below j;have R:=l.below j;have ak:Kp62 w Y:=Q.trans (Kp62.below (L.trans j));have aw:=u;obtain⟨W,es,vp,B,S,T,U,q5⟩:=u;have A:EsOf (Dq s true (fun n=>i (n:Int)) ((E o).map itE)).2.puts es:=⟨S,T,U⟩;have ac:DA (Dg es) 96<=1536:=Kc _ _;refine⟨pb,DA (Dg es) 96,DA (Dg s.es) 96,rfl,(R.st.row.cell 0).trans rfl,ac,aj,?_,?_,?_⟩
 ·rintro g k Z (⟨rfl,rfl⟩|⟨rfl,rfl⟩) a
  ·refine(ZbY Z g 100 W es ((B.below a).cells.2.2.2.2.2.1) (B.below a).sa (A.places (by have:=p.n1;omega) p.pl.1)).mono ?_;rintro e F ⟨rfl,y⟩;exact⟨by rw[if_pos rfl],a.trans (y.mono a.size)⟩
  ·refine((R.below a).places c.ok).mono ?_;rintro e F ⟨rfl,y⟩;exact⟨by rw[if_neg (by omega)],a.trans (y.mono a.size)⟩
 ·exact fun Z a=>⟨M,af.below a |>.to (fun s h=>h),ak.trans (Kp62.below a)⟩
 ·intro al Z a;have t:DJ 2000 s (fun n=>i (n:Int)) ((E o).map itE)=Dq s true (fun n=>i (n:Int)) ((E o).map itE):=by
   unfold DJ;rw[if_pos (by have:=Kc (ndP (Dq s false (fun n=>i (n:Int)) ((E o).map itE)).2.puts) 96;omega)]
  have ah:Below X.drew.heap.size X.drew Z:=j.trans (a.mono j.size);have O:=l.carry (mf:=2000) (ch:=JL G o E) (C:=fun n=>i (n:Int)) c.ok v.ok (by omega) (by omega) (by omega) (cl:=true) (by rw[f.fl.its d];exact t) ah (pb:=pb) (O':=O') (by rw[f.fl.its d];exact⟨W,es,vp,B.below a,S,T,U,q5⟩) hO;rw[f.fl.its d]at O;refine O.mono fun e F q=>?_
  obtain⟨rfl,m,ao⟩:=r.after (by omega) l J c hC h1 h2 h3 h4 h5 d f q;refine⟨rfl,?_⟩;obtain⟨D,vk',aq,ar,au,ap,an,aa,H,⟨g2,g3⟩,g4⟩:=m.st;rcases g3.cases with⟨z1,_⟩|z
  ·exfalso;obtain⟨C0,L0,ab,ag⟩:=J;rw[t]at z1;have:=Zka c hF ag ab z1;rw[A.nd]at al;omega
  ·have P:=z.es;rw[t]at P;have e1:DA (Dg D.es) 96=DA (Dg es) 96:=by rw[P.nd,A.nd]
   refine⟨⟨M+1,⟨m.vol,m.tr,⟨D,vk',aq,ar,au,ap,an,aa,H,⟨g2,by rw[e1];omega⟩,g4⟩,m.bel,m.lo⟩,?_⟩,?_⟩
   ·exact(Q.trans (Kp62.below L)).trans ao
   ·rw[am,Q3 (x:=D.tn) ((H.st.row.cell 4).trans rfl),z.tn];omega
theorem cleanS(h:LgI N n0 w0 w vb tb db stb b K)(k:∀s,K s->Qq s)(r:N<=1000000):
  Calls Tryz.prog 85 #[.pointer (some ⟨stb,0,none⟩),.pointer (some ⟨tb,0,none⟩)] w fun e w'=>e = .returned (.tuple #[])/\ClI N n0 w0 w vb tb db stb b w':=by
 have o:Hid (Calls Tryz.prog 74 #[.pointer (some ⟨stb,0,none⟩),.pointer (some ⟨tb,0,none⟩)] w fun e w'=>e = .returned (.tuple #[])/\Hid (ClI N n0 w0 w vb tb db stb b w')):=by
  refine(keepL h k (by omega)).mono fun e w' q=>⟨q.1,N+1,q.2.1.to (fun s h=>⟨h,by omega⟩),q.2.2⟩
 have p:Hid (∀X,ClI N n0 w0 w vb tb db stb b X->Calls Tryz.prog 131 #[.pointer (some ⟨db,0,none⟩),.pointer (some ⟨stb,1,none⟩),.pointer (some ⟨tb,0,none⟩),.bool true] X.drew (ClR N n0 w0 w vb tb db stb b X)):=fun X t=>t.round r
 clear h k;go_enter Tryz.func85,Tryz.ntmps85;go_wp2_with (go_at_call 74;refine(Da o).mono ?_;rintro e X ⟨rfl,a⟩)
 go_loopw [4] (fun _ wr=>Hid (ClI N n0 w0 w vb tb db stb b wr)) (fun _ wr=>N+2000-KC wr ⟨stb,4,none⟩)
 case atStart=>exact a
 case round=>
  have a:=hrel;have u:=(Da a).tn.2;go_upto_region 1 with fail
  go_region_held3 (fun X=>X.cell? ⟨stb,0,none⟩=some (.pointer (some ⟨db,0,none⟩))) (go_keep) (first|(go_at_call 131;refine(Da p _ (Da a)).mono ?_;rintro e Y ⟨pb,F,f,rfl,aa,hF,hf,i,g,d⟩))
  clear u hrel;have l:Below Y.heap.size Y Y:=Below.refl _ _;have z:=Db (Da a).tn.1;by_cases y:f<F
  ·have x:((F:Nat):Int)<=((f:Nat):Int)↔False:=⟨fun h=>by omega,fun h=>h.elim⟩;have m:=Db (Da d y);clear d;go_upto_region 2 with fail
   go_region_held3 (fun X=>X.cell? ⟨stb,0,none⟩=some (.pointer (some ⟨db,0,none⟩))) (go_keep) (first|(go_at_call 132;refine(Da i _ _ _ (by first|exact .inl ⟨rfl,rfl⟩|exact .inr ⟨rfl,rfl⟩) (by first|assumption|exact l.drew)).mono ?_;rintro e Z ⟨rfl,c⟩;have v:=((Da g) _ c).tn.2))
   go_wp2_with (go_at_call 133;refine(Da m _ c).mono ?_;rintro e Z2 ⟨rfl,j,ab⟩)
   go_roundw
   case rel=>exact j
   case measure=>
    have:=Da z;have h2:=j.tn.1;omega
  ·have x:((F:Nat):Int)<=((f:Nat):Int)↔True:=⟨fun _=>trivial,fun _=>by omega⟩;clear d;go_upto_region 2 with fail
   go_region_held3 (fun X=>X.cell? ⟨stb,0,none⟩=some (.pointer (some ⟨db,0,none⟩))) (go_keep) (first|(go_at_call 132;refine(Da i _ _ _ (by first|exact .inl ⟨rfl,rfl⟩|exact .inr ⟨rfl,rfl⟩) (by first|assumption|exact l.drew)).mono ?_;rintro e Z ⟨rfl,c⟩;have v:=((Da g) _ c).tn.2))
   have n:=Db ((Da g) _ c);go_wp2;exact bodyPost_ret (results_none rfl _ _ _) rfl ⟨rfl,Da n⟩
end
end Go.Proofs.YtaieidcohdhgpaaGreatDoor
