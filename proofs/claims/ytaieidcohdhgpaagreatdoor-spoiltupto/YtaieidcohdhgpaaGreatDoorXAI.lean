/- Spoilt. -/
import Derived.Test.YtaieidcohdhgpaaGreatDoorXAH
namespace Go.Proofs.YtaieidcohdhgpaaGreatDoor
set_option maxHeartbeats 40000000
set_option maxRecDepth 100000
open Go.RowKit
theorem WR(w:World)(tb c:Nat)(V:NV)(E:NS)(d:Value)(G:Gh)(I:LF)(C:IB)(h:TW w tb c V E d G I C)(l:I.length<=10000)(n:Int)(g r:VF)(p:(n,g)∈I)(s:By)(o:Sl w 5 1 (.slice r.a r.l r.c) r.l (Dc s)):
  Cl 228 #[.pointer (some ⟨tb,1,none⟩),.int .i64 n,.agg #[.slice r.a r.l r.c,.int .i64 r.f]] w fun e w'=>e = .returned (.tuple #[])/\(∃a,TW w' tb c V E d G a (fun k=>if k=n then s else C k)/\Gq I a n r)/\Fr (DP tb w) w w'/\∀k t R,F0 w k t R->t≠214->t≠293->F0 w' k t R:=by
 refine(Xb w tb c V E d G I C h l n g r p s o).mono ?_;rintro e w' ⟨rfl,⟨a,q,u,v⟩,f⟩;refine⟨rfl,⟨a,q,u,v⟩,Fr.progI h f,fun k t R b i j=>b.fr f (fun e=>?_)⟩;rcases e with rfl|e
 ·exact i (b.type h.t)
 ·obtain⟨R',m⟩:=h.i.type e;exact j (b.type m)
theorem Wv(l i j d:Nat)(u:FrameMode)(w:World)(tb p:Nat)(V:NV)(E:NS)(q:Value)(G:Gh)(I:LF)(C:IB)(h:TW w tb p V E q G I C)(H:I.length<=10000)(n:Int)(y r:VF)(K:(n,y)∈I)(s:By)(x:Sl w 5 1 (.slice r.a r.l r.c) r.l (Dc s))(a:Int)
  (f:F0 w l 26 [.int .i64 a]) (m:F0 w i 37 [.pointer (some ⟨tb,0,none⟩)]) (o:F0 w j 3 [.int .i64 n]) (g:F0 w d 217 [.slice r.a r.l r.c,.int .i64 r.f]):
  CallsD Tryz.prog 230 #[.pointer (some ⟨l,0,none⟩),.pointer (some ⟨i,0,none⟩),.pointer (some ⟨j,0,none⟩),.pointer (some ⟨d,0,none⟩)] u w fun e O w'=>O=u/\(e = .returned (.tuple #[])/\F0 w' l 26 [.int .i64 a]/\Fr (DP tb w) w w'/\((a=0/\w'=w)\/(a≠0/\∃I',TW w' tb p V E q G I' (fun k=>if k=n then s else C k)/\Gq I I' n r))):=by
 have a0:=f.cell 0;by_cases b:a=0
 ·have J:(a != 0)=false:=by simpa using b
  go_enter_d Tryz.func230,Tryz.ntmps230
  go_wp2
  go_end0
  exact⟨rfl,f,Fr.refl _ _,.inl ⟨b,rfl⟩⟩
 ·have J:(a != 0)=true:=by simpa using b
  have F:Hid (∀W,Bw w W->_):=fun W v=>WR W tb p V E q G I C (h.below v (Aa _)) H n y r K s (x.kept (fun k L _=>v.block k L))
  have b0:=m.cell 0;have c0:=o.cell 0;have d0:=g.cell 0;have d1:=g.cell 1;have D:=Db b;have B:=Db f;have z:=Db m;have A:=Db o;have t:=Db g;clear h x b f m o g
  go_enter_d Tryz.func230,Tryz.ntmps230
  go_wp2_with fail
  go_region_held3 (fun W=>W.cell? ⟨i,0,none⟩=some (.pointer (some ⟨tb,0,none⟩))/\W.cell? ⟨j,0,none⟩=some (.int .i64 n)/\W.cell? ⟨d,0,none⟩=some (.slice r.a r.l r.c)/\W.cell? ⟨d,1,none⟩=some (.int .i64 r.f)) (go_keep)
   (first|(go_at_call 228;refine(Da F _ (Al _ w).drew).mono ?_;rintro e aa ⟨rfl,M,N,c⟩;have m0:=(c _ _ _ (Da z) (by decide) (by decide)).cell 0;have m1:=(c _ _ _ (Da A) (by decide) (by decide)).cell 0;have m2:=(c _ _ _ (Da t) (by decide) (by decide)).cell 0;have m3:=(c _ _ _ (Da t) (by decide) (by decide)).cell 1))
  all_goals
   go_wp2
   go_end0
   exact⟨rfl,c _ _ _ (Da B) (by decide) (by decide),Fr.prog (Al _ w).drew N,.inr ⟨Da D,M⟩⟩
theorem TW.setOther{w:World}{tb a:Nat}{V:NV}{E:NS}{c:Value}{G:Gh}{I:LF}{C:IB}(h:TW w tb a V E c G I C){b:Nat}{t:TypeId}{R:F6}(g:F0 w b t R)(f:b≠0)(i:t≠214/\t≠229/\t≠310/\t≠293/\t≠5)(j:Nat)(u:Value):TW (w.setCell ⟨b,j,none⟩ u) tb a V E c G I C:=
 h.fr (X:=fun k=>k=b) ((Fr.refl _ _).set ⟨b,j,none⟩ u rfl) (fun e=>f e.symm) (fun k t' R' e d=>by subst e;rw[d.type g];exact i)
theorem Sl.prog{tb:Nat}{w w':World}{v:Value}{n:Nat}{xs:F6}(h:Sl w 5 1 v n xs)(c:Fr (DP tb w) w w'):Sl w' 5 1 v n xs:=
 h.fr c (fun g d ⟨⟨t,R,a,e⟩,_⟩=>by
  obtain⟨R',b⟩:=h.type d;have:=b.type a;subst this
  revert e;decide)
theorem Fr.ext{X:Nat->Prop}{w w1 w2:World}(h:Fr X w w1)(a:Below w.heap.size w1 w2):Fr X w w2:=
 ⟨a.os.trans h.os,a.tape.trans h.tape,a.output.trans h.output,Ag h.size a.size,fun k b c=>(a.block k b).trans (h.block k b c)⟩
def Hn(w:World)(tb rd:Nat)(V:NV)(E:NS)(vi:Value)(G:Gh)(I:LF)(C:IB)(n:Int)(r:VF)(s:By)(e:Ending)(w':World):Prop:=
 Fr (DP tb w) w w'/\∃I',Gq I I' n r/\
  ((e = .returned (.int .i64 9)/\160<DN (I'.map (·.2.l))/\∃I'',TW w' tb rd V E vi G I'' C/\I''.length=I.length/\∀x,x∈I''↔x∈I)\/
   (e = .returned (.int .i64 0)/\DN (I'.map (·.2.l))<=160/\TW w' tb rd V E vi G I' (fun k=>if k=n then s else C k)))
theorem Gn.nd{I:LF}(h:Gn I):(I.map (·.1)).Nodup:=by
 unfold List.Nodup;rw[Bm];intro i j hi b a e;have aa:j<I.length:=by simpa using b
 rw[Cw,Cw]at e;have:=h i j I[i] I[j] a (Ac _) (Ac _);have:=Cg this;omega
theorem Ra(w:World)(tb O:Nat)(V:NV)(E:NS)(F:Value)(G:Gh)(I:LF)(C:IB)(h:TW w tb O V E F G I C)(S:I.length<=10000)(aD:∀x∈I,x.2.l<=2000000)(n:Int)(c:VF)(aA:(n,c)∈I)(K:OA)(r L:Nat)(aM:r<=2000000)(s:By)(ay:Sl w 5 1 (.slice K r L) r (Dc s)):
  Cl 189 #[.pointer (some ⟨tb,0,none⟩),.int .i64 n,.slice K r L] w (Hn w tb O V E F G I C n ⟨K,r,L,c.f⟩ s):=by
 have a6:∀(fn:Fn) (first cap:Array Value) (w:World),(Instr.makeFunc fn first cap).run Tryz.prog w = .ok (.func fn first cap) w:=fun _ _ _ _=>rfl
 have Q:=Db h;have aI:=Db ay;have J:=Db aA;have aJ:=Db aD;clear h ay aA aD
 go_enter_defers Tryz.func189,Tryz.ntmps189
 go_wp2_with fail;obtain⟨W1,aq,aG,aQ,ak,av⟩:=De w [.pointer (some ⟨tb,0,none⟩)] 37;obtain⟨W2,ar,aH,aC,aF,aw⟩:=De W1 [.int .i64 n] 3;obtain⟨a,au,ac,ai,aX,j⟩:=De W2 [.int .i64 0] 26;rw[aq,ar,au];have y1:=ai _ _ _ (aC _ _ _ aG);have Z:=ai _ _ _ aH;have A:Bw w a:=(av.trans (aw.mono (by omega))).trans (j.mono (by omega));rw[ak]at Z;rw[aF,ak]at ac;have aE:a.heap.size=w.heap.size+3:=by omega
 clear aq ar au aQ aC ai av aw j aG aH ak aF aX;have an:Hid (∀W,Bw w W->_):=fun W hb=>K3 W tb O V E F G I C ((Da Q).below hb (Aa _)) S n c (Da J)
 have a0:=y1.cell 0;have a1:=Z.cell 0;have ae:=A.drew;have ao:=Db aE;have a5:w.heap.size+1+1<a.heap.size:=by omega
 have aT:¬a.heap.size=w.heap.size:=by omega
 have aU:¬a.heap.size=w.heap.size+1:=by omega
 have aV:¬w.heap.size=a.heap.size:=by omega
 have aW:¬w.heap.size+1=a.heap.size:=by omega
 clear aE
 go_region_held3 (fun W=>W.cell? ⟨w.heap.size,0,none⟩=some (.pointer (some ⟨tb,0,none⟩))/\W.cell? ⟨w.heap.size+1,0,none⟩=some (.int .i64 n)) (go_keep)
  (first|(go_at_call 175;refine(Da an _ (by first|exact A.drew|exact ae.alloc ae.size _|exact(A.alloc A.size _).drew)).mono ?_;rintro e w' ⟨rfl,X⟩;have j:Bw a w':=(by first|exact((Al _ a).drew).trans (X.mono (by simp))|exact(((Al _ a).alloc (Aa _) _).drew).trans (X.mono (by simp))|exact(((Al _ a).drew).alloc (by simp) _).trans (X.mono (by simp)));have m0:=(j.cell (p:=⟨w.heap.size,0,none⟩) (by rw[Da ao];simp)).trans a0;have m1:=(j.cell (p:=⟨w.heap.size+1,0,none⟩) (by rw[Da ao];simp)).trans a1;(try(have z:F0 w' a.heap.size 217 [.slice none 0 0,.int .i64 0]:=(X.block a.heap.size (by simp)).trans (Jh a [.slice none 0 0,.int .i64 0] 217);have z0:=z.cell 0;have z1:=z.cell 1;have a8:=z.frozen 0;have a9:=z.frozen 1))))
 case' refine_2.refine_3.refine_3.refine_3.refine_3.refine_1.refine_2.refine_3.refine_3.refine_3.refine_1.refine_2.refine_1.refine_2.refine_3=>
  obtain⟨g,T,D,aR,aY,ax⟩:=De w' [.slice c.a c.l c.c,.int .i64 c.f] 217;rw[T];have v:Bw a g:=j.trans (ax.mono j.size);have ad:a.heap.size<=w'.heap.size:=j.size;obtain⟨i,M⟩:∃b,b=w'.heap.size:=⟨_,rfl⟩;rw[<-M]at D ad ⊢;clear T aR aY ax M
 case' refine_2.refine_3.refine_3.refine_3.refine_3.refine_2.refine_1.refine_2.refine_1.refine_2.refine_3.refine_3.refine_3.refine_1.refine_2.refine_3=>
  have D:F0 ((w'.setCell ⟨a.heap.size,0,none⟩ (.slice c.a c.l c.c)).setCell ⟨a.heap.size,1,none⟩ (.int .i64 c.f)) a.heap.size 217 [.slice c.a c.l c.c,.int .i64 c.f]:=by
   have:=(z.set 0 (.slice c.a c.l c.c)).set 1 (.int .i64 c.f)
   simpa using this
  have v:Bw a ((w'.setCell ⟨a.heap.size,0,none⟩ (.slice c.a c.l c.c)).setCell ⟨a.heap.size,1,none⟩ (.int .i64 c.f)):=(j.setCell (p:=⟨a.heap.size,0,none⟩) (Aa _) _).setCell (p:=⟨a.heap.size,1,none⟩) (Aa _) _;obtain⟨g,T⟩:∃g,(w'.setCell ⟨a.heap.size,0,none⟩ (.slice c.a c.l c.c)).setCell ⟨a.heap.size,1,none⟩ (.int .i64 c.f)=g:=⟨_,rfl⟩;rw[T]at D v ⊢;have ad:a.heap.size<=a.heap.size:=Aa _;obtain⟨i,M⟩:∃b,b=a.heap.size:=⟨_,rfl⟩;have ad:a.heap.size<=i:=by omega
  rw[<-M]at D;rw[show(Value.pointer (some { block:=a.heap.size,off:=0 }))=Value.pointer (some { block:=i,off:=0 }) by rw[M]];clear T M
 all_goals
  have y3:F0 g w.heap.size 37 _:=(v.block _ y1.lt).trans y1;have y4:F0 g (w.heap.size+1) 3 _:=(v.block _ Z.lt).trans Z;have y6:F0 g (w.heap.size+1+1) 26 _:=(v.block _ ac.lt).trans ac;have af:Bw w g:=A.trans (v.mono A.size);clear ac y1 Z A v a0 a1 an ae aT aU aV aW X j m0 m1;have aK:Hid (∀W,Bw g W->_):=fun W hb=>WR W tb O V E F G I C (((Da Q).below af (Aa _)).below hb (Aa _)) S n c ⟨K,r,L,c.f⟩ (Da J) s (((Da aI).kept (fun k d _=>af.block k d)).kept (fun k d _=>hb.block k d))
  have b0:=y3.cell 0;have b1:=y4.cell 0;have b2:=D.cell 1;have Y3:=Db y3;have Y4:=Db y4;have Y6:=Db y6;have Y7:=Db D;clear y3 y4 y6 D;go_wp2_with fail
  go_region_held3 (fun W=>W.cell? ⟨w.heap.size,0,none⟩=some (.pointer (some ⟨tb,0,none⟩))/\W.cell? ⟨w.heap.size+1,0,none⟩=some (.int .i64 n)/\W.cell? ⟨i,1,none⟩=some (.int .i64 c.f)) (go_keep)
   (first|(go_at_call 228;refine(Da aK _ (Al _ g).drew).mono ?_;rintro e P ⟨rfl,q1,q2,t⟩;have m0:=(t _ _ _ (Da Y3) (by decide) (by decide)).cell 0;have m1:=(t _ _ _ (Da Y4) (by decide) (by decide)).cell 0;have m2:=(t _ _ _ (Da Y7) (by decide) (by decide)).cell 1))
  obtain⟨o,h5,N⟩:=q1;have aP:=N;have ab:∀x∈o,x.2.l<=2000000:=fun x B=>by
   rcases (N.2 x).1 B with rfl|⟨a3,_⟩
   ·exact aM
   ·exact Da aJ x a3
  have am:=NZ P tb _ F o h5.t h5.i (by rw[N.1];exact S) ab;have z3:F0 P w.heap.size 37 _:=t _ _ _ (Da Y3) (by decide) (by decide);have z4:F0 P (w.heap.size+1) 3 _:=t _ _ _ (Da Y4) (by decide) (by decide);have z6:F0 P (w.heap.size+1+1) 26 _:=t _ _ _ (Da Y6) (by decide) (by decide);have z7:F0 P i 217 _:=t _ _ _ (Da Y7) (by decide) (by decide);have H:Hid (Fr (DP tb w) w P):=Fr.prog af.drew q2;have al:=Tt (o.map (·.2.l)) (fun m hm=>by obtain⟨y,hy,e⟩:=Au.1 hm;rw[<-e];exact ab y hy);rw[AK]at al;have aZ:DN (o.map (·.2.l))<=400000000:=Ag al (by rw[N.1];omega);obtain⟨U,hU⟩:=ex (DN (o.map (·.2.l)));rw[<-hU]at am aZ;have HU:=Db hU;have q:=Db N;have H5:=Db h5;have a4:=Db ab;clear q2 t al hU N aP h5 m2 ab;go_wp2_with fail;refine am.mono ?_;rintro e w6 ⟨rfl,l⟩;have t3:F0 w6 w.heap.size 37 _:=(l.block _ z3.lt).trans z3;have t4:F0 w6 (w.heap.size+1) 3 _:=(l.block _ z4.lt).trans z4;have u:F0 w6 (w.heap.size+1+1) 26 _:=(l.block _ z6.lt).trans z6;have t7:F0 w6 i 217 _:=(l.block _ z7.lt).trans z7;have c6:=u.cell 0;have f6:=u.frozen 0;clear am;by_cases aN:160<U
  ·have aO:(160:Int)<(U:Int):=by omega
   go_wp2;have d6:=u.set 0 (.int .i64 9);have a7:w.heap.size≠w.heap.size+1+1:=by omega
   have d3:=t3.setOther ⟨w.heap.size+1+1,0,none⟩ (.int .i64 9) (by show w.heap.size+1+1≠w.heap.size;omega);have d4:=t4.setOther ⟨w.heap.size+1+1,0,none⟩ (.int .i64 9) (by show w.heap.size+1+1≠w.heap.size+1;omega);have d7:=t7.setOther ⟨w.heap.size+1+1,0,none⟩ (.int .i64 9) (by show w.heap.size+1+1≠i;omega);have aa:=((Da H5).below l (Aa _)).setOther u (by omega) (by decide) 0 (.int .i64 9);have Y:=(((Da Q).dat _ (Da J)).prog (Da H)).kept (fun k d _=>l.block k d);have ah:=Y.setCell ⟨w.heap.size+1+1,0,none⟩ (.int .i64 9) (fun e=>by obtain⟨R,hR⟩:=Y.type e;have:=hR.type u;revert this;decide);refine leaves_cons (f:=230) (args := #[.pointer (some ⟨w.heap.size+1+1,0,none⟩),.pointer (some ⟨w.heap.size,0,none⟩),.pointer (some ⟨w.heap.size+1,0,none⟩),.pointer (some ⟨i,0,none⟩)]) (by simp) (by simp[go_sem]) ?_;refine(Wv _ _ _ _ .returning _ tb O V E F G o _ aa (by rw[(Da q).1];exact S) n ⟨K,r,L,c.f⟩ c (((Da q).2 _).2 (.inl rfl)) (C n) ah 9 (by simpa using d6) d3 d4 d7).mono ?_;rintro e u' w7 ⟨rfl,rfl,aj,az,ag⟩;have hc:=aj.cell 0;refine⟨.int .i64 9,by simp[results,Tryz.results189,go_sem,hc],?_⟩;rcases ag with⟨h0,_⟩|⟨_,aL,ap,aB⟩
   ·exact absurd h0 (by decide)
   ·have hC:(fun k=>if k=n then C n else (fun k=>if k=n then s else C k) k)=C:=by
     funext k
     by_cases d:k=n
     ·simp[d]
     ·simp[d]
    rw[hC]at ap;refine⟨((Da H).ext ((l.mono (Da H).size).setCell (p:=⟨w.heap.size+1+1,0,none⟩) (by show w.heap.size<=w.heap.size+1+1;omega) (.int .i64 9))).progTrans az,o,Da q,.inl ⟨rfl,by rw[<-Da HU];exact aN,aL,ap,aB.1.trans (Da q).1,fun x=>?_⟩⟩;rw[aB.2 x,(Da q).2 x];constructor
    ·rintro(rfl|⟨rfl|⟨B,_⟩,aS⟩)
     ·exact Da J
     ·exact absurd rfl aS
     ·exact B
    ·intro B;by_cases d:x.1=n
     ·left;have:x=(n,x.2):=by rw[<-d]
      rw[this]at B ⊢;rw[QN (Da Q).si.nd B (Da J)]
     ·exact .inr ⟨.inr ⟨B,d⟩,d⟩
  ·have aO:¬(160:Int)<(U:Int):=by omega
   go_wp2;have d6:=u.set 0 (.int .i64 0);have d3:=t3.setOther ⟨w.heap.size+1+1,0,none⟩ (.int .i64 0) (by show w.heap.size+1+1≠w.heap.size;omega);have d4:=t4.setOther ⟨w.heap.size+1+1,0,none⟩ (.int .i64 0) (by show w.heap.size+1+1≠w.heap.size+1;omega);have d7:=t7.setOther ⟨w.heap.size+1+1,0,none⟩ (.int .i64 0) (by show w.heap.size+1+1≠i;omega);have aa:=((Da H5).below l (Aa _)).setOther u (by omega) (by decide) 0 (.int .i64 0);have Y:=(((Da Q).dat _ (Da J)).prog (Da H)).kept (fun k d _=>l.block k d);have ah:=Y.setCell ⟨w.heap.size+1+1,0,none⟩ (.int .i64 0) (fun e=>by obtain⟨R,hR⟩:=Y.type e;have:=hR.type u;revert this;decide);refine leaves_cons (f:=230) (args := #[.pointer (some ⟨w.heap.size+1+1,0,none⟩),.pointer (some ⟨w.heap.size,0,none⟩),.pointer (some ⟨w.heap.size+1,0,none⟩),.pointer (some ⟨i,0,none⟩)]) (by simp) (by simp[go_sem]) ?_;refine(Wv _ _ _ _ .returning _ tb O V E F G o _ aa (by rw[(Da q).1];exact S) n ⟨K,r,L,c.f⟩ c (((Da q).2 _).2 (.inl rfl)) (C n) ah 0 (by simpa using d6) d3 d4 d7).mono ?_;rintro e u' w7 ⟨rfl,rfl,aj,az,ag⟩;have hc:=aj.cell 0;refine⟨.int .i64 0,by simp[results,Tryz.results189,go_sem,hc],?_⟩;rcases ag with⟨_,a2⟩|⟨h0,_⟩
   ·rw[a2];exact⟨(Da H).ext ((l.mono (Da H).size).setCell (p:=⟨w.heap.size+1+1,0,none⟩) (by show w.heap.size<=w.heap.size+1+1;omega) (.int .i64 0)),o,Da q,.inr ⟨rfl,by rw[<-Da HU];omega,aa⟩⟩
   ·exact absurd rfl h0
def Rv(w:World)(tb:Nat)(G:Gh)(I:LF)(C:IB)(n:Int)(r:VF)(s:By)(e:Ending)(w':World):Prop:=
 Fr (DP tb w) w w'/\∃I',Gq I I' n r/\
  ((e = .returned (.int .i64 9)/\160<DN (I'.map (·.2.l))/\∃I'',PS w' tb G I'' C/\I''.length=I.length/\∀x,x∈I''↔x∈I)\/
   (e = .returned (.int .i64 0)/\DN (I'.map (·.2.l))<=160/\PS w' tb G I' (fun k=>if k=n then s else C k)))
theorem Hn.ps{w g:World}{tb d:Nat}{V:NV}{E:NS}{f:Value}{G:Gh}{I:LF}{C:IB}{n:Int}{r:VF}{s:By}{e:Ending}{w':World}(h:Hn w tb d V E f G I C n r s e w')(q:Bw g w):Rv g tb G I C n r s e w':=by
 obtain⟨m,i,o,p⟩:=h;refine⟨Fr.prog q m,i,o,?_⟩;rcases p with⟨a,b,j,c,k,l⟩|⟨a,b,c⟩
 ·exact .inl ⟨a,b,j,⟨d,V,E,f,c⟩,k,l⟩
 ·exact .inr ⟨a,b,d,V,E,f,c⟩
def MG(G:Gh)(p:By)(n:Int):Int:=DL G p (decide (0<=n/\n<=1280))
def Q5(w:World)(tb:Nat)(G:Gh)(I:LF)(C:IB)(p:By)(n:Int)(e:Ending)(w':World):Prop:=
 (MG G p n≠0/\e = .returned (.int .i64 (MG G p n))/\Fr (DP tb w) w w'/\PS w' tb G I C)\/
 (MG G p n=0/\∃u r a c,Gr G (Df p)=some u/\u.p=none/\(u.f,r)∈I/\Rv w tb G I C u.f ⟨a,n.toNat,c,r.f⟩ (Dg (C u.f) n.toNat) e w')
theorem Zmy(w:World)(tb:Nat)(G:Gh)(I:LF)(C:IB)(h:PS w tb G I C)(hG:Gt G)(ai:G.length<=10000)(Q:I.length<=10000)(P:GX G I)(Z:∀x∈I,x.2.l<=2000000)(O:∀x∈I,(C x.1).size<=1280)(p:By)(hp:p.size<=2000000)(n:Int):
  Cl 124 #[.pointer (some ⟨tb,0,none⟩),.string p,.int .i64 n] w (Q5 w tb G I C p n):=by
 obtain⟨t,V,E,v,h⟩:=h;have aa:=WZ w tb t V E v G I C h hG ai p hp (decide (0<=n/\n<=1280));have M:=Db h;have af:=Db P;have HC:=Db O;have ag:=Db Z;have i:=Db aa;have y:Hid (∀b,b=decide (0<=n/\n<=1280)->∀W,Bw w W->DL G p b≠0->Q5 w tb G I C p n (.returned (.int .i64 (DL G p b))) W):=fun b a W o d=>by
  subst a;exact .inl ⟨d,rfl,Fr.of_below o,t,V,E,v,h.below o (Aa _)⟩
 clear h P O aa Z;by_cases j:0<=n/\n<=1280
 ·have a:=Cs j;rw[a]at i;have ab:=j.1;have an:=j.2;have l:=Db a;clear j a;go_enter Tryz.func124,Tryz.ntmps124;go_wp2_with fail;refine(Da i).mono ?_;rintro e w1 ⟨f,c⟩;clear i;rcases f with⟨d,rfl⟩|⟨k,ap,u,B,J,rfl⟩
  ·have ao:(DL G p true != 0)=true:=by simpa using d
   have g:=Db (Da y true (Da l).symm w1 c d);clear d;go_wp2;go_ret;exact Da g
  ·obtain⟨r,H,aq,ar⟩:=GX.mono (Da af) B J;have Y:=K3 w1 tb t V E v G I C ((Da M).below c (Aa _)) Q u.f r H;have HE:=Db k;have ae:=Db B;have HU:=Db J;have q:=Db H;clear k ap B J H aq ar;go_wp2_with fail;refine Y.mono ?_;rintro e w2 ⟨rfl,S⟩;have F:Bw w w2:=c.trans (S.mono c.size);go_upto_region 5 with fail;obtain⟨W,R,K,am,au,o⟩:=De w2 [.slice r.a r.l r.c,.int .i64 r.f] 217;have D:Bw w W:=F.trans (o.mono F.size);rw[R];have a0:=K.cell 0;have a1:=K.cell 1;have A:=(Da M).below D (Aa _);obtain⟨m,hm⟩:∃m:Nat,n=(m:Int):=⟨n.toNat,by omega⟩;have U:=A.dat _ (Da q);have ad:=RO W r.a r.l r.c (C u.f) U.rdB (Ag (Da HC _ (Da q)) (by omega)) m (by omega);subst hm;have N:=Db ad;have ah:=Db A;clear R am au o K Y c S F U ad A;go_wp2_with fail;refine(Da N).mono ?_;rintro e w3 ⟨x,rfl,av,aj,T⟩;have X:=Ra w3 tb t V E v G I C ((Da ah).below T (Aa _)) Q (Da ag) u.f r (Da q) (some ⟨x,0,none⟩) m m (by omega) (Dg (C u.f) m) aj;have L:=Db X;have ak:Bw w w3:=D.trans (T.mono D.size);clear X N;go_wp2_with fail;refine(Da L).mono ?_;rintro e w4 f;have ac:=f.ps ak;have g:Hid (Q5 w tb G I C p (m:Int) e w4) := .inr ⟨by unfold MG;rw[Da l];exact Da HE,u,r,some ⟨x,0,none⟩,m,Da ae,Da HU,Da q,ac⟩;have al:e = .returned (.int .i64 9)\/e = .returned (.int .i64 0):=by
    obtain⟨_,I',_,⟨z,_⟩|⟨z,_⟩⟩:=f
    ·exact .inl z
    ·exact .inr z
   clear f ac L;rcases al with rfl|rfl
   ·go_wp2;go_ret;exact Da g
   ·go_wp2;go_ret;exact Da g
 ·have a:=B2 j;rw[a]at i;have d:DL G p false≠0:=fun e=>by have:=RF e;cases this
  have ao:(DL G p false != 0)=true:=by simpa using d
  have s:=Db d;have l:=Db a;clear d a;by_cases ab:0<=n
  ·have an:¬n<=1280:=fun h=>j ⟨ab,h⟩
   clear j;go_enter Tryz.func124,Tryz.ntmps124;go_wp2_with fail;refine(Da i).mono ?_;rintro e w1 ⟨f,c⟩;rcases f with⟨_,rfl⟩|⟨k,_⟩
   ·have g:=Db (Da y false (Da l).symm w1 c (Da s));clear i;go_wp2;go_ret;exact Da g
   ·exact absurd k (Da s)
  ·clear j;go_enter Tryz.func124,Tryz.ntmps124;go_wp2_with fail;refine(Da i).mono ?_;rintro e w1 ⟨f,c⟩;rcases f with⟨_,rfl⟩|⟨k,_⟩
   ·have g:=Db (Da y false (Da l).symm w1 c (Da s));clear i;go_wp2;go_ret;exact Da g
   ·exact absurd k (Da s)
def Lc(name:By)(n:Nat):Value := .agg #[.string name,.bool true,.int .i64 (n:Int),.int .i64 1]
def La(name:By)(n:Nat)(l:Int):Value := .agg #[.string name,.bool false,.int .i64 (n:Int),.int .i64 l]
theorem JX{w:World}{b:Nat}{t:TypeId}{f g i j:Value}(h:F0 w b t [f,g,i,j])(a c d e:Value):F0 ((((w.setCell ⟨b,0,none⟩ a).setCell ⟨b,1,none⟩ c).setCell ⟨b,2,none⟩ d).setCell ⟨b,3,none⟩ e) b t [a,c,d,e]:=by
 have:=(((h.set 0 a).set 1 c).set 2 d).set 3 e
 simpa using this
theorem Qj{w w1:World}{B b:Nat}(h:Below B w w1)(a:B<=b)(c d e f:Value):Below B w ((((w1.setCell ⟨b,0,none⟩ c).setCell ⟨b,1,none⟩ d).setCell ⟨b,2,none⟩ e).setCell ⟨b,3,none⟩ f):=
 (((h.setCell (p:=⟨b,0,none⟩) a _).setCell (p:=⟨b,1,none⟩) a _).setCell (p:=⟨b,2,none⟩) a _).setCell (p:=⟨b,3,none⟩) a _
theorem Zkd(w:World)(tb B:Nat)(V:NV)(E:NS)(U:Value)(G:Gh)(I:LF)(C:IB)(h:TW w tb B V E U G I C)(K:Gt G)(L:G.length<=10000)(d:By)(O:d.size<=2000000)(ns:LY)(b:Nat)(l:F4 G B ns b):
  Cl 180 #[.pointer (some ⟨tb,0,none⟩),.string d,.agg #[.pointer (some ⟨b,0,none⟩),.int .i64 0]] w fun e w'=>e = .returned (Lc d (G.countP (Hk ns)))/\Bw w w':=by
 have HH:=Db h;have u:=h.d.len K l;have i:=fun (W:World) (hb:Bw w W)=>I9 W b 0 (V b) (E b).length (Dq (E b)) ((h.d.below hb (Aa _)).row ns b l |>.cell 0) ((h.d.below hb (Aa _)).sl ns b l)
 rw[u]at i;have M:G.countP (Hk ns)<=10000:=Ag BT L;obtain⟨c,t⟩:=ex (G.countP (Hk ns));rw[<-t]at i M ⊢;have F:=Db i;clear i t u h;go_enter Tryz.func180,Tryz.ntmps180;go_wp2_with fail;obtain⟨H,o,A,N,y,q⟩:=De w [.pointer (some ⟨b,0,none⟩),.int .i64 0] 260;obtain⟨J,p,j,x,P,r⟩:=De H [.string ⟨#[]⟩,.bool false,.int .i64 0,.int .i64 0] 112;have k:Bw w J:=q.trans (r.mono (by omega));have n:=x _ _ _ A;rw[y]at j;rw[o,p];clear o p N x q r A;refine(RA _ _ O).mono ?_;rintro e m ⟨rfl,g⟩;have D:F0 m w.heap.size 260 _:=(g.block _ n.lt).trans n;have a:F0 m (w.heap.size+1) 112 _:=(g.block _ j.lt).trans j;have s:Bw w m:=k.trans (g.mono k.size);have a0:=D.cell 0;have a1:=D.cell 1;have b0:=a.cell 0;have b1:=a.cell 1;have b2:=a.cell 2;have b3:=a.cell 3;have f0:=a.frozen 0;have f1:=a.frozen 1;have f2:=a.frozen 2;have f3:=a.frozen 3;clear n j k g y P;go_wp2_with (first|(go_at_call 178;refine(Da F _ s).mono ?_;rintro e w' ⟨rfl,z⟩;rw[z];clear z));have f:=JX a (.string d) (.bool true) (.int .i64 (c:Int)) (.int .i64 1);have Q:=f.cell 0;have R:=f.cell 1;have S:=f.cell 2;have T:=f.cell 3;exact Ax (v:=Lc d c) (by simp[results,Tryz.results180,go_sem,Q,R,S,T,Lc]) rfl ⟨rfl,Qj s (EI _) _ _ _ _⟩
theorem Zkc(w:World)(tb Q:Nat)(V:NV)(E:NS)(R:Value)(G:Gh)(I:LF)(C:IB)(h:TW w tb Q V E R G I C)(Y:I.length<=10000)(m:By)(hn:m.size<=2000000)(n:Int)(r:VF)(M:(n,r)∈I):
  Cl 180 #[.pointer (some ⟨tb,0,none⟩),.string m,.agg #[.pointer none,.int .i64 n]] w fun e w'=>e = .returned (La m r.l r.f)/\Bw w w':=by
 have B:Hid (∀W,Bw w W->_):=fun W Z=>K3 W tb Q V E R G I C (h.below Z (Aa _)) Y n r M
 clear h M;go_enter Tryz.func180,Tryz.ntmps180;go_wp2_with fail;obtain⟨T,F,P,ab,O,J⟩:=De w [.pointer none,.int .i64 n] 260;obtain⟨U,H,s,N,ag,K⟩:=De T [.string ⟨#[]⟩,.bool false,.int .i64 0,.int .i64 0] 112;have x:Bw w U:=J.trans (K.mono (by omega));have y:=N _ _ _ P;rw[O]at s;rw[F,H];clear F H ab N J K P;refine(RA _ _ hn).mono ?_;rintro e a ⟨rfl,c⟩;have A:F0 a w.heap.size 260 _:=(c.block _ y.lt).trans y;have S:F0 a (w.heap.size+1) 112 _:=(c.block _ s.lt).trans s;have j:Bw w a:=x.trans (c.mono x.size);have a0:=A.cell 0;have X:=A.cell 1;have ad:w.heap.size+1<a.heap.size:=S.lt;have ae:¬a.heap.size=w.heap.size:=by omega
 have af:¬w.heap.size=a.heap.size:=by omega
 have u:=j.drew;clear y s x c O ag;go_upto_region 4 with fail
 go_region_held3 (fun W=>W.cell? ⟨w.heap.size,1,none⟩=some (.int .i64 n)) (go_keep)
  (first|(go_at_call 175;refine(Da B _ (by first|exact j.drew|exact u.alloc u.size _|exact(j.alloc j.size _).drew)).mono ?_;rintro e w' ⟨rfl,q⟩;have c:Bw a w':=(by first|exact((Al _ a).drew).trans (q.mono (by simp))|exact(((Al _ a).alloc (Aa _) _).drew).trans (q.mono (by simp)));have m0:=(c.cell (p:=⟨w.heap.size,1,none⟩) (by show w.heap.size<a.heap.size;omega)).trans X;(try(have z:F0 w' a.heap.size 217 [.slice none 0 0,.int .i64 0]:=(q.block a.heap.size (by simp)).trans (Jh a [.slice none 0 0,.int .i64 0] 217);have z0:=z.cell 0;have A:=z.cell 1;have ai:=z.frozen 0;have aj:=z.frozen 1))))
 case' refine_2.refine_3.refine_3.refine_3.refine_3.refine_3.refine_1.refine_2.refine_3.refine_3.refine_3.refine_1.refine_2.refine_1.refine_2.refine_3=>
  obtain⟨g,l,f,ac,ah,L⟩:=De w' [.slice r.a r.l r.c,.int .i64 r.f] 217;rw[l];have k:Bw a g:=c.trans (L.mono c.size);have D:a.heap.size<=w'.heap.size:=c.size;obtain⟨t,i⟩:∃b,b=w'.heap.size:=⟨_,rfl⟩;rw[<-i]at f D ⊢;clear l ac ah L i
 case' refine_2.refine_3.refine_3.refine_3.refine_3.refine_3.refine_2.refine_1.refine_2.refine_1.refine_2.refine_3.refine_3.refine_3.refine_1.refine_2.refine_3=>
  have f:F0 ((w'.setCell ⟨a.heap.size,0,none⟩ (.slice r.a r.l r.c)).setCell ⟨a.heap.size,1,none⟩ (.int .i64 r.f)) a.heap.size 217 [.slice r.a r.l r.c,.int .i64 r.f]:=by
   have:=(z.set 0 (.slice r.a r.l r.c)).set 1 (.int .i64 r.f)
   simpa using this
  have k:Bw a ((w'.setCell ⟨a.heap.size,0,none⟩ (.slice r.a r.l r.c)).setCell ⟨a.heap.size,1,none⟩ (.int .i64 r.f)):=(c.setCell (p:=⟨a.heap.size,0,none⟩) (Aa _) _).setCell (p:=⟨a.heap.size,1,none⟩) (Aa _) _;obtain⟨g,l⟩:∃g,(w'.setCell ⟨a.heap.size,0,none⟩ (.slice r.a r.l r.c)).setCell ⟨a.heap.size,1,none⟩ (.int .i64 r.f)=g:=⟨_,rfl⟩;rw[l]at f k ⊢;obtain⟨t,i⟩:∃b,b=a.heap.size:=⟨_,rfl⟩;have D:a.heap.size<=t:=by omega
  rw[<-i]at f;rw[show(Value.pointer (some { block:=a.heap.size,off:=0 }))=Value.pointer (some { block:=t,off:=0 }) by rw[i]];clear l i
 all_goals
  have d:F0 g (w.heap.size+1) 112 _:=(k.block _ ad).trans S;have aa:Bw w g:=j.trans (k.mono j.size);have b0:=d.cell 0;have b1:=d.cell 1;have b2:=d.cell 2;have b3:=d.cell 3;have f0:=d.frozen 0;have f1:=d.frozen 1;have f2:=d.frozen 2;have f3:=d.frozen 3;have c0:=f.cell 0;have c1:=f.cell 1;clear ae af u q c m0 k B f;go_wp2;have o:=JX d (.string m) (.bool false) (.int .i64 (r.l:Int)) (.int .i64 r.f);have r0:=o.cell 0;have r1:=o.cell 1;have r2:=o.cell 2;have r3:=o.cell 3;exact Ax (v:=La m r.l r.f) (by simp[results,Tryz.results180,go_sem,r0,r1,r2,r3,La]) rfl ⟨rfl,Qj aa (EI _) _ _ _ _⟩
def Qb(G:Gh)(I:LF)(ns:LY)(name:By)(u:VS)(v:Value):Prop:=
 (u.p.isSome=true/\v=Lc name (G.countP (Hk ns)))\/(u.p=none/\∃r,(u.f,r)∈I/\v=La name r.l r.f)
theorem VH(w:World)(tb c:Nat)(V:NV)(E:NS)(g:Value)(G:Gh)(I:LF)(C:IB)(h:TW w tb c V E g G I C)(l:Gt G)(m:G.length<=10000)(n:I.length<=10000)(k:GX G I)(a:By)(j:a.size<=2000000)(ns:LY)(u:VS)
  (p:(∃b,u=⟨some ⟨b,0,none⟩,0⟩/\F4 G c ns b)\/(u.p=none/\∃x∈G,x.2=u)):
  Cl 180 #[.pointer (some ⟨tb,0,none⟩),.string a,.agg #[.pointer u.p,.int .i64 u.f]] w fun e w'=>∃v,e = .returned v/\Qb G I ns a u v/\Bw w w':=by
 rcases p with⟨b,rfl,o⟩|⟨f,x,q,rfl⟩
 ·refine(Zkd w tb c V E g G I C h l m a j ns b o).mono ?_;rintro e w' ⟨rfl,d⟩;exact⟨_,rfl,.inl ⟨rfl,rfl⟩,d⟩
 ·obtain⟨r,i,_,_⟩:=k x q f;rw[f];refine(Zkc w tb c V E g G I C h n a j x.2.f r i).mono ?_;rintro e w' ⟨rfl,d⟩;exact⟨_,rfl,.inr ⟨f,r,i,rfl⟩,d⟩
theorem WE{G:Gh}{I:LF}{ns:LY}{a:By}{u:VS}{v:Value}(h:Qb G I ns a u v):∃b c d,v = .agg #[.string a,.bool b,.int .i64 c,.int .i64 d]:=by
 rcases h with⟨_,rfl⟩|⟨_,r,_,rfl⟩
 ·exact⟨_,_,_,rfl⟩
 ·exact⟨_,_,_,rfl⟩
def Mt(w:World)(G:Gh)(I:LF)(p:By)(e:Ending)(w':World):Prop:=
 ((H3 G p≠0/\e = .returned (.tuple #[PB,.int .i64 (H3 G p)]))\/
  (H3 G p=0/\∃v,((Df p=[]/\v=Lc ⟨#[]⟩ (G.countP (Hk [])))\/∃ds n u,Df p=ds++[n]/\Gr G (Df p)=some u/\Qb G I (Df p) n u v)/\e = .returned (.tuple #[v,.int .i64 0])))/\Bw w w'
theorem Zkg(w:World)(tb L:Nat)(V:NV)(E:NS)(M:Value)(G:Gh)(I:LF)(C:IB)(h:TW w tb L V E M G I C)(T:Gt G)(U:G.length<=10000)(ah:I.length<=10000)(S:GX G I)(p:By)(x:p.size<=2000000):
  Cl 121 #[.pointer (some ⟨tb,0,none⟩),.string p] w (Mt w G I p):=by
 have A:∀o,Bw w (w.alloc o):=fun o=>(Al _ _).alloc (Aa _) o
 have ac:=fun o=>Ru (w.alloc o) tb L V E M G I C (h.below (A o) (Aa _)) T U p x
 have O:=Db (Jh w [.string ⟨#[]⟩,.bool false,.int .i64 0,.int .i64 0] 112);have N:=Db h;have ad:=Db S;clear h S;go_enter Tryz.func121,Tryz.ntmps121;go_wp2_with fail;refine(ac _).mono ?_;rintro e w1 ⟨ak,B⟩;have j:Bw w w1:=(A _).trans (B.mono (by simp));have t:F0 w1 w.heap.size 112 _:=(B.block _ (by simp)).trans (Da O);have an:w.heap.size<w1.heap.size:=t.lt;clear ac A B O;rcases ak with⟨s,rfl⟩|⟨Z,aa,d,n,u,y,rfl⟩
 ·have ae:=Db s;have ao:(H3 G p != 0)=true:=by simpa using s
  clear s;unfold DF Dn;go_upto_if 15 with fail;obtain⟨W,l,i,r,al,q⟩:=De w1 Ku 262;have a:=r _ _ _ t;have m:Bw w W:=j.trans (q.mono j.size);rw[l];clear l t j r q;have b0:=a.cell 0;have b1:=a.cell 1;have b2:=a.cell 2;have b3:=a.cell 3;have g0:=a.frozen 0;have g1:=a.frozen 1;have g2:=a.frozen 2;have g3:=a.frozen 3;go_wp2;have c:=JX a (.string ⟨#[]⟩) (.bool false) (.int .i64 0) (.int .i64 0);have F:=c.cell 0;have H:=c.cell 1;have J:=c.cell 2;have K:=c.cell 3;exact Ax (v := .tuple #[PB,.int .i64 (H3 G p)]) (by simp[results,Tryz.results121,go_sem,F,H,J,K,PB]) rfl
   ⟨.inl ⟨Da ae,rfl⟩,Qj m (Aa _) _ _ _ _⟩
 ·have P:=Db y;have HE:=Db Z;have Y:=NY (Da N).d y;have aj:n.size<=2000000:=by
   rcases y with⟨_,_,rfl,_⟩|⟨ds,db,g,_⟩
   ·exact Aw _
   ·exact N6 aa g
  clear y Z aa;unfold Dn;go_upto_if 15 with fail;obtain⟨W,l,i,r,al,q⟩:=De w1 (DQ d n true u) 262;have a:=r _ _ _ t;have m:Bw w W:=j.trans (q.mono j.size);rw[l];clear l t j r q;have a0:=i.cell 0;have a1:=i.cell 1;have a2:=i.cell 2;have a3:=i.cell 3;have a4:=i.cell 4;have ab:=VH W tb L V E M G I C ((Da N).below m (Aa _)) T U ah (Da ad) n aj (Df p) u (by
   rcases Y with⟨g,_⟩|⟨_,_,z,k⟩|⟨_,b,z,k,_⟩
   ·cases g
   ·exact .inr ⟨k,_,KE z,rfl⟩
   ·exact .inl ⟨b,z,k⟩)
  have Q:=Db ab;clear ab Y;go_wp2_with fail;refine(Da Q).mono ?_;rintro e w3 ⟨v,rfl,D,X⟩;obtain⟨vb,vc,vd,rfl⟩:=WE D;have f:F0 w3 w.heap.size 112 _:=(X.block _ a.lt).trans a;have ai:Bw w w3:=m.trans (X.mono m.size);have b0:=f.cell 0;have b1:=f.cell 1;have b2:=f.cell 2;have b3:=f.cell 3;have g0:=f.frozen 0;have g1:=f.frozen 1;have g2:=f.frozen 2;have g3:=f.frozen 3;have R:=Db D;clear D Q a i;go_wp2;have c:=JX f (.string n) (.bool vb) (.int .i64 vc) (.int .i64 vd);have F:=c.cell 0;have H:=c.cell 1;have J:=c.cell 2;have K:=c.cell 3;refine Ax (v := .tuple #[.agg #[.string n,.bool vb,.int .i64 vc,.int .i64 vd],.int .i64 0]) (by simp[results,Tryz.results121,go_sem,F,H,J,K]) rfl
   ⟨.inr ⟨Da HE,_,?_,rfl⟩,Qj ai (Aa _) _ _ _ _⟩
  rcases Da P with⟨g,_,k,_,h5⟩|⟨ds,db,g,_⟩
  ·refine .inl ⟨g,?_⟩;rcases Da R with⟨_,e⟩|⟨x,_⟩
   ·rw[e,g,k]
   ·rw[h5]at x;cases x
  ·have s:Df p≠[]:=by rw[g];simp
   obtain⟨af,am,ag,_,_,h4⟩:=(Da P).in s;exact .inr ⟨af,n,u,ag,h4,Da R⟩
theorem F0.prog{tb:Nat}{w w':World}{k:Nat}{t:TypeId}{R:F6}(h:F0 w k t R)(b:Fr (DP tb w) w w')(c:¬(t=214\/t=229\/t=310\/t=293)):F0 w' k t R:=
 h.fr b (fun ⟨⟨t',R',a,d⟩,_⟩=>c (by rw[h.type a];exact d))
theorem WI(A J L K:Nat)(u:FrameMode)(w:World)(tb z:Nat)(V:NV)(E:NS)(Z:Value)(G:Gh)(I:LF)(C:IB)(h:TW w tb z V E Z G I C)(Q:Gt G)(ac:G.length<=10000)(ad:I.length<=10000)(b:LY)(a:Nat)(c:F4 G z b a)(n:By)(t:Bool)(Y:VS)(f:Int)(ah:(b++[n],(⟨none,f⟩:VS))∈G)(r:VF)(ag:(f,r)∈I)(hr:r.f=1)(d:Int)
  (q:F0 w A 26 [.int .i64 d]) (j:F0 w J 262 (DQ (some ⟨a,0,none⟩) n t Y)) (P:F0 w L 37 [.pointer (some ⟨tb,0,none⟩)]) (O:F0 w K 3 [.int .i64 f]):
  CallsD Tryz.prog 229 #[.pointer (some ⟨A,0,none⟩),.pointer (some ⟨J,0,none⟩),.pointer (some ⟨L,0,none⟩),.pointer (some ⟨K,0,none⟩)] u w fun e u' w'=>u'=u/\(e = .returned (.tuple #[])/\F0 w' A 26 [.int .i64 d]/\Fr (DP tb w) w w'/\((d=0/\w'=w)\/(d≠0/\∃V' E' H p,TW w' tb z V' E' H (J1 G (b++[n])) p C/\UN I p f))):=by
 have a0:=q.cell 0;by_cases l:d=0
 ·have af:(d != 0)=false:=by simpa using l
  go_enter_d Tryz.func229,Tryz.ntmps229
  go_wp2
  go_end0
  exact⟨rfl,q,Fr.refl _ _,.inl ⟨l,rfl⟩⟩
 ·have af:(d != 0)=true:=by simpa using l
  have T:(n,(⟨none,f⟩:VS))∈E a:=(h.d.en b a c n _).2 ah;have F:=Vu w a n t Y ⟨none,f⟩ (V a) (E a) (h.d.row b a c) (h.d.sl b a c) (Ag (h.d.le Q c) ac) (h.d.srt b a c) T;unfold Dn at F;have M:=Db F;have HH:=Db h;have HA:=Db l;have c0:=j.cell 0;have c1:=j.cell 1;have c2:=j.cell 2;have c3:=j.cell 3;have c4:=j.cell 4;have H8:=Db q;have H4:=Db P;have aa:=Db O;clear F h T l q P O
  go_enter_d Tryz.func229,Tryz.ntmps229
  go_wp2_with fail;refine(Da M).mono ?_;rintro e w2 ⟨rfl,v',ak,y,i,m,q4,W,X,o⟩;have g:=Da HH;have v:=g.d.row b a c;have x:=g.d.sl b a c;have s:∀k t R,F0 w k t R->t≠229->t≠310->F0 w2 k t R:=fun k t R D B h2=>D.fr o (fun e=>by
   rcases e with rfl|e
   ·exact B (D.type v)
   ·obtain⟨R',ae⟩:=x.type e;exact h2 (D.type ae))
  have S:=TW.dirs g v x o (g.d.del Q c (G':=J1 G (b++[n])) (n:=n) (QC G _) y i m W X o);have U:=WF w2 tb z _ _ Z (J1 G (b++[n])) I C S ad f r ag (by omega) (by omega);have N:=Db U;have ab:Hid (Fr (DP tb w) w w2):=Fr.progOne (g.dlo c) v x o;have k8:=s _ _ _ (Da H8) (by decide) (by decide);have k4:=s _ _ _ (Da H4) (by decide) (by decide);have ai:=s _ _ _ (Da aa) (by decide) (by decide);have d4:=k4.cell 0;have aj:=ai.cell 0;clear g v x s S U y i m q4 W X o M c0 c1 c2 c3 c4;go_wp2_with fail;refine(Da N).mono ?_;rintro e w3 ⟨rfl,⟨H,p,y,i⟩,m⟩;clear N;go_wp2
  go_end0
  refine⟨rfl,k8.prog m (by decide),(Da ab).progTrans m,.inr ⟨Da HA,_,_,H,p,y,?_⟩⟩;rcases i with⟨_,i⟩|⟨B,_⟩
  ·exact i
  ·exact absurd hr B
end Go.Proofs.YtaieidcohdhgpaaGreatDoor
