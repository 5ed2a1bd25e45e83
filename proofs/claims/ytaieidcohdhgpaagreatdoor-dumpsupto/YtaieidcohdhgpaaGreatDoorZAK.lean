/- Dumps. -/
import Derived.Test.YtaieidcohdhgpaaGreatDoorZAJ
namespace Go.Proofs.YtaieidcohdhgpaaGreatDoor
set_option maxHeartbeats 40000000
set_option maxRecDepth 100000
open Go.RowKit
def Ic(G:Gh)(p:By)(i n:Int):Int:=FR G p (decide (0<=i/\0<=n))
def N8(w:World)(G:Gh)(C:IB)(p:By)(i n:Int)(e:Ending)(w':World):Prop:=
 ((Ic G p i n≠0/\e = .returned (.tuple #[.slice none 0 0,.int .i64 (Ic G p i n)]))\/
  (Ic G p i n=0/\∃u,FQ G (Dc p)=some u/\u.p=none/\∃x m,e = .returned (.tuple #[.slice (some ⟨x,0,none⟩) m m,.int .i64 0])/\w.heap.size<=x/\Sl w' 5 1 (.slice (some ⟨x,0,none⟩) m m) m (Dd (Qp (C u.f) i n))))/\Bw w w'
theorem Pv{G:Gh}{p:By}{b:Bool}(h:FR G p b=0):b=true:=by
 cases b with
 | true=>rfl
 | false=>
  exfalso;have a:D2 G p false≠0:=by unfold D2;split<;>simp
  unfold FR at h;rw[if_pos a]at h;exact a h
theorem Zkl(w:World)(tb rd:Nat)(V:NV)(E:NS)(vi:Value)(G:Gh)(I:LF)(C:IB)(h:TW w tb rd V E vi G I C)(hG:F0 G)(ax:G.length<=10000)(ay:I.length<=10000)(ae:Hx G I)(hC:∀x∈I,(C x.1).size<=1280)(p:By)(hp:p.size<=2000000)(i n:Int)(hi:i<=9223372036854775807)(hn:n<=9223372036854775807):
  Cl 119 #[.pointer (some ⟨tb,0,none⟩),.string p,.int .i64 i,.int .i64 n] w (N8 w G C p i n):=by
 have aj:=ZhN w tb rd V E vi G I C h hG ax p hp (decide (0<=i/\0<=n));have HH:=Db h;have aw:=Db ae;have HC:=Db hC;have f:=Db aj;clear h ae hC aj;have ab:∀b:Bool,b=decide (0<=i/\0<=n)->Hid (b=decide (0<=i/\0<=n)):=fun _ h=>h
 by_cases ai:0<=i
 ·by_cases ak:0<=n
  ·have q:=ab true (CN ⟨ai,ak⟩).symm;rw[<-Da q]at f;go_enter Tryz.func119,Tryz.ntmps119;go_wp2_with fail;refine(Da f).mono ?_;rintro e w1 ⟨J,o⟩;have l:Hid (Ic G p i n=FR G p true):=by show _=_;unfold Ic;rw[<-Da q]
   clear f;rcases J with⟨c,rfl⟩|⟨B,aD,u,X,hu,rfl⟩
   ·have al:(FR G p true != 0)=true:=by simpa using c
    have t:=Db c;clear c;go_wp2
    go_ret2
    exact⟨.inl ⟨by rw[Da l];exact Da t,by rw[Da l];rfl⟩,o⟩
   ·obtain⟨r,ac,aE,aF⟩:=Hx.mono (Da aw) X hu;have T:=(Da HH).below o (Aa _);have ah:=QQ w1 tb rd V E vi G I C T ay u.f r ac;have HE:=Db B;have ar:=Db X;have HU:=Db hu;have ad:=Db ac;clear B aD X hu ac T aE aF;go_wp2_with fail;refine ah.mono ?_;rintro e w2 ⟨rfl,af⟩;have M:Bw w w2:=o.trans (af.mono o.size);have U:=(Da HH).below M (Aa _);have A:=U.dat _ (Da ad);have aq:=Da HC _ (Da ad);simp only at A aq;obtain⟨s,hs⟩:=ex (C u.f);rw[<-hs]at A aq;have HS:=Db hs;clear hs U ah;obtain⟨ra,rl,y,rf⟩:=r;simp only at A;have aC:rl=s.size:=by have:=A.1;rw[Dj]at this;omega
    subst aC;obtain⟨k,N⟩:∃k:Nat,(k:Int)=min i (s.size:Int):=⟨(min i (s.size:Int)).toNat,by omega⟩;have HK:Hid (min i (s.size:Int)=(k:Int)):=N.symm;have aL:k<=s.size:=by omega
    obtain⟨m,hm⟩:∃m:Nat,(m:Int)=min n ((s.size-k:Nat):Int):=⟨(min n ((s.size-k:Nat):Int)).toNat,by omega⟩;have HM:Hid (min n ((s.size:Int)-(k:Int))=(m:Int)):=by show _=_;omega
    have au:Hid (Qp s i n=Dt (s.extract k s.size) m):=by
     show _=_;have e1:min i.toNat s.size=k:=by omega
     have e2:min n.toNat (s.size-k)=m:=by omega
     unfold Qp Dt;rw[e1,e2,if_pos (by simp[ByteArray.size_extract];omega)];apply K4;rw[BO,BO,BO];simp;rw[C8]
     congr 1
     have:s.size=s.data.size:=rfl;omega
    clear N hm;go_upto_region 5 with fail;obtain⟨W,hW,hx,aB,aH,Y⟩:=De w2 [.slice ra s.size y,.int .i64 rf] 217;have Z:Bw w W:=M.trans (Y.mono M.size);have aa:Sl W 5 1 (.slice ra s.size y) s.size (Dd s):=A.kept (fun k N _=>Y.block k N);rw[hW];have a0:=hx.cell 0;have a1:=hx.cell 1;clear hW aB aH Y A M o af hx;have F:Hid (∀(K:OA) (d:Nat),Ge W K (s.size-k) d (s.extract k s.size)->Cl 176 #[.slice K (s.size-k) d,.int .i64 (m:Int)] W fun e w'=>∃x,e = .returned (.slice (some ⟨x,0,none⟩) m m)/\Hid (N8 w G C p i n (.returned (.tuple #[.slice (some ⟨x,0,none⟩) m m,.int .i64 0])) w')):=by
     intro K d aG;refine(ZhA W K (s.size-k) d _ aG (by simp[ByteArray.size_extract];omega) m (by have:=Da HM;omega)).mono ?_;rintro e w' ⟨x,rfl,aI,az,aA⟩;refine⟨x,rfl,.inr ⟨(Da l).trans (Da HE),u,Da ar,Da HU,x,m,rfl,Ae Z.size aI,?_⟩,Z.trans (aA.mono Z.size)⟩;rw[<-Da HS,Da au];exact az
    have Q:Hid (min n ((s.size-k:Nat):Int)=(m:Int)):=by have:=Da HM;show _=_;omega
    have aK:=Da HK;rcases aa.2 with⟨e,h0⟩|⟨g,aJ,L,e,hR,T,U,h3,h4⟩
    ·simp only[BI]at e;obtain⟨rfl,e2,rfl⟩:=e;have am:Ge W none (s.size-k) 0 (s.extract k s.size):=⟨by simp[ByteArray.size_extract],fun _=>rfl,fun j v a=>by
      have:(Dd (s.extract k s.size)).length=0:=by rw[Dj];simp[ByteArray.size_extract];omega
      rw[Ak this]at a;simp at a⟩
     have hc:=Da F none 0 am;obtain rfl:k=0:=by omega
     have R:Hid (min n 0=(m:Int)):=by have:=Da Q;show _=_;omega
     have S:s.size-0=0:=by omega
     rw[S]at hc;have D:=Db hc;clear hc am F aa;go_wp2_with fail;rw[Da R];refine(Da D).mono ?_;rintro e w' ⟨x,rfl,H⟩;go_wp2
     go_ret2
     exact Da (Da H)
    ·simp only[BI]at e;obtain⟨rfl,_,rfl⟩:=e;have ag:∀j v,(Dd s)[j]?=some v->W.cell? ⟨g,j,none⟩=some v:=fun j v a=>by
      rw[hR.cell];rw[<-h4,Ap]at a
      split at a
      ·exact a
      ·cases a
     have an:∀d,Ge W (some ⟨g,k,none⟩) (s.size-k) d (s.extract k s.size):=fun d=>⟨by simp[ByteArray.size_extract],fun e=>(by cases e),fun j v a=>by
      refine⟨_,rfl,?_⟩;rw[AF];refine ag _ _ ?_;rw[KD,Ap]at a
      split at a
      ·rwa [A3]at a
      ·cases a⟩
     have ao:y=k->Ge W (some ⟨g,0,none⟩) (s.size-k) 0 (s.extract k s.size):=fun e=>⟨by simp[ByteArray.size_extract],fun e=>(by cases e),fun j v a=>by
      have:(Dd (s.extract k s.size)).length=0:=by rw[Dj];simp[ByteArray.size_extract];omega
      rw[Ak this]at a;simp at a⟩
     have O:Hid (∀d,_):=fun d=>Da F _ _ (an d)
     have P:Hid (y=k->_):=fun e=>Da F _ _ (ao e)
     clear an ao ag F aa hR h3 h4;by_cases ap:y=k
     ·have z:=Da P ap;have S:s.size-k=0:=by omega
      rw[S]at z;have R:Hid (min n 0=(m:Int)):=by have:=Da Q;show _=_;omega
      have D:=Db z;subst ap;clear z O P;go_wp2_with fail
      all_goals
       rw[Da R];refine(Da D).mono ?_;rintro e w' ⟨x,rfl,H⟩;go_wp2
       go_ret2
       exact Da (Da H)
     ·have aM:k<y:=by omega
      have z:=Da O (y-k);have D:=Db z;clear z O P;go_wp2_with fail
      all_goals
       rw[Da Q];refine(Da D).mono ?_;rintro e w' ⟨x,rfl,H⟩;go_wp2
       go_ret2
       exact Da (Da H)
  ·have q:=ab false (BW (fun h=>ak h.2)).symm;rw[<-Da q]at f;have c:FR G p false≠0:=fun e=>by have:=Pv e;cases this
   have al:(FR G p false != 0)=true:=by simpa using c
   have l:Hid (Ic G p i n=FR G p false):=by show _=_;unfold Ic;rw[<-Da q]
   have t:=Db c;clear c;go_enter Tryz.func119,Tryz.ntmps119;go_wp2_with fail;refine(Da f).mono ?_;rintro e w1 ⟨J,o⟩;rcases J with⟨_,rfl⟩|⟨B,_⟩
   ·clear f;go_wp2
    go_ret2
    exact⟨.inl ⟨by rw[Da l];exact Da t,by rw[Da l];rfl⟩,o⟩
   ·exact absurd B (Da t)
 ·have q:=ab false (BW (fun h=>ai h.1)).symm;rw[<-Da q]at f;have c:FR G p false≠0:=fun e=>by have:=Pv e;cases this
  have al:(FR G p false != 0)=true:=by simpa using c
  have l:Hid (Ic G p i n=FR G p false):=by show _=_;unfold Ic;rw[<-Da q]
  have t:=Db c;clear c;go_enter Tryz.func119,Tryz.ntmps119;go_wp2_with fail;refine(Da f).mono ?_;rintro e w1 ⟨J,o⟩;rcases J with⟨_,rfl⟩|⟨B,_⟩
  ·clear f;go_wp2
   go_ret2
   exact⟨.inl ⟨by rw[Da l];exact Da t,by rw[Da l];rfl⟩,o⟩
  ·exact absurd B (Da t)
theorem Vw(w:World)(tb c:Nat)(V:NV)(E:NS)(d:Value)(G:Gh)(I:LF)(C:IB)(h:TW w tb c V E d G I C)(l:I.length<=10000)(n:Int)(g r:VF)(p:(n,g)∈I)(s:By)(o:Sl w 5 1 (.slice r.a r.l r.c) r.l (Dd s)):
  Cl 228 #[.pointer (some ⟨tb,1,none⟩),.int .i64 n,.agg #[.slice r.a r.l r.c,.int .i64 r.f]] w fun e w'=>e = .returned (.tuple #[])/\(∃a,TW w' tb c V E d G a (fun k=>if k=n then s else C k)/\FX I a n r)/\Fr (D7 tb w) w w'/\∀k t R,FH w k t R->t≠214->t≠293->FH w' k t R:=by
 refine(V4 w tb c V E d G I C h l n g r p s o).mono ?_;rintro e w' ⟨rfl,⟨a,q,u,v⟩,f⟩;refine⟨rfl,⟨a,q,u,v⟩,Fr.progI h f,fun k t R b i j=>b.fr f (fun e=>?_)⟩;rcases e with rfl|e
 ·exact i (b.type h.t)
 ·obtain⟨R',m⟩:=h.i.type e;exact j (b.type m)
theorem Vh(l i j d:Nat)(u:FrameMode)(w:World)(tb p:Nat)(V:NV)(E:NS)(q:Value)(G:Gh)(I:LF)(C:IB)(h:TW w tb p V E q G I C)(H:I.length<=10000)(n:Int)(y r:VF)(K:(n,y)∈I)(s:By)(x:Sl w 5 1 (.slice r.a r.l r.c) r.l (Dd s))(a:Int)
  (f:FH w l 26 [.int .i64 a]) (m:FH w i 37 [.pointer (some ⟨tb,0,none⟩)]) (o:FH w j 3 [.int .i64 n]) (g:FH w d 217 [.slice r.a r.l r.c,.int .i64 r.f]):
  CallsD Tryz.prog 230 #[.pointer (some ⟨l,0,none⟩),.pointer (some ⟨i,0,none⟩),.pointer (some ⟨j,0,none⟩),.pointer (some ⟨d,0,none⟩)] u w fun e O w'=>O=u/\(e = .returned (.tuple #[])/\FH w' l 26 [.int .i64 a]/\Fr (D7 tb w) w w'/\((a=0/\w'=w)\/(a≠0/\∃I',TW w' tb p V E q G I' (fun k=>if k=n then s else C k)/\FX I I' n r))):=by
 have a0:=f.cell 0;by_cases b:a=0
 ·have J:(a != 0)=false:=by simpa using b
  go_enter_d Tryz.func230,Tryz.ntmps230
  go_wp2
  go_end0
  exact⟨rfl,f,Fr.refl _ _,.inl ⟨b,rfl⟩⟩
 ·have J:(a != 0)=true:=by simpa using b
  have F:Hid (∀W,Bw w W->_):=fun W v=>Vw W tb p V E q G I C (h.below v (Aa _)) H n y r K s (x.kept (fun k L _=>v.block k L))
  have b0:=m.cell 0;have c0:=o.cell 0;have d0:=g.cell 0;have d1:=g.cell 1;have D:=Db b;have B:=Db f;have z:=Db m;have A:=Db o;have t:=Db g;clear h x b f m o g
  go_enter_d Tryz.func230,Tryz.ntmps230
  go_wp2_with fail
  go_region_held3 (fun W=>W.cell? ⟨i,0,none⟩=some (.pointer (some ⟨tb,0,none⟩))/\W.cell? ⟨j,0,none⟩=some (.int .i64 n)/\W.cell? ⟨d,0,none⟩=some (.slice r.a r.l r.c)/\W.cell? ⟨d,1,none⟩=some (.int .i64 r.f)) (go_keep)
   (first|(go_at_call 228;refine(Da F _ (Ag _ w).drew).mono ?_;rintro e aa ⟨rfl,M,N,c⟩;have m0:=(c _ _ _ (Da z) (by decide) (by decide)).cell 0;have m1:=(c _ _ _ (Da A) (by decide) (by decide)).cell 0;have m2:=(c _ _ _ (Da t) (by decide) (by decide)).cell 0;have m3:=(c _ _ _ (Da t) (by decide) (by decide)).cell 1))
  all_goals
   go_wp2
   go_end0
   exact⟨rfl,c _ _ _ (Da B) (by decide) (by decide),Fr.prog (Ag _ w).drew N,.inr ⟨Da D,M⟩⟩
theorem TW.setOther{w:World}{tb a:Nat}{V:NV}{E:NS}{c:Value}{G:Gh}{I:LF}{C:IB}(h:TW w tb a V E c G I C){b:Nat}{t:TypeId}{R:LV}(g:FH w b t R)(f:b≠0)(i:t≠214/\t≠229/\t≠310/\t≠293/\t≠5)(j:Nat)(u:Value):TW (w.setCell ⟨b,j,none⟩ u) tb a V E c G I C:=
 h.fr (X:=fun k=>k=b) ((Fr.refl _ _).set ⟨b,j,none⟩ u rfl) (fun e=>f e.symm) (fun k t' R' e d=>by subst e;rw[d.type g];exact i)
theorem Sl.prog{tb:Nat}{w w':World}{v:Value}{n:Nat}{xs:LV}(h:Sl w 5 1 v n xs)(c:Fr (D7 tb w) w w'):Sl w' 5 1 v n xs:=
 h.fr c (fun g d ⟨⟨t,R,a,e⟩,_⟩=>by
  obtain⟨R',b⟩:=h.type d;have:=b.type a;subst this
  revert e;decide)
theorem Fr.ext{X:Nat->Prop}{w w1 c:World}(h:Fr X w w1)(a:Below w.heap.size w1 c):Fr X w c:=
 ⟨a.os.trans h.os,a.tape.trans h.tape,a.output.trans h.output,Ae h.size a.size,fun k b d=>(a.block k b).trans (h.block k b d)⟩
def S9(w:World)(tb rd:Nat)(V:NV)(E:NS)(vi:Value)(G:Gh)(I:LF)(C:IB)(n:Int)(r:VF)(s:By)(e:Ending)(w':World):Prop:=
 Fr (D7 tb w) w w'/\∃I',FX I I' n r/\
  ((e = .returned (.int .i64 9)/\160<D4 (I'.map (·.2.l))/\∃I'',TW w' tb rd V E vi G I'' C/\I''.length=I.length/\∀x,x∈I''↔x∈I)\/
   (e = .returned (.int .i64 0)/\D4 (I'.map (·.2.l))<=160/\TW w' tb rd V E vi G I' (fun k=>if k=n then s else C k)))
theorem F5.nd{I:LF}(h:F5 I):(I.map (·.1)).Nodup:=by
 unfold List.Nodup;rw[BQ];intro i j hi b a e;have aa:j<I.length:=by simpa using b
 rw[Er,Er]at e;have:=h i j I[i] I[j] a (Ac _) (Ac _);have:=Ba this;omega
theorem Za(w:World)(tb O:Nat)(V:NV)(E:NS)(F:Value)(G:Gh)(I:LF)(C:IB)(h:TW w tb O V E F G I C)(S:I.length<=10000)(aD:∀x∈I,x.2.l<=2000000)(n:Int)(c:VF)(aA:(n,c)∈I)(K:OA)(r L:Nat)(aM:r<=2000000)(s:By)(ay:Sl w 5 1 (.slice K r L) r (Dd s)):
  Cl 189 #[.pointer (some ⟨tb,0,none⟩),.int .i64 n,.slice K r L] w (S9 w tb O V E F G I C n ⟨K,r,L,c.f⟩ s):=by
 have a6:∀(fn:Fn) (first cap:Array Value) (w:World),(Instr.makeFunc fn first cap).run Tryz.prog w = .ok (.func fn first cap) w:=fun _ _ _ _=>rfl
 have Q:=Db h;have aI:=Db ay;have J:=Db aA;have aJ:=Db aD;clear h ay aA aD
 go_enter_defers Tryz.func189,Tryz.ntmps189
 go_wp2_with fail;obtain⟨W1,aq,aG,aQ,ak,av⟩:=De w [.pointer (some ⟨tb,0,none⟩)] 37;obtain⟨W2,ar,aH,aC,aF,aw⟩:=De W1 [.int .i64 n] 3;obtain⟨a,au,ac,ai,aX,j⟩:=De W2 [.int .i64 0] 26;rw[aq,ar,au];have y1:=ai _ _ _ (aC _ _ _ aG);have Z:=ai _ _ _ aH;have A:Bw w a:=(av.trans (aw.mono (by omega))).trans (j.mono (by omega));rw[ak]at Z;rw[aF,ak]at ac;have aE:a.heap.size=w.heap.size+3:=by omega
 clear aq ar au aQ aC ai av aw j aG aH ak aF aX;have an:Hid (∀W,Bw w W->_):=fun W hb=>QQ W tb O V E F G I C ((Da Q).below hb (Aa _)) S n c (Da J)
 have a0:=y1.cell 0;have a1:=Z.cell 0;have ae:=A.drew;have ao:=Db aE;have a5:w.heap.size+1+1<a.heap.size:=by omega
 have aT:¬a.heap.size=w.heap.size:=by omega
 have aU:¬a.heap.size=w.heap.size+1:=by omega
 have aV:¬w.heap.size=a.heap.size:=by omega
 have aW:¬w.heap.size+1=a.heap.size:=by omega
 clear aE
 go_region_held3 (fun W=>W.cell? ⟨w.heap.size,0,none⟩=some (.pointer (some ⟨tb,0,none⟩))/\W.cell? ⟨w.heap.size+1,0,none⟩=some (.int .i64 n)) (go_keep)
  (first|(go_at_call 175;refine(Da an _ (by first|exact A.drew|exact ae.alloc ae.size _|exact(A.alloc A.size _).drew)).mono ?_;rintro e w' ⟨rfl,X⟩;have j:Bw a w':=(by first|exact((Ag _ a).drew).trans (X.mono (by simp))|exact(((Ag _ a).alloc (Aa _) _).drew).trans (X.mono (by simp))|exact(((Ag _ a).drew).alloc (by simp) _).trans (X.mono (by simp)));have m0:=(j.cell (p:=⟨w.heap.size,0,none⟩) (by rw[Da ao];simp)).trans a0;have m1:=(j.cell (p:=⟨w.heap.size+1,0,none⟩) (by rw[Da ao];simp)).trans a1;(try(have z:FH w' a.heap.size 217 [.slice none 0 0,.int .i64 0]:=(X.block a.heap.size (by simp)).trans (Jj a [.slice none 0 0,.int .i64 0] 217);have z0:=z.cell 0;have z1:=z.cell 1;have a8:=z.frozen 0;have a9:=z.frozen 1))))
 case' refine_2.refine_3.refine_3.refine_3.refine_3.refine_1.refine_2.refine_3.refine_3.refine_3.refine_1.refine_2.refine_1.refine_2.refine_3=>
  obtain⟨g,T,D,aR,aY,ax⟩:=De w' [.slice c.a c.l c.c,.int .i64 c.f] 217;rw[T];have v:Bw a g:=j.trans (ax.mono j.size);have ad:a.heap.size<=w'.heap.size:=j.size;obtain⟨i,M⟩:∃b,b=w'.heap.size:=⟨_,rfl⟩;rw[<-M]at D ad ⊢;clear T aR aY ax M
 case' refine_2.refine_3.refine_3.refine_3.refine_3.refine_2.refine_1.refine_2.refine_1.refine_2.refine_3.refine_3.refine_3.refine_1.refine_2.refine_3=>
  have D:FH ((w'.setCell ⟨a.heap.size,0,none⟩ (.slice c.a c.l c.c)).setCell ⟨a.heap.size,1,none⟩ (.int .i64 c.f)) a.heap.size 217 [.slice c.a c.l c.c,.int .i64 c.f]:=by
   have:=(z.set 0 (.slice c.a c.l c.c)).set 1 (.int .i64 c.f)
   simpa using this
  have v:Bw a ((w'.setCell ⟨a.heap.size,0,none⟩ (.slice c.a c.l c.c)).setCell ⟨a.heap.size,1,none⟩ (.int .i64 c.f)):=(j.setCell (p:=⟨a.heap.size,0,none⟩) (Aa _) _).setCell (p:=⟨a.heap.size,1,none⟩) (Aa _) _;obtain⟨g,T⟩:∃g,(w'.setCell ⟨a.heap.size,0,none⟩ (.slice c.a c.l c.c)).setCell ⟨a.heap.size,1,none⟩ (.int .i64 c.f)=g:=⟨_,rfl⟩;rw[T]at D v ⊢;have ad:a.heap.size<=a.heap.size:=Aa _;obtain⟨i,M⟩:∃b,b=a.heap.size:=⟨_,rfl⟩;have ad:a.heap.size<=i:=by omega
  rw[<-M]at D;rw[show(Value.pointer (some { block:=a.heap.size,off:=0 }))=Value.pointer (some { block:=i,off:=0 }) by rw[M]];clear T M
 all_goals
  have y3:FH g w.heap.size 37 _:=(v.block _ y1.lt).trans y1;have y4:FH g (w.heap.size+1) 3 _:=(v.block _ Z.lt).trans Z;have y6:FH g (w.heap.size+1+1) 26 _:=(v.block _ ac.lt).trans ac;have af:Bw w g:=A.trans (v.mono A.size);clear ac y1 Z A v a0 a1 an ae aT aU aV aW X j m0 m1;have aK:Hid (∀W,Bw g W->_):=fun W hb=>Vw W tb O V E F G I C (((Da Q).below af (Aa _)).below hb (Aa _)) S n c ⟨K,r,L,c.f⟩ (Da J) s (((Da aI).kept (fun k d _=>af.block k d)).kept (fun k d _=>hb.block k d))
  have b0:=y3.cell 0;have b1:=y4.cell 0;have b2:=D.cell 1;have Y3:=Db y3;have Y4:=Db y4;have Y6:=Db y6;have Y7:=Db D;clear y3 y4 y6 D;go_wp2_with fail
  go_region_held3 (fun W=>W.cell? ⟨w.heap.size,0,none⟩=some (.pointer (some ⟨tb,0,none⟩))/\W.cell? ⟨w.heap.size+1,0,none⟩=some (.int .i64 n)/\W.cell? ⟨i,1,none⟩=some (.int .i64 c.f)) (go_keep)
   (first|(go_at_call 228;refine(Da aK _ (Ag _ g).drew).mono ?_;rintro e P ⟨rfl,q1,q2,t⟩;have m0:=(t _ _ _ (Da Y3) (by decide) (by decide)).cell 0;have m1:=(t _ _ _ (Da Y4) (by decide) (by decide)).cell 0;have m2:=(t _ _ _ (Da Y7) (by decide) (by decide)).cell 1))
  obtain⟨o,h5,N⟩:=q1;have aP:=N;have ab:∀x∈o,x.2.l<=2000000:=fun x B=>by
   rcases (N.2 x).1 B with rfl|⟨a3,_⟩
   ·exact aM
   ·exact Da aJ x a3
  have am:=VD P tb _ F o h5.t h5.i (by rw[N.1];exact S) ab;have z3:FH P w.heap.size 37 _:=t _ _ _ (Da Y3) (by decide) (by decide);have z4:FH P (w.heap.size+1) 3 _:=t _ _ _ (Da Y4) (by decide) (by decide);have z6:FH P (w.heap.size+1+1) 26 _:=t _ _ _ (Da Y6) (by decide) (by decide);have z7:FH P i 217 _:=t _ _ _ (Da Y7) (by decide) (by decide);have H:Hid (Fr (D7 tb w) w P):=Fr.prog af.drew q2;have al:=Sq (o.map (·.2.l)) (fun m hm=>by obtain⟨y,hy,e⟩:=A2.1 hm;rw[<-e];exact ab y hy);rw[A7]at al;have aZ:D4 (o.map (·.2.l))<=400000000:=Ae al (by rw[N.1];omega);obtain⟨U,hU⟩:=ex (D4 (o.map (·.2.l)));rw[<-hU]at am aZ;have HU:=Db hU;have q:=Db N;have H5:=Db h5;have a4:=Db ab;clear q2 t al hU N aP h5 m2 ab;go_wp2_with fail;refine am.mono ?_;rintro e w6 ⟨rfl,l⟩;have t3:FH w6 w.heap.size 37 _:=(l.block _ z3.lt).trans z3;have t4:FH w6 (w.heap.size+1) 3 _:=(l.block _ z4.lt).trans z4;have u:FH w6 (w.heap.size+1+1) 26 _:=(l.block _ z6.lt).trans z6;have t7:FH w6 i 217 _:=(l.block _ z7.lt).trans z7;have c6:=u.cell 0;have f6:=u.frozen 0;clear am;by_cases aN:160<U
  ·have aO:(160:Int)<(U:Int):=by omega
   go_wp2;have d6:=u.set 0 (.int .i64 9);have a7:w.heap.size≠w.heap.size+1+1:=by omega
   have d3:=t3.setOther ⟨w.heap.size+1+1,0,none⟩ (.int .i64 9) (by show w.heap.size+1+1≠w.heap.size;omega);have d4:=t4.setOther ⟨w.heap.size+1+1,0,none⟩ (.int .i64 9) (by show w.heap.size+1+1≠w.heap.size+1;omega);have d7:=t7.setOther ⟨w.heap.size+1+1,0,none⟩ (.int .i64 9) (by show w.heap.size+1+1≠i;omega);have aa:=((Da H5).below l (Aa _)).setOther u (by omega) (by decide) 0 (.int .i64 9);have Y:=(((Da Q).dat _ (Da J)).prog (Da H)).kept (fun k d _=>l.block k d);have ah:=Y.setCell ⟨w.heap.size+1+1,0,none⟩ (.int .i64 9) (fun e=>by obtain⟨R,hR⟩:=Y.type e;have:=hR.type u;revert this;decide);refine leaves_cons (f:=230) (args := #[.pointer (some ⟨w.heap.size+1+1,0,none⟩),.pointer (some ⟨w.heap.size,0,none⟩),.pointer (some ⟨w.heap.size+1,0,none⟩),.pointer (some ⟨i,0,none⟩)]) (by simp) (by simp[go_sem]) ?_;refine(Vh _ _ _ _ .returning _ tb O V E F G o _ aa (by rw[(Da q).1];exact S) n ⟨K,r,L,c.f⟩ c (((Da q).2 _).2 (.inl rfl)) (C n) ah 9 (by simpa using d6) d3 d4 d7).mono ?_;rintro e u' w7 ⟨rfl,rfl,aj,az,ag⟩;have hc:=aj.cell 0;refine⟨.int .i64 9,by simp[results,Tryz.results189,go_sem,hc],?_⟩;rcases ag with⟨h0,_⟩|⟨_,aL,ap,aB⟩
   ·exact absurd h0 (by decide)
   ·have hC:(fun k=>if k=n then C n else (fun k=>if k=n then s else C k) k)=C:=by
     funext k
     by_cases d:k=n
     ·simp[d]
     ·simp[d]
    rw[hC]at ap;refine⟨((Da H).ext ((l.mono (Da H).size).setCell (p:=⟨w.heap.size+1+1,0,none⟩) (by show w.heap.size<=w.heap.size+1+1;omega) (.int .i64 9))).progTrans az,o,Da q,.inl ⟨rfl,by rw[<-Da HU];exact aN,aL,ap,aB.1.trans (Da q).1,fun x=>?_⟩⟩;rw[aB.2 x,(Da q).2 x];constructor
    ·rintro(rfl|⟨rfl|⟨B,_⟩,aS⟩)
     ·exact Da J
     ·exact absurd rfl aS
     ·exact B
    ·intro B;by_cases d:x.1=n
     ·left;have:x=(n,x.2):=by rw[<-d]
      rw[this]at B ⊢;rw[QS (Da Q).si.nd B (Da J)]
     ·exact .inr ⟨.inr ⟨B,d⟩,d⟩
  ·have aO:¬(160:Int)<(U:Int):=by omega
   go_wp2;have d6:=u.set 0 (.int .i64 0);have d3:=t3.setOther ⟨w.heap.size+1+1,0,none⟩ (.int .i64 0) (by show w.heap.size+1+1≠w.heap.size;omega);have d4:=t4.setOther ⟨w.heap.size+1+1,0,none⟩ (.int .i64 0) (by show w.heap.size+1+1≠w.heap.size+1;omega);have d7:=t7.setOther ⟨w.heap.size+1+1,0,none⟩ (.int .i64 0) (by show w.heap.size+1+1≠i;omega);have aa:=((Da H5).below l (Aa _)).setOther u (by omega) (by decide) 0 (.int .i64 0);have Y:=(((Da Q).dat _ (Da J)).prog (Da H)).kept (fun k d _=>l.block k d);have ah:=Y.setCell ⟨w.heap.size+1+1,0,none⟩ (.int .i64 0) (fun e=>by obtain⟨R,hR⟩:=Y.type e;have:=hR.type u;revert this;decide);refine leaves_cons (f:=230) (args := #[.pointer (some ⟨w.heap.size+1+1,0,none⟩),.pointer (some ⟨w.heap.size,0,none⟩),.pointer (some ⟨w.heap.size+1,0,none⟩),.pointer (some ⟨i,0,none⟩)]) (by simp) (by simp[go_sem]) ?_;refine(Vh _ _ _ _ .returning _ tb O V E F G o _ aa (by rw[(Da q).1];exact S) n ⟨K,r,L,c.f⟩ c (((Da q).2 _).2 (.inl rfl)) (C n) ah 0 (by simpa using d6) d3 d4 d7).mono ?_;rintro e u' w7 ⟨rfl,rfl,aj,az,ag⟩;have hc:=aj.cell 0;refine⟨.int .i64 0,by simp[results,Tryz.results189,go_sem,hc],?_⟩;rcases ag with⟨_,a2⟩|⟨h0,_⟩
   ·rw[a2];exact⟨(Da H).ext ((l.mono (Da H).size).setCell (p:=⟨w.heap.size+1+1,0,none⟩) (by show w.heap.size<=w.heap.size+1+1;omega) (.int .i64 0)),o,Da q,.inr ⟨rfl,by rw[<-Da HU];omega,aa⟩⟩
   ·exact absurd rfl h0

def Qq(name:By)(n:Nat):Value := .agg #[.string name,.bool true,.int .i64 (n:Int),.int .i64 1]
def Il(name:By)(n:Nat)(l:Int):Value := .agg #[.string name,.bool false,.int .i64 (n:Int),.int .i64 l]
theorem JQ{w:World}{b:Nat}{t:TypeId}{f g i j:Value}(h:FH w b t [f,g,i,j])(a c d e:Value):FH ((((w.setCell ⟨b,0,none⟩ a).setCell ⟨b,1,none⟩ c).setCell ⟨b,2,none⟩ d).setCell ⟨b,3,none⟩ e) b t [a,c,d,e]:=by
 have:=(((h.set 0 a).set 1 c).set 2 d).set 3 e
 simpa using this
theorem K6{w w1:World}{B b:Nat}(h:Below B w w1)(a:B<=b)(c d e f:Value):Below B w ((((w1.setCell ⟨b,0,none⟩ c).setCell ⟨b,1,none⟩ d).setCell ⟨b,2,none⟩ e).setCell ⟨b,3,none⟩ f):=
 (((h.setCell (p:=⟨b,0,none⟩) a _).setCell (p:=⟨b,1,none⟩) a _).setCell (p:=⟨b,2,none⟩) a _).setCell (p:=⟨b,3,none⟩) a _
theorem Zke(w:World)(tb B:Nat)(V:NV)(E:NS)(U:Value)(G:Gh)(I:LF)(C:IB)(h:TW w tb B V E U G I C)(K:F0 G)(L:G.length<=10000)(d:By)(O:d.size<=2000000)(ns:LY)(b:Nat)(l:FI G B ns b):
  Cl 180 #[.pointer (some ⟨tb,0,none⟩),.string d,.agg #[.pointer (some ⟨b,0,none⟩),.int .i64 0]] w fun e w'=>e = .returned (Qq d (G.countP (GF ns)))/\Bw w w':=by
 have HH:=Db h;have u:=h.d.len K l;have i:=fun (W:World) (hb:Bw w W)=>IY W b 0 (V b) (E b).length (Di (E b)) ((h.d.below hb (Aa _)).row ns b l |>.cell 0) ((h.d.below hb (Aa _)).sl ns b l)
 rw[u]at i;have M:G.countP (GF ns)<=10000:=Ae Bj L;obtain⟨c,t⟩:=ex (G.countP (GF ns));rw[<-t]at i M ⊢;have F:=Db i;clear i t u h;go_enter Tryz.func180,Tryz.ntmps180;go_wp2_with fail;obtain⟨H,o,A,N,y,q⟩:=De w [.pointer (some ⟨b,0,none⟩),.int .i64 0] 260;obtain⟨J,p,j,x,P,r⟩:=De H [.string ⟨#[]⟩,.bool false,.int .i64 0,.int .i64 0] 112;have k:Bw w J:=q.trans (r.mono (by omega));have n:=x _ _ _ A;rw[y]at j;rw[o,p];clear o p N x q r A;refine(Pr _ _ O).mono ?_;rintro e m ⟨rfl,g⟩;have D:FH m w.heap.size 260 _:=(g.block _ n.lt).trans n;have a:FH m (w.heap.size+1) 112 _:=(g.block _ j.lt).trans j;have s:Bw w m:=k.trans (g.mono k.size);have a0:=D.cell 0;have a1:=D.cell 1;have b0:=a.cell 0;have b1:=a.cell 1;have b2:=a.cell 2;have b3:=a.cell 3;have f0:=a.frozen 0;have f1:=a.frozen 1;have f2:=a.frozen 2;have f3:=a.frozen 3;clear n j k g y P;go_wp2_with (first|(go_at_call 178;refine(Da F _ s).mono ?_;rintro e w' ⟨rfl,z⟩;rw[z];clear z));have f:=JQ a (.string d) (.bool true) (.int .i64 (c:Int)) (.int .i64 1);have Q:=f.cell 0;have R:=f.cell 1;have S:=f.cell 2;have T:=f.cell 3;exact Aq (v:=Qq d c) (by simp[results,Tryz.results180,go_sem,Q,R,S,T,Qq]) rfl ⟨rfl,K6 s (EB _) _ _ _ _⟩
theorem Zkd(w:World)(tb Q:Nat)(V:NV)(E:NS)(R:Value)(G:Gh)(I:LF)(C:IB)(h:TW w tb Q V E R G I C)(Y:I.length<=10000)(m:By)(hn:m.size<=2000000)(n:Int)(r:VF)(M:(n,r)∈I):
  Cl 180 #[.pointer (some ⟨tb,0,none⟩),.string m,.agg #[.pointer none,.int .i64 n]] w fun e w'=>e = .returned (Il m r.l r.f)/\Bw w w':=by
 have B:Hid (∀W,Bw w W->_):=fun W Z=>QQ W tb Q V E R G I C (h.below Z (Aa _)) Y n r M
 clear h M;go_enter Tryz.func180,Tryz.ntmps180;go_wp2_with fail;obtain⟨T,F,P,ab,O,J⟩:=De w [.pointer none,.int .i64 n] 260;obtain⟨U,H,s,N,ag,K⟩:=De T [.string ⟨#[]⟩,.bool false,.int .i64 0,.int .i64 0] 112;have x:Bw w U:=J.trans (K.mono (by omega));have y:=N _ _ _ P;rw[O]at s;rw[F,H];clear F H ab N J K P;refine(Pr _ _ hn).mono ?_;rintro e a ⟨rfl,c⟩;have A:FH a w.heap.size 260 _:=(c.block _ y.lt).trans y;have S:FH a (w.heap.size+1) 112 _:=(c.block _ s.lt).trans s;have j:Bw w a:=x.trans (c.mono x.size);have a0:=A.cell 0;have X:=A.cell 1;have ad:w.heap.size+1<a.heap.size:=S.lt;have ae:¬a.heap.size=w.heap.size:=by omega
 have af:¬w.heap.size=a.heap.size:=by omega
 have u:=j.drew;clear y s x c O ag;go_upto_region 4 with fail
 go_region_held3 (fun W=>W.cell? ⟨w.heap.size,1,none⟩=some (.int .i64 n)) (go_keep)
  (first|(go_at_call 175;refine(Da B _ (by first|exact j.drew|exact u.alloc u.size _|exact(j.alloc j.size _).drew)).mono ?_;rintro e w' ⟨rfl,q⟩;have c:Bw a w':=(by first|exact((Ag _ a).drew).trans (q.mono (by simp))|exact(((Ag _ a).alloc (Aa _) _).drew).trans (q.mono (by simp)));have m0:=(c.cell (p:=⟨w.heap.size,1,none⟩) (by show w.heap.size<a.heap.size;omega)).trans X;(try(have z:FH w' a.heap.size 217 [.slice none 0 0,.int .i64 0]:=(q.block a.heap.size (by simp)).trans (Jj a [.slice none 0 0,.int .i64 0] 217);have z0:=z.cell 0;have A:=z.cell 1;have ai:=z.frozen 0;have aj:=z.frozen 1))))
 case' refine_2.refine_3.refine_3.refine_3.refine_3.refine_3.refine_1.refine_2.refine_3.refine_3.refine_3.refine_1.refine_2.refine_1.refine_2.refine_3=>
  obtain⟨g,l,f,ac,ah,L⟩:=De w' [.slice r.a r.l r.c,.int .i64 r.f] 217;rw[l];have k:Bw a g:=c.trans (L.mono c.size);have D:a.heap.size<=w'.heap.size:=c.size;obtain⟨t,i⟩:∃b,b=w'.heap.size:=⟨_,rfl⟩;rw[<-i]at f D ⊢;clear l ac ah L i
 case' refine_2.refine_3.refine_3.refine_3.refine_3.refine_3.refine_2.refine_1.refine_2.refine_1.refine_2.refine_3.refine_3.refine_3.refine_1.refine_2.refine_3=>
  have f:FH ((w'.setCell ⟨a.heap.size,0,none⟩ (.slice r.a r.l r.c)).setCell ⟨a.heap.size,1,none⟩ (.int .i64 r.f)) a.heap.size 217 [.slice r.a r.l r.c,.int .i64 r.f]:=by
   have:=(z.set 0 (.slice r.a r.l r.c)).set 1 (.int .i64 r.f)
   simpa using this
  have k:Bw a ((w'.setCell ⟨a.heap.size,0,none⟩ (.slice r.a r.l r.c)).setCell ⟨a.heap.size,1,none⟩ (.int .i64 r.f)):=(c.setCell (p:=⟨a.heap.size,0,none⟩) (Aa _) _).setCell (p:=⟨a.heap.size,1,none⟩) (Aa _) _;obtain⟨g,l⟩:∃g,(w'.setCell ⟨a.heap.size,0,none⟩ (.slice r.a r.l r.c)).setCell ⟨a.heap.size,1,none⟩ (.int .i64 r.f)=g:=⟨_,rfl⟩;rw[l]at f k ⊢;obtain⟨t,i⟩:∃b,b=a.heap.size:=⟨_,rfl⟩;have D:a.heap.size<=t:=by omega
  rw[<-i]at f;rw[show(Value.pointer (some { block:=a.heap.size,off:=0 }))=Value.pointer (some { block:=t,off:=0 }) by rw[i]];clear l i
 all_goals
  have d:FH g (w.heap.size+1) 112 _:=(k.block _ ad).trans S;have aa:Bw w g:=j.trans (k.mono j.size);have b0:=d.cell 0;have b1:=d.cell 1;have b2:=d.cell 2;have b3:=d.cell 3;have f0:=d.frozen 0;have f1:=d.frozen 1;have f2:=d.frozen 2;have f3:=d.frozen 3;have c0:=f.cell 0;have c1:=f.cell 1;clear ae af u q c m0 k B f;go_wp2;have o:=JQ d (.string m) (.bool false) (.int .i64 (r.l:Int)) (.int .i64 r.f);have r0:=o.cell 0;have r1:=o.cell 1;have r2:=o.cell 2;have r3:=o.cell 3;exact Aq (v:=Il m r.l r.f) (by simp[results,Tryz.results180,go_sem,r0,r1,r2,r3,Il]) rfl ⟨rfl,K6 aa (EB _) _ _ _ _⟩
def KW(G:Gh)(I:LF)(ns:LY)(name:By)(u:VS)(v:Value):Prop:=
 (u.p.isSome=true/\v=Qq name (G.countP (GF ns)))\/(u.p=none/\∃r,(u.f,r)∈I/\v=Il name r.l r.f)
theorem TA(w:World)(tb c:Nat)(V:NV)(E:NS)(g:Value)(G:Gh)(I:LF)(C:IB)(h:TW w tb c V E g G I C)(l:F0 G)(m:G.length<=10000)(n:I.length<=10000)(k:Hx G I)(a:By)(j:a.size<=2000000)(ns:LY)(u:VS)
  (p:(∃b,u=⟨some ⟨b,0,none⟩,0⟩/\FI G c ns b)\/(u.p=none/\∃x∈G,x.2=u)):
  Cl 180 #[.pointer (some ⟨tb,0,none⟩),.string a,.agg #[.pointer u.p,.int .i64 u.f]] w fun e w'=>∃v,e = .returned v/\KW G I ns a u v/\Bw w w':=by
 rcases p with⟨b,rfl,o⟩|⟨f,x,q,rfl⟩
 ·refine(Zke w tb c V E g G I C h l m a j ns b o).mono ?_;rintro e w' ⟨rfl,d⟩;exact⟨_,rfl,.inl ⟨rfl,rfl⟩,d⟩
 ·obtain⟨r,i,_,_⟩:=k x q f;rw[f];refine(Zkd w tb c V E g G I C h n a j x.2.f r i).mono ?_;rintro e w' ⟨rfl,d⟩;exact⟨_,rfl,.inr ⟨f,r,i,rfl⟩,d⟩
theorem PN{G:Gh}{I:LF}{ns:LY}{a:By}{u:VS}{v:Value}(h:KW G I ns a u v):∃b c d,v = .agg #[.string a,.bool b,.int .i64 c,.int .i64 d]:=by
 rcases h with⟨_,rfl⟩|⟨_,r,_,rfl⟩
 ·exact⟨_,_,_,rfl⟩
 ·exact⟨_,_,_,rfl⟩
def N9(w:World)(G:Gh)(I:LF)(p:By)(e:Ending)(w':World):Prop:=
 ((GB G p≠0/\e = .returned (.tuple #[Kw,.int .i64 (GB G p)]))\/
  (GB G p=0/\∃v,((Dc p=[]/\v=Qq ⟨#[]⟩ (G.countP (GF [])))\/∃ds n u,Dc p=ds++[n]/\FQ G (Dc p)=some u/\KW G I (Dc p) n u v)/\e = .returned (.tuple #[v,.int .i64 0])))/\Bw w w'
theorem Zkg(w:World)(tb L:Nat)(V:NV)(E:NS)(M:Value)(G:Gh)(I:LF)(C:IB)(h:TW w tb L V E M G I C)(T:F0 G)(U:G.length<=10000)(ah:I.length<=10000)(S:Hx G I)(p:By)(x:p.size<=2000000):
  Cl 121 #[.pointer (some ⟨tb,0,none⟩),.string p] w (N9 w G I p):=by
 have A:∀o,Bw w (w.alloc o):=fun o=>(Ag _ _).alloc (Aa _) o
 have ac:=fun o=>PD (w.alloc o) tb L V E M G I C (h.below (A o) (Aa _)) T U p x
 have O:=Db (Jj w [.string ⟨#[]⟩,.bool false,.int .i64 0,.int .i64 0] 112);have N:=Db h;have ad:=Db S;clear h S;go_enter Tryz.func121,Tryz.ntmps121;go_wp2_with fail;refine(ac _).mono ?_;rintro e w1 ⟨ak,B⟩;have j:Bw w w1:=(A _).trans (B.mono (by simp));have t:FH w1 w.heap.size 112 _:=(B.block _ (by simp)).trans (Da O);have an:w.heap.size<w1.heap.size:=t.lt;clear ac A B O;rcases ak with⟨s,rfl⟩|⟨Z,aa,d,n,u,y,rfl⟩
 ·have ae:=Db s;have ao:(GB G p != 0)=true:=by simpa using s
  clear s;unfold DE Dn;go_upto_if 15 with fail;obtain⟨W,l,i,r,al,q⟩:=De w1 Qs 262;have a:=r _ _ _ t;have m:Bw w W:=j.trans (q.mono j.size);rw[l];clear l t j r q;have b0:=a.cell 0;have b1:=a.cell 1;have b2:=a.cell 2;have b3:=a.cell 3;have g0:=a.frozen 0;have g1:=a.frozen 1;have g2:=a.frozen 2;have g3:=a.frozen 3;go_wp2;have c:=JQ a (.string ⟨#[]⟩) (.bool false) (.int .i64 0) (.int .i64 0);have F:=c.cell 0;have H:=c.cell 1;have J:=c.cell 2;have K:=c.cell 3;exact Aq (v := .tuple #[Kw,.int .i64 (GB G p)]) (by simp[results,Tryz.results121,go_sem,F,H,J,K,Kw]) rfl
   ⟨.inl ⟨Da ae,rfl⟩,K6 m (Aa _) _ _ _ _⟩
 ·have P:=Db y;have HE:=Db Z;have Y:=Np (Da N).d y;have aj:n.size<=2000000:=by
   rcases y with⟨_,_,rfl,_⟩|⟨ds,db,g,_⟩
   ·exact Aw _
   ·exact TS aa g
  clear y Z aa;unfold Dn;go_upto_if 15 with fail;obtain⟨W,l,i,r,al,q⟩:=De w1 (Ji d n true u) 262;have a:=r _ _ _ t;have m:Bw w W:=j.trans (q.mono j.size);rw[l];clear l t j r q;have a0:=i.cell 0;have a1:=i.cell 1;have a2:=i.cell 2;have a3:=i.cell 3;have a4:=i.cell 4;have ab:=TA W tb L V E M G I C ((Da N).below m (Aa _)) T U ah (Da ad) n aj (Dc p) u (by
   rcases Y with⟨g,_⟩|⟨_,_,z,k⟩|⟨_,b,z,k,_⟩
   ·cases g
   ·exact .inr ⟨k,_,Ko z,rfl⟩
   ·exact .inl ⟨b,z,k⟩)
  have Q:=Db ab;clear ab Y;go_wp2_with fail;refine(Da Q).mono ?_;rintro e w3 ⟨v,rfl,D,X⟩;obtain⟨vb,vc,vd,rfl⟩:=PN D;have f:FH w3 w.heap.size 112 _:=(X.block _ a.lt).trans a;have ai:Bw w w3:=m.trans (X.mono m.size);have b0:=f.cell 0;have b1:=f.cell 1;have b2:=f.cell 2;have b3:=f.cell 3;have g0:=f.frozen 0;have g1:=f.frozen 1;have g2:=f.frozen 2;have g3:=f.frozen 3;have R:=Db D;clear D Q a i;go_wp2;have c:=JQ f (.string n) (.bool vb) (.int .i64 vc) (.int .i64 vd);have F:=c.cell 0;have H:=c.cell 1;have J:=c.cell 2;have K:=c.cell 3;refine Aq (v := .tuple #[.agg #[.string n,.bool vb,.int .i64 vc,.int .i64 vd],.int .i64 0]) (by simp[results,Tryz.results121,go_sem,F,H,J,K]) rfl
   ⟨.inr ⟨Da HE,_,?_,rfl⟩,K6 ai (Aa _) _ _ _ _⟩
  rcases Da P with⟨g,_,k,_,h5⟩|⟨ds,db,g,_⟩
  ·refine .inl ⟨g,?_⟩;rcases Da R with⟨_,e⟩|⟨x,_⟩
   ·rw[e,g,k]
   ·rw[h5]at x;cases x
  ·have s:Dc p≠[]:=by rw[g];simp
   obtain⟨af,am,ag,_,_,h4⟩:=(Da P).in s;exact .inr ⟨af,n,u,ag,h4,Da R⟩
theorem FH.prog{tb:Nat}{w w':World}{k:Nat}{t:TypeId}{R:LV}(h:FH w k t R)(b:Fr (D7 tb w) w w')(c:¬(t=214\/t=229\/t=310\/t=293)):FH w' k t R:=
 h.fr b (fun ⟨⟨t',R',a,d⟩,_⟩=>c (by rw[h.type a];exact d))
theorem V5(A K M L:Nat)(u:FrameMode)(w:World)(tb z:Nat)(V:NV)(E:NS)(vi:Value)(G:Gh)(I:LF)(C:IB)(h:TW w tb z V E vi G I C)(S:F0 G)(ac:G.length<=10000)(ad:I.length<=10000)(b:LY)(a:Nat)(c:FI G z b a)(n:By)(t:Bool)(Z:VS)(f:Int)(ah:(b++[n],(⟨none,f⟩:VS))∈G)(r:VF)(ag:(f,r)∈I)(hr:r.f=1)(d:Int)
  (q:FH w A 26 [.int .i64 d]) (j:FH w K 262 (Ji (some ⟨a,0,none⟩) n t Z)) (Q:FH w M 37 [.pointer (some ⟨tb,0,none⟩)]) (P:FH w L 3 [.int .i64 f]):
  CallsD Tryz.prog 229 #[.pointer (some ⟨A,0,none⟩),.pointer (some ⟨K,0,none⟩),.pointer (some ⟨M,0,none⟩),.pointer (some ⟨L,0,none⟩)] u w fun e u' w'=>u'=u/\(e = .returned (.tuple #[])/\FH w' A 26 [.int .i64 d]/\Fr (D7 tb w) w w'/\((d=0/\w'=w)\/(d≠0/\∃V' E' H p,TW w' tb z V' E' H (Ik G (b++[n])) p C/\Lq I p f))):=by
 have a0:=q.cell 0;by_cases l:d=0
 ·have af:(d != 0)=false:=by simpa using l
  go_enter_d Tryz.func229,Tryz.ntmps229
  go_wp2
  go_end0
  exact⟨rfl,q,Fr.refl _ _,.inl ⟨l,rfl⟩⟩
 ·have af:(d != 0)=true:=by simpa using l
  have U:(n,(⟨none,f⟩:VS))∈E a:=(h.d.en b a c n _).2 ah;have F:=Z9 w a n t Z ⟨none,f⟩ (V a) (E a) (h.d.row b a c) (h.d.sl b a c) (Ae (h.d.le S c) ac) (h.d.srt b a c) U;unfold Dn at F;have N:=Db F;have HH:=Db h;have HA:=Db l;have c0:=j.cell 0;have c1:=j.cell 1;have c2:=j.cell 2;have c3:=j.cell 3;have c4:=j.cell 4;have H8:=Db q;have H4:=Db Q;have aa:=Db P;clear F h U l q Q P
  go_enter_d Tryz.func229,Tryz.ntmps229
  go_wp2_with fail;refine(Da N).mono ?_;rintro e J ⟨rfl,v',ak,y,i,m,q4,X,Y,o⟩;have g:=Da HH;have v:=g.d.row b a c;have x:=g.d.sl b a c;have s:∀k t R,FH w k t R->t≠229->t≠310->FH J k t R:=fun k t R D B h2=>D.fr o (fun e=>by
   rcases e with rfl|e
   ·exact B (D.type v)
   ·obtain⟨R',ae⟩:=x.type e;exact h2 (D.type ae))
  have T:=TW.dirs g v x o (g.d.del S c (G':=Ik G (b++[n])) (n:=n) (SU G _) y i m X Y o);have W:=ZiA J tb z _ _ vi (Ik G (b++[n])) I C T ad f r ag (by omega) (by omega);have O:=Db W;have ab:Hid (Fr (D7 tb w) w J):=Fr.progOne (g.dlo c) v x o;have k8:=s _ _ _ (Da H8) (by decide) (by decide);have k4:=s _ _ _ (Da H4) (by decide) (by decide);have ai:=s _ _ _ (Da aa) (by decide) (by decide);have d4:=k4.cell 0;have aj:=ai.cell 0;clear g v x s T W y i m q4 X Y o N c0 c1 c2 c3 c4;go_wp2_with fail;refine(Da O).mono ?_;rintro e w3 ⟨rfl,⟨H,p,y,i⟩,m⟩;clear O;go_wp2
  go_end0
  refine⟨rfl,k8.prog m (by decide),(Da ab).progTrans m,.inr ⟨Da HA,_,_,H,p,y,?_⟩⟩;rcases i with⟨_,i⟩|⟨B,_⟩
  ·exact i
  ·exact absurd hr B
def Mb(s:By)(i:Int)(d:By):By:=if d.size=0 then s else Ix s i.toNat d
def MM(w:World)(tb:Nat)(G:Gh)(I:LF)(C:IB)(ns:LY)(f:Int)(r:VF)(s:By)(e:Ending)(w':World):Prop:=
 Fr (D7 tb w) w w'/\∃(I1 I2:LF),I1.length=I.length+1/\(∀x,x∈I1↔x=(f,⟨none,0,0,1⟩)\/x∈I)/\FX I1 I2 f r/\
  ((e = .returned (.int .i64 9)/\160<D4 (I2.map (·.2.l))/\∃I3 C3,PS w' tb G I3 C3/\I3.length=I.length/\(∀x,x∈I3↔x∈I)/\∀x∈I,C3 x.1=C x.1)\/
   (e = .returned (.int .i64 0)/\D4 (I2.map (·.2.l))<=160/\∃C2,PS w' tb (G++[(ns,⟨none,f⟩)]) I2 C2/\C2 f=s/\∀x∈I,C2 x.1=C x.1))
theorem ZkC(w:World)(tb g:Nat)(V:NV)(E:NS)(i:Value)(G:Gh)(I:LF)(C:IB)(h:TW w tb g V E i G I C)(j:I.length<=10000)(o:∀x∈I,x.2.l<=2000000)(n:Int)(f:VF)(m:(n,f)∈I)(b:OA)(a c:Nat)(l:a<=2000000)(s:By)(k:Sl w 5 1 (.slice b a c) a (Dd s)):
  Cl 189 #[.pointer (some ⟨tb,0,none⟩),.int .i64 n,.slice b a c] w fun e w'=>∃x:Int,e = .returned (.int .i64 x)/\S9 w tb g V E i G I C n ⟨b,a,c,f.f⟩ s (.returned (.int .i64 x)) w':=by
 refine(Za w tb g V E i G I C h j o n f m b a c l s k).mono ?_;intro e w' d;have p:=d;obtain⟨_,I',_,⟨rfl,_⟩|⟨rfl,_⟩⟩:=p
 ·exact⟨_,rfl,d⟩
 ·exact⟨_,rfl,d⟩
theorem F0.add{G:Gh}(h:F0 G){ns:LY}(o:Ga ns)(p:ns≠[])(m:ns.length<=6)(k:FQ G ns=none)(q:∀d n,ns=d++[n]->d=[]\/∃v,(d,v)∈G/\v.p.isSome=true)(u:VS):F0 (G++[(ns,u)]):=by
 refine⟨fun x c=>?_,fun x c=>?_,fun x c=>?_,?_,fun d n v c=>?_⟩
 ·rcases As.1 c with c|c
  ·exact h.nms x c
  ·rw[Av.1 c];exact o
 ·rcases As.1 c with c|c
  ·exact h.ne x c
  ·rw[Av.1 c];exact p
 ·rcases As.1 c with c|c
  ·exact h.le x c
  ·rw[Av.1 c];exact m
 ·rw[Bo,FF];refine⟨h.nd,by simp,fun a j b l=>?_⟩;obtain⟨x,c,rfl⟩:=A2.1 j;obtain rfl:b=ns:=by simpa using l
  intro e;exact Uq k x.2 (by rw[<-e];exact c)
 ·rcases As.1 c with c|c
  ·rcases h.up d n v c with e|⟨i,g,f⟩
   ·exact .inl e
   ·exact .inr ⟨i,BM _ g,f⟩
  ·have e:=(Eg (Av.1 c)).1;rcases q d n e.symm with e|⟨i,g,f⟩
   ·exact .inl e
   ·exact .inr ⟨i,BM _ g,f⟩
theorem FI.up{G:Gh}{c:Nat}{a:LY}{b:Nat}(h:FI G c a b):a=[]\/∃v,(a,v)∈G/\v.p.isSome=true:=by
 rcases h with⟨rfl,_⟩|h
 ·exact .inl rfl
 ·exact .inr ⟨_,h,rfl⟩
theorem Zg4{P:Program}{fn:Func}{R:Ending->World->Prop}{tmps:Array Value}{w:World}(h:Leaves P fn tmps R [] .returning w):bodyPostD P fn R Exit.ret { tmps:=tmps,defers:=[] } w:=h
theorem ZgG(w:World)(tb d:Nat)(V:NV)(E:NS)(vi:Value)(G:Gh)(I:LF)(C:IB)(h:TW w tb d V E vi G I C)(hG:F0 G)(bl:G.length<=9000)(bm:I.length<=9000)(aO:∀x∈I,x.2.l<=2000000)(a:LY)(g:Nat)(af:FI G d a g)(n:By)(hn:n.size<=2000000)(J:Ga (a++[n])/\(a++[n]).length<=6)(aA:FQ G (a++[n])=none)(f:Int)(hf:∀x∈I,x.1≠f)(r:OA)(i t:Nat)(a8:i<=2000000)(s:By)(aH:Sl w 5 1 (.slice r i t) i (Dd s)):
  Cl 185 #[.pointer (some ⟨tb,0,none⟩),Dn (some ⟨g,0,none⟩) n false ⟨none,0⟩,.int .i64 f,.slice r i t] w fun e w'=>(Ja G I a=false/\e = .returned (.int .i64 8)/\Bw w w')\/(Ja G I a=true/\(∃x:Int,e = .returned (.int .i64 x))/\MM w tb G I C (a++[n]) f ⟨r,i,t,1⟩ s e w'):=by
 have bn:∀(fn:Fn) (first cap:Array Value) (w:World),(Instr.makeFunc fn first cap).run Tryz.prog w = .ok (.func fn first cap) w:=fun _ _ _ _=>rfl
 unfold Dn;obtain⟨W1,aw,aT,bc,U,aB⟩:=De w [.pointer (some ⟨tb,0,none⟩)] 37;obtain⟨W2,ax,aU,aN,ak,aC⟩:=De W1 (Ji (some ⟨g,0,none⟩) n false ⟨none,0⟩) 262;obtain⟨W3,ay,aV,ah,aS,aD⟩:=De W2 [.int .i64 f] 3;obtain⟨W4,az,aW,T,bf,aE⟩:=De W3 [.int .i64 0] 26;have S:Bw w W4:=((aB.trans (aC.mono (by omega))).trans (aD.mono (by omega))).trans (aE.mono (by omega));have y4:=T _ _ _ (ah _ _ _ (aN _ _ _ aT));have L:=T _ _ _ (ah _ _ _ aU);have y6:=T _ _ _ aV;have y8:=aW;rw[U]at L;rw[ak,U]at y6;rw[aS,ak,U]at y8;have aP:=V3 W4 tb d V E vi G I C (h.below S (Aa _)) hG (by omega) (by omega) a g af;have ap:=Db aP;have HH:=Db h;have HD:=Db aH;have a1:=Db aO;have HF:=Db hf;have ab:=Db af;have aa:=Db aA;have a2:=Db J;have HW:Hid ((((w.alloc (.cells #[.pointer (some ⟨tb,0,none⟩)] 37)).alloc (.cells #[.pointer (some ⟨g,0,none⟩),.string n,.bool false,.pointer none,.int .i64 0] 262)).alloc (.cells #[.int .i64 f] 3)).alloc (.cells #[.int .i64 0] 26)=W4):=by
  show _=_;rw[<-az,<-ay,<-ax,<-aw]
 clear h aH aO hf af aA J aP aw ax ay az aT aU aV aW bc aN ah T aB aC aD aE U ak aS bf
 go_enter_defers Tryz.func185,Tryz.ntmps185
 go_upto_region 1 with fail;rw[Da HW];clear HW;have a4:=y4.cell 0;have a5:=L.cell 0;go_wp2_with fail;refine(Da ap).mono ?_;rintro e b ⟨rfl,u⟩;have x4:FH b w.heap.size 37 _:=(u.block _ y4.lt).trans y4;have x5:FH b (w.heap.size+1) 262 _:=(u.block _ L.lt).trans L;have x6:FH b (w.heap.size+1+1) 3 _:=(u.block _ y6.lt).trans y6;have K:FH b (w.heap.size+1+1+1) 26 _:=(u.block _ y8.lt).trans y8;have H:Bw w b:=S.trans (u.mono S.size);rw[show decide ((G.countP (GF a)<20/\G.length<100)/\cD G []+I.length<60)=Ja G I a from rfl];clear ap a4 a5 y4 L y6 y8 u S
 cases hmb:Ja G I a with
 | false=>
  have c8:=K.cell 0;have f8:=K.frozen 0;go_wp2;have F:=(K.set 0 (.int .i64 8)).cell 0;refine Zg4 ?_;exact⟨.int .i64 8,by simp[results,Tryz.results185,go_sem]at F ⊢;simp[F],.inl ⟨hmb,rfl,H.setCell (p:=⟨w.heap.size+1+1+1,0,none⟩) (by show w.heap.size<=w.heap.size+1+1+1;omega) _⟩⟩
 | true=>
  have aq:Hid (∀X,Bw b X->Cl 228 #[.pointer (some ⟨tb,1,none⟩),.int .i64 f,.agg #[.slice none 0 0,.int .i64 1]] X fun e w'=>e = .returned (.tuple #[])/\(∃A D,TW w' tb d V E A G D (fun k=>if k=f then ⟨#[]⟩ else C k)/\D.length=I.length+1/\∀x,x∈D↔x=(f,⟨none,0,0,1⟩)\/x∈I)/\Fr (D7 tb b) b w'):=fun X hb=>by
   have hX:=(Da HH).below (H.trans (hb.mono H.size)) (Aa _);refine(ZiI X tb d V E vi G I C hX (by omega) f ⟨none,0,0,1⟩ (Da HF) ⟨#[]⟩ ⟨rfl,.inl ⟨rfl,rfl⟩⟩).mono ?_;rintro e w' ⟨rfl,⟨A,D,Y,Z,q3⟩,q4⟩;exact⟨rfl,⟨A,D,Y,Z,q3⟩,Fr.prog hb (Fr.progI hX q4)⟩
  have a4:=x4.cell 0;have a6:=x6.cell 0;have X4:=Db x4;have X5:=Db x5;have X6:=Db x6;have X8:=Db K;have aG:Bw b b:=Ag _ _;have aF:Bw b b.drew:=aG.drew;clear x4 x5 x6 K;go_upto_region 3 with fail
  go_region_held3 (fun W=>W.cell? ⟨w.heap.size,0,none⟩=some (.pointer (some ⟨tb,0,none⟩))/\W.cell? ⟨w.heap.size+1+1,0,none⟩=some (.int .i64 f)) (go_keep)
   (first|(go_at_call 228;refine(Da aq _ aF).mono ?_;rintro e w6 ⟨rfl,⟨A,q,Y,Z,q3⟩,l⟩;have m4:=((Da X4).prog l (by decide)).cell 0;have m6:=((Da X6).prog l (by decide)).cell 0))
  all_goals
   have z4:=(Da X4).prog l (by decide);have o:=(Da X5).prog l (by decide);have z6:=(Da X6).prog l (by decide);have z8:=(Da X8).prog l (by decide);have ag:=S2 w6 tb d V E A G q _ Y hG (by omega) (by omega) a g (Da ab) n hn (Da aa) f;unfold Dn at ag;have al:=Db ag;have B:=Db q3;have M:=Db Z;have an:=Db l;have b0:=o.cell 0;have b1:=o.cell 1;have b2:=o.cell 2;have b3:=o.cell 3;have b4:=o.cell 4;clear ag Y Z q3 l aq X4 X5 X6 X8 a4 a6 m4 m6 aG aF;have a6:=z6.cell 0;go_wp2_with fail;refine(Da al).mono ?_;rintro e w7 ⟨rfl,V',E',h7,m⟩;have s4:=z4.prog m (by decide);have s5:=o.prog m (by decide);have s6:=z6.prog m (by decide);have s8:=z8.prog m (by decide);have aZ:Hid (Fr (D7 tb w) w w7):=(Fr.prog H (Da an)).progTrans m;have aY:Hid (Sl w7 5 1 (.slice r i t) i (Dd s)):=(((Da HD).kept (fun k hk _=>H.block k hk)).prog (Da an)).prog m;have HT:=Db h7;have ao:Hid ((f,(⟨none,0,0,1⟩:VF))∈q):=(Da B _).2 (.inl rfl);have ae:q.length<=10000:=by have:=Da M;omega
   have aJ:=ZkC w7 tb d V' E' A _ q _ h7 ae (fun x hx=>by
    rcases (Da B x).1 hx with rfl|hx
    ·exact Aw _
    ·exact Da a1 x hx) f ⟨none,0,0,1⟩ (Da ao) r i t a8 s (Da aY)
   have am:=Db aJ;have c4:=s4.cell 0;have c6:=s6.cell 0;have S4:=Db s4;have S5:=Db s5;have S6:=Db s6;have S8:=Db s8;clear aJ h7 m al b0 b1 b2 b3 b4 a6 z4 o z6 z8 s4 s5 s6 s8;go_wp2_with fail;refine(Da am).mono ?_;rintro e w8 ⟨x,rfl,hq⟩;obtain⟨z,I2,aM,v⟩:=hq;have O:=(Da S4).prog z (by decide);have P:=(Da S5).prog z (by decide);have Q:=(Da S6).prog z (by decide);have j:=(Da S8).prog z (by decide);have k8:=j.cell 0;have f8:=j.frozen 0;have a0:=Db z;have aX:=Db v;have N:=Db aM;have G4:=Db O;have G5:=Db P;have G6:=Db Q;have G8:=Db j;clear z v aM am c4 c6 S4 S5 S6 S8 O P Q j;go_wp2;have O:=Da G4;have P:=Da G5;have Q:=Da G6;have j:=Da G8;have ar:Fr (D7 tb w) w (w8.setCell ⟨w.heap.size+1+1+1,0,none⟩ (.int .i64 x)):=((Da aZ).progTrans (Da a0)).ext ((Ag _ _).setCell (p:=⟨w.heap.size+1+1+1,0,none⟩) (by show w.heap.size<=w.heap.size+1+1+1;omega) _);have F:=j.set 0 (.int .i64 x);have d4:=O.setOther ⟨w.heap.size+1+1+1,0,none⟩ (.int .i64 x) (by show w.heap.size+1+1+1≠w.heap.size;omega);have d5:=P.setOther ⟨w.heap.size+1+1+1,0,none⟩ (.int .i64 x) (by show w.heap.size+1+1+1≠w.heap.size+1;omega);have d6:=Q.setOther ⟨w.heap.size+1+1+1,0,none⟩ (.int .i64 x) (by show w.heap.size+1+1+1≠w.heap.size+1+1;omega);have J:=Da a2;have au:F0 (G++[(a++[n],(⟨none,f⟩:VS))]):=hG.add J.1 (by simp) J.2 (Da aa) (fun bk n' e=>by obtain⟨rfl,rfl⟩:=Qw e;exact(Da ab).up) _;have av:(G++[(a++[n],(⟨none,f⟩:VS))]).length<=10000:=by simp;omega
   have aI:FI (G++[(a++[n],(⟨none,f⟩:VS))]) d a g:=(Da ab).elim .inl (fun h => .inr (BM _ h));have aR:(a++[n],(⟨none,f⟩:VS))∈G++[(a++[n],(⟨none,f⟩:VS))]:=by simp
   have a9:∀y,y∈G↔y∈Ik (G++[(a++[n],(⟨none,f⟩:VS))]) (a++[n]):=fun y=>by
    rw[SU,As,Av];constructor
    ·intro c;exact⟨.inl c,fun e=>Uq (G:=G) (ns:=a++[n]) (Da aa) y.2 (by rw[<-e];exact c)⟩
    ·rintro⟨c|rfl,ai⟩
     ·exact c
     ·exact absurd rfl ai
   have ac:w.heap.size+1+1+1≠0:=by omega
   have ad:=Da HF;refine leaves_cons (f:=229) (args := #[.pointer (some ⟨w.heap.size+1+1+1,0,none⟩),.pointer (some ⟨w.heap.size+1,0,none⟩),.pointer (some ⟨w.heap.size,0,none⟩),.pointer (some ⟨w.heap.size+1+1,0,none⟩)]) (by simp) (by simp[go_sem]) ?_;rcases Da aX with⟨e9,bb,a3,R,bd,aQ⟩|⟨e0,be,R⟩
   ·have bi:x=9:=by simpa using e9
    subst bi;refine(V5 _ _ _ _ .returning _ tb d _ _ _ _ a3 _ (R.setOther j ac (by decide) 0 (.int .i64 9)) au av (by rw[bd];exact ae) a g aI n false ⟨none,0⟩ f aR ⟨none,0,0,1⟩ ((aQ _).2 (Da ao)) rfl 9 (by simpa using F) d5 d4 d6).mono ?_;rintro e u' w9 ⟨rfl,rfl,aj,aK,v⟩;have hc:=aj.cell 0;refine⟨.int .i64 9,by simp[results,Tryz.results185,go_sem,hc],?_⟩;rcases v with⟨h0,_⟩|⟨_,V7,E7,bj,I7,a7,aL⟩
    ·exact absurd h0 (by decide)
    ·refine .inr ⟨hmb,⟨_,rfl⟩,ar.progTrans aK,q,I2,Da M,Da B,Da N,.inl ⟨rfl,bb,I7,_,⟨d,V7,E7,bj,a7.congrG a9⟩,?_,fun y=>?_,fun y c=>if_neg (ad y c)⟩⟩
     ·have h1:=aL.1;have h2:=Da M;omega
     ·rw[aL.2 y,aQ y,Da B y];constructor
      ·rintro⟨rfl|c,ai⟩
       ·exact absurd rfl ai
       ·exact c
      ·intro c;exact⟨.inr c,ad y c⟩
   ·have bh:x=0:=by simpa using e0
    subst bh;refine(V5 _ _ _ _ .returning _ tb d _ _ _ _ I2 _ (R.setOther j ac (by decide) 0 (.int .i64 0)) au av (by rw[(Da N).1];exact ae) a g aI n false ⟨none,0⟩ f aR ⟨r,i,t,1⟩ (((Da N).2 _).2 (.inl rfl)) rfl 0 (by simpa using F) d5 d4 d6).mono ?_;rintro e u' w9 ⟨rfl,rfl,aj,aK,v⟩;have hc:=aj.cell 0;refine⟨.int .i64 0,by simp[results,Tryz.results185,go_sem,hc],?_⟩;rcases v with⟨_,bg⟩|⟨h0,_⟩
    ·rw[bg];refine .inr ⟨hmb,⟨_,rfl⟩,ar,q,I2,Da M,Da B,Da N,.inr ⟨rfl,be,_,⟨d,_,_,_,R.setOther j ac (by decide) 0 (.int .i64 0)⟩,by simp,fun y c=>?_⟩⟩;simp[ad y c]
    ·exact absurd rfl h0


end Go.Proofs.YtaieidcohdhgpaaGreatDoor
