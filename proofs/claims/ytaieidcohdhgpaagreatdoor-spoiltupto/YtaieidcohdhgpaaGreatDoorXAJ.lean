/- Spoilt. -/
import Derived.Test.YtaieidcohdhgpaaGreatDoorXAI
namespace Go.Proofs.YtaieidcohdhgpaaGreatDoor
set_option maxHeartbeats 40000000
set_option maxRecDepth 100000
open Go.RowKit
def Qc(i:Int)(d:By):Bool:=decide (0<=i/\i<=1280-(d.size:Int))
def Ip(G:Gh)(I:LF)(p:By)(i:Int)(d:By):Int:=if DM G p (Qc i d)≠0 then DM G p (Qc i d) else if Df p=[] then 5 else match Gr G (Df p) with|some u=>if u.p.isSome=true then 5 else 0|none=>if Jp G I (Df p).dropLast=false then 8 else 0
def Hy(s:By)(i:Int)(d:By):By:=if d.size=0 then s else IL s i.toNat d
def Na(w:World)(a0 a:OA):Prop:=a=a0\/∀g,a=some g->w.heap.size<=g.block
theorem Na.mono{w w':World}{b a:OA}(h:Na w' b a)(d:w.heap.size<=w'.heap.size):Na w b a:=h.elim .inl (fun h => .inr (fun g c=>Ag d (h g c)))
def Nq(w:World)(tb:Nat)(G:Gh)(I:LF)(C:IB)(ns:LY)(f:Int)(r:VF)(s:By)(e:Ending)(w':World):Prop:=
 Fr (DP tb w) w w'/\∃(I1 I2:LF),I1.length=I.length+1/\(∀x,x∈I1↔x=(f,⟨none,0,0,1⟩)\/x∈I)/\Gq I1 I2 f r/\
  ((e = .returned (.int .i64 9)/\160<DN (I2.map (·.2.l))/\∃I3 C3,PS w' tb G I3 C3/\I3.length=I.length/\(∀x,x∈I3↔x∈I)/\∀x∈I,C3 x.1=C x.1)\/
   (e = .returned (.int .i64 0)/\DN (I2.map (·.2.l))<=160/\∃C2,PS w' tb (G++[(ns,⟨none,f⟩)]) I2 C2/\C2 f=s/\∀x∈I,C2 x.1=C x.1))
def YL(w:World)(tb:Nat)(G:Gh)(I:LF)(C:IB)(ns:LY)(s:By)(e:Ending)(w':World):Prop:=
 Fr (DP tb w) w w'/\∃(f:Nat) (I1 I2:LF) (a:OA) (c:Nat),Na w none a/\f<=I.length/\(∀x∈I,x.1≠f)/\I1.length=I.length+1/\(∀x,x∈I1↔x=((f:Int),⟨none,0,0,1⟩)\/x∈I)/\Gq I1 I2 f ⟨a,s.size,c,1⟩/\
  ((e = .returned (.int .i64 9)/\160<DN (I2.map (·.2.l))/\∃I3 C3,PS w' tb G I3 C3/\I3.length=I.length/\(∀x,x∈I3↔x∈I)/\∀x∈I,C3 x.1=C x.1)\/
   (e = .returned (.int .i64 0)/\DN (I2.map (·.2.l))<=160/\∃C2,PS w' tb (G++[(ns,⟨none,(f:Int)⟩)]) I2 C2/\C2 f=s/\∀x∈I,C2 x.1=C x.1))
def KO(w:World)(tb:Nat)(G:Gh)(I:LF)(C:IB)(p:By)(i:Int)(d:By)(e:Ending)(w':World):Prop:=
 (Ip G I p i d≠0/\e = .returned (.int .i64 (Ip G I p i d))/\Fr (DP tb w) w w'/\PS w' tb G I C)\/
 (Ip G I p i d=0/\((∃u r a c,Gr G (Df p)=some u/\u.p=none/\(u.f,r)∈I/\Na w r.a a/\Rv w tb G I C u.f ⟨a,(Hy (C u.f) i d).size,c,r.f⟩ (Hy (C u.f) i d) e w')\/
  (Gr G (Df p)=none/\YL w tb G I C (Df p) (Hy ⟨#[]⟩ i d) e w')))
theorem Zky(w:World)(tb g:Nat)(V:NV)(E:NS)(i:Value)(G:Gh)(I:LF)(C:IB)(h:TW w tb g V E i G I C)(j:I.length<=10000)(o:∀x∈I,x.2.l<=2000000)(n:Int)(f:VF)(m:(n,f)∈I)(b:OA)(a c:Nat)(l:a<=2000000)(s:By)(k:Sl w 5 1 (.slice b a c) a (Dc s)):
  Cl 189 #[.pointer (some ⟨tb,0,none⟩),.int .i64 n,.slice b a c] w fun e w'=>∃x:Int,e = .returned (.int .i64 x)/\Hn w tb g V E i G I C n ⟨b,a,c,f.f⟩ s (.returned (.int .i64 x)) w':=by
 refine(Ra w tb g V E i G I C h j o n f m b a c l s k).mono ?_;intro e w' d;have p:=d;obtain⟨_,I',_,⟨rfl,_⟩|⟨rfl,_⟩⟩:=p
 ·exact⟨_,rfl,d⟩
 ·exact⟨_,rfl,d⟩
theorem Gt.add{G:Gh}(h:Gt G){ns:LY}(o:IX ns)(p:ns≠[])(m:ns.length<=6)(k:Gr G ns=none)(q:∀d n,ns=d++[n]->d=[]\/∃v,(d,v)∈G/\v.p.isSome=true)(u:VS):Gt (G++[(ns,u)]):=by
 refine⟨fun x c=>?_,fun x c=>?_,fun x c=>?_,?_,fun d n v c=>?_⟩
 ·rcases Ap.1 c with c|c
  ·exact h.nms x c
  ·rw[Ab.1 c];exact o
 ·rcases Ap.1 c with c|c
  ·exact h.ne x c
  ·rw[Ab.1 c];exact p
 ·rcases Ap.1 c with c|c
  ·exact h.le x c
  ·rw[Ab.1 c];exact m
 ·rw[Bp,Ci];refine⟨h.nd,by simp,fun a j b l=>?_⟩;obtain⟨x,c,rfl⟩:=Au.1 j;obtain rfl:b=ns:=by simpa using l
  intro e;exact Uj k x.2 (by rw[<-e];exact c)
 ·rcases Ap.1 c with c|c
  ·rcases h.up d n v c with e|⟨i,g,f⟩
   ·exact .inl e
   ·exact .inr ⟨i,A0 _ g,f⟩
  ·have e:=(Ev (Ab.1 c)).1;rcases q d n e.symm with e|⟨i,g,f⟩
   ·exact .inl e
   ·exact .inr ⟨i,A0 _ g,f⟩
theorem F4.up{G:Gh}{c:Nat}{a:LY}{b:Nat}(h:F4 G c a b):a=[]\/∃v,(a,v)∈G/\v.p.isSome=true:=by
 rcases h with⟨rfl,_⟩|h
 ·exact .inl rfl
 ·exact .inr ⟨_,h,rfl⟩
theorem ZhD{P:Program}{fn:Func}{R:Ending->World->Prop}{tmps:Array Value}{w:World}(h:Leaves P fn tmps R [] .returning w):bodyPostD P fn R Exit.ret { tmps:=tmps,defers:=[] } w:=h
theorem VU(w:World)(a:OA)(l c:Nat)(s:By)(h:Sl w 5 1 (.slice a l c) l (Dc s))(A:s.size<=1280)(i:Nat)(b:OA)(n f:Nat)(d:By)(q:Gy w b n f d)(t:i+d.size<=1280):
  Cl 187 #[.slice a l c,.int .i64 i,.slice b n f] w fun e w'=>∃oa oc,e = .returned (.slice oa (Hy s i d).size oc)/\Sl w' 5 1 (.slice oa (Hy s i d).size oc) (Hy s i d).size (Dc (Hy s i d))/\Bw w w'/\Na w a oa:=by
 refine(Zhb w a l c s h.rdB A i b n f d q t).mono ?_;rintro e w' ⟨z,j⟩;rcases z with⟨o,rfl⟩|⟨o,x,m,rfl,B,p⟩
 ·have:Hy s i d=s:=by unfold Hy;rw[if_pos o]
  rw[this];have v:l=s.size:=h.rdB.1;subst v;exact⟨a,c,rfl,h.kept (fun k u _=>j.block k u),j,.inl rfl⟩
 ·have:Hy s i d=IL s i d:=by unfold Hy;rw[if_neg (by omega)];rfl
  rw[this];have y:m=(IL s i d).size:=p.rdB.1;subst y;exact⟨_,_,rfl,p,j,.inr (fun g r=>by cases r;exact B)⟩
theorem Xk(w:World)(tb d:Nat)(V:NV)(E:NS)(vi:Value)(G:Gh)(I:LF)(C:IB)(h:TW w tb d V E vi G I C)(hG:Gt G)(bk:G.length<=9000)(bl:I.length<=9000)(aO:∀x∈I,x.2.l<=2000000)(a:LY)(g:Nat)(af:F4 G d a g)(n:By)(hn:n.size<=2000000)(J:IX (a++[n])/\(a++[n]).length<=6)(aA:Gr G (a++[n])=none)(f:Int)(hf:∀x∈I,x.1≠f)(r:OA)(i t:Nat)(a8:i<=2000000)(s:By)(aH:Sl w 5 1 (.slice r i t) i (Dc s)):
  Cl 185 #[.pointer (some ⟨tb,0,none⟩),Dn (some ⟨g,0,none⟩) n false ⟨none,0⟩,.int .i64 f,.slice r i t] w fun e w'=>(Jp G I a=false/\e = .returned (.int .i64 8)/\Bw w w')\/(Jp G I a=true/\(∃x:Int,e = .returned (.int .i64 x))/\Nq w tb G I C (a++[n]) f ⟨r,i,t,1⟩ s e w'):=by
 have bm:∀(fn:Fn) (first cap:Array Value) (w:World),(Instr.makeFunc fn first cap).run Tryz.prog w = .ok (.func fn first cap) w:=fun _ _ _ _=>rfl
 unfold Dn;obtain⟨W1,aw,aT,bb,U,aB⟩:=De w [.pointer (some ⟨tb,0,none⟩)] 37;obtain⟨W2,ax,aU,aN,ak,aC⟩:=De W1 (DQ (some ⟨g,0,none⟩) n false ⟨none,0⟩) 262;obtain⟨W3,ay,aV,ah,aS,aD⟩:=De W2 [.int .i64 f] 3;obtain⟨W4,az,aW,T,be,aE⟩:=De W3 [.int .i64 0] 26;have S:Bw w W4:=((aB.trans (aC.mono (by omega))).trans (aD.mono (by omega))).trans (aE.mono (by omega));have y4:=T _ _ _ (ah _ _ _ (aN _ _ _ aT));have L:=T _ _ _ (ah _ _ _ aU);have y6:=T _ _ _ aV;have y8:=aW;rw[U]at L;rw[ak,U]at y6;rw[aS,ak,U]at y8;have aP:=W8 W4 tb d V E vi G I C (h.below S (Aa _)) hG (by omega) (by omega) a g af;have ap:=Db aP;have HH:=Db h;have HD:=Db aH;have a1:=Db aO;have HF:=Db hf;have ab:=Db af;have aa:=Db aA;have a2:=Db J;have HW:Hid ((((w.alloc (.cells #[.pointer (some ⟨tb,0,none⟩)] 37)).alloc (.cells #[.pointer (some ⟨g,0,none⟩),.string n,.bool false,.pointer none,.int .i64 0] 262)).alloc (.cells #[.int .i64 f] 3)).alloc (.cells #[.int .i64 0] 26)=W4):=by
  show _=_;rw[<-az,<-ay,<-ax,<-aw]
 clear h aH aO hf af aA J aP aw ax ay az aT aU aV aW bb aN ah T aB aC aD aE U ak aS be
 go_enter_defers Tryz.func185,Tryz.ntmps185
 go_upto_region 1 with fail;rw[Da HW];clear HW;have a4:=y4.cell 0;have a5:=L.cell 0;go_wp2_with fail;refine(Da ap).mono ?_;rintro e b ⟨rfl,u⟩;have x4:F0 b w.heap.size 37 _:=(u.block _ y4.lt).trans y4;have x5:F0 b (w.heap.size+1) 262 _:=(u.block _ L.lt).trans L;have x6:F0 b (w.heap.size+1+1) 3 _:=(u.block _ y6.lt).trans y6;have K:F0 b (w.heap.size+1+1+1) 26 _:=(u.block _ y8.lt).trans y8;have H:Bw w b:=S.trans (u.mono S.size);rw[show decide ((G.countP (Hk a)<20/\G.length<100)/\cD G []+I.length<60)=Jp G I a from rfl];clear ap a4 a5 y4 L y6 y8 u S
 cases hmb:Jp G I a with
 | false=>
  have c8:=K.cell 0;have f8:=K.frozen 0;go_wp2;have F:=(K.set 0 (.int .i64 8)).cell 0;refine ZhD ?_;exact⟨.int .i64 8,by simp[results,Tryz.results185,go_sem]at F ⊢;simp[F],.inl ⟨hmb,rfl,H.setCell (p:=⟨w.heap.size+1+1+1,0,none⟩) (by show w.heap.size<=w.heap.size+1+1+1;omega) _⟩⟩
 | true=>
  have aq:Hid (∀X,Bw b X->Cl 228 #[.pointer (some ⟨tb,1,none⟩),.int .i64 f,.agg #[.slice none 0 0,.int .i64 1]] X fun e w'=>e = .returned (.tuple #[])/\(∃A D,TW w' tb d V E A G D (fun k=>if k=f then ⟨#[]⟩ else C k)/\D.length=I.length+1/\∀x,x∈D↔x=(f,⟨none,0,0,1⟩)\/x∈I)/\Fr (DP tb b) b w'):=fun X hb=>by
   have hX:=(Da HH).below (H.trans (hb.mono H.size)) (Aa _);refine(ZiS X tb d V E vi G I C hX (by omega) f ⟨none,0,0,1⟩ (Da HF) ⟨#[]⟩ ⟨rfl,.inl ⟨rfl,rfl⟩⟩).mono ?_;rintro e w' ⟨rfl,⟨A,D,Y,Z,q3⟩,q4⟩;exact⟨rfl,⟨A,D,Y,Z,q3⟩,Fr.prog hb (Fr.progI hX q4)⟩
  have a4:=x4.cell 0;have a6:=x6.cell 0;have X4:=Db x4;have X5:=Db x5;have X6:=Db x6;have X8:=Db K;have aG:Bw b b:=Al _ _;have aF:Bw b b.drew:=aG.drew;clear x4 x5 x6 K;go_upto_region 3 with fail
  go_region_held3 (fun W=>W.cell? ⟨w.heap.size,0,none⟩=some (.pointer (some ⟨tb,0,none⟩))/\W.cell? ⟨w.heap.size+1+1,0,none⟩=some (.int .i64 f)) (go_keep)
   (first|(go_at_call 228;refine(Da aq _ aF).mono ?_;rintro e w6 ⟨rfl,⟨A,q,Y,Z,q3⟩,l⟩;have m4:=((Da X4).prog l (by decide)).cell 0;have m6:=((Da X6).prog l (by decide)).cell 0))
  all_goals
   have z4:=(Da X4).prog l (by decide);have o:=(Da X5).prog l (by decide);have z6:=(Da X6).prog l (by decide);have z8:=(Da X8).prog l (by decide);have ag:=TS w6 tb d V E A G q _ Y hG (by omega) (by omega) a g (Da ab) n hn (Da aa) f;unfold Dn at ag;have al:=Db ag;have B:=Db q3;have M:=Db Z;have an:=Db l;have b0:=o.cell 0;have b1:=o.cell 1;have b2:=o.cell 2;have b3:=o.cell 3;have b4:=o.cell 4;clear ag Y Z q3 l aq X4 X5 X6 X8 a4 a6 m4 m6 aG aF;have a6:=z6.cell 0;go_wp2_with fail;refine(Da al).mono ?_;rintro e w7 ⟨rfl,V',E',h7,m⟩;have s4:=z4.prog m (by decide);have s5:=o.prog m (by decide);have s6:=z6.prog m (by decide);have s8:=z8.prog m (by decide);have aZ:Hid (Fr (DP tb w) w w7):=(Fr.prog H (Da an)).progTrans m;have aY:Hid (Sl w7 5 1 (.slice r i t) i (Dc s)):=(((Da HD).kept (fun k hk _=>H.block k hk)).prog (Da an)).prog m;have HT:=Db h7;have ao:Hid ((f,(⟨none,0,0,1⟩:VF))∈q):=(Da B _).2 (.inl rfl);have ae:q.length<=10000:=by have:=Da M;omega
   have aJ:=Zky w7 tb d V' E' A _ q _ h7 ae (fun x hx=>by
    rcases (Da B x).1 hx with rfl|hx
    ·exact Aw _
    ·exact Da a1 x hx) f ⟨none,0,0,1⟩ (Da ao) r i t a8 s (Da aY)
   have am:=Db aJ;have c4:=s4.cell 0;have c6:=s6.cell 0;have S4:=Db s4;have S5:=Db s5;have S6:=Db s6;have S8:=Db s8;clear aJ h7 m al b0 b1 b2 b3 b4 a6 z4 o z6 z8 s4 s5 s6 s8;go_wp2_with fail;refine(Da am).mono ?_;rintro e w8 ⟨x,rfl,hq⟩;obtain⟨z,I2,aM,v⟩:=hq;have O:=(Da S4).prog z (by decide);have P:=(Da S5).prog z (by decide);have Q:=(Da S6).prog z (by decide);have j:=(Da S8).prog z (by decide);have k8:=j.cell 0;have f8:=j.frozen 0;have a0:=Db z;have aX:=Db v;have N:=Db aM;have G4:=Db O;have G5:=Db P;have G6:=Db Q;have G8:=Db j;clear z v aM am c4 c6 S4 S5 S6 S8 O P Q j;go_wp2;have O:=Da G4;have P:=Da G5;have Q:=Da G6;have j:=Da G8;have ar:Fr (DP tb w) w (w8.setCell ⟨w.heap.size+1+1+1,0,none⟩ (.int .i64 x)):=((Da aZ).progTrans (Da a0)).ext ((Al _ _).setCell (p:=⟨w.heap.size+1+1+1,0,none⟩) (by show w.heap.size<=w.heap.size+1+1+1;omega) _);have F:=j.set 0 (.int .i64 x);have d4:=O.setOther ⟨w.heap.size+1+1+1,0,none⟩ (.int .i64 x) (by show w.heap.size+1+1+1≠w.heap.size;omega);have d5:=P.setOther ⟨w.heap.size+1+1+1,0,none⟩ (.int .i64 x) (by show w.heap.size+1+1+1≠w.heap.size+1;omega);have d6:=Q.setOther ⟨w.heap.size+1+1+1,0,none⟩ (.int .i64 x) (by show w.heap.size+1+1+1≠w.heap.size+1+1;omega);have J:=Da a2;have au:Gt (G++[(a++[n],(⟨none,f⟩:VS))]):=hG.add J.1 (by simp) J.2 (Da aa) (fun bj n' e=>by obtain⟨rfl,rfl⟩:=Qh e;exact(Da ab).up) _;have av:(G++[(a++[n],(⟨none,f⟩:VS))]).length<=10000:=by simp;omega
   have aI:F4 (G++[(a++[n],(⟨none,f⟩:VS))]) d a g:=(Da ab).elim .inl (fun h => .inr (A0 _ h));have aR:(a++[n],(⟨none,f⟩:VS))∈G++[(a++[n],(⟨none,f⟩:VS))]:=by simp
   have a9:∀y,y∈G↔y∈J1 (G++[(a++[n],(⟨none,f⟩:VS))]) (a++[n]):=fun y=>by
    rw[QC,Ap,Ab];constructor
    ·intro c;exact⟨.inl c,fun e=>Uj (G:=G) (ns:=a++[n]) (Da aa) y.2 (by rw[<-e];exact c)⟩
    ·rintro⟨c|rfl,ai⟩
     ·exact c
     ·exact absurd rfl ai
   have ac:w.heap.size+1+1+1≠0:=by omega
   have ad:=Da HF;refine leaves_cons (f:=229) (args := #[.pointer (some ⟨w.heap.size+1+1+1,0,none⟩),.pointer (some ⟨w.heap.size+1,0,none⟩),.pointer (some ⟨w.heap.size,0,none⟩),.pointer (some ⟨w.heap.size+1+1,0,none⟩)]) (by simp) (by simp[go_sem]) ?_;rcases Da aX with⟨e9,ba,a3,R,bc,aQ⟩|⟨e0,bd,R⟩
   ·have bh:x=9:=by simpa using e9
    subst bh;refine(WI _ _ _ _ .returning _ tb d _ _ _ _ a3 _ (R.setOther j ac (by decide) 0 (.int .i64 9)) au av (by rw[bc];exact ae) a g aI n false ⟨none,0⟩ f aR ⟨none,0,0,1⟩ ((aQ _).2 (Da ao)) rfl 9 (by simpa using F) d5 d4 d6).mono ?_;rintro e u' w9 ⟨rfl,rfl,aj,aK,v⟩;have hc:=aj.cell 0;refine⟨.int .i64 9,by simp[results,Tryz.results185,go_sem,hc],?_⟩;rcases v with⟨h0,_⟩|⟨_,V7,E7,bi,I7,a7,aL⟩
    ·exact absurd h0 (by decide)
    ·refine .inr ⟨hmb,⟨_,rfl⟩,ar.progTrans aK,q,I2,Da M,Da B,Da N,.inl ⟨rfl,ba,I7,_,⟨d,V7,E7,bi,a7.congrG a9⟩,?_,fun y=>?_,fun y c=>if_neg (ad y c)⟩⟩
     ·have h1:=aL.1;have h2:=Da M;omega
     ·rw[aL.2 y,aQ y,Da B y];constructor
      ·rintro⟨rfl|c,ai⟩
       ·exact absurd rfl ai
       ·exact c
      ·intro c;exact⟨.inr c,ad y c⟩
   ·have bg:x=0:=by simpa using e0
    subst bg;refine(WI _ _ _ _ .returning _ tb d _ _ _ _ I2 _ (R.setOther j ac (by decide) 0 (.int .i64 0)) au av (by rw[(Da N).1];exact ae) a g aI n false ⟨none,0⟩ f aR ⟨r,i,t,1⟩ (((Da N).2 _).2 (.inl rfl)) rfl 0 (by simpa using F) d5 d4 d6).mono ?_;rintro e u' w9 ⟨rfl,rfl,aj,aK,v⟩;have hc:=aj.cell 0;refine⟨.int .i64 0,by simp[results,Tryz.results185,go_sem,hc],?_⟩;rcases v with⟨_,bf⟩|⟨h0,_⟩
    ·rw[bf];refine .inr ⟨hmb,⟨_,rfl⟩,ar,q,I2,Da M,Da B,Da N,.inr ⟨rfl,bd,_,⟨d,_,_,_,R.setOther j ac (by decide) 0 (.int .i64 0)⟩,by simp,fun y c=>?_⟩⟩;simp[ad y c]
    ·exact absurd rfl h0
theorem VL(w:World)(tb:Nat)(G:Gh)(I:LF)(C:IB)(h:PS w tb G I C)(hG:Gt G)(bj:G.length<=9000)(bk:I.length<=9000)(aK:∀x∈I,0<=x.1)(aJ:GX G I)(aP:∀x∈I,x.2.l<=2000000)(hC:∀x∈I,(C x.1).size<=1280)(p:By)(hp:p.size<=2000000)(i:Int)(d:By)(bl:d.size<=2000000)(ad:OA)(cd:Nat)(hd:Gy w ad d.size cd d):
  Cl 123 #[.pointer (some ⟨tb,0,none⟩),.string p,.int .i64 i,.slice ad d.size cd] w (KO w tb G I C p i d):=by
 obtain⟨Z,V,E,vi,h⟩:=h;have ag:Hid (∀W,Bw w W->Ip G I p i d≠0->KO w tb G I C p i d (.returned (.int .i64 (Ip G I p i d))) W):=fun W o a => .inl ⟨a,rfl,Fr.of_below o,Z,V,E,vi,h.below o (Aa _)⟩
 have HH:=Db h;have aX:=Db aJ;have HC:=Db hC;have aE:=Db aP;have aZ:=Db aK;have HD:=Db hd;have P:=Db (Ol w tb Z V E vi G I C h hG (by omega) p hp (Qc i d));clear h aJ hC aP hd aK;obtain⟨ax,U⟩:∃b,b=Qc i d:=⟨_,rfl⟩;have am:=Db U;rw[<-U]at P;have a8:(ax=true/\0<=i/\i<=1280-(d.size:Int))\/(ax=false/\0<=i/\¬i<=1280-(d.size:Int))\/(ax=false/\¬0<=i):=by
  unfold Qc at U;by_cases B:0<=i
  ·by_cases g:i<=1280-(d.size:Int)
   ·exact .inl ⟨by rw[U];exact Cs ⟨B,g⟩,B,g⟩
   ·exact .inr (.inl ⟨by rw[U];exact B2 (fun h=>g h.2),B,g⟩)
  ·exact .inr (.inr ⟨by rw[U];exact B2 (fun h=>B h.1),B⟩)
 clear U;rcases a8 with⟨rfl,aH,a5⟩|⟨rfl,aH,a5⟩|⟨rfl,aH⟩
 ·go_enter Tryz.func123,Tryz.ntmps123;go_wp2_with fail;refine(Da P).mono ?_;rintro e w1 ⟨N,o⟩;clear P;rcases N with⟨a,rfl⟩|⟨he,ai,sd,n,t,u,aA,rfl⟩
  ·have q:Hid (Ip G I p i d=DM G p true):=by show _=_;unfold Ip;rw[<-Da am,if_pos a]
   have Q:=Db a;have aR:(DM G p true != 0)=true:=by simpa using a
   clear a;unfold DF Dn;go_wp2;go_ret;have:=Da ag _ (o.alloc o.size (.cells (DQ none ⟨#[]⟩ false ⟨none,0⟩).toArray 262)) (by rw[Da q];exact Da Q);rw[Da q]at this;exact this
  ·have a9:=NY (Da HH).d aA;have a4:=Db aA;have aW:=Db he;have a3:=Db ai;clear aA he ai;unfold Dn;go_upto_if 32 with fail;obtain⟨W,hW,s,hk,aj,aM⟩:=De w1 (DQ sd n t u) 262;have y:Bw w W:=o.trans (aM.mono o.size);rw[hW];have aU:Hid (w.heap.size<=w1.heap.size):=o.size;obtain⟨l,aI⟩:∃b,b=w1.heap.size:=⟨_,rfl⟩;rw[<-aI]at s aU ⊢;clear hW hk aM o aj aI;have c0:=s.cell 0;have c1:=s.cell 1;have c2:=s.cell 2;have c3:=s.cell 3;have c4:=s.cell 4;have HX:=Db s;clear s;have av:Hid (Ip G I p i d=if Df p=[] then 5 else match Gr G (Df p) with|some u=>if u.p.isSome=true then 5 else 0|none=>if Jp G I (Df p).dropLast=false then 8 else 0):=by show _=_;unfold Ip;rw[<-Da am,if_neg (by rw[Da aW];simp)]<;>rfl
   obtain⟨k,hk⟩:∃k:Nat,i=(k:Int):=⟨i.toNat,by omega⟩;subst hk;rcases a9 with⟨rfl,a,L⟩|⟨rfl,a,L,hu⟩|⟨rfl,b,rfl,au,aS⟩
   ·obtain⟨H,A,M,au,bg,bi⟩:∃H A,Df p=H++[n]/\F4 G Z H A/\sd=some ⟨A,0,none⟩/\u=⟨none,0⟩:=by
     rcases Da a4 with⟨g,_⟩|⟨H,A,g,m,J,_,h5⟩
     ·exact absurd g a
     ·exact⟨H,A,g,m,J,by rw[h5,L];rfl⟩
    subst bg bi;have a2:=Db M;have aV:=Db au;have al:=Db L;have aw:Hid (Ip G I p (k:Int) d=if Jp G I H=false then 8 else 0):=by show _=_;rw[Da av,if_neg a,L];simp only;rw[M,CX]
    obtain⟨S,v⟩:=ex (Hy ⟨#[]⟩ (k:Int) d);have aq:S.size<=2000000:=by
     rw[v];unfold Hy
     split
     ·decide
     ·rw[Ur];have B:(⟨#[]⟩:By).size=0:=rfl;rw[B];omega
    have an:Hid (∀X,Bw W X->Cl 187 #[.slice none 0 0,.int .i64 (k:Int),.slice ad d.size cd] X fun e w'=>∃c j,e = .returned (.slice c S.size j)/\Hid (Sl w' 5 1 (.slice c S.size j) S.size (Dc S))/\Bw X w'/\Hid (Na X none c)):=fun X K=>by
     have z:=y.trans (K.mono y.size);have g:Sl X 5 1 (.slice none 0 0) 0 (Dc ⟨#[]⟩):=⟨rfl,.inl ⟨rfl,rfl⟩⟩;have m:=(Da HD).below z;exact(VU X none 0 0 ⟨#[]⟩ g (by decide) k ad d.size cd d m (by omega)).mono (fun e w' ⟨c,j,g,m,J,D⟩=>⟨c,j,by rw[v];exact g,by rw[v];exact m,J,D⟩)
    have aY:Hid (∀X,Bw W X->Cl 186 #[.pointer (some ⟨tb,0,none⟩)] X fun e w'=>∃f:Nat,e = .returned (.int .i64 f)/\Hid (f<=I.length/\∀x∈I,x.1≠f)/\Bw X w'):=fun X K=>by
     have z:=y.trans (K.mono y.size);have hT:=(Da HH).below z (Aa _);exact(Zmi X tb _ vi I hT.t hT.i (by omega) hT.si (Da aZ)).mono (fun e w' ⟨f,g,m,J,D⟩=>⟨f,g,⟨m,J⟩,D⟩)
    have aF:Hid (∀X (f:Nat) c j,Bw W X->Hid (f<=I.length/\∀x∈I,x.1≠f)->Hid (Sl X 5 1 (.slice c S.size j) S.size (Dc S))->Hid (Na W none c)->Cl 185 #[.pointer (some ⟨tb,0,none⟩),Dn (some ⟨A,0,none⟩) n false ⟨none,0⟩,.int .i64 f,.slice c S.size j] X fun e w'=>∃x:Int,e = .returned (.int .i64 x)/\KO w tb G I C p (k:Int) d (.returned (.int .i64 x)) w'/\F0 w' l 262 (DQ (some ⟨A,0,none⟩) n false ⟨none,0⟩)):=fun X f c j K hf ao aa=>by
     have z:=y.trans (K.mono y.size);have aB:F0 X l 262 (DQ (some ⟨A,0,none⟩) n false ⟨none,0⟩):=(K.block _ (Da HX).lt).trans (Da HX);have M:=Da a2;have ai:=Da a3;have bd:IX (H++[n])/\(H++[n]).length<=6:=by
      cases hr:(p.toList==[47]) with
      | true=>have B:=Uw hr;rw[M]at B;simp at B
      | false=>obtain⟨_,m,_,D⟩:=QX ai hr;rw[M]at m D;exact⟨m,D⟩
     refine(Xk X tb Z V E vi G I C ((Da HH).below z (Aa _)) hG (by omega) (by omega) (Da aE) H A (Da aV) n (N6 ai M) bd (by rw[<-M];exact Da al) f (Da hf).2 c S.size j aq S (Da ao)).mono ?_;rintro e w' (⟨hm,rfl,T⟩|⟨hm,⟨x,rfl⟩,aO,I1,I2,g,m,J,D⟩)
     ·have:=Da ag w' (z.trans (T.mono z.size)) (by rw[Da aw,hm];decide);rw[Da aw,hm]at this;exact⟨8,rfl,this,(T.block _ aB.lt).trans aB⟩
     ·refine⟨x,rfl,.inr ⟨by rw[Da aw,hm];rfl,.inr ⟨Da al,Fr.prog z aO,f,I1,I2,c,j,(Da aa).mono y.size,(Da hf).1,(Da hf).2,g,m,by rw[<-v];exact J,?_⟩⟩,aB.prog aO (by decide)⟩;rw[<-v,M];exact D
    unfold Dn at aF;clear M au L a aq v;have a7:Bw W W:=Al _ _;have aN:Bw W W.drew:=a7.drew;have F:=(Da HX).lt;go_upto_region 6 with fail
    go_region_held3 (fun W=>W.cell? ⟨l,0,none⟩=some (.pointer (some ⟨A,0,none⟩))/\W.cell? ⟨l,1,none⟩=some (.string n)/\W.cell? ⟨l,2,none⟩=some (.bool false)/\W.cell? ⟨l,3,none⟩=some (.pointer none)/\W.cell? ⟨l,4,none⟩=some (.int .i64 0)) (go_keep)
     (first|(go_at_call 186;refine(Da aY _ (by assumption)).mono ?_;rintro e w3 ⟨f,rfl,hf,R⟩;have O:=aN.trans (R.mono aN.size);have m0:=(O.cell (p:=⟨l,0,none⟩) F).trans c0;have m1:=(O.cell (p:=⟨l,1,none⟩) F).trans c1;have m2:=(O.cell (p:=⟨l,2,none⟩) F).trans c2;have m3:=(O.cell (p:=⟨l,3,none⟩) F).trans c3;have m4:=(O.cell (p:=⟨l,4,none⟩) F).trans c4)|(go_at_call 187;refine(Da an _ (by assumption)).mono ?_;rintro e w4 ⟨c,j,rfl,ap,ar,aa⟩;have ab:=O.trans (ar.mono O.size);have n0:=(ab.cell (p:=⟨l,0,none⟩) F).trans c0;have n1:=(ab.cell (p:=⟨l,1,none⟩) F).trans c1;have n2:=(ab.cell (p:=⟨l,2,none⟩) F).trans c2;have n3:=(ab.cell (p:=⟨l,3,none⟩) F).trans c3;have n4:=(ab.cell (p:=⟨l,4,none⟩) F).trans c4)|(go_at_call 185;refine(Da aF _ f c j ab hf ap ((Da aa).mono O.size)).mono ?_;rintro e w5 ⟨x,rfl,hq,ak⟩;have HQ:=Db hq;have o0:=ak.cell 0;have o1:=ak.cell 1;have o2:=ak.cell 2;have o3:=ak.cell 3;have o4:=ak.cell 4;clear hq))
    all_goals
     go_wp2;go_ret;exact Da HQ
   ·obtain⟨up,uf⟩:=u;simp only at hu;subst hu;have q:Hid (Ip G I p (k:Int) d=0):=by show _=_;rw[Da av,if_neg a,L];rfl
    obtain⟨r,az,be,bf⟩:=GX.mono (Da aX) L rfl;simp only at az;have al:=Db L;have af:=Db az;have Y:Cl 188 #[Dn sd n true ⟨none,uf⟩] W fun e w'=>e = .returned (.tuple #[.int .i64 uf,.int .i64 0])/\Bw W w':=Og sd n true ⟨none,uf⟩ W
    unfold Dn at Y;have ae:=Db Y;clear a L be bf az Y;go_wp2_with fail;refine(Da ae).mono ?_;rintro e w2 ⟨rfl,R⟩;have T:Bw w w2:=y.trans (R.mono y.size);have aD:=Db (K3 w2 tb Z V E vi G I C ((Da HH).below T (Aa _)) (by omega) uf r (Da af));clear ae c0 c1 c2 c3 c4 R;go_wp2_with fail;refine(Da aD).mono ?_;rintro e w3 ⟨rfl,ar⟩;have ay:Bw w w3:=T.trans (ar.mono T.size);clear aD ar;go_upto_region 11 with fail;obtain⟨X,K,s,bb,bh,z⟩:=De w3 [.slice r.a r.l r.c,.int .i64 r.f] 217;have ah:Bw w X:=ay.trans (z.mono ay.size);rw[K];have a0:=s.cell 0;have a1:=s.cell 1;have aG:Hid (TW X tb Z V E vi G I C):=(Da HH).below ah (Aa _);have aj:=Da HC _ (Da af);simp only at aj;obtain⟨S,v⟩:=ex (Hy (C uf) (k:Int) d);have aq:S.size<=2000000:=by
     rw[v];unfold Hy
     split
     ·omega
     ·rw[Ur];omega
    have an:Hid (Cl 187 #[.slice r.a r.l r.c,.int .i64 (k:Int),.slice ad d.size cd] X fun e w'=>∃c ol j,e = .returned (.slice c ol j)/\Hid (ol=S.size/\Sl w' 5 1 (.slice c ol j) ol (Dc S))/\Bw X w'/\Hid (Na X r.a c)):=by
     have g:=(Da aG).dat _ (Da af);have m:=(Da HD).below ah;exact(VU X r.a r.l r.c (C uf) g aj k ad d.size cd d m (by omega)).mono (fun e w' ⟨c,j,g,m,J,D⟩=>⟨c,_,j,g,by rw[v];exact⟨rfl,m⟩,J,D⟩)
    have HS:=Db v;clear K bb bh z s T ay aj v;go_wp2_with fail;refine(Da an).mono ?_;rintro e w5 ⟨c,ol,j,rfl,ap,aL,aa⟩;obtain⟨bc,ao⟩:=Da ap;subst bc;have a6:Bw w w5:=ah.trans (aL.mono ah.size);have aC:=Db (Ra w5 tb Z V E vi G I C ((Da aG).below aL (Aa _)) (by omega) (Da aE) uf r (Da af) c S.size j aq S ao);clear an ao ap a0 a1;go_wp2_with fail;refine(Da aC).mono ?_;rintro e w6 N;have aT:=N.ps a6;have aQ:=(Da aa).mono ah.size;have ac:Hid (KO w tb G I C p (k:Int) d e w6) := .inr ⟨Da q,.inl ⟨_,r,c,j,Da al,rfl,Da af,aQ,by rw[<-Da HS];exact aT⟩⟩;have ba:e = .returned (.int .i64 9)\/e = .returned (.int .i64 0):=by
     obtain⟨_,I',_,⟨e1,_⟩|⟨e1,_⟩⟩:=N
     ·exact .inl e1
     ·exact .inr e1
    clear N aT aC aQ aa;rcases ba with rfl|rfl
    ·go_wp2;go_ret;exact Da ac
    ·go_wp2;go_ret;exact Da ac
   ·have q:Hid (Ip G I p (k:Int) d=5):=by
     show _=_;rw[Da av];rcases aS with h|h
     ·rw[if_pos h]
     ·by_cases a:Df p=[]
      ·rw[if_pos a]
      ·rw[if_neg a,h];rfl
    have Y:Cl 188 #[Dn sd n true ⟨some ⟨b,0,none⟩,0⟩] W fun e w'=>e = .returned (.tuple #[.int .i64 0,.int .i64 5])/\Bw W w':=Og sd n true ⟨some ⟨b,0,none⟩,0⟩ W
    unfold Dn at Y;have ae:=Db Y;clear aS au Y;go_wp2_with fail;refine(Da ae).mono ?_;rintro e w2 ⟨rfl,R⟩;have ac:=Db (Da ag w2 (y.trans (R.mono y.size)) (by rw[Da q];decide));rw[Da q]at ac;clear ae c0 c1 c2 c3 c4 R;go_wp2;go_ret;exact Da ac
 ·have a:DM G p false≠0:=fun e=>by unfold DM at e;split at e<;>simp at e
  have aR:(DM G p false != 0)=true:=by simpa using a
  have q:Hid (Ip G I p i d=DM G p false):=by show _=_;unfold Ip;rw[<-Da am,if_pos a]
  have Q:=Db a;clear a;go_enter Tryz.func123,Tryz.ntmps123;go_wp2_with fail;refine(Da P).mono ?_;rintro e w1 ⟨N,o⟩;clear P;rcases N with⟨_,rfl⟩|⟨he,_⟩
  ·unfold DF Dn;go_wp2;go_ret;have:=Da ag _ (o.alloc o.size (.cells (DQ none ⟨#[]⟩ false ⟨none,0⟩).toArray 262)) (by rw[Da q];exact Da Q);rw[Da q]at this;exact this
  ·exact absurd he (Da Q)
 ·have a:DM G p false≠0:=fun e=>by unfold DM at e;split at e<;>simp at e
  have aR:(DM G p false != 0)=true:=by simpa using a
  have q:Hid (Ip G I p i d=DM G p false):=by show _=_;unfold Ip;rw[<-Da am,if_pos a]
  have Q:=Db a;clear a;go_enter Tryz.func123,Tryz.ntmps123;go_wp2_with fail;refine(Da P).mono ?_;rintro e w1 ⟨N,o⟩;clear P;rcases N with⟨_,rfl⟩|⟨he,_⟩
  ·unfold DF Dn;go_wp2;go_ret;have:=Da ag _ (o.alloc o.size (.cells (DQ none ⟨#[]⟩ false ⟨none,0⟩).toArray 262)) (by rw[Da q];exact Da Q);rw[Da q]at this;exact this
  ·exact absurd he (Da Q)
theorem ZiI(w:World)(tb:Nat)(G:Gh)(I:LF)(C:IB)(h:PS w tb G I C)(f:Gt G)(g:G.length<=9000)(k:I.length<=9000)(j:∀x∈I,0<=x.1)(e:GX G I)(n:∀x∈I,x.2.l<=2000000)(c:∀x∈I,(C x.1).size<=1280)(p:By)(o:p.size<=2000000)(i:Int)(d:By)(m:d.size<=2000000)(a:OA)(b:Nat)(l:Sl w 5 1 (.slice a d.size b) d.size (Dc d)):
  Cl 123 #[.pointer (some ⟨tb,0,none⟩),.string p,.int .i64 i,.slice a d.size b] w (KO w tb G I C p i d):=VL w tb G I C h f g k j e n c p o i d m a b l.rdB


structure Rl(G:Gh)(I:LF)(C:IB)(ρ : Int->Nat)(L:List (By×Int))(F:LY):Prop where
 eqL:L=G.map (vw ρ)
 ok:Gt G
 num:Np I ρ L F
 fl:∀x∈G,x.2.p=none->∃r,(x.2.f,r)∈I
 con:∀x∈I,F[ρ x.1]?=some (C x.1)
 pos:∀x∈I,0<=x.1
 lG:G.length<=100
 lI:I.length<=60
 sz:∀s∈F,s.size<=1280
section
variable{G:Gh}{I:LF}{C:IB}{ρ : Int->Nat}{L:List (By×Int)}{F:LY}
end
theorem Yr{G:Gh}{b:LY}{n:By}(h:GV G (D5 [] (b++[n]))=0):b=[]\/∃v,(b,v)∈G/\v.p.isSome=true:=by
 by_cases d:b=[]
 ·exact .inl d
 ·right;have i:∀(A:List (LY)) (q:LY),GV G (A++[q])=0->∃v,Gr G q=some v/\v.p.isSome=true:=by
   intro A q
   induction A with
   | nil=>
    intro h;rw[AA,GV]at h
    cases ha:Gr G q with
    | none=>rw[ha]at h;simp at h
    | some u=>
     rw[ha]at h;by_cases c:u.p.isSome=true
     ·exact⟨u,rfl,c⟩
     ·simp[c]at h
   | cons a A ih=>
    intro h;rw[AI,GV]at h
    cases ha:Gr G a with
    | none=>rw[ha]at h;simp at h
    | some u=>
     rw[ha]at h;by_cases c:u.p.isSome=true
     ·simp only[c,if_true]at h;exact ih h
     ·simp[c]at h
  rw[UF [] b n [] d]at h;have e:D5 ([]++b) [n]=[]:=rfl;rw[e,AA]at h;obtain⟨v,g,f⟩:=i _ _ h;exact⟨v,KE g,f⟩
section
variable{G:Gh}{I:LF}{C:IB}{ρ : Int->Nat}{L:List (By×Int)}{F:LY}
end
section
variable{G:Gh}{I:LF}{C:IB}{ρ : Int->Nat}{L:List (By×Int)}{F:LY}
end
section
variable{G:Gh}{I:LF}{C:IB}{ρ : Int->Nat}{L:List (By×Int)}{F:LY}
end
section
variable{G:Gh}{I:LF}{C:IB}{ρ : Int->Nat}{L:List (By×Int)}{F:LY}
end
section
variable{G:Gh}{I:LF}{C:IB}{ρ : Int->Nat}{L:List (By×Int)}{F:LY}
end
theorem LP:(Tryz.prog.info? 350).map (fun i=>(i.zero,i.size,i.bytes))=some (some (.agg #[.int .u64 0,.int .i64 0]),2,16):=by kernel_rfl
theorem UQ:(Tryz.prog.info? 350).map (fun i=>i.size)=some 2:=by kernel_rfl
theorem XP(w:World)(v:Value)(n:Nat)(xs:F6)(d:Nat)(b:F6)(m:Sl w 350 2 v n xs)(hn:n<=10000)
  (s:F0 w d 350 b) (aa:b.length=2) (q:∀u∈b,u.oneCell'=true):
  Cl 274 #[v,.int .i64 n,.slice (some ⟨d,0,none⟩) 1 1] w fun e w'=>∃c,e = .returned c/\Sl w' 350 2 c (n+1) (xs++b)/\w.grownBy w' v.ownBlock/\Dm w v c:=by
 obtain⟨B,r,y,z,A⟩:=BU LP;have p:=fun ty=>KQ (P:=Tryz.prog) w 170 ty 350 B _ 2 16 Tryz.underlying170 r y z A rfl (by decide) v n xs m ⟨d,0,none⟩ 1 1 b (by omega)
  (fun j u t=>by rw[AL,Av,s.cell];exact t) q (by unfold maxLen;omega) (by omega)
 obtain⟨c,w',o,f,k,l⟩:=p 170;have x:(v = .slice none 0 0/\n=0)\/∃g a,v = .slice (some ⟨g,0,none⟩) n a/\n<=a:=by
  rcases m.2 with h|⟨g,a,L,h,_,i,_⟩
  ·exact .inl h
  ·exact .inr ⟨g,a,h,i⟩
 clear p;rcases x with⟨rfl,rfl⟩|⟨g,a,rfl,i⟩
 ·go_enter Tryz.func274,Tryz.ntmps274;go_wp2_with (at_builtin;refine AZ _ rfl _ _ 170 170 rfl _ _ rfl rfl _ _ o ?_);go_ret;exact⟨_,rfl,f,k,l⟩
 ·go_enter Tryz.func274,Tryz.ntmps274;go_wp2_with (at_builtin;refine AZ _ rfl _ _ 170 170 rfl _ _ rfl rfl _ _ o ?_)
  all_goals (go_ret;exact⟨_,rfl,f,k,l⟩)
theorem XQ(w:World)(g n a:Nat)(xs L:F6)(i d:Nat)(c:F6)(h:F0 w g 350 L)(v:L.length=a*2)(o:L.take (n*2)=xs)(hi:i<n)(ae:n+1<=a)(z:a<=maxLen)(hn:n<=10000)
  (f:F0 w d 350 c) (l:c.length=2) (t:∀u∈xs,u.oneCell'=true) (s:∀u∈c,u.oneCell'=true) (B:d≠g):
  Cl 274 #[.slice (some ⟨g,0,none⟩) n a,.int .i64 i,.slice (some ⟨d,0,none⟩) 1 1] w fun e w'=>e = .returned (.slice (some ⟨g,0,none⟩) (n+1) a)/\F0 w' g 350 (F8 (F8 L ((i+1)*2) (xs.drop (i*2))) (i*2) c)/\w.grownBy w' (some g):=by
 have D:xs.length=n*2:=by rw[<-o,Am];omega
 have k:(xs.drop (i*2)).length=(n-i)*2:=by rw[Az,D];omega
 obtain⟨p,G,x,m⟩:=JP (P:=Tryz.prog) w.drew 170 170 3 350 2 g ((i+1)*2) (n-i) (a-(i+1)) ⟨g,i*2,none⟩ (n+1-i) (a-i) L 350 (xs.drop (i*2)) Tryz.underlying170 UQ h
  (by rw[k];simp only[C7];split<;>omega)
  (fun j u b=>by
   rw[AL,show(w.drew.cell? ⟨g,i*2+j,none⟩)=L[i*2+j]? from h.cell _];rw[Bc,<-o,Ao]at b
   split at b
   ·exact b
   ·cases b) (by rw[k];omega) (fun u b=>t u (BX b))
 have C:F0 p d 350 c:=(show F0 w.drew d 350 c from f).kept m (by simpa using B);obtain⟨q,H,y,A⟩:=JP (P:=Tryz.prog) p 170 170 3 350 2 g (i*2) (n+1-i) (a-i) ⟨d,0,none⟩ 1 1 _ 350 c Tryz.underlying170 UQ x
  (by rw[l];simp only[C7];split<;>omega)
  (fun j u b=>by rw[AL,Av,C.cell];exact b) (by rw[D3 (by rw[k];omega),l];omega) s
 have F:∀lb cb,(callFunc 306 #[.slice (some ⟨d,0,none⟩) 1 1,.slice (some ⟨g,(i+1)*2,none⟩) lb cb]).run Tryz.prog w = .ok (.value (.bool false)) w:=fun lb cb=>by
  rw[FE Tryz.func306 (by kernel_rfl) (by kernel_rfl) (by kernel_rfl) (e:=Extern.SlicesOverlaps.overlaps #[170,170] #[4]) (by kernel_rfl),
   Fb w 170 4 350 Tryz.underlying170 2 (fun _=>by kernel_rfl) ⟨d,0,none⟩ ⟨g,(i+1)*2,none⟩ 1 1 lb cb B 350 350 2 (a*2) (by unfold World.shape?;rw[f];simp[l]) (by unfold World.shape?;rw[h];simp[v]) (by omega) (f.frozen 0) (f.frozen 2)]
  rfl
 have af:a<=9223372036854775807:=by unfold maxLen at z;omega
 have r:F0 q g 350 (F8 (F8 L ((i+1)*2) (xs.drop (i*2))) (i*2) c)/\w.grownBy q (some g):=⟨y,JQ (show w.grownBy w.drew (some g) from QT (QU _ _)) (JQ m A)⟩;have E:=Db r;clear r x y m A C t s z o k D v l f h;have ai:IntKind.i64.wrap ((i:Int)+1)=(i:Int)+1:=by rw[AX];omega
 have aa:(0:Int)<=(i:Int)+1:=by omega
 have ag:i<=n:=by omega
 have ah:((i:Int)+1).toNat=i+1:=by omega
 have ab:¬(a=i+1):=by omega
 have ac:(i:Int)<=(n:Int)+1:=by omega
 have ad:¬(a=i):=by omega
 go_enter Tryz.func274,Tryz.ntmps274;go_wp2_with (simp only[F])
 go_region_law (refine KH rfl _ _ 170 170 rfl _ _ (by simp[Act.eval,Act.put]) (by simp[Act.eval,Act.put]) G ?_)
 go_wp2_with (at_builtin;refine D9 _ rfl _ _ 170 170 rfl _ _ rfl rfl H ?_);go_ret;exact⟨rfl,Da E⟩
theorem ZY(w:World)(g n b:Nat)(xs L:F6)(i t:Nat)(c:F6)(d:F0 w g 350 L)(ae:L.length=b*2)(s:L.take (n*2)=xs)(hi:i<n)(ap:n<=b)(am:b<n+1)(hn:n<=10000)
  (D:F0 w t 350 c) (r:c.length=2) (J:∀u∈xs,u.oneCell'=true) (I:∀u∈c,u.oneCell'=true):
  Cl 274 #[.slice (some ⟨g,0,none⟩) n b,.int .i64 i,.slice (some ⟨t,0,none⟩) 1 1] w fun e w'=>∃G Z,e = .returned (.slice (some ⟨w.heap.size,0,none⟩) (n+1) G)/\n+1<=G/\G<=maxLen/\(xs.take (i*2)++Z).length=G*2/\
   F0 w' w.heap.size 350 (F8 (F8 (xs.take (i*2)++Z) (i*2) c) ((i+1)*2) (xs.drop (i*2)))/\w.grownBy w' (some w.heap.size):=by
 have X:xs.length=n*2:=by rw[<-s,Am];omega
 have A:(xs.drop (i*2)).length=(n-i)*2:=by rw[Az,X];omega
 obtain⟨i0,R,Y,aa,E⟩:=BU LP;have W:∀j u,xs[j]?=some u->w.cell? ⟨g,j,none⟩=some u:=fun j u a=>by
  rw[d.cell];rw[<-s,Ao]at a
  split at a
  ·exact a
  ·cases a
 have U:(Builtin.firstCells i0.size i (.slice (some ⟨g,0,none⟩) i b)).run Tryz.prog w.drew = .ok (xs.take (i*2)).toArray w.drew:=by
  rw[aa];exact EU w.drew 2 i ⟨g,0,none⟩ i b (xs.take (i*2)) (by rw[Am];omega) (fun j v q=>by
   rw[AL,Av];rw[Ao]at q
   split at q
   ·exact W j v q
   ·cases q)
 have C:i+(n+1-i)=n+1:=by omega
 have S:(n:Int)+1-(i:Int)=((n+1-i:Nat):Int):=by omega
 obtain⟨G,p⟩:=ex (grownCap w (n+1) b 350);obtain⟨Z,z⟩:∃Z:Array Value,Z=Builtin.zeroCells (Value.agg #[.int .u64 0,.int .i64 0]).cells (n+1-i)++Builtin.zeroCells (Value.agg #[.int .u64 0,.int .i64 0]).cells (G-(n+1)):=⟨_,rfl⟩;have V:∀ty,(Builtin.append_ #[170,3] ty #[.slice (some ⟨g,0,none⟩) i b,.int .i64 ((n:Int)+1-(i:Int))]).run Tryz.prog w =
   .ok (.slice (some ⟨w.heap.size,0,none⟩) (n+1) G) (w.drew.alloc (.cells (xs.take (i*2)++Z.toList).toArray 350)):=fun ty=>by
  have h:=ES w 170 3 ty 350 i0 _ .i64 .i64 Tryz.underlying170 Tryz.underlying3 R Y (some ⟨g,0,none⟩) i b (xs.take (i*2)) U (n+1-i) (by omega) (by omega) (by omega) (by omega) (by rw[E];omega) (by rw[E,C];exact Ff (by omega) (by omega));rw[C,<-p]at h;rw[S,h,z]
  congr 2
  simp[Array.append_assoc]
 have ad:n+1<=G:=by rw[p];exact grownCap_ge w _ _ _
 have x:G<=maxLen:=by rw[p];exact ED w _ _ _ (by unfold maxLen;omega)
 have f:(xs.take (i*2)++Z.toList).length=G*2:=by
  have e1:Z.size=(n+1-i)*2+(G-(n+1))*2:=by rw[z,EP,Eo,Eo];rfl
  have e2:Z.toList.length=Z.size:=AG;rw[Ad,Am,e2,e1];omega
 have y:F0 (w.drew.alloc (.cells (xs.take (i*2)++Z.toList).toArray 350)) w.heap.size 350 (xs.take (i*2)++Z.toList):=CN w.drew _;have l:w.grownBy (w.drew.alloc (.cells (xs.take (i*2)++Z.toList).toArray 350)) (some w.heap.size):=⟨rfl,rfl,rfl,by simp,fun k hk _=>BO w.drew _ k hk⟩;obtain⟨m,O⟩:=ex (w.drew.alloc (.cells (xs.take (i*2)++Z.toList).toArray 350));rw[<-O]at V y l;have T:F0 m t 350 c:=D.kept l (by have:=D.lt;simp;omega);obtain⟨o,af,M,B⟩:=JP (P:=Tryz.prog) m 170 170 3 350 2 w.heap.size (i*2) (n+1-i) (G-i) ⟨t,0,none⟩ 1 1 _ 350 c Tryz.underlying170 UQ y
  (by rw[r];simp only[C7];split<;>omega)
  (fun j u a=>by rw[AL,Av,T.cell];exact a) (by rw[f,r];omega) I
 have K:F0 o g 350 L:=(d.kept l (by have:=d.lt;simp;omega)).kept B (by have:=d.lt;simp;omega);obtain⟨F,ag,N,Q⟩:=JP (P:=Tryz.prog) o.drew 170 170 3 350 2 w.heap.size ((i+1)*2) (n-i) (G-(i+1)) ⟨g,i*2,none⟩ (n-i) (b-i) _ 350 (xs.drop (i*2)) Tryz.underlying170 UQ M
  (by rw[A];simp only[C7];split<;>omega)
  (fun j u a=>by
   rw[AL,show(o.drew.cell? ⟨g,i*2+j,none⟩)=L[i*2+j]? from K.cell _];rw[Bc,<-s,Ao]at a
   split at a
   ·exact a
   ·cases a) (by rw[D3 (by rw[f,r];omega),f,A];omega) (fun u a=>J u (BX a))
 have H:(xs.take (i*2)++Z.toList).length=G*2/\F0 F w.heap.size 350 (F8 (F8 (xs.take (i*2)++Z.toList) (i*2) c) ((i+1)*2) (xs.drop (i*2)))/\w.grownBy F (some w.heap.size):=
  ⟨f,N,JQ l (JQ B (JQ (QT (QU o _)) Q))⟩
 have ab:=Db H;have aj:G<=9223372036854775807:=by unfold maxLen at x;omega
 have ah:¬(G=i):=by omega
 have ai:¬(G=i+1):=by omega
 have an:¬(b=i):=by omega
 have ar:IntKind.i64.wrap ((i:Int)+1)=(i:Int)+1:=by rw[AX];omega
 have ak:(0:Int)<=(i:Int)+1:=by omega
 have ao:i<=n:=by omega
 have aq:((i:Int)+1).toNat=i+1:=by omega
 have al:(i:Int)<=(n:Int):=by omega
 clear H f y M N l B Q T K J I s A X ae r D d W U O p z C S R Y aa E;have ac:=Db x;clear x;go_enter Tryz.func274,Tryz.ntmps274;go_wp2_with (first
  | (at_builtin;refine AZ _ rfl _ _ _ _ rfl _ _ rfl rfl _ _ (V _) ?_)
  | (at_builtin;refine D9 _ rfl _ _ 170 170 rfl _ _ rfl rfl af ?_))
 go_region_law (refine KH rfl _ _ 170 170 rfl _ _ (by simp[Act.eval,Act.put]) (by simp[Act.eval,Act.put]) ag ?_)
 go_wp2;go_ret;exact⟨G,Z.toList,rfl,ad,Da ac,Da ab⟩
theorem Pk(s:Int)(w:World):Cl 320 #[.int .u64 s] w fun e w'=>e = .returned (.bool false)/\w'=w:=by
 go_enter Tryz.func320,Tryz.ntmps320;go_wp2;go_ret;exact⟨by simp,rfl⟩
theorem ZH(a b:Int)(w:World):Cl 305 #[.int .u64 a,.int .u64 b] w fun e w'=>e = .returned (.int .i64 (Ki a b))/\w'=w:=by
 have c:Ki a b=if a<b then -1 else if a=b then 0 else 1:=rfl
 have H:=Db c;clear c;by_cases d:a<b
 ·go_enter Tryz.func305,Tryz.ntmps305;go_wp2_with (go_at_call 320;refine(Pk _ _).mono ?_;rintro e w' ⟨rfl,rfl⟩);go_ret;exact⟨by rw[Da H,if_pos d];rfl,rfl⟩
 ·by_cases h2:b<a
  ·go_enter Tryz.func305,Tryz.ntmps305;go_wp2_with (go_at_call 320;refine(Pk _ _).mono ?_;rintro e w' ⟨rfl,rfl⟩);go_ret;exact⟨by rw[Da H,if_neg (by omega),if_neg (by omega)];rfl,rfl⟩
  ·go_enter Tryz.func305,Tryz.ntmps305;go_wp2_with (go_at_call 320;refine(Pk _ _).mono ?_;rintro e w' ⟨rfl,rfl⟩);go_ret;exact⟨by rw[Da H,if_neg (by omega),if_pos (by omega)];rfl,rfl⟩
def Hj(x:Int×Int):F6:=[.int .u64 x.1,.int .i64 x.2]
def Ds(es:LI):F6:=es.flatMap Hj
theorem Xo(es:LI):(Ds es).length=es.length*2:=by
 induction es with
 | nil=>rfl
 | cons a l ih=>simp[Ds,Hj]at ih ⊢;omega
theorem Zhv(a b:LI):Ds (a++b)=Ds a++Ds b:=by simp[Ds]
theorem Zje(es:LI)(i:Nat):(Ds es).take (i*2)=Ds (es.take i):=by
 induction es generalizing i with
 | nil=>simp[Ds]
 | cons a l ih=>
  cases i with
  | zero=>simp[Ds]
  | succ i=>
   have:=ih i;simp only[Ds,A9,Ew]at this ⊢;rw[<-this,show(i+1)*2=(Hj a).length+i*2 by simp[Hj];omega,CE]
theorem Zjf(es:LI)(i:Nat):(Ds es).drop (i*2)=Ds (es.drop i):=by
 induction es generalizing i with
 | nil=>simp[Ds]
 | cons a l ih=>
  cases i with
  | zero=>simp[Ds]
  | succ i=>
   have:=ih i;simp only[Ds,A9,CK]at this ⊢;rw[<-this,show(i+1)*2=(Hj a).length+i*2 by simp[Hj];omega,CF]
theorem Rz(es:LI):∀u∈Ds es,u.oneCell'=true:=by
 intro u a;simp only[Ds,ET,Hj,AE,Ft,or_false]at a;obtain⟨x,_,rfl|rfl⟩:=a<;>simp[Value.oneCell']
theorem UD(es:LI)(k:Nat)(x:Int×Int)(h:es[k]?=some x):(Ds es)[k*2]?=some (.int .u64 x.1)/\(Ds es)[k*2+1]?=some (.int .i64 x.2):=by
 induction es generalizing k with
 | nil=>simp at h
 | cons a l ih=>
  cases k with
  | zero=>simp at h;subst h;simp[Ds,Hj]
  | succ k=>
   simp at h;have:=ih k h;simp only[Ds,A9]at this ⊢;have e:∀r,(Hj a++List.flatMap Hj l)[(k+1)*2+r]?=(List.flatMap Hj l)[k*2+r]? := fun r=>by
    rw[AH (by simp[Hj];omega)];congr 1;simp[Hj];omega
   have b:=e 0;simp only[El]at b;rw[b,e 1];exact this
def Gz(es:LI):Prop:=∀(j k:Nat) (x y:Int×Int),j<k->es[j]?=some x->es[k]?=some y->GU x.1 y.1=true
def Ln(es:LI)(t:Int)(i:Nat)(b:Bool):Prop:=
 i<=es.length/\(∀k x,k<i->es[k]?=some x->GU x.1 t=true)/\(∀k x,i<=k->es[k]?=some x->GU x.1 t=false)/\(b=true↔∃x,es[i]?=some x/\x.1=t)
theorem Sd(x:Int×Int)(a:Int)(w:World):Cl 304 #[.agg #[.int .u64 x.1,.int .i64 x.2],.int .u64 a] w fun e w'=>e = .returned (.int .i64 (Ki x.1 a))/\Bw w w':=by
 go_enter Tryz.func304,Tryz.ntmps304;go_wp2_with (go_at_call 305;refine(ZH _ _ _).mono ?_;rintro e w' ⟨rfl,rfl⟩);go_ret;exact⟨rfl,(Al _ _).alloc (Aa _) _⟩
theorem Ng(g n I:Nat)(c:Nat->Int×Int)(f:Int)(w:World)(hn:n<=10000)
 (l:∀k,k<n->w.cell? ⟨g,k*2,none⟩=some (.int .u64 (c k).1))
 (m:∀k,k<n->w.cell? ⟨g,k*2+1,none⟩=some (.int .i64 (c k).2))
 (F:∀j k,j<k->k<n->GU (c j).1 (c k).1=true):
  Cl 303 #[.slice (some ⟨g,0,none⟩) n I,.int .u64 f,.func (.func 304) #[] #[]] w fun e w'=>∃(i:Nat) (b:Bool),e = .returned (.tuple #[.int .i64 i,.bool b])/\
   (i<=n/\(∀k,k<i->GU (c k).1 f=true)/\(∀k,i<=k->k<n->GU (c k).1 f=false)/\(b=true↔i<n/\(c i).1=f))/\Bw w w':=by
 have A:=Db F;clear F;go_enter Tryz.func303,Tryz.ntmps303;go_wp2_with fail
 go_loopw [9,10] (fun i j wr=>∃a b:Nat,i = .int .i64 a/\j = .int .i64 b/\a<=b/\b<=n/\Hid (∀k,k<a->GU (c k).1 f=true)/\Hid (∀k,b<=k->k<n->GU (c k).1 f=false)/\Bw w wr) (fun i j _=>(intOf j-intOf i).toNat)
 case atStart=>exact⟨0,n,rfl,rfl,Aw _,Aa _,fun _ h=>absurd h (Eu _),fun k J v=>absurd v (by omega),Al _ _⟩
 case round=>
  obtain⟨a,b,rfl,rfl,aa,x,z,y,d⟩:=hrel;by_cases ab:a<b
  ·have u:(a+b)/2<n:=by omega
   have r:g<w.heap.size:=Aj _ _ (l _ u);have q0:=(d.cell (p:=⟨g,(a+b)/2*2,none⟩) r).trans (l _ u);have K:=(d.cell (p:=⟨g,(a+b)/2*2+1,none⟩) r).trans (m _ u);have B:=Db l;have C:=Db m;clear l m;go_wp2_with fail;refine(Sd (c ((a+b)/2)) _ _).mono ?_;rintro e w' ⟨rfl,t⟩;by_cases D:Ki (c ((a+b)/2)).1 f<0
   ·have s:=(U0 _ _).1 D;have o:=Db s;clear s;go_wp2
    go_roundw
    case rel=>
     refine⟨(a+b)/2+1,b,by go_num,rfl,by omega,x,fun k hk=>?_,y,d.trans (t.mono d.size)⟩;rcases AO k ((a+b)/2) with h|h
     ·exact N5 (Da A _ _ h u) (Da o)
     ·obtain rfl:k=(a+b)/2:=by omega
      exact Da o
    case measure=>simp[intOf];omega
   ·have s:GU (c ((a+b)/2)).1 f=false:=by
     cases h:GU (c ((a+b)/2)).1 f with
     | false=>rfl
     | true=>exact absurd ((U0 _ _).2 h) D
    have o:=Db s;clear s;go_wp2
    go_roundw
    case rel=>
     refine⟨a,(a+b)/2,rfl,by go_num,by omega,by omega,z,fun k J v=>?_,d.trans (t.mono d.size)⟩;rcases AO ((a+b)/2) k with h|h
     ·cases E:GU (c k).1 f with
      | false=>rfl
      | true=>exact absurd (N5 (Da A _ _ h v) E) (by rw[Da o];simp)
     ·obtain rfl:k=(a+b)/2:=by omega
      exact Da o
    case measure=>simp[intOf];omega
  ·obtain rfl:a=b:=by omega
   by_cases q:a<n
   ·have r:g<w.heap.size:=Aj _ _ (l _ q);have q0:=(d.cell (p:=⟨g,a*2,none⟩) r).trans (l _ q);have K:=(d.cell (p:=⟨g,a*2+1,none⟩) r).trans (m _ q);have B:=Db l;have C:=Db m;clear l m;go_wp2_with fail;refine(Sd (c a) _ _).mono ?_;rintro e w' ⟨rfl,t⟩;have G:=Vi (c a).1 f;have H:=Db G;clear G;go_wp2
    go_ret2
    refine⟨a,_,rfl,⟨x,z,y,?_⟩,d.trans (t.mono d.size)⟩;simp[Da H,q]
   ·have E:decide (((a:Nat):Int)<(n:Int))=false:=by simp;omega
    have B:=Db l;have C:=Db m;clear l m;go_wp2
    go_ret2
    exact⟨a,_,rfl,⟨x,z,y,by simp[q]⟩,d⟩
theorem MO(v:Value)(es:LI)(l:Int)(w:World)(B:Sl w 350 2 v es.length (Ds es))(F:es.length<=10000)(G:Gz es):
  Cl 303 #[v,.int .u64 l,.func (.func 304) #[] #[]] w fun e w'=>∃(i:Nat) (b:Bool),e = .returned (.tuple #[.int .i64 i,.bool b])/\Ln es l i b/\Bw w w':=by
 rcases B.2 with⟨rfl,z⟩|⟨g,q,L,rfl,A,hc,aa,hL,C⟩
 ·have:es=[]:=Ay z;subst this;go_enter Tryz.func303,Tryz.ntmps303;go_wp2_with fail
  go_loopw [9,10] (fun i j wr=>i = .int .i64 0/\j = .int .i64 0/\wr=w) (fun _ _ _=>0)
  case atStart=>exact⟨rfl,rfl,rfl⟩
  case round=>
   obtain⟨rfl,rfl,rfl⟩:=hrel;go_wp2
   go_ret2
   exact⟨0,false,rfl,⟨Aw _,fun k x h _=>absurd h (Eu _),fun k x _ h=>by simp at h,by simp⟩,Al _ _⟩
 ·have y:∀j u,(Ds es)[j]?=some u->w.cell? ⟨g,j,none⟩=some u:=fun j u f=>by
   rw[A.cell];rw[<-C,Ao]at f
   split at f
   ·exact f
   ·cases f
  cases hes:es with
  | nil=>
   subst hes;refine(Ng g 0 q (fun _=>(0,0)) l w (by omega) (fun k h=>absurd h (by omega)) (fun k h=>absurd h (by omega)) (fun j k _ h=>absurd h (by omega))).mono ?_;rintro e w' ⟨i,b,rfl,⟨r,s,t,m⟩,n⟩;obtain rfl:i=0:=by omega
   exact⟨0,b,rfl,⟨Aa _,fun k x h _=>absurd h (by omega),fun k x _ h=>by simp at h,by rw[m];simp⟩,n⟩
  | cons x0 l0=>
   rw[<-hes];have d:∀k,k<es.length->es[k]?=some (es.getD k x0):=fun k a=>by simp[List.getD,List.getElem?_eq_getElem a]
   refine(Ng g es.length q (fun k=>es.getD k x0) l w F (fun k a=>y _ _ (UD es k _ (d k a)).1) (fun k a=>y _ _ (UD es k _ (d k a)).2)
    (fun j k E a=>G j k _ _ E (d j (by omega)) (d k a))).mono ?_
   rintro e w' ⟨i,b,rfl,⟨r,s,t,m⟩,n⟩;have o:∀k x,es[k]?=some x->k<es.length:=fun k x h=>(Ae.1 h).1
   have p:∀k x,es[k]?=some x->x=es.getD k x0:=fun k x h=>by have:=d k (o k x h);rw[h]at this;exact BV this
   refine⟨i,b,rfl,⟨r,fun k x a c=>?_,fun k x a c=>?_,?_⟩,n⟩
   ·rw[p k x c];exact s k a
   ·rw[p k x c];exact t k a (o k x c)
   ·rw[m];constructor
    ·rintro⟨D,e⟩;exact⟨_,d i D,e⟩
    ·rintro⟨x,c,e⟩;exact⟨o i x c,by rw[<-e,p i x c]⟩
end Go.Proofs.YtaieidcohdhgpaaGreatDoor
