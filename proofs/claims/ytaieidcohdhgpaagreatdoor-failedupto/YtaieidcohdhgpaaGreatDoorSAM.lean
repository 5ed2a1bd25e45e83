/- Failed. -/
import Derived.Test.YtaieidcohdhgpaaGreatDoorSAL
namespace Go.Proofs.YtaieidcohdhgpaaGreatDoor
set_option maxHeartbeats 40000000
set_option maxRecDepth 100000
open Go.RowKit
theorem RowIs.prog{tb:Nat}{w w':World}{k:Nat}{t:TypeId}{R:LVa}(h:RowIs w k t R)(b:Fr (DM tb w) w w')(c:¬(t=214\/t=229\/t=310\/t=293)):RowIs w' k t R:=
 h.fr b (fun ⟨⟨t',R',a,d⟩,_⟩=>c (by rw[h.type a];exact d))
theorem Ze6(A J L K:Nat)(u:FrameMode)(w:World)(tb z:Nat)(V:NV)(E:NS)(Z:Value)(G:Gh)(I:LF)(C:IB)(h:TW w tb z V E Z G I C)(Q:GOk G)(ac:G.length<=10000)(ad:I.length<=10000)(b:LY)(a:Nat)(c:IsDir G z b a)(n:By)(t:Bool)(Y:VS)(f:Int)(ah:(b++[n],(⟨none,f⟩:VS))∈G)(r:VF)(ag:(f,r)∈I)(hr:r.f=1)(d:Int)
  (q:RowIs w A 26 [.int .i64 d]) (j:RowIs w J 262 (DT (some ⟨a,0,none⟩) n t Y)) (P:RowIs w L 37 [.pointer (some ⟨tb,0,none⟩)]) (O:RowIs w K 3 [.int .i64 f]):
  CallsD Tryz.prog 229 #[.pointer (some ⟨A,0,none⟩),.pointer (some ⟨J,0,none⟩),.pointer (some ⟨L,0,none⟩),.pointer (some ⟨K,0,none⟩)] u w fun e u' w'=>u'=u/\(e = .returned (.tuple #[])/\RowIs w' A 26 [.int .i64 d]/\Fr (DM tb w) w w'/\((d=0/\w'=w)\/(d≠0/\∃V' E' H p,TW w' tb z V' E' H (JZ G (b++[n])) p C/\Us I p f))):=by
 have a0:=q.cell 0;by_cases l:d=0
 ·have af:(d != 0)=false:=by simpa using l
  go_enter_d Tryz.func229,Tryz.ntmps229
  go_wp2
  go_end0
  exact⟨rfl,q,Fr.refl _ _,.inl ⟨l,rfl⟩⟩
 ·have af:(d != 0)=true:=by simpa using l
  have T:(n,(⟨none,f⟩:VS))∈E a:=(h.d.en b a c n _).2 ah;have F:=ZhT w a n t Y ⟨none,f⟩ (V a) (E a) (h.d.row b a c) (h.d.sl b a c) (Nat.le_trans (h.d.le Q c) ac) (h.d.srt b a c) T;unfold Dl at F;have M:=Db F;have HH:=Db h;have HA:=Db l;have c0:=j.cell 0;have c1:=j.cell 1;have c2:=j.cell 2;have c3:=j.cell 3;have c4:=j.cell 4;have H8:=Db q;have H4:=Db P;have aa:=Db O;clear F h T l q P O
  go_enter_d Tryz.func229,Tryz.ntmps229
  go_wp2_with fail;refine(Da M).mono ?_;rintro e w2 ⟨rfl,v',ak,y,i,m,q4,W,X,o⟩;have g:=Da HH;have v:=g.d.row b a c;have x:=g.d.sl b a c;have s:∀k t R,RowIs w k t R->t≠229->t≠310->RowIs w2 k t R:=fun k t R D B h2=>D.fr o (fun e=>by
   rcases e with rfl|e
   ·exact B (D.type v)
   ·obtain⟨R',ae⟩:=x.type e;exact h2 (D.type ae))
  have S:=TW.dirs g v x o (g.d.del Q c (G':=JZ G (b++[n])) (n:=n) (Qy G _) y i m W X o);have U:=Zfa w2 tb z _ _ Z (JZ G (b++[n])) I C S ad f r ag (by omega) (by omega);have N:=Db U;have ab:Hid (Fr (DM tb w) w w2):=Fr.progOne (g.dlo c) v x o;have k8:=s _ _ _ (Da H8) (by decide) (by decide);have k4:=s _ _ _ (Da H4) (by decide) (by decide);have ai:=s _ _ _ (Da aa) (by decide) (by decide);have d4:=k4.cell 0;have aj:=ai.cell 0;clear g v x s S U y i m q4 W X o M c0 c1 c2 c3 c4;go_wp2_with fail;refine(Da N).mono ?_;rintro e w3 ⟨rfl,⟨H,p,y,i⟩,m⟩;clear N;go_wp2
  go_end0
  refine⟨rfl,k8.prog m (by decide),(Da ab).progTrans m,.inr ⟨Da HA,_,_,H,p,y,?_⟩⟩;rcases i with⟨_,i⟩|⟨B,_⟩
  ·exact i
  ·exact absurd hr B
def K8(i:Int)(d:By):Bool:=decide (0<=i/\i<=1280-(d.size:Int))
def wrE(G:Gh)(I:LF)(p:By)(i:Int)(d:By):Int:=if DJ G p (K8 i d)≠0 then DJ G p (K8 i d) else if Df p=[] then 5 else match atG G (Df p) with|some u=>if u.p.isSome=true then 5 else 0|none=>if JD G I (Df p).dropLast=false then 8 else 0
def ovR(s:By)(i:Int)(d:By):By:=if d.size=0 then s else wrR s i.toNat d
def Na(w:World)(a0 a:OA):Prop:=a=a0\/∀g,a=some g->w.heap.size<=g.block
theorem Na.mono{w w':World}{b a:OA}(h:Na w' b a)(d:w.heap.size<=w'.heap.size):Na w b a:=h.elim .inl (fun h => .inr (fun g c=>Nat.le_trans d (h g c)))
def MadeF(w:World)(tb:Nat)(G:Gh)(I:LF)(C:IB)(ns:LY)(f:Int)(r:VF)(s:By)(e:Ending)(w':World):Prop:=
 Fr (DM tb w) w w'/\∃(I1 I2:LF),I1.length=I.length+1/\(∀x,x∈I1↔x=(f,⟨none,0,0,1⟩)\/x∈I)/\Jm I1 I2 f r/\
  ((e = .returned (.int .i64 9)/\160<DO (I2.map (·.2.l))/\∃I3 C3,PS w' tb G I3 C3/\I3.length=I.length/\(∀x,x∈I3↔x∈I)/\∀x∈I,C3 x.1=C x.1)\/
   (e = .returned (.int .i64 0)/\DO (I2.map (·.2.l))<=160/\∃C2,PS w' tb (G++[(ns,⟨none,f⟩)]) I2 C2/\C2 f=s/\∀x∈I,C2 x.1=C x.1))
def Znq(w:World)(tb:Nat)(G:Gh)(I:LF)(C:IB)(ns:LY)(s:By)(e:Ending)(w':World):Prop:=
 Fr (DM tb w) w w'/\∃(f:Nat) (I1 I2:LF) (a:OA) (c:Nat),Na w none a/\f<=I.length/\(∀x∈I,x.1≠f)/\I1.length=I.length+1/\(∀x,x∈I1↔x=((f:Int),⟨none,0,0,1⟩)\/x∈I)/\Jm I1 I2 f ⟨a,s.size,c,1⟩/\
  ((e = .returned (.int .i64 9)/\160<DO (I2.map (·.2.l))/\∃I3 C3,PS w' tb G I3 C3/\I3.length=I.length/\(∀x,x∈I3↔x∈I)/\∀x∈I,C3 x.1=C x.1)\/
   (e = .returned (.int .i64 0)/\DO (I2.map (·.2.l))<=160/\∃C2,PS w' tb (G++[(ns,⟨none,(f:Int)⟩)]) I2 C2/\C2 f=s/\∀x∈I,C2 x.1=C x.1))
def KF(w:World)(tb:Nat)(G:Gh)(I:LF)(C:IB)(p:By)(i:Int)(d:By)(e:Ending)(w':World):Prop:=
 (wrE G I p i d≠0/\e = .returned (.int .i64 (wrE G I p i d))/\Fr (DM tb w) w w'/\PS w' tb G I C)\/
 (wrE G I p i d=0/\((∃u r a c,atG G (Df p)=some u/\u.p=none/\(u.f,r)∈I/\Na w r.a a/\Zew w tb G I C u.f ⟨a,(ovR (C u.f) i d).size,c,r.f⟩ (ovR (C u.f) i d) e w')\/
  (atG G (Df p)=none/\Znq w tb G I C (Df p) (ovR ⟨#[]⟩ i d) e w')))
theorem Zkj(w:World)(tb g:Nat)(V:NV)(E:NS)(i:Value)(G:Gh)(I:LF)(C:IB)(h:TW w tb g V E i G I C)(j:I.length<=10000)(o:∀x∈I,x.2.l<=2000000)(n:Int)(f:VF)(m:(n,f)∈I)(b:OA)(a c:Nat)(l:a<=2000000)(s:By)(k:Sl w 5 1 (.slice b a c) a (Dc s)):
  Calls Tryz.prog 189 #[.pointer (some ⟨tb,0,none⟩),.int .i64 n,.slice b a c] w fun e w'=>∃x:Int,e = .returned (.int .i64 x)/\FillPost w tb g V E i G I C n ⟨b,a,c,f.f⟩ s (.returned (.int .i64 x)) w':=by
 refine(ZfE w tb g V E i G I C h j o n f m b a c l s k).mono ?_;intro e w' d;have p:=d;obtain⟨_,I',_,⟨rfl,_⟩|⟨rfl,_⟩⟩:=p
 ·exact⟨_,rfl,d⟩
 ·exact⟨_,rfl,d⟩
theorem GOk.add{G:Gh}(h:GOk G){ns:LY}(o:Nms ns)(p:ns≠[])(m:ns.length<=6)(k:atG G ns=none)(q:∀d n,ns=d++[n]->d=[]\/∃v,(d,v)∈G/\v.p.isSome=true)(u:VS):GOk (G++[(ns,u)]):=by
 refine⟨fun x c=>?_,fun x c=>?_,fun x c=>?_,?_,fun d n v c=>?_⟩
 ·rcases List.mem_append.1 c with c|c
  ·exact h.nms x c
  ·rw[List.mem_singleton.1 c];exact o
 ·rcases List.mem_append.1 c with c|c
  ·exact h.ne x c
  ·rw[List.mem_singleton.1 c];exact p
 ·rcases List.mem_append.1 c with c|c
  ·exact h.le x c
  ·rw[List.mem_singleton.1 c];exact m
 ·rw[List.map_append,List.nodup_append];refine⟨h.nd,by simp,fun a j b l=>?_⟩;obtain⟨x,c,rfl⟩:=List.mem_map.1 j;obtain rfl:b=ns:=by simpa using l
  intro e;exact Ud k x.2 (by rw[<-e];exact c)
 ·rcases List.mem_append.1 c with c|c
  ·rcases h.up d n v c with e|⟨i,g,f⟩
   ·exact .inl e
   ·exact .inr ⟨i,List.mem_append_left _ g,f⟩
  ·have e:=(Prod.mk.inj (List.mem_singleton.1 c)).1;rcases q d n e.symm with e|⟨i,g,f⟩
   ·exact .inl e
   ·exact .inr ⟨i,List.mem_append_left _ g,f⟩
theorem IsDir.up{G:Gh}{c:Nat}{a:LY}{b:Nat}(h:IsDir G c a b):a=[]\/∃v,(a,v)∈G/\v.p.isSome=true:=by
 rcases h with⟨rfl,_⟩|h
 ·exact .inl rfl
 ·exact .inr ⟨_,h,rfl⟩
theorem Zhg{P:Program}{fn:Func}{R:Ending->World->Prop}{tmps:Array Value}{w:World}(h:Leaves P fn tmps R [] .returning w):bodyPostD P fn R Exit.ret { tmps:=tmps,defers:=[] } w:=h
theorem ZhK(w:World)(a:OA)(l c:Nat)(s:By)(h:Sl w 5 1 (.slice a l c) l (Dc s))(A:s.size<=1280)(i:Nat)(b:OA)(n f:Nat)(d:By)(q:RdB w b n f d)(t:i+d.size<=1280):
  Calls Tryz.prog 187 #[.slice a l c,.int .i64 i,.slice b n f] w fun e w'=>∃oa oc,e = .returned (.slice oa (ovR s i d).size oc)/\Sl w' 5 1 (.slice oa (ovR s i d).size oc) (ovR s i d).size (Dc (ovR s i d))/\Below w.heap.size w w'/\Na w a oa:=by
 refine(ZgP w a l c s h.rdB A i b n f d q t).mono ?_;rintro e w' ⟨z,j⟩;rcases z with⟨o,rfl⟩|⟨o,x,m,rfl,B,p⟩
 ·have:ovR s i d=s:=by unfold ovR;rw[if_pos o]
  rw[this];have v:l=s.size:=h.rdB.1;subst v;exact⟨a,c,rfl,h.kept (fun k u _=>j.block k u),j,.inl rfl⟩
 ·have:ovR s i d=wrR s i d:=by unfold ovR;rw[if_neg (by omega)];rfl
  rw[this];have y:m=(wrR s i d).size:=p.rdB.1;subst y;exact⟨_,_,rfl,p,j,.inr (fun g r=>by cases r;exact B)⟩
theorem ZdM(w:World)(tb d:Nat)(V:NV)(E:NS)(vi:Value)(G:Gh)(I:LF)(C:IB)(h:TW w tb d V E vi G I C)(hG:GOk G)(bk:G.length<=9000)(bl:I.length<=9000)(aO:∀x∈I,x.2.l<=2000000)(a:LY)(g:Nat)(af:IsDir G d a g)(n:By)(hn:n.size<=2000000)(J:Nms (a++[n])/\(a++[n]).length<=6)(aA:atG G (a++[n])=none)(f:Int)(hf:∀x∈I,x.1≠f)(r:OA)(i t:Nat)(a8:i<=2000000)(s:By)(aH:Sl w 5 1 (.slice r i t) i (Dc s)):
  Calls Tryz.prog 185 #[.pointer (some ⟨tb,0,none⟩),Dl (some ⟨g,0,none⟩) n false ⟨none,0⟩,.int .i64 f,.slice r i t] w fun e w'=>(JD G I a=false/\e = .returned (.int .i64 8)/\Below w.heap.size w w')\/(JD G I a=true/\(∃x:Int,e = .returned (.int .i64 x))/\MadeF w tb G I C (a++[n]) f ⟨r,i,t,1⟩ s e w'):=by
 have bm:∀(fn:Fn) (first cap:Array Value) (w:World),(Instr.makeFunc fn first cap).run Tryz.prog w = .ok (.func fn first cap) w:=fun _ _ _ _=>rfl
 unfold Dl;obtain⟨W1,aw,aT,bb,U,aB⟩:=De w [.pointer (some ⟨tb,0,none⟩)] 37;obtain⟨W2,ax,aU,aN,ak,aC⟩:=De W1 (DT (some ⟨g,0,none⟩) n false ⟨none,0⟩) 262;obtain⟨W3,ay,aV,ah,aS,aD⟩:=De W2 [.int .i64 f] 3;obtain⟨W4,az,aW,T,be,aE⟩:=De W3 [.int .i64 0] 26;have S:Below w.heap.size w W4:=((aB.trans (aC.mono (by omega))).trans (aD.mono (by omega))).trans (aE.mono (by omega));have y4:=T _ _ _ (ah _ _ _ (aN _ _ _ aT));have L:=T _ _ _ (ah _ _ _ aU);have y6:=T _ _ _ aV;have y8:=aW;rw[U]at L;rw[ak,U]at y6;rw[aS,ak,U]at y8;have aP:=ZeD W4 tb d V E vi G I C (h.below S (Nat.le_refl _)) hG (by omega) (by omega) a g af;have ap:=Db aP;have HH:=Db h;have HD:=Db aH;have a1:=Db aO;have HF:=Db hf;have ab:=Db af;have aa:=Db aA;have a2:=Db J;have HW:Hid ((((w.alloc (.cells #[.pointer (some ⟨tb,0,none⟩)] 37)).alloc (.cells #[.pointer (some ⟨g,0,none⟩),.string n,.bool false,.pointer none,.int .i64 0] 262)).alloc (.cells #[.int .i64 f] 3)).alloc (.cells #[.int .i64 0] 26)=W4):=by
  show _=_;rw[<-az,<-ay,<-ax,<-aw]
 clear h aH aO hf af aA J aP aw ax ay az aT aU aV aW bb aN ah T aB aC aD aE U ak aS be
 go_enter_defers Tryz.func185,Tryz.ntmps185
 go_upto_region 1 with fail;rw[Da HW];clear HW;have a4:=y4.cell 0;have a5:=L.cell 0;go_wp2_with fail;refine(Da ap).mono ?_;rintro e b ⟨rfl,u⟩;have x4:RowIs b w.heap.size 37 _:=(u.block _ y4.lt).trans y4;have x5:RowIs b (w.heap.size+1) 262 _:=(u.block _ L.lt).trans L;have x6:RowIs b (w.heap.size+1+1) 3 _:=(u.block _ y6.lt).trans y6;have K:RowIs b (w.heap.size+1+1+1) 26 _:=(u.block _ y8.lt).trans y8;have H:Below w.heap.size w b:=S.trans (u.mono S.size);rw[show decide ((G.countP (qIn a)<20/\G.length<100)/\cD G []+I.length<60)=JD G I a from rfl];clear ap a4 a5 y4 L y6 y8 u S
 cases hmb:JD G I a with
 | false=>
  have c8:=K.cell 0;have f8:=K.frozen 0;go_wp2;have F:=(K.set 0 (.int .i64 8)).cell 0;refine Zhg ?_;exact⟨.int .i64 8,by simp[results,Tryz.results185,go_sem]at F ⊢;simp[F],.inl ⟨hmb,rfl,H.setCell (p:=⟨w.heap.size+1+1+1,0,none⟩) (by show w.heap.size<=w.heap.size+1+1+1;omega) _⟩⟩
 | true=>
  have aq:Hid (∀X,Below b.heap.size b X->Calls Tryz.prog 228 #[.pointer (some ⟨tb,1,none⟩),.int .i64 f,.agg #[.slice none 0 0,.int .i64 1]] X fun e w'=>e = .returned (.tuple #[])/\(∃A D,TW w' tb d V E A G D (fun k=>if k=f then ⟨#[]⟩ else C k)/\D.length=I.length+1/\∀x,x∈D↔x=(f,⟨none,0,0,1⟩)\/x∈I)/\Fr (DM tb b) b w'):=fun X hb=>by
   have hX:=(Da HH).below (H.trans (hb.mono H.size)) (Nat.le_refl _);refine(ZiF X tb d V E vi G I C hX (by omega) f ⟨none,0,0,1⟩ (Da HF) ⟨#[]⟩ ⟨rfl,.inl ⟨rfl,rfl⟩⟩).mono ?_;rintro e w' ⟨rfl,⟨A,D,Y,Z,q3⟩,q4⟩;exact⟨rfl,⟨A,D,Y,Z,q3⟩,Fr.prog hb (Fr.progI hX q4)⟩
  have a4:=x4.cell 0;have a6:=x6.cell 0;have X4:=Db x4;have X5:=Db x5;have X6:=Db x6;have X8:=Db K;have aG:Below b.heap.size b b:=Below.refl _ _;have aF:Below b.heap.size b b.drew:=aG.drew;clear x4 x5 x6 K;go_upto_region 3 with fail
  go_region_held3 (fun W=>W.cell? ⟨w.heap.size,0,none⟩=some (.pointer (some ⟨tb,0,none⟩))/\W.cell? ⟨w.heap.size+1+1,0,none⟩=some (.int .i64 f)) (go_keep)
   (first|(go_at_call 228;refine(Da aq _ aF).mono ?_;rintro e w6 ⟨rfl,⟨A,q,Y,Z,q3⟩,l⟩;have m4:=((Da X4).prog l (by decide)).cell 0;have m6:=((Da X6).prog l (by decide)).cell 0))
  all_goals
   have z4:=(Da X4).prog l (by decide);have o:=(Da X5).prog l (by decide);have z6:=(Da X6).prog l (by decide);have z8:=(Da X8).prog l (by decide);have ag:=Zjx w6 tb d V E A G q _ Y hG (by omega) (by omega) a g (Da ab) n hn (Da aa) f;unfold Dl at ag;have al:=Db ag;have B:=Db q3;have M:=Db Z;have an:=Db l;have b0:=o.cell 0;have b1:=o.cell 1;have b2:=o.cell 2;have b3:=o.cell 3;have b4:=o.cell 4;clear ag Y Z q3 l aq X4 X5 X6 X8 a4 a6 m4 m6 aG aF;have a6:=z6.cell 0;go_wp2_with fail;refine(Da al).mono ?_;rintro e w7 ⟨rfl,V',E',h7,m⟩;have s4:=z4.prog m (by decide);have s5:=o.prog m (by decide);have s6:=z6.prog m (by decide);have s8:=z8.prog m (by decide);have aZ:Hid (Fr (DM tb w) w w7):=(Fr.prog H (Da an)).progTrans m;have aY:Hid (Sl w7 5 1 (.slice r i t) i (Dc s)):=(((Da HD).kept (fun k hk _=>H.block k hk)).prog (Da an)).prog m;have HT:=Db h7;have ao:Hid ((f,(⟨none,0,0,1⟩:VF))∈q):=(Da B _).2 (.inl rfl);have ae:q.length<=10000:=by have:=Da M;omega
   have aJ:=Zkj w7 tb d V' E' A _ q _ h7 ae (fun x hx=>by
    rcases (Da B x).1 hx with rfl|hx
    ·exact Nat.zero_le _
    ·exact Da a1 x hx) f ⟨none,0,0,1⟩ (Da ao) r i t a8 s (Da aY)
   have am:=Db aJ;have c4:=s4.cell 0;have c6:=s6.cell 0;have S4:=Db s4;have S5:=Db s5;have S6:=Db s6;have S8:=Db s8;clear aJ h7 m al b0 b1 b2 b3 b4 a6 z4 o z6 z8 s4 s5 s6 s8;go_wp2_with fail;refine(Da am).mono ?_;rintro e w8 ⟨x,rfl,hq⟩;obtain⟨z,I2,aM,v⟩:=hq;have O:=(Da S4).prog z (by decide);have P:=(Da S5).prog z (by decide);have Q:=(Da S6).prog z (by decide);have j:=(Da S8).prog z (by decide);have k8:=j.cell 0;have f8:=j.frozen 0;have a0:=Db z;have aX:=Db v;have N:=Db aM;have G4:=Db O;have G5:=Db P;have G6:=Db Q;have G8:=Db j;clear z v aM am c4 c6 S4 S5 S6 S8 O P Q j;go_wp2;have O:=Da G4;have P:=Da G5;have Q:=Da G6;have j:=Da G8;have ar:Fr (DM tb w) w (w8.setCell ⟨w.heap.size+1+1+1,0,none⟩ (.int .i64 x)):=((Da aZ).progTrans (Da a0)).ext ((Below.refl _ _).setCell (p:=⟨w.heap.size+1+1+1,0,none⟩) (by show w.heap.size<=w.heap.size+1+1+1;omega) _);have F:=j.set 0 (.int .i64 x);have d4:=O.setOther ⟨w.heap.size+1+1+1,0,none⟩ (.int .i64 x) (by show w.heap.size+1+1+1≠w.heap.size;omega);have d5:=P.setOther ⟨w.heap.size+1+1+1,0,none⟩ (.int .i64 x) (by show w.heap.size+1+1+1≠w.heap.size+1;omega);have d6:=Q.setOther ⟨w.heap.size+1+1+1,0,none⟩ (.int .i64 x) (by show w.heap.size+1+1+1≠w.heap.size+1+1;omega);have J:=Da a2;have au:GOk (G++[(a++[n],(⟨none,f⟩:VS))]):=hG.add J.1 (by simp) J.2 (Da aa) (fun bj n' e=>by obtain⟨rfl,rfl⟩:=Qg e;exact(Da ab).up) _;have av:(G++[(a++[n],(⟨none,f⟩:VS))]).length<=10000:=by simp;omega
   have aI:IsDir (G++[(a++[n],(⟨none,f⟩:VS))]) d a g:=(Da ab).elim .inl (fun h => .inr (List.mem_append_left _ h));have aR:(a++[n],(⟨none,f⟩:VS))∈G++[(a++[n],(⟨none,f⟩:VS))]:=by simp
   have a9:∀y,y∈G↔y∈JZ (G++[(a++[n],(⟨none,f⟩:VS))]) (a++[n]):=fun y=>by
    rw[Qy,List.mem_append,List.mem_singleton];constructor
    ·intro c;exact⟨.inl c,fun e=>Ud (G:=G) (ns:=a++[n]) (Da aa) y.2 (by rw[<-e];exact c)⟩
    ·rintro⟨c|rfl,ai⟩
     ·exact c
     ·exact absurd rfl ai
   have ac:w.heap.size+1+1+1≠0:=by omega
   have ad:=Da HF;refine leaves_cons (f:=229) (args := #[.pointer (some ⟨w.heap.size+1+1+1,0,none⟩),.pointer (some ⟨w.heap.size+1,0,none⟩),.pointer (some ⟨w.heap.size,0,none⟩),.pointer (some ⟨w.heap.size+1+1,0,none⟩)]) (by simp) (by simp[go_sem]) ?_;rcases Da aX with⟨e9,ba,a3,R,bc,aQ⟩|⟨e0,bd,R⟩
   ·have bh:x=9:=by simpa using e9
    subst bh;refine(Ze6 _ _ _ _ .returning _ tb d _ _ _ _ a3 _ (R.setOther j ac (by decide) 0 (.int .i64 9)) au av (by rw[bc];exact ae) a g aI n false ⟨none,0⟩ f aR ⟨none,0,0,1⟩ ((aQ _).2 (Da ao)) rfl 9 (by simpa using F) d5 d4 d6).mono ?_;rintro e u' w9 ⟨rfl,rfl,aj,aK,v⟩;have hc:=aj.cell 0;refine⟨.int .i64 9,by simp[results,Tryz.results185,go_sem,hc],?_⟩;rcases v with⟨h0,_⟩|⟨_,V7,E7,bi,I7,a7,aL⟩
    ·exact absurd h0 (by decide)
    ·refine .inr ⟨hmb,⟨_,rfl⟩,ar.progTrans aK,q,I2,Da M,Da B,Da N,.inl ⟨rfl,ba,I7,_,⟨d,V7,E7,bi,a7.congrG a9⟩,?_,fun y=>?_,fun y c=>if_neg (ad y c)⟩⟩
     ·have h1:=aL.1;have h2:=Da M;omega
     ·rw[aL.2 y,aQ y,Da B y];constructor
      ·rintro⟨rfl|c,ai⟩
       ·exact absurd rfl ai
       ·exact c
      ·intro c;exact⟨.inr c,ad y c⟩
   ·have bg:x=0:=by simpa using e0
    subst bg;refine(Ze6 _ _ _ _ .returning _ tb d _ _ _ _ I2 _ (R.setOther j ac (by decide) 0 (.int .i64 0)) au av (by rw[(Da N).1];exact ae) a g aI n false ⟨none,0⟩ f aR ⟨r,i,t,1⟩ (((Da N).2 _).2 (.inl rfl)) rfl 0 (by simpa using F) d5 d4 d6).mono ?_;rintro e u' w9 ⟨rfl,rfl,aj,aK,v⟩;have hc:=aj.cell 0;refine⟨.int .i64 0,by simp[results,Tryz.results185,go_sem,hc],?_⟩;rcases v with⟨_,bf⟩|⟨h0,_⟩
    ·rw[bf];refine .inr ⟨hmb,⟨_,rfl⟩,ar,q,I2,Da M,Da B,Da N,.inr ⟨rfl,bd,_,⟨d,_,_,_,R.setOther j ac (by decide) 0 (.int .i64 0)⟩,by simp,fun y c=>?_⟩⟩;simp[ad y c]
    ·exact absurd rfl h0
theorem Zhs(w:World)(tb:Nat)(G:Gh)(I:LF)(C:IB)(h:PS w tb G I C)(hG:GOk G)(bj:G.length<=9000)(bk:I.length<=9000)(aK:∀x∈I,0<=x.1)(aJ:FlOk G I)(aP:∀x∈I,x.2.l<=2000000)(hC:∀x∈I,(C x.1).size<=1280)(p:By)(hp:p.size<=2000000)(i:Int)(d:By)(bl:d.size<=2000000)(ad:OA)(cd:Nat)(hd:RdB w ad d.size cd d):
  Calls Tryz.prog 123 #[.pointer (some ⟨tb,0,none⟩),.string p,.int .i64 i,.slice ad d.size cd] w (KF w tb G I C p i d):=by
 obtain⟨Z,V,E,vi,h⟩:=h;have ag:Hid (∀W,Below w.heap.size w W->wrE G I p i d≠0->KF w tb G I C p i d (.returned (.int .i64 (wrE G I p i d))) W):=fun W o a => .inl ⟨a,rfl,Fr.of_below o,Z,V,E,vi,h.below o (Nat.le_refl _)⟩
 have HH:=Db h;have aX:=Db aJ;have HC:=Db hC;have aE:=Db aP;have aZ:=Db aK;have HD:=Db hd;have P:=Db (Zcr w tb Z V E vi G I C h hG (by omega) p hp (K8 i d));clear h aJ hC aP hd aK;obtain⟨ax,U⟩:∃b,b=K8 i d:=⟨_,rfl⟩;have am:=Db U;rw[<-U]at P;have a8:(ax=true/\0<=i/\i<=1280-(d.size:Int))\/(ax=false/\0<=i/\¬i<=1280-(d.size:Int))\/(ax=false/\¬0<=i):=by
  unfold K8 at U;by_cases B:0<=i
  ·by_cases g:i<=1280-(d.size:Int)
   ·exact .inl ⟨by rw[U];exact decide_eq_true ⟨B,g⟩,B,g⟩
   ·exact .inr (.inl ⟨by rw[U];exact decide_eq_false (fun h=>g h.2),B,g⟩)
  ·exact .inr (.inr ⟨by rw[U];exact decide_eq_false (fun h=>B h.1),B⟩)
 clear U;rcases a8 with⟨rfl,aH,a5⟩|⟨rfl,aH,a5⟩|⟨rfl,aH⟩
 ·go_enter Tryz.func123,Tryz.ntmps123;go_wp2_with fail;refine(Da P).mono ?_;rintro e w1 ⟨N,o⟩;clear P;rcases N with⟨a,rfl⟩|⟨he,ai,sd,n,t,u,aA,rfl⟩
  ·have q:Hid (wrE G I p i d=DJ G p true):=by show _=_;unfold wrE;rw[<-Da am,if_pos a]
   have Q:=Db a;have aR:(DJ G p true != 0)=true:=by simpa using a
   clear a;unfold DD Dl;go_wp2;go_ret;have:=Da ag _ (o.alloc o.size (.cells (DT none ⟨#[]⟩ false ⟨none,0⟩).toArray 262)) (by rw[Da q];exact Da Q);rw[Da q]at this;exact this
  ·have a9:=ZcW (Da HH).d aA;have a4:=Db aA;have aW:=Db he;have a3:=Db ai;clear aA he ai;unfold Dl;go_upto_if 32 with fail;obtain⟨W,hW,s,hk,aj,aM⟩:=De w1 (DT sd n t u) 262;have y:Below w.heap.size w W:=o.trans (aM.mono o.size);rw[hW];have aU:Hid (w.heap.size<=w1.heap.size):=o.size;obtain⟨l,aI⟩:∃b,b=w1.heap.size:=⟨_,rfl⟩;rw[<-aI]at s aU ⊢;clear hW hk aM o aj aI;have c0:=s.cell 0;have c1:=s.cell 1;have c2:=s.cell 2;have c3:=s.cell 3;have c4:=s.cell 4;have HX:=Db s;clear s;have av:Hid (wrE G I p i d=if Df p=[] then 5 else match atG G (Df p) with|some u=>if u.p.isSome=true then 5 else 0|none=>if JD G I (Df p).dropLast=false then 8 else 0):=by show _=_;unfold wrE;rw[<-Da am,if_neg (by rw[Da aW];simp)]<;>rfl
   obtain⟨k,hk⟩:∃k:Nat,i=(k:Int):=⟨i.toNat,by omega⟩;subst hk;rcases a9 with⟨rfl,a,L⟩|⟨rfl,a,L,hu⟩|⟨rfl,b,rfl,au,aS⟩
   ·obtain⟨H,A,M,au,bg,bi⟩:∃H A,Df p=H++[n]/\IsDir G Z H A/\sd=some ⟨A,0,none⟩/\u=⟨none,0⟩:=by
     rcases Da a4 with⟨g,_⟩|⟨H,A,g,m,J,_,h5⟩
     ·exact absurd g a
     ·exact⟨H,A,g,m,J,by rw[h5,L];rfl⟩
    subst bg bi;have a2:=Db M;have aV:=Db au;have al:=Db L;have aw:Hid (wrE G I p (k:Int) d=if JD G I H=false then 8 else 0):=by show _=_;rw[Da av,if_neg a,L];simp only;rw[M,List.dropLast_concat]
    obtain⟨S,v⟩:∃S,S=ovR ⟨#[]⟩ (k:Int) d:=⟨_,rfl⟩;have aq:S.size<=2000000:=by
     rw[v];unfold ovR
     split
     ·decide
     ·rw[Q4];have B:(⟨#[]⟩:By).size=0:=rfl;rw[B];omega
    have an:Hid (∀X,Below W.heap.size W X->Calls Tryz.prog 187 #[.slice none 0 0,.int .i64 (k:Int),.slice ad d.size cd] X fun e w'=>∃c j,e = .returned (.slice c S.size j)/\Hid (Sl w' 5 1 (.slice c S.size j) S.size (Dc S))/\Below X.heap.size X w'/\Hid (Na X none c)):=fun X K=>by
     have z:=y.trans (K.mono y.size);have g:Sl X 5 1 (.slice none 0 0) 0 (Dc ⟨#[]⟩):=⟨rfl,.inl ⟨rfl,rfl⟩⟩;have m:=(Da HD).below z;exact(ZhK X none 0 0 ⟨#[]⟩ g (by decide) k ad d.size cd d m (by omega)).mono (fun e w' ⟨c,j,g,m,J,D⟩=>⟨c,j,by rw[v];exact g,by rw[v];exact m,J,D⟩)
    have aY:Hid (∀X,Below W.heap.size W X->Calls Tryz.prog 186 #[.pointer (some ⟨tb,0,none⟩)] X fun e w'=>∃f:Nat,e = .returned (.int .i64 f)/\Hid (f<=I.length/\∀x∈I,x.1≠f)/\Below X.heap.size X w'):=fun X K=>by
     have z:=y.trans (K.mono y.size);have hT:=(Da HH).below z (Nat.le_refl _);exact(ZlO X tb _ vi I hT.t hT.i (by omega) hT.si (Da aZ)).mono (fun e w' ⟨f,g,m,J,D⟩=>⟨f,g,⟨m,J⟩,D⟩)
    have aF:Hid (∀X (f:Nat) c j,Below W.heap.size W X->Hid (f<=I.length/\∀x∈I,x.1≠f)->Hid (Sl X 5 1 (.slice c S.size j) S.size (Dc S))->Hid (Na W none c)->Calls Tryz.prog 185 #[.pointer (some ⟨tb,0,none⟩),Dl (some ⟨A,0,none⟩) n false ⟨none,0⟩,.int .i64 f,.slice c S.size j] X fun e w'=>∃x:Int,e = .returned (.int .i64 x)/\KF w tb G I C p (k:Int) d (.returned (.int .i64 x)) w'/\RowIs w' l 262 (DT (some ⟨A,0,none⟩) n false ⟨none,0⟩)):=fun X f c j K hf ao aa=>by
     have z:=y.trans (K.mono y.size);have aB:RowIs X l 262 (DT (some ⟨A,0,none⟩) n false ⟨none,0⟩):=(K.block _ (Da HX).lt).trans (Da HX);have M:=Da a2;have ai:=Da a3;have bd:Nms (H++[n])/\(H++[n]).length<=6:=by
      cases hr:(p.toList==[47]) with
      | true=>have B:=Ui hr;rw[M]at B;simp at B
      | false=>obtain⟨_,m,_,D⟩:=Uq ai hr;rw[M]at m D;exact⟨m,D⟩
     refine(ZdM X tb Z V E vi G I C ((Da HH).below z (Nat.le_refl _)) hG (by omega) (by omega) (Da aE) H A (Da aV) n (Zfp ai M) bd (by rw[<-M];exact Da al) f (Da hf).2 c S.size j aq S (Da ao)).mono ?_;rintro e w' (⟨hm,rfl,T⟩|⟨hm,⟨x,rfl⟩,aO,I1,I2,g,m,J,D⟩)
     ·have:=Da ag w' (z.trans (T.mono z.size)) (by rw[Da aw,hm];decide);rw[Da aw,hm]at this;exact⟨8,rfl,this,(T.block _ aB.lt).trans aB⟩
     ·refine⟨x,rfl,.inr ⟨by rw[Da aw,hm];rfl,.inr ⟨Da al,Fr.prog z aO,f,I1,I2,c,j,(Da aa).mono y.size,(Da hf).1,(Da hf).2,g,m,by rw[<-v];exact J,?_⟩⟩,aB.prog aO (by decide)⟩;rw[<-v,M];exact D
    unfold Dl at aF;clear M au L a aq v;have a7:Below W.heap.size W W:=Below.refl _ _;have aN:Below W.heap.size W W.drew:=a7.drew;have F:=(Da HX).lt;go_upto_region 6 with fail
    go_region_held3 (fun W=>W.cell? ⟨l,0,none⟩=some (.pointer (some ⟨A,0,none⟩))/\W.cell? ⟨l,1,none⟩=some (.string n)/\W.cell? ⟨l,2,none⟩=some (.bool false)/\W.cell? ⟨l,3,none⟩=some (.pointer none)/\W.cell? ⟨l,4,none⟩=some (.int .i64 0)) (go_keep)
     (first|(go_at_call 186;refine(Da aY _ (by assumption)).mono ?_;rintro e w3 ⟨f,rfl,hf,R⟩;have O:=aN.trans (R.mono aN.size);have m0:=(O.cell (p:=⟨l,0,none⟩) F).trans c0;have m1:=(O.cell (p:=⟨l,1,none⟩) F).trans c1;have m2:=(O.cell (p:=⟨l,2,none⟩) F).trans c2;have m3:=(O.cell (p:=⟨l,3,none⟩) F).trans c3;have m4:=(O.cell (p:=⟨l,4,none⟩) F).trans c4)|(go_at_call 187;refine(Da an _ (by assumption)).mono ?_;rintro e w4 ⟨c,j,rfl,ap,ar,aa⟩;have ab:=O.trans (ar.mono O.size);have n0:=(ab.cell (p:=⟨l,0,none⟩) F).trans c0;have n1:=(ab.cell (p:=⟨l,1,none⟩) F).trans c1;have n2:=(ab.cell (p:=⟨l,2,none⟩) F).trans c2;have n3:=(ab.cell (p:=⟨l,3,none⟩) F).trans c3;have n4:=(ab.cell (p:=⟨l,4,none⟩) F).trans c4)|(go_at_call 185;refine(Da aF _ f c j ab hf ap ((Da aa).mono O.size)).mono ?_;rintro e w5 ⟨x,rfl,hq,ak⟩;have HQ:=Db hq;have o0:=ak.cell 0;have o1:=ak.cell 1;have o2:=ak.cell 2;have o3:=ak.cell 3;have o4:=ak.cell 4;clear hq))
    all_goals
     go_wp2;go_ret;exact Da HQ
   ·obtain⟨up,uf⟩:=u;simp only at hu;subst hu;have q:Hid (wrE G I p (k:Int) d=0):=by show _=_;rw[Da av,if_neg a,L];rfl
    obtain⟨r,az,be,bf⟩:=FlOk.mono (Da aX) L rfl;simp only at az;have al:=Db L;have af:=Db az;have Y:Calls Tryz.prog 188 #[Dl sd n true ⟨none,uf⟩] W fun e w'=>e = .returned (.tuple #[.int .i64 uf,.int .i64 0])/\Below W.heap.size W w':=ZdP sd n true ⟨none,uf⟩ W
    unfold Dl at Y;have ae:=Db Y;clear a L be bf az Y;go_wp2_with fail;refine(Da ae).mono ?_;rintro e w2 ⟨rfl,R⟩;have T:Below w.heap.size w w2:=y.trans (R.mono y.size);have aD:=Db (KZ w2 tb Z V E vi G I C ((Da HH).below T (Nat.le_refl _)) (by omega) uf r (Da af));clear ae c0 c1 c2 c3 c4 R;go_wp2_with fail;refine(Da aD).mono ?_;rintro e w3 ⟨rfl,ar⟩;have ay:Below w.heap.size w w3:=T.trans (ar.mono T.size);clear aD ar;go_upto_region 11 with fail;obtain⟨X,K,s,bb,bh,z⟩:=De w3 [.slice r.a r.l r.c,.int .i64 r.f] 217;have ah:Below w.heap.size w X:=ay.trans (z.mono ay.size);rw[K];have a0:=s.cell 0;have a1:=s.cell 1;have aG:Hid (TW X tb Z V E vi G I C):=(Da HH).below ah (Nat.le_refl _);have aj:=Da HC _ (Da af);simp only at aj;obtain⟨S,v⟩:∃S,S=ovR (C uf) (k:Int) d:=⟨_,rfl⟩;have aq:S.size<=2000000:=by
     rw[v];unfold ovR
     split
     ·omega
     ·rw[Q4];omega
    have an:Hid (Calls Tryz.prog 187 #[.slice r.a r.l r.c,.int .i64 (k:Int),.slice ad d.size cd] X fun e w'=>∃c ol j,e = .returned (.slice c ol j)/\Hid (ol=S.size/\Sl w' 5 1 (.slice c ol j) ol (Dc S))/\Below X.heap.size X w'/\Hid (Na X r.a c)):=by
     have g:=(Da aG).dat _ (Da af);have m:=(Da HD).below ah;exact(ZhK X r.a r.l r.c (C uf) g aj k ad d.size cd d m (by omega)).mono (fun e w' ⟨c,j,g,m,J,D⟩=>⟨c,_,j,g,by rw[v];exact⟨rfl,m⟩,J,D⟩)
    have HS:=Db v;clear K bb bh z s T ay aj v;go_wp2_with fail;refine(Da an).mono ?_;rintro e w5 ⟨c,ol,j,rfl,ap,aL,aa⟩;obtain⟨bc,ao⟩:=Da ap;subst bc;have a6:Below w.heap.size w w5:=ah.trans (aL.mono ah.size);have aC:=Db (ZfE w5 tb Z V E vi G I C ((Da aG).below aL (Nat.le_refl _)) (by omega) (Da aE) uf r (Da af) c S.size j aq S ao);clear an ao ap a0 a1;go_wp2_with fail;refine(Da aC).mono ?_;rintro e w6 N;have aT:=N.ps a6;have aQ:=(Da aa).mono ah.size;have ac:Hid (KF w tb G I C p (k:Int) d e w6) := .inr ⟨Da q,.inl ⟨_,r,c,j,Da al,rfl,Da af,aQ,by rw[<-Da HS];exact aT⟩⟩;have ba:e = .returned (.int .i64 9)\/e = .returned (.int .i64 0):=by
     obtain⟨_,I',_,⟨e1,_⟩|⟨e1,_⟩⟩:=N
     ·exact .inl e1
     ·exact .inr e1
    clear N aT aC aQ aa;rcases ba with rfl|rfl
    ·go_wp2;go_ret;exact Da ac
    ·go_wp2;go_ret;exact Da ac
   ·have q:Hid (wrE G I p (k:Int) d=5):=by
     show _=_;rw[Da av];rcases aS with h|h
     ·rw[if_pos h]
     ·by_cases a:Df p=[]
      ·rw[if_pos a]
      ·rw[if_neg a,h];rfl
    have Y:Calls Tryz.prog 188 #[Dl sd n true ⟨some ⟨b,0,none⟩,0⟩] W fun e w'=>e = .returned (.tuple #[.int .i64 0,.int .i64 5])/\Below W.heap.size W w':=ZdP sd n true ⟨some ⟨b,0,none⟩,0⟩ W
    unfold Dl at Y;have ae:=Db Y;clear aS au Y;go_wp2_with fail;refine(Da ae).mono ?_;rintro e w2 ⟨rfl,R⟩;have ac:=Db (Da ag w2 (y.trans (R.mono y.size)) (by rw[Da q];decide));rw[Da q]at ac;clear ae c0 c1 c2 c3 c4 R;go_wp2;go_ret;exact Da ac
 ·have a:DJ G p false≠0:=fun e=>by unfold DJ at e;split at e<;>simp at e
  have aR:(DJ G p false != 0)=true:=by simpa using a
  have q:Hid (wrE G I p i d=DJ G p false):=by show _=_;unfold wrE;rw[<-Da am,if_pos a]
  have Q:=Db a;clear a;go_enter Tryz.func123,Tryz.ntmps123;go_wp2_with fail;refine(Da P).mono ?_;rintro e w1 ⟨N,o⟩;clear P;rcases N with⟨_,rfl⟩|⟨he,_⟩
  ·unfold DD Dl;go_wp2;go_ret;have:=Da ag _ (o.alloc o.size (.cells (DT none ⟨#[]⟩ false ⟨none,0⟩).toArray 262)) (by rw[Da q];exact Da Q);rw[Da q]at this;exact this
  ·exact absurd he (Da Q)
 ·have a:DJ G p false≠0:=fun e=>by unfold DJ at e;split at e<;>simp at e
  have aR:(DJ G p false != 0)=true:=by simpa using a
  have q:Hid (wrE G I p i d=DJ G p false):=by show _=_;unfold wrE;rw[<-Da am,if_pos a]
  have Q:=Db a;clear a;go_enter Tryz.func123,Tryz.ntmps123;go_wp2_with fail;refine(Da P).mono ?_;rintro e w1 ⟨N,o⟩;clear P;rcases N with⟨_,rfl⟩|⟨he,_⟩
  ·unfold DD Dl;go_wp2;go_ret;have:=Da ag _ (o.alloc o.size (.cells (DT none ⟨#[]⟩ false ⟨none,0⟩).toArray 262)) (by rw[Da q];exact Da Q);rw[Da q]at this;exact this
  ·exact absurd he (Da Q)
theorem Ziu(w:World)(tb:Nat)(G:Gh)(I:LF)(C:IB)(h:PS w tb G I C)(f:GOk G)(g:G.length<=9000)(k:I.length<=9000)(j:∀x∈I,0<=x.1)(e:FlOk G I)(n:∀x∈I,x.2.l<=2000000)(c:∀x∈I,(C x.1).size<=1280)(p:By)(o:p.size<=2000000)(i:Int)(d:By)(m:d.size<=2000000)(a:OA)(b:Nat)(l:Sl w 5 1 (.slice a d.size b) d.size (Dc d)):
  Calls Tryz.prog 123 #[.pointer (some ⟨tb,0,none⟩),.string p,.int .i64 i,.slice a d.size b] w (KF w tb G I C p i d):=Zhs w tb G I C h f g k j e n c p o i d m a b l.rdB


structure Rl(G:Gh)(I:LF)(C:IB)(ρ : Int->Nat)(L:List (By×Int))(F:LY):Prop where
 eqL:L=G.map (vw ρ)
 ok:GOk G
 num:NumOk I ρ L F
 fl:∀x∈G,x.2.p=none->∃r,(x.2.f,r)∈I
 con:∀x∈I,F[ρ x.1]?=some (C x.1)
 pos:∀x∈I,0<=x.1
 lG:G.length<=100
 lI:I.length<=60
 sz:∀s∈F,s.size<=1280
section
variable{G:Gh}{I:LF}{C:IB}{ρ : Int->Nat}{L:List (By×Int)}{F:LY}
end
section
variable{G:Gh}{I:LF}{C:IB}{ρ : Int->Nat}{L:List (By×Int)}{F:LY}
end
section
variable{G:Gh}{I:LF}{C:IB}{ρ : Int->Nat}{L:List (By×Int)}{F:LY}
end
section
variable{G:Gh}{I:LF}{C:IB}{ρ : Int->Nat}{L:List (By×Int)}{F:LY}
end
section
variable{G:Gh}{I:LF}{C:IB}{ρ : Int->Nat}{L:List (By×Int)}{F:LY}
end
section
variable{G:Gh}{I:LF}{C:IB}{ρ : Int->Nat}{L:List (By×Int)}{F:LY}
end
end Go.Proofs.YtaieidcohdhgpaaGreatDoor
