/- Told. -/
import Derived.Test.YtaieidcohdhgpaaGreatDoorYAS
namespace Go.Proofs.YtaieidcohdhgpaaGreatDoor
set_option maxHeartbeats 40000000
set_option maxRecDepth 100000
open Tryz
open Go.RowKit
def UU(w:World)(tb:Nat)(G:Gh)(I:LF)(C:IB)(p:By)(f:Nat)(r:VF)(s:By)(e:Ending)(w':World):Prop:=
 e=.returned (.bool true)/\Fr (DM tb w) w w'/\∃I1 I2 C2,I1.length=I.length+1/\(∀x,x∈I1↔x=((f:Int),⟨none,0,0,1⟩)\/x∈I)/\F7 I1 I2 (f:Int) r/\PS w' tb (G++[(Df p,⟨none,(f:Int)⟩)]) I2 C2/\C2 f=s/\∀x∈I,C2 x.1=C x.1
theorem Ro{p:By}(_h:DS p=true)(a:Df p≠[]):(p.toList==[47])=false:=by
 cases hr:(p.toList==[47]) with
 |true=>exact absurd (Us hr) a
 |false=>rfl
theorem ZiA(w:World)(tb:Nat)(G:Gh)(I:LF)(C:IB)(h:PS w tb G I C)(hG:Gk G)(aB:G.length<=9000)(aC:I.length<=9000)(ao:∀x∈I,x.2.l<=2000000)(p:By)(hp:p.size<=2000000)(an:Ho G p=0)(ah:Jh G I (Df p).dropLast=true)(f:Nat)(aO:f<60)(hf:∀x∈I,x.1≠(f:Int))(da:OA)(l dc:Nat)(aN:l<=1280)(s:By)(am:Sl w 5 1 (.slice da l dc) l (Dc s))(au:∀I1 I2:LF,I1.length=I.length+1->(∀x,x∈I1↔x=((f:Int),⟨none,0,0,1⟩)\/x∈I)->F7 I1 I2 (f:Int) ⟨da,l,dc,1⟩->DO (I2.map (·.2.l))<=160):
  Cl 157 #[.pointer (some ⟨tb,0,none⟩),.agg #[.string p,.int .u8 2,.int .i64 (f:Nat),.slice da l dc]] w (UU w tb G I C p f ⟨da,l,dc,1⟩ s):=by
 obtain⟨rd,V,E,S,h⟩:=h;obtain⟨W1,e1,T,k1,s1,b1⟩:=De w [.string p,.int .u8 2,.int .i64 (f:Nat),.slice da l dc] 141;have P:∀{X},Bw w X->TW X tb rd V E S G I C:=λi=>h.below i (Aa _)
 have aU:=h.t.lt;have ae:Hid (Cl 181 #[.pointer (some ⟨tb,0,none⟩),.string p] W1 λe X=>∃n t,e=.returned (.tuple #[Dj (some ⟨t,0,none⟩) n false ⟨none,0⟩,.int .i64 0])/\∃Y,X.alloc (.cells (DG (some ⟨t,0,none⟩) n false ⟨none,0⟩).toArray 262)=Y/\FX Y w.heap.size 141 [.string p,.int .u8 2,.int .i64 (f:Nat),.slice da l dc]/\Hid (FX Y X.heap.size 262 (DG (some ⟨t,0,none⟩) n false ⟨none,0⟩))/\Hid (Bw w Y/\w.heap.size+1<=X.heap.size/\Y.heap.size=X.heap.size+1)/\
   Hid (∀Z,Bw w Z->Cl 185 #[.pointer (some ⟨tb,0,none⟩),Dj (some ⟨t,0,none⟩) n false ⟨none,0⟩,.int .i64 (f:Nat),.slice da l dc] Z λe U=>e=.returned (.int .i64 0)/\Hid (UU w tb G I C p f ⟨da,l,dc,1⟩ s (.returned (.bool true)) U))):=by
  refine(UA W1 tb rd V E S G I C (P b1) hG (by omega) p hp).mono ?_;rintro e X⟨(⟨aH,_⟩|⟨_,ar,ds,n,t,R,aE,ak,rfl⟩),i⟩
  ·exact absurd an aH
  ·obtain⟨Y,eY,xY,kY,sY,bY⟩:=De X (DG (some ⟨t,0,none⟩) n false ⟨none,0⟩) 262;have aL:=i.size;have av:Bw w X:=b1.trans (i.mono (by omega));have aD:FX X w.heap.size 141 _:=(i.block _ T.lt).trans T;refine⟨n,t,rfl,Y,eY,kY _ _ _ aD,xY,⟨av.trans (bY.mono av.size),by omega,sY⟩,λZ v=>?_⟩;have z:=(Qt ar (Ro ar (by rw[R];simp))).2;have z:Iw (Df p)/\(Df p).length<=6:=⟨z.1,z.2.2⟩;have aI:(Df p).dropLast=ds:=by rw[R];simp
   rw[aI]at ah;rw[R]at ak z;have aS:n.size<=12:=by
    have u:=z.1 n (by simp);unfold DL at u;simp only[A6,AH]at u;exact u.1.2
   refine(RV Z tb rd V E S G I C (P v) hG aB aC ao ds t aE n (by omega) z ak (f:Int) hf da l dc (by omega) s (am.kept (λk m _=>v.block k m))).mono ?_;rintro e U (⟨Q,_⟩|⟨_,_,aG,I1,I2,q1,q2,q3,(⟨_,q4,_⟩|⟨rfl,_,C2,q4,q5,q6⟩)⟩)
   ·rw[ah]at Q;cases Q
   ·have:=au I1 I2 q1 q2 q3;omega
   ·exact⟨rfl,rfl,Fr.prog v aG,I1,I2,C2,q1,q2,q3,by rw[R];exact q4,q5,q6⟩
 have ad:Hid (∀X,Bw w X->Cl 175 #[.pointer (some ⟨tb,1,none⟩),.int .i64 (f:Nat)] X λe Y=>e=.returned (.tuple #[.agg #[.slice none 0 0,.int .i64 0],.bool false])/\Bw X Y):=λX hX=>by
  have hT:=P hX;refine(LN X tb 1 S I (f:Int) ((hT.t.cell 1).trans rfl) hT.i (by omega) hT.si).mono ?_;rintro e Y⟨r,b,rfl,aF,i⟩;rcases aF with⟨_,Q⟩|⟨rfl,rfl,_⟩
  ·exact absurd rfl (hf _ Q)
  ·exact⟨rfl,i⟩
 have aw:=Db e1;have c0:=(T.cell 0).trans (show _=some (Value.string p) from rfl);have aP:¬((f:Int)<0):=by omega
 have aQ:¬((60:Int)<=(f:Int)):=by omega
 have aM:¬((1280:Int)<(l:Int)):=by omega
 clear e1 T k1 s1 b1 an ah au am hf P h ao hG;go_enter func157,ntmps157;go_upto_region 1 with fail;rw[show w.alloc (.cells #[.string p,.int .u8 2,.int .i64 (f:Nat),.slice da l dc] 141)=W1 from Da aw];unfold Dj at ae;go_upto_region 2 with(go_at_call 181;refine(Da ae).mono ?_;rintro e X⟨n,t,rfl,Y,hY,y1,ay,ai,M⟩;have HY:=Db hY;clear hY ae c0);rw[show X.alloc (.cells (DG (some ⟨t,0,none⟩) n false ⟨none,0⟩).toArray 262)=Y from Da HY];have c2:=(y1.cell 2).trans (show _=some (Value.int .i64 (f:Nat)) from rfl);have c3:=(y1.cell 3).trans (show _=some (Value.slice da l dc) from rfl);have ax:=Db y1;clear y1;go_upto_region 4 with fail;obtain⟨g,aJ,aK⟩:=Da ai;have ab:Hid (∀V,V.heap=Y.heap->V.os=Y.os->V.tape=Y.tape->V.output=Y.output->Bw w V):=λV a b c d=>⟨b.trans g.os,c.trans g.tape,d.trans g.output,by rw[a];exact g.size,λk m=>by rw[a];exact g.block k m⟩
 have aa:Hid (∀V o,V.heap=(Y.alloc o).heap->V.os=Y.os->V.tape=Y.tape->V.output=Y.output->Bw w V):=λV o a b c d=>by
  have u:=g.trans ((Ak w.heap.size Y).alloc g.size o);exact⟨b.trans g.os,c.trans g.tape,d.trans g.output,by rw[a];exact u.size,λk m=>by rw[a];exact u.block k m⟩
 have ac:Hid (∀V j,Bw V j->V.os=Y.os->V.tape=Y.tape->V.output=Y.output->(V.heap=Y.heap\/∃o,V.heap=(Y.alloc o).heap)->FX j w.heap.size 141 [.string p,.int .u8 2,.int .i64 (f:Nat),.slice da l dc]/\FX j X.heap.size 262 (DG (some ⟨t,0,none⟩) n false ⟨none,0⟩)/\Bw w j):=λV j i ho ht hu hV=>by
  have u:=Da ax;have O:=Da ay;rcases hV with e|⟨o,e⟩
  ·have m:∀k,k<Y.heap.size->j.heap[k]?=Y.heap[k]? := λk m=>(i.block k (by rw[e];exact m)).trans (by rw[e])
   have F:=i.size;rw[e]at F;exact⟨(m _ u.lt).trans u,(m _ O.lt).trans O,i.os.trans (ho.trans g.os),i.tape.trans (ht.trans g.tape),i.output.trans (hu.trans g.output),Af g.size F,λk H=>(m k (AY H g.size)).trans (g.block k H)⟩
  ·have m:∀k,k<Y.heap.size->j.heap[k]?=Y.heap[k]? := λk m=>(i.block k (by rw[e];simp;omega)).trans (by rw[e];exact BH Y o k m)
   have F:=i.size;rw[e]at F;simp at F;exact⟨(m _ u.lt).trans u,(m _ O.lt).trans O,i.os.trans (ho.trans g.os),i.tape.trans (ht.trans g.tape),i.output.trans (hu.trans g.output),by have:=g.size;omega,λk H=>(m k (AY H g.size)).trans (g.block k H)⟩
 have af:Hid (∀V j,Bw V j->V.heap=(Y.alloc (.cells #[.slice none 0 0,.int .i64 0] 217)).heap->FX j Y.heap.size 217 [.slice none 0 0,.int .i64 0]):=λV j i e=>(i.block _ (by rw[e];simp)).trans (by rw[e];exact B9 Y _)
 have ap:¬Y.heap.size=w.heap.size:=by omega
 have aq:¬Y.heap.size=X.heap.size:=by omega
 clear g aJ aK
 go_region_held3 (λW=>W.cell? ⟨w.heap.size,2,none⟩=some (.int .i64 (f:Nat))) (go_keep) (first|(go_at_call 175;refine(Da ad _ (by first|exact Da ab _ rfl rfl rfl rfl|exact Da aa _ _ rfl rfl rfl rfl)).mono ?_;rintro e j⟨rfl,ag⟩;have J:=Da ac _ j ag rfl rfl rfl (by first|exact .inl rfl|exact .inr ⟨_,rfl⟩);have al:=(J.1.cell 2).trans (show _=some (Value.int .i64 (f:Nat)) from rfl);have aT:=J.1.lt;have aR:=J.2.1.lt;(try have L:=Da af _ j ag rfl);(try have n0:=L.cell 0);(try have n1:=L.cell 1);(try have n2:=L.frozen 0);(try have n3:=L.frozen 1);have N:=Db J;clear J ag;(try clear L)))
 ·obtain⟨Z,v⟩:∃Z,j.alloc (.cells #[.slice none 0 0,.int .i64 0] 217)=Z:=⟨_,rfl⟩;rw[v];have bZ:Bw j Z:=by rw[<-v];exact(Ak _ j).alloc (Aa _) _
  obtain⟨A,B,D⟩:=Da N;have y:FX Z w.heap.size 141 _:=(bZ.block _ A.lt).trans A;have q:FX Z X.heap.size 262 _:=(bZ.block _ B.lt).trans B;have K:Bw w Z:=D.trans (bZ.mono D.size);have c0:=q.cell 0;have c1:=q.cell 1;have az:=q.cell 2;have aA:=q.cell 3;have c4:=q.cell 4;have d2:=(y.cell 2).trans (show _=some (Value.int .i64 (f:Nat)) from rfl);have d3:=(y.cell 3).trans (show _=some (Value.slice da l dc) from rfl);have HM:=Db (Da M Z K);clear y q A B D K M N ac af aa ab ad c2 c3 al;go_wp2_with(go_at_call 185;refine(Da HM).mono ?_;rintro e U⟨rfl,HP⟩);go_ret;exact Da HP
 ·obtain⟨Z,v⟩:∃Z,(j.setCell ⟨Y.heap.size,0,none⟩ (.slice none 0 0)).setCell ⟨Y.heap.size,1,none⟩ (.int .i64 0)=Z:=⟨_,rfl⟩;rw[v];obtain⟨A,B,D⟩:=Da N;have aj:w.heap.size<=Y.heap.size:=(Da ai).1.size;have y:FX Z w.heap.size 141 [.string p,.int .u8 2,.int .i64 (f:Nat),.slice da l dc]:=by rw[<-v];exact(Aw _ _ _ _ (show w.heap.size≠Y.heap.size from λe=>ap e.symm)).trans ((Aw _ _ _ _ (show w.heap.size≠Y.heap.size from λe=>ap e.symm)).trans A)
  have q:FX Z X.heap.size 262 (DG (some ⟨t,0,none⟩) n false ⟨none,0⟩):=by rw[<-v];exact(Aw _ _ _ _ (show X.heap.size≠Y.heap.size from λe=>aq e.symm)).trans ((Aw _ _ _ _ (show X.heap.size≠Y.heap.size from λe=>aq e.symm)).trans B)
  have K:Bw w Z:=by rw[<-v];exact(D.setCell (p:=⟨Y.heap.size,0,none⟩) aj _).setCell (p:=⟨Y.heap.size,1,none⟩) aj _
  have c0:=q.cell 0;have c1:=q.cell 1;have az:=q.cell 2;have aA:=q.cell 3;have c4:=q.cell 4;have d2:=(y.cell 2).trans (show _=some (Value.int .i64 (f:Nat)) from rfl);have d3:=(y.cell 3).trans (show _=some (Value.slice da l dc) from rfl);have HM:=Db (Da M Z K);clear y q A B D K M N ac af aa ab ad c2 c3 al;go_wp2_with(go_at_call 185;refine(Da HM).mono ?_;rintro e U⟨rfl,HP⟩);go_ret;exact Da HP
theorem Zj(w:World)(tb:Nat)(G:Gh)(I:LF)(C:IB)(h:PS w tb G I C)(i:Gk G)(y:G.length<=9000)(z:I.length<=9000)(n:∀x∈I,x.2.l<=2000000)(p:By)(F:p.size<=2000000)(m:Ho G p=0)(o:Jh G I (Df p).dropLast=true)(f:Nat)(B:f<60)(l:∀x∈I,x.1≠(f:Int))(da:OA)(a dc:Nat)(A:a<=1280)(s:By)(j:Sl w 5 1 (.slice da a dc) a (Dc s))(r:∀I1 I2:LF,I1.length=I.length+1->(∀x,x∈I1↔x=((f:Int),⟨none,0,0,1⟩)\/x∈I)->F7 I1 I2 (f:Int) ⟨da,a,dc,1⟩->DO (I2.map (·.2.l))<=160):
  Cl 97 #[.pointer (some ⟨tb,0,none⟩),.agg #[.string p,.int .u8 2,.int .i64 (f:Nat),.slice da a dc]] w (UU w tb G I C p f ⟨da,a,dc,1⟩ s):=by
 obtain⟨c,g,b,H,M,d⟩:=De w [.string p,.int .u8 2,.int .i64 (f:Nat),.slice da a dc] 141;have q:PS c tb G I C:=by obtain⟨L,V,E,N,h⟩:=h;exact⟨L,V,E,N,h.below d (Aa _)⟩
 have t:Hid (Cl 157 #[.pointer (some ⟨tb,0,none⟩),.agg #[.string p,.int .u8 2,.int .i64 (f:Nat),.slice da a dc]] c λe w'=>e=.returned (.bool true)/\Hid (UU w tb G I C p f ⟨da,a,dc,1⟩ s (.returned (.bool true)) w')):=by
  refine(ZiA c tb G I C q i y z n p F m o f B l da a dc A s (j.kept (λk D _=>d.block k D)) r).mono ?_;rintro e w'⟨rfl,J,K⟩;exact⟨rfl,rfl,Fr.prog d J,K⟩
 have u:=Db g;have c0:=(b.cell 0).trans (show _=some (Value.string p) from rfl);have c1:=(b.cell 1).trans (show _=some (Value.int .u8 2) from rfl);have c2:=(b.cell 2).trans (show _=some (Value.int .i64 (f:Nat)) from rfl);have c3:=(b.cell 3).trans (show _=some (Value.slice da a dc) from rfl);clear g b H M d q h i n m o l r j;go_enter func97,ntmps97;go_upto_region 1 with fail;rw[show w.alloc (.cells #[.string p,.int .u8 2,.int .i64 (f:Nat),.slice da a dc] 141)=c from Da u];go_wp2_with(go_at_call 157;refine(Da t).mono ?_;rintro e w'⟨rfl,v⟩);go_ret;exact Da v
theorem Gc.top{o:World}{l a j H I:Nat}{q:Gj}{m n:Value}{W:World}(h:Gc o l a j H I q m n W)(tp' tx':Nat):Gc o l a j tp' tx' q m n ((W.setCell ⟨a,2,none⟩ (.int .i64 (tp':Nat))).setCell ⟨a,3,none⟩ (.int .u64 (tx':Nat))):=by
 obtain⟨L,x,A,B,C,D,E,F,G⟩:=h.row;obtain⟨es,r,s⟩:=h.es;have hs:=h.bel.size;have z:=h.sz;have aa:=h.lo;have c:Fr (λk=>k=a) W ((W.setCell ⟨a,2,none⟩ (.int .i64 (tp':Nat))).setCell ⟨a,3,none⟩ (.int .u64 (tx':Nat))):=((Fr.refl (λk=>k=a) W).set ⟨a,2,none⟩ _ rfl).set ⟨a,3,none⟩ _ rfl;have y:=(x.set 2 (.int .i64 (tp':Nat))).set 3 (.int .u64 (tx':Nat));have d:∀i,i≠2->i≠3->((L.set 2 (.int .i64 (tp':Nat))).set 3 (.int .u64 (tx':Nat)))[i]?=L[i]? := λi t u=>by rw[AB (Ne.symm u),AB (Ne.symm t)]
 refine⟨⟨_,y,(d 0 (by omega) (by omega)).trans A,(d 1 (by omega) (by omega)).trans B,?_,?_,λp w=>(d _ (by omega) (by omega)).trans (E p w),λb v=>(d _ (by omega) (by omega)).trans (F b v),(d _ (by omega) (by omega)).trans G⟩,⟨es,r,s.fr c (λg f e=>(h.oa g f).2.1 e)⟩,⟨h.tab.1.fr c (λg f e=>h.ot (by rw[<-e];exact f)),h.tab.2⟩,h.oa,h.ot,h.bel.trans ⟨c.os,c.tape,c.output,c.size,λk hk=>c.block k (by omega) (λe=>by omega)⟩,h.lo,z⟩
 ·rw[AB (by omega),BC (Ae.1 C).1]
 ·rw[BC (by rw[Ce];exact(Ae.1 D).1)]
theorem Gc.topc{l:World}{i a e c d:Nat}{q:Gj}{j k:Value}{W:World}(h:Gc l i a e c d q j k W):W.cell? ⟨a,2,none⟩=some (.int .i64 (c:Nat))/\W.cell? ⟨a,3,none⟩=some (.int .u64 (d:Nat))/\W.frozen? ⟨a,2,none⟩=false/\W.frozen? ⟨a,3,none⟩=false:=by
 obtain⟨L,b,l0,l1,f,g,l4,l5,l6⟩:=h.row;exact⟨(b.cell 2).trans f,(b.cell 3).trans g,b.frozen 2,b.frozen 3⟩
def Lf(D:LY)(s last p:By)(f:Nat)(d:By)(P:Nat->Nat)(s':By):Prop:=
 ∃(s2 s3 s4 s5 s6:By) (sm n:Nat),sm<=last.size/\n<256/\f<60/\s2=s.extract 1 s.size/\s3=s2.extract 1 s2.size/\s4=s3.extract 1 s3.size/\s5=s4.extract n s4.size/\s6=s5.extract 1 s5.size/\
  DQ (BL (Di s 1))=2/\DQ (BL (Di s2 1))=sm/\DQ (BL (Di s3 1))=n/\last.extract 0 sm++Di s4 n=p/\DQ (BL (Di s5 1))=f/\d.size<=1280/\DQ (BL (Di s6 2))=d.size/\
  (∀k,k<Gu d->GA (DE (s6.extract 2 s6.size) k)=P k/\16<=P k/\P k<1536/\D[P k]?=some (Gn d k))/\s'=DE (s6.extract 2 s6.size) (Gu d)
structure Pk(G:Gh)(I:LF)(p:By)(f:Nat)(l:Nat):Prop where
 ok:Gk G
 gl:G.length<=9000
 il:I.length<=9000
 ll:∀x∈I,x.2.l<=2000000
 ps:p.size<=2000000
 lg:Ho G p=0
 may:Jh G I (Df p).dropLast=true
 fr:∀x∈I,x.1≠(f:Int)
 use:∀(I1 I2:LF) (da:OA) (dc:Nat),I1.length=I.length+1->(∀x,x∈I1↔x=((f:Int),⟨none,0,0,1⟩)\/x∈I)->F7 I1 I2 (f:Int) ⟨da,l,dc,1⟩->DO (I2.map (·.2.l))<=160
structure MQ(W w0:World)(n0 rb db tp tx fb tb:Nat)(va0 vt0 vt:Value)(T:Gh->LF->(IB)->Prop)(q:Gj)(s:By)(wr:World):Prop where
 rd:∃va,Gc w0 n0 rb db tp tx q va vt wr/\Dk W va0 va
 fd:GF fb s vt wr
 ps:∃G I C,PS wr tb G I C/\T G I C
 fr:Fr (λj=>j=rb\/Own va0 j\/Own vt0 j) W wr
 tl:W.heap.size<tb
 fl:W.heap.size<=fb
theorem PS.fr9{W i:World}{tb:Nat}{G:Gh}{I:LF}{C:IB}(h:PS W tb G I C){F:World}{g o v A B:Nat}{q:Gj}{p u:Value}(d:Gc F g o v A B q p u W){f:Nat}{s:By}(x:GF f s u W)(h0:0<g)(aa:g<=f)(y:Fr (λj=>j=o\/Own p j\/j=f) W i):PS i tb G I C:=by
 obtain⟨z,V,E,D,h⟩:=h;have ab:=d.lo;refine⟨z,V,E,D,h.fr y (λe=>?_) (λk t R e b=>?_)⟩
 ·rcases e with e|e|e
  ·omega
  ·have:=(d.oa 0 e).1;omega
  ·omega
 ·rcases e with e|e|e
  ·obtain⟨L,m,_⟩:=d.row;subst e;unfold FX at m b;rw[m]at b;cases b;decide
  ·obtain⟨es,_,w⟩:=d.es;obtain⟨R2,n⟩:=w.type e;unfold FX at n b;rw[n]at b;cases b;decide
  ·obtain⟨a,l,c,r,_⟩:=x;subst e;unfold FX at r b;rw[r]at b;cases b;decide
theorem Gc.prog{l:World}{b e d f g:Nat}{q:Gj}{i j:Value}{W c:World}(h:Gc l b e d f g q i j W){tb:Nat}(m:Fr (DM tb W) W c)(ht:b<tb):Gc l b e d f g q i j c:=
 h.fr m (λk ⟨⟨t,R,n,a⟩,hl⟩=>by
  have:=h.ne n (by rcases a with rfl|rfl|rfl|rfl<;>decide) (by rcases a with rfl|rfl|rfl|rfl<;>decide) (by rcases a with rfl|rfl|rfl|rfl<;>decide);exact⟨by omega,this.1,this.2.1,this.2.2⟩)
theorem GF.prog{i:Nat}{s:By}{f:Value}{W g:World}(h:GF i s f W){z:World}{u v m w x:Nat}{q:Gj}{y:Value}(j:Gc z u v m w x q y f W){tb:Nat}(n:Fr (DM tb W) W g):GF i s f g:=by
 refine GF.fr h n (λ⟨⟨t,R,b,d⟩,p⟩=>?_) (λk o ⟨⟨t,R,b,d⟩,p⟩=>?_) j.lt.2.2
 ·obtain⟨a,l,c,r,_⟩:=h;unfold FX at r b;rw[r]at b;cases b;rcases d with e|e|e|e<;>cases e
 ·have:=j.ne b (by rcases d with rfl|rfl|rfl|rfl<;>decide) (by rcases d with rfl|rfl|rfl|rfl<;>decide) (by rcases d with rfl|rfl|rfl|rfl<;>decide);exact this.2.2 o
def KD(pB:NB):NB
 |0=>⟨#[]⟩
 |k+1=>pB k
theorem Lf.dec{D:LY}{s o p:By}{f:Nat}{d:By}{P:Nat->Nat}{b:By}(h:Lf D s o p f d P b):b.size<s.size:=by
 obtain⟨s2,s3,s4,s5,s6,sm,n,_,_,_,c,g,i,j,k,a,_,_,_,_,_,_,_,l⟩:=h;have hs:1<=s.size:=by
  rcases Cj s.size with e|e
  ·exfalso;have m:BL s=[]:=AA (by rw[DK,e]);rw[KW,m]at a
   revert a;decide
  ·exact e
 rw[l,Ur,Ah,k,Ah,j,Ah,i,Ah,g,Ah,c,Ah];omega
theorem GF.len{b:Nat}{s:By}{f:Value}{W:World}(h:GF b s f W):KE b W=s.size:=by
 obtain⟨a,l,c,d,e,_⟩:=h;rw[P8 ((d.cell 0).trans (show _=Option.some (Value.slice a l c) from rfl))];exact e.1
def PZ(W w0:World)(n0 rb db tp tx:Nat)(va0 vt0:Value)(T:Gh->LF->(IB)->Prop)(q:Gj)(e:Ending)(w':World):Prop:=
 ∃tb va' vt',e=.returned (.tuple #[.pointer (some ⟨tb,0,none⟩),.bool true])/\Gc w0 n0 rb db tp tx q va' vt' w'/\(∃G I C,PS w' tb G I C/\T G I C)/\Fr (λj=>j=rb\/Own va0 j\/Own vt0 j) W w'/\W.heap.size<tb
theorem Zly(W F:World)(s d w bc bd:Nat)(q0:Gj)(A B:Value)(h:Gc F s d w bc bd q0 A B W){vf vw ve:Value}{a:OA}{l c:Nat}{D:LY}(hD:DU F w vf (.slice a l c) vw ve D)(az:w<s/\∀k,Own (.slice a l c) k->k<s)(h0:0<s)(aC:Gd W)(f o:Nat)(qG:Gj)(b:Nat)(hg:∀X A B,Gc F s d w f o q0 A B X->Cl 202 #[.pointer (some ⟨d,0,none⟩),.agg #[.int .i64 (f:Nat),.int .u64 (o:Nat)]] X (Kw F s d w f o X A B b qG))(m:Nat)(z q:NB)(p:Nat->Nat)(u:NB)(PB:Nat->Nat->Nat)(qB:Nat->Gj)(aE:qB 0=qG)(aF:∀k,k<m->qB (k+1)=D3 (qB k) (p k) (PB k) (Gu (u k)))(aG:z 0=qG.t)(am:∀k,k<=m->(z k).size<=1000000)(aD:∀k,k<m->(q k).size<=1000000)(hE:∀k,k<m->Lf D (z k) (KD q k) (q k) (p k) (u k) (PB k) (z (k+1)))(hQ:∀k,k<m->∀i,i<Gu (u k)->(D3 (qB k) (p k) (PB k) i).tk (PB k i)=false/\(∀y∈(D3 (qB k) (p k) (PB k) i).ins,y.1≠Dd 4 (p k) i)/\(D3 (qB k) (p k) (PB k) i).ins.length<=9999)(aw:DQ (BL (Di (z m) 1))=0)(T:Nat->Gh->LF->(IB)->Prop)(au:T 0 [] [] (λ_=>⟨#[]⟩))(hT:∀k,k<m->∀G I C,T k G I C->Pk G I (q k) (p k) (u k).size/\∀(I1 I2:LF) (C2:IB) (da:OA) (dc:Nat),I1.length=I.length+1->(∀x,x∈I1↔x=((p k:Int),⟨none,0,0,1⟩)\/x∈I)->F7 I1 I2 (p k:Int) ⟨da,(u k).size,dc,1⟩->C2 (p k)=u k->(∀x∈I,C2 x.1=C x.1)->T (k+1) (G++[(Df (q k),⟨none,(p k:Int)⟩)]) I2 C2):
  Cl 136 #[.pointer (some ⟨d,0,none⟩),.agg #[.int .i64 (f:Nat),.int .u64 (o:Nat)]] W (PZ W F s d w f o A B (T m) (qB m)):=by
 obtain⟨W1,e1,x1,k1,s1,b1⟩:=De W [.int .i64 (f:Nat),.int .u64 (o:Nat)] 175;obtain⟨aR,aS,aT⟩:=h.lt;have bj:s<=W.heap.size:=Af h.sz h.bel.size;have h1:=h.below b1;have bi:=h.lo;have aW:=h1.topc;obtain⟨X1,ab⟩:∃X1,(W1.setCell ⟨d,2,none⟩ (.int .i64 (f:Nat))).setCell ⟨d,3,none⟩ (.int .u64 (o:Nat))=X1:=⟨_,rfl⟩;have ar:Gc F s d w f o q0 A B X1:=by rw[<-ab];exact h1.top f o
 have f1:Fr (λk=>k=d) W1 X1:=by rw[<-ab];exact((Fr.refl (λk=>k=d) W1).set ⟨d,2,none⟩ _ rfl).set ⟨d,3,none⟩ _ rfl
 have an:FX X1 W.heap.size 175 [.int .i64 (f:Nat),.int .u64 (o:Nat)]:=x1.fr f1 (λe=>by omega);have ae:Fr (λj=>j=d\/Own A j\/Own B j) W X1:=((Fr.of_below b1).then f1 (λ_ _ e=>e)).mono (λk _ e => .inl e);have HG:Hid (Cl 202 #[.pointer (some ⟨d,0,none⟩),.agg #[.int .i64 (f:Nat),.int .u64 (o:Nat)]] X1 λe X2=>e=.returned (.tuple #[.int .i64 (b:Nat),.bool true])/\
   Hid (Cl 95 #[] X2 λe P=>∃tb Q Z S,e=.returned (.pointer (some ⟨tb,0,none⟩))/\P.cell? ⟨d,1548,none⟩=some (.slice Q Z S)/\∃X4,P.alloc (.cells #[.slice Q Z S] 287)=X4/\Hid (MQ W F s d w f o P.heap.size tb A B (.slice Q Z S) (T 0) (qB 0) (z 0) X4))):=by
  refine(hg X1 A B ar).mono ?_;rintro e X2⟨rfl,aa,M,r1,r2,r3,r4⟩;refine⟨rfl,?_⟩;have al:Fr (λj=>j=d\/Own A j\/Own B j) W X2:=ae.then r2 (λ_ _ e=>e);have aV:Gd X2:=aC.fr al (λe=>by
   rcases e with e|e|e
   ·omega
   ·have:=(h.oa 0 e).1;omega
   ·have:=h.tab.2 0 e;omega)
  have aQ:=ae.size;refine(Rb X2 aV).mono ?_;rintro e P⟨tb,rfl,t1,t2,t3,_⟩;obtain⟨Q,Z,S,rfl⟩:=r1.tab.1.shape;have ac:=r1.below t3;obtain⟨X4,e4,x4,k4,s4,b4⟩:=De P [.slice Q Z S] 287;have hl:=ac.lt;have bg:=al.size;have bh:=t3.size;refine⟨tb,Q,Z,S,rfl,ac.cells.2.2.1,X4,e4,⟨aa,by rw[aE];exact ac.below b4,λg hg=>(r3 g hg).imp id (λe=>by omega)⟩,?_,⟨[],[],_,?_,au⟩,(al.then (Fr.of_below (X:=λ_=>False) t3) (λ_ _ e=>e.elim)).then (Fr.of_below (X:=λ_=>False) b4) (λ_ _ e=>e.elim),by omega,by omega⟩
  ·have hS:=(ac.below b4).tab;refine⟨Q,Z,S,x4,by rw[aG];exact hS.rdB,?_,λx e=>?_⟩
   ·rcases hS.1.2 with⟨e,_⟩|⟨g,aO,L,e,_,q1,_⟩
    ·cases e;exact Aa _
    ·cases e;exact q1
   ·rcases hS.1.2 with⟨e2,_⟩|⟨g,aO,L,e2,_⟩
    ·cases e2;cases e
    ·cases e2;cases e;rfl
  ·obtain⟨rd,V,E,vi,ht⟩:=t2;exact⟨rd,V,E,vi,ht.below b4 (Aa _)⟩
 have aJ:Hid (∀k,k<m->∀tb M H wr,MQ W F s d w f o H tb A B M (T k) (qB k) (z k) wr->Cl 203 #[.pointer (some ⟨d,0,none⟩),.pointer (some ⟨H,0,none⟩),.string (KD q k)] wr λe X=>∃J K,e=.returned (.tuple #[.agg #[.string (q k),.int .u8 2,.int .i64 (p k:Nat),.slice J (u k).size K],.bool true])/\
   ∃Y,X.alloc (.cells #[.string (q k),.int .u8 2,.int .i64 (p k:Nat),.slice J (u k).size K] 141)=Y/\FX Y X.heap.size 141 [.string (q k),.int .u8 2,.int .i64 (p k:Nat),.slice J (u k).size K]/\
   Hid (Cl 97 #[.pointer (some ⟨tb,0,none⟩),.agg #[.string (q k),.int .u8 2,.int .i64 (p k:Nat),.slice J (u k).size K]] Y λe U=>e=.returned (.bool true)/\FX U X.heap.size 141 [.string (q k),.int .u8 2,.int .i64 (p k:Nat),.slice J (u k).size K]/\Hid (MQ W F s d w f o H tb A B M (T (k+1)) (qB (k+1)) (z (k+1)) U))):=λk hk tb M H wr r=>by
  obtain⟨s2,s3,s4,s5,s6,sm,n,i1,i2,i3,i4,i5,i6,i7,i8,i9,aZ,a0,a1,a2,a3,a4,a5,a6⟩:=hE k hk;obtain⟨aa,r1,r2⟩:=r.rd;have ax:=r.fl;have bk:=r.fr.size;have aU:(KD q k).size<=1000000:=by
   cases k with
   |zero=>exact Au _
   |succ k=>exact aD k (by omega)
  refine(YJ wr F s d w f o (qB k) aa M r1 hD az H (by omega) (z k) s2 s3 s4 s5 s6 r.fd (am k (by omega)) (KD q k) (q k) aU sm n (p k) i1 i2 (by omega) i4 i5 i6 i7 i8 i9 aZ a0 a1 a2 (u k) (by omega) a4 (PB k) (Gu (u k)) rfl a5 (hQ k hk)).mono ?_;rintro e X⟨J,K,be,rfl,p1,p2,p3,p4,p5,p6⟩;obtain⟨Y,eY,O,kY,sY,bY⟩:=De X [.string (q k),.int .u8 2,.int .i64 (p k:Nat),.slice J (u k).size K] 141;have aQ:=p5.size;have aX:=r.tl;obtain⟨G,I,C,ag,ak⟩:=r.ps;have ah:=ag.fr9 r1 r.fd h0 (by omega) p5;have ai:PS Y tb G I C:=by obtain⟨rd,V,E,vi,ht⟩:=ah;exact⟨rd,V,E,vi,ht.below bY (Aa _)⟩
  obtain⟨hM,hN⟩:=hT k hk G I C ak;refine⟨J,K,rfl,Y,eY,O,?_⟩;refine(Zj Y tb G I C ai hM.ok hM.gl hM.il hM.ll (q k) hM.ps hM.lg hM.may (p k) i3 hM.fr J (u k).size K a3 (u k) (p3.kept (λj hj _=>bY.block j hj)) (λI1 I2=>hM.use I1 I2 J K)).mono ?_;rintro e U⟨rfl,u1,I1,I2,C2,u2,u3,u4,u5,u6,u7⟩;have aj:=p1.below bY;have aq:=p2.below bY p1.lt.2.2;rw[<-aF k hk]at aj;rw[<-a6]at aq;refine⟨rfl,O.fr u1 (λ⟨⟨t,R,hr,aY⟩,_⟩=>?_),⟨be,aj.prog u1 (by omega),λg hg=>(p6 g hg).elim (r2 g) (λe => .inr (by omega))⟩,aq.prog aj u1,⟨_,I2,C2,u5,hN I1 I2 C2 J K u2 u3 u4 u6 u7⟩,?_,aX,ax⟩
  ·unfold FX at hr O;rw[O]at hr;cases hr;rcases aY with e|e|e|e<;>cases e
  ·refine((r.fr.then p5 (λj hj e=>?_)).then (Fr.of_below (X:=λ_=>False) bY) (λ_ _ e=>e.elim)).then u1 (λj hj ⟨_,hl⟩=>by omega);rcases e with e|e|e
   ·exact .inl e
   ·exact(r2 j e).elim (λe => .inr (.inl e)) (λe=>by omega)
   ·omega
 have aK:Hid (∀tb M H wr,MQ W F s d w f o H tb A B M (T m) (qB m) (z m) wr->Cl 203 #[.pointer (some ⟨d,0,none⟩),.pointer (some ⟨H,0,none⟩),.string (KD q m)] wr λe X=>e=.returned (.tuple #[.agg #[.string ⟨#[]⟩,.int .u8 0,.int .i64 0,.slice none 0 0],.bool true])/\∃Y,X.alloc (.cells #[.string ⟨#[]⟩,.int .u8 0,.int .i64 0,.slice none 0 0] 141)=Y/\Y.cell? ⟨X.heap.size,1,none⟩=some (.int .u8 0)/\Hid (PZ W F s d w f o A B (T m) (qB m) (.returned (.tuple #[.pointer (some ⟨tb,0,none⟩),.bool true])) Y)):=λtb M H wr r=>by
  obtain⟨aa,r1,r2⟩:=r.rd;have ax:=r.fl;refine(Zmv wr F s d w f o (qB m) aa M r1 H (by omega) (z m) r.fd (am m (Aa _)) aw (KD q m)).mono ?_;rintro e X⟨rfl,p1,p2,p3⟩;obtain⟨Y,eY,O,kY,sY,bY⟩:=De X [.string ⟨#[]⟩,.int .u8 0,.int .i64 0,.slice none 0 0] 141;obtain⟨G,I,C,ag,ak⟩:=r.ps;have ah:=ag.fr9 r1 r.fd h0 (by omega) (p3.mono (λ_ _ e => .inr (.inr e)));have ai:PS Y tb G I C:=by obtain⟨rd,V,E,vi,ht⟩:=ah;exact⟨rd,V,E,vi,ht.below bY (Aa _)⟩
  refine⟨rfl,Y,eY,(O.cell 1).trans rfl,tb,aa,M,rfl,p1.below bY,⟨G,I,C,ai,ak⟩,(r.fr.then p3 (λj hj e=>by omega)).then (Fr.of_below (X:=λ_=>False) bY) (λ_ _ e=>e.elim),r.tl⟩
 have ao:Hid (∀k tb M H wr,MQ W F s d w f o H tb A B M (T k) (qB k) (z k) wr->KE H wr=(z k).size):=λk tb M H wr r=>r.fd.len
 have aH:Hid (∀k,k<m->(z (k+1)).size<(z k).size):=λk hk=>(hE k hk).dec
 have aI:=Db e1;have aM:=Db ab;have c0:=(x1.cell 0).trans (show _=some (Value.int .i64 (f:Nat)) from rfl);have c1:=(x1.cell 1).trans (show _=some (Value.int .u64 (o:Nat)) from rfl);have d0:=(an.cell 0).trans (show _=some (Value.int .i64 (f:Nat)) from rfl);have d1:=(an.cell 1).trans (show _=some (Value.int .u64 (o:Nat)) from rfl);obtain⟨a7,a8,a9,bb⟩:=aW;clear e1 x1 k1 s1 b1 h h1 hD az hg hE hQ hT aw am aD ar f1 an ae ab aC aR aS aT aE aF aG au;go_enter func136,ntmps136;go_upto_region 1 with fail;rw[show W.alloc (.cells #[.int .i64 (f:Nat),.int .u64 (o:Nat)] 175)=W1 from Da aI];go_upto_region 2 with fail;rw[show(W1.setCell ⟨d,2,none⟩ (.int .i64 (f:Nat))).setCell ⟨d,3,none⟩ (.int .u64 (o:Nat))=X1 from Da aM];clear c0 c1 a7 a8 a9 bb;go_upto_region 7 with(first|(go_at_call 202;refine(Da HG).mono ?_;rintro e X2⟨rfl,ap⟩)|(go_at_call 95;refine(Da ap).mono ?_;rintro e P⟨tb,Q,Z,S,rfl,aP,X4,av,ad⟩;have aN:=Db av;clear av));rw[show P.alloc (.cells #[.slice Q Z S] 287)=X4 from Da aN];clear aP d0 d1 HG ap;go_wp2
 go_loopw [10] (λi wr=>∃k:Nat,k<=m/\i=.string (KD q k)/\Hid (MQ W F s d w f o P.heap.size tb A B (.slice Q Z S) (T k) (qB k) (z k) wr)) (λ_ wr=>KE P.heap.size wr)
 case atStart=>exact⟨0,by omega,rfl,Da ad⟩
 case round=>
  obtain⟨k,hk,rfl,HI⟩:=hrel;have ay:=Da ao _ _ _ _ _ (Da HI);have HL:=Db ay;clear ay;by_cases aA:k<m
  ·have HC:=Db (Da aJ k aA _ _ _ _ (Da HI));obtain⟨ND,af⟩:∃N,N=(u k).size:=⟨_,rfl⟩;rw[<-af]at HC;have bf:=Db af;clear af HI ad;go_upto_region 9 with(go_at_call 203;refine(Da HC).mono ?_;rintro e X⟨J,K,rfl,Y,hY,O,HA⟩;have HY:=Db hY;clear hY);rw[show X.alloc (.cells #[.string (q k),.int .u8 2,.int .i64 (p k:Nat),.slice J ND K] 141)=Y from Da HY];have y0:=O.cell 0;have y1:=O.cell 1;have y2:=O.cell 2;have y3:=O.cell 3;clear O HC;go_wp2_with(go_at_call 97;refine(Da HA).mono ?_;rintro e U⟨rfl,xU,HN⟩;have z0:=xU.cell 0;clear xU y0 y1 y2 y3);have aB:KE P.heap.size U<KE P.heap.size wr:=by
    have h1:=Da ao _ _ _ _ _ (Da HN);have h2:=Da HL;have h3:=Da aH k aA;omega
   have aL:=Db aB;clear aB
   go_roundw
   case rel=>exact⟨k+1,by omega,rfl,Da HN⟩
   case measure=>exact Da aL
  ·obtain rfl:k=m:=by omega
   have HC:=Db (Da aK _ _ _ _ (Da HI));clear HI ad;go_upto_region 9 with(go_at_call 203;refine(Da HC).mono ?_;rintro e X⟨rfl,Y,hY,y1,HP⟩;have HY:=Db hY;clear hY);rw[show X.alloc (.cells #[.string ⟨#[]⟩,.int .u8 0,.int .i64 0,.slice none 0 0] 141)=Y from Da HY];go_wp2;exact Ap (v:=.tuple #[.pointer (some ⟨tb,0,none⟩),.bool true]) (by simp[results,results136,go_sem]) rfl (Da HP)
theorem Zjd(W:World)(b h a:Nat)(z j B A:Value)(es:LI)(f:FX W b 179 [z,j,.int .i64 (a:Nat),B,A])(n:Sl W 350 2 j es.length (Dr es))(q:Up es)(ag:a<1536)(tk:Nat->Bool)(L:F0)(l:FX W h 197 L)(m:∀p,p<1536->L[4+p]?=some (.bool (tk p)))(x:512<=DY (Dh es) 96)(o:∀p,a<p->p/16=a/16->tk p=false):
  Cl 137 #[.pointer (some ⟨b,0,none⟩),.pointer (some ⟨h,4,none⟩)] W λe w'=>e=.returned (.bool true)/\Bw W w':=by
 have c2:=(f.cell 2).trans (show _=some (Value.int .i64 (a:Nat)) from rfl);obtain⟨N,d⟩:=ex (DY (Dh es) 96);have u:Hid (Cl 132 #[.pointer (some ⟨b,1,none⟩)] W λe w'=>e=.returned (.int .i64 (N:Nat))/\Bw W w'):=by
  rw[d];exact Xl W b 1 j es ((f.cell 1).trans rfl) n q
 have v:Hid (∀p,a<p->p/16=a/16->W.cell? ⟨h,4+p,none⟩=some (.bool false)):=λp c k=>(l.cell _).trans (by rw[m p (by omega),o p c k])
 have aa:(512:Int)<=(N:Int):=by omega
 have ab:N<=1536:=by rw[d];exact NT _ _
 clear d x o m l q n f;go_enter func137,ntmps137;go_wp2
 go_loopw [5] (λi wr=>∃p:Nat,a<p/\p<=(a/16+1)*16/\i=.int .i64 (p:Nat)/\wr=W) (λi _=>3000-(intOf i).toNat)
 case atStart=>exact⟨a+1,by omega,by omega,by go_num,rfl⟩
 case round=>
  obtain⟨p,c,k,rfl,rfl⟩:=hrel;obtain⟨r,s⟩:=ex (p%16);have t:(p:Int).tmod 16=(r:Int):=by rw[Cc (by omega)];omega
  by_cases g:r=0
  ·have af:(p:Int).tmod 16=0:=by rw[t,g];rfl
   clear t s g;go_wp2_with(go_at_call 132;refine(Da u).mono ?_;rintro e w'⟨rfl,w⟩);go_ret;exact⟨by simp,w⟩
  ·have hc:=Da v p c (by omega);have ac:(p:Int)<1536:=by omega
   have ad:¬(r:Int)=0:=by omega
   have ae:((r:Int)==0)=false:=by simpa using g
   have y:p+1<=(a/16+1)*16:=by omega
   clear s;go_wp2;exact⟨⟨p+1,by omega,y,by go_num,trivial⟩,by simp[intOf];omega⟩
theorem ZiT{w:World}{a b:Nat}{O:Value}{s:KS}{M P vw L:Value}{ps:LB}{F:List Int}{tb J:Nat}{V:NV}{A:NS}{N:Value}{G:Gh}{I:LF}{z:IB}{ch:LY->List Ek}{E:NV}{C:NB}(h:Hc w a b O s M P vw L ps F)(v:Hr s)(u:∃j,j<96/\Dh s.es j<=0)(o:IP w tb J V A N G I z ch E C)(i:Gi s C (Dt ch)):
  Cl 138 #[.pointer (some ⟨a,0,none⟩),.pointer (some ⟨tb,0,none⟩)] w λe w'=>e=.returned (.bool true)/\Bw w w':=by
 have H:w.cell? ⟨a,0,none⟩=some (.pointer (some ⟨b,0,none⟩)):=(h.st.row.cell 0).trans rfl;have p:w.cell? ⟨a,2,none⟩=some (.int .i64 (s.tp:Nat)):=(h.st.row.cell 2).trans rfl;have q:w.cell? ⟨a,3,none⟩=some (.int .u64 (s.tx:Nat)):=(h.st.row.cell 3).trans rfl;obtain⟨m,f⟩:∃t,t=s.tp:=⟨_,rfl⟩;obtain⟨n,g⟩:∃t,t=s.tx:=⟨_,rfl⟩;rw[<-f]at p;rw[<-g]at q;have D:Hid (Cl 131 #[.pointer (some ⟨b,0,none⟩),.pointer (some ⟨a,1,none⟩),.pointer (some ⟨tb,0,none⟩),.bool false] w.drew λe X=>∃pb,e=.returned (.pointer (some ⟨pb,0,none⟩))/\(X.cell? ⟨a,0,none⟩=some (.pointer (some ⟨b,0,none⟩))/\X.cell? ⟨a,2,none⟩=some (.int .i64 (m:Nat))/\X.cell? ⟨a,3,none⟩=some (.int .u64 (n:Nat)))/\X.cell? ⟨pb,101,none⟩=some (.int .i64 (m:Nat))/\X.cell? ⟨pb,102,none⟩=some (.int .u64 (n:Nat))/\Hid (Bw w X)):=by
  have y:Bw w w.drew:=(Ak _ _).drew;refine((h.below y).newPlan v u (o.below y) false).mono ?_;rintro e X⟨pb,O',rfl,ae,aa,⟨va,es,vp,l,_⟩,d,hO⟩;have x:Bw w X:=⟨d.os,d.tape,d.output,d.size,d.block⟩;have k:=(h.below x).st.row;rw[i.tp,i.tx]at l;exact⟨pb,rfl,⟨(k.cell 0).trans rfl,by rw[f];exact(k.cell 2).trans rfl,by rw[g];exact(k.cell 3).trans rfl⟩,by rw[f];exact(l.row.cell 101).trans (JD _ _ _ _ _ _ _ _ _ _ 3),by rw[g];exact(l.row.cell 102).trans (JD _ _ _ _ _ _ _ _ _ _ 4),x⟩
 clear h v u o i f g;go_enter func138,ntmps138;go_upto_region 1 with fail;refine AE (S:=λX=>X.cell? ⟨a,0,none⟩=some (.pointer (some ⟨b,0,none⟩))/\X.cell? ⟨a,2,none⟩=some (.int .i64 (m:Nat))/\X.cell? ⟨a,3,none⟩=some (.int .u64 (n:Nat))) (by kernel_rfl) ⟨H,p,q⟩ (λad=>?_);refine tk 0 ?_;refine tk 1 ?_;refine tk 2 ?_;refine tk 3 ?_;refine tk 4 ?_;refine tk 5 ?_;refine tk 6 ?_;refine tk 7 ?_;refine tk 13 ?_;refine tk 14 ?_;refine tk 15 ?_;refine tk 16 ?_;refine tk 17 ?_;refine rk 8 (λK c=>?_);go_simp;go_at_call 131;refine(Da D).mono ?_;rintro e X⟨pb,rfl,r,p1,p2,B⟩;go_wp2_with fail;refine c.out _ _ r (λac=>?_);clear c K
 try simp only[pE]
 refine tk 9 ?_;refine tk 10 ?_;refine tk 11 ?_;refine rk 12 (λK c=>?_);go_simp;refine c.out _ _ r (λab=>?_);clear c K
 try simp only[pE]
 refine tk 18 ?_;refine tk 19 ?_;refine AO (by kernel_rfl) ?_ _;go_wp2;go_ret;exact⟨rfl,Da B⟩
def IK(v:Value):F0:=v :: .slice none 0 0 :: .int .i64 0 :: .int .u64 0::(List.replicate 1536 (.bool false)++(List.replicate 8 (.int .i64 0)++[.slice none 0 0]))
theorem YS:(prog.info? 197).map (λi=>(i.zero,i.size))=some (some (.agg (IK (.pointer none)).toArray),1549):=by kernel_rfl
theorem Zv:∀w,(zeroValue 197).run prog w=.ok (.agg (IK (.pointer none)).toArray) w:=(Et YS).1
theorem YE:(prog.info? 197).map (·.size)=some 1549:=by kernel_rfl
theorem Zp(a:Nat):prog.built 197 [(0,.pointer (some ⟨a,0,none⟩))]=some (IK (.pointer (some ⟨a,0,none⟩))).toArray:=by kernel_rfl
theorem WG(v:Value):(IK v).length=1549:=by simp[IK]
theorem Yy(b:Nat):(IK (.pointer (some ⟨b,0,none⟩))).toArray.all (·.oneCell')=true:=by
 refine C4 (λu a=>?_);unfold IK at a;rcases AC.1 a with rfl|a
 ·rfl
 rcases AC.1 a with rfl|a
 ·rfl
 rcases AC.1 a with rfl|a
 ·rfl
 rcases AC.1 a with rfl|a
 ·rfl
 rcases Aq.1 a with a|a
 ·rw[List.eq_of_mem_replicate a];rfl
 rcases Aq.1 a with a|a
 ·rw[List.eq_of_mem_replicate a];rfl
 ·rw[Ad.1 a];rfl
theorem rdZ_tk(v:Value)(p:Nat)(h:p<1536):(IK v)[4+p]?=some (.bool false):=by
 unfold IK;rw[Fa 4 p];show(List.replicate 1536 (Value.bool false)++_)[p]? = _;rw[AW (by rw[Bj];exact h),Fg,if_pos h]
theorem rdZ_tn(v:Value)(b:Nat)(h:b<8):(IK v)[1540+b]?=some (.int .i64 0):=by
 unfold IK;rw[show 1540+b=(1536+b)+4 by omega];show(List.replicate 1536 (Value.bool false)++_)[1536+b]? = _;rw[AS (by rw[Bj];omega),Bj,show 1536+b-1536=b by omega,AW (by rw[Bj];exact h),Fg,if_pos h]
theorem Yz(v:Value):(IK v)[1548]?=some (.slice none 0 0):=by
 obtain⟨i,hi⟩:=ex 1544;rw[show 1548=i+4 by omega];unfold IK;show(List.replicate 1536 (Value.bool false)++_)[i]? = _;rw[AS (by rw[Bj];omega),Bj,AS (by rw[Bj];omega),Bj,show i-1536-8=0 by omega]
 rfl
def Kb:Gj:=⟨[],λ_=>false,λ_=>0,⟨#[]⟩⟩
theorem Gc.start{W:World}{d g:Nat}(m:FX W d 197 (IK (.pointer (some ⟨g,0,none⟩)))){f:World}{a:Nat}(c:Below a f W)(i:a<=f.heap.size)(h:a<=d):Gc f a d g 0 0 Kb (.slice none 0 0) (.slice none 0 0) W:=
 ⟨⟨_,m,rfl,rfl,rfl,rfl,λp l=>rdZ_tk _ p l,λb c=>rdZ_tn _ b c,Yz _⟩,⟨[],⟨λj k x y _ n=>by simp at n,rfl,λx=>by simp[Kb]⟩,rfl,.inl ⟨rfl,rfl⟩⟩,F9.nil _ _,λk e=>by simp[Own,Value.ownBlock]at e,λe=>by simp[Own,Value.ownBlock]at e,c,h,i⟩
theorem Gw.start(N:Nat->Nat)(P:Nat->Nat->Nat)(ch:Nat->List UInt8)(B c:Nat):Gw N P ch B c Kb:=
 ⟨λy e=>(by cases e),λb k _ a=>(by cases a),λp d=>(by cases d),λb _=>Au _,rfl,by
  show 0=JY (λ_=>0) (B+1);rw[Ou,FQ]⟩
theorem Lv.start(N:Nat->Nat)(b:Nat):Lv N b 0 Kb:=⟨rfl,λb' _=>by show 0=_;simp⟩
def Gf(E:FZ)(r:Nat):Nat:=(E.at r).getD 0
theorem FZ.put_ps_len(E:FZ)(st:Pl)(r:Nat)(b:By):st.ps.length<=(E.put st r b).2.ps.length:=by
 unfold FZ.put
 split
 ·exact Aa _
 ·show st.ps.length<=(st.ps++[_]).length;rw[Ab];omega
theorem FZ.puts_ps_len(E:FZ)(R:Nat->Nat)(B:NB):∀(st:Pl) (i:Nat) (xs:List Nat),st.ps.length<=(E.puts R B st i xs).ps.length
 |_,_,[]=>Aa _
 |st,i,x::xs=>Af (E.put_ps_len st (R i) (B x)) (FZ.puts_ps_len E R B _ (i+1) xs)
theorem FZ.put_stays{E:FZ}{st:Pl}{r:Nat}{b:By}(h:(E.put st r b).2.ps.length<=st.ps.length):(E.put st r b).1=Gf E r/\E.at r=some (Gf E r)/\E.D[Gf E r]?=some b/\(E.put st r b).2.ps=st.ps:=by
 cases hs:E.stay r b with
 |none=>
  have a:(E.put st r b).2.ps=st.ps++[(DP E.nd 96 st.hd%1536,b)]:=by unfold FZ.put;rw[hs]
  rw[a,Ab]at h;simp at h;omega
 |some q=>
  have a:E.put st r b=(q,⟨st.hd,st.puts++[(r,q)],st.ps⟩):=by unfold FZ.put;rw[hs]
  unfold FZ.stay at hs
  split at hs
  ·rename_i q' c
   split at hs
   ·rename_i d
    cases hs
    have e:Gf E r=q:=by unfold Gf;rw[c];rfl
    rw[a,e];exact⟨rfl,c,d.1,rfl⟩
   ·cases hs
  ·cases hs
theorem FZ.puts_stays{E:FZ}{R:Nat->Nat}{B:NB}{st:Pl}:∀(n:Nat),(E.puts R B st 0 (List.range n)).ps.length<=st.ps.length->
  BL (JG E R B st 0 (List.range n))=D5 (λk=>D7 (Gf E (R k)) (Dp (B k))) n/\(E.puts R B st 0 (List.range n)).ps=st.ps/\(E.puts R B st 0 (List.range n)).puts=st.puts++(List.range n).map (λk=>(R k,Gf E (R k)))/\∀k,k<n->E.at (R k)=some (Gf E (R k))/\E.D[Gf E (R k)]?=some (B k)
 |0,_=>⟨rfl,rfl,by simp[FZ.puts],λk d=>by omega⟩
 |n+1,h=>by
  rw[Cp]at h ⊢;have e:=FZ.puts_snoc E R B st 0 (List.range n) n;rw[Av,AU]at e;rw[e]at h;have h1:=E.put_ps_len (E.puts R B st 0 (List.range n)) (R n) (B n);have h2:=FZ.puts_ps_len E R B st 0 (List.range n);obtain⟨g,i,j,l⟩:=FZ.puts_stays (E:=E) (R:=R) (B:=B) (st:=st) n (by omega);obtain⟨c,m,o,p⟩:=FZ.put_stays (E:=E) (st:=E.puts R B st 0 (List.range n)) (r:=R n) (b:=B n) (by omega);have a:=Oz E R B st 0 (List.range n) n;rw[Av,AU]at a;refine⟨?_,?_,?_,λk d=>?_⟩
  ·rw[a,Jy,g,Pz,c];rfl
  ·rw[e,p,i]
  ·rw[e,FZ.put_puts,j,c,Bq,Ax];rfl
  ·by_cases f:k=n
   ·subst f;exact⟨m,o⟩
   ·exact l k (by omega)
def IU(b:Nat):UInt8:=if b=0 then 3 else 2
def Hs(b:Nat):Nat:=if b=0 then 63 else 60
def GJ(E:FZ)(t:By):NB
 |0=>t
 |b+1=>⟨(D5 (λk=>D7 (Gf E (Dz b k)) (Dp (Dx (IU b) (GJ E t b) (Hs b) k))) (((GJ E t b).size+Hs b-1)/Hs b)).toArray⟩
def nR(E:FZ)(t:By)(b:Nat):Nat:=((GJ E t b).size+Hs b-1)/Hs b
theorem Q9(E:FZ)(t:By)(b:Nat):BL (GJ E t (b+1))=D5 (λk=>D7 (Gf E (Dz b k)) (Dp (Dx (IU b) (GJ E t b) (Hs b) k))) (nR E t b):=by
 show BL ⟨(D5 _ _).toArray⟩=_;unfold BL nR;simp
theorem Un(E:FZ)(t:By)(b:Nat):(GJ E t (b+1)).size=10*nR E t b:=by
 rw[<-DK,Q9,Qv (λk=>KP _ _)]
def UH(E:FZ)(t:By)(b:Nat):Prop:=∀k,k<nR E t b->E.at (Dz b k)=some (Gf E (Dz b k))/\E.D[Gf E (Dz b k)]?=some (Dx (IU b) (GJ E t b) (Hs b) k)
theorem Vw(E:FZ)(d:Nat):∀(b:Nat) (st:Pl) (s:By),st.ps.length<=(DH E d b st s).2.ps.length:=by
 induction d with
 |zero=>exact λ_ _ _=>Aa _
 |succ d ih=>
  intro b st s;unfold DH
  split
  ·exact Af (FZ.puts_ps_len E _ _ _ _ _) (ih _ _ _)
  ·exact Aa _
theorem Z9(E:FZ)(t:By)(d:Nat):∀(b:Nat) (st:Pl),(DH E d (b+1) st (GJ E t (b+1))).2.ps.length<=st.ps.length->(GJ E t (b+1)).size<=10*6 ^ d->1<=nR E t b->
  ∃B,b<=B/\B<=b+d/\nR E t B=1/\(DH E d (b+1) st (GJ E t (b+1))).1=GJ E t (B+1)/\(∀a,b<a->a<=B->UH E t a)/\(∀a,b<=a->a<B->1<nR E t a)/\∀y,y∈(DH E d (b+1) st (GJ E t (b+1))).2.puts↔y∈st.puts\/∃a k,b<a/\a<=B/\k<nR E t a/\y=(Dz a k,Gf E (Dz a k)):=by
 induction d with
 |zero=>
  intro b st _ n w;have:=Un E t b;rw[Nat.pow_zero]at n;exact⟨b,Aa _,Aa _,by omega,rfl,λa f c=>by omega,λa f c=>by omega,λy=>⟨.inl,λe=>e.elim id (λ⟨a,k,f,c,_⟩=>by omega)⟩⟩
 |succ d ih=>
  intro b st h n w;have aa:=Un E t b;unfold DH at h ⊢;by_cases s:10<(GJ E t (b+1)).size
  ·rw[if_pos s]at h ⊢;have g:nR E t (b+1)=((GJ E t (b+1)).size+60-1)/60:=by unfold nR Hs;rw[if_neg (by omega)]
   have C:(Dy E 2 60 (b+1) st (GJ E t (b+1))).2.ps.length<=st.ps.length:=Af (Vw E d _ _ _) h;have q:∀k,Dd (2:UInt8).toNat (b+1) k=Dz (b+1) k:=λk=>by unfold Dz;rw[if_neg (by omega)];rfl
   obtain⟨G,H,I,J⟩:=FZ.puts_stays (E:=E) (R:=Dd (2:UInt8).toNat (b+1)) (B:=Dx 2 (GJ E t (b+1)) 60) (st:=st) (((GJ E t (b+1)).size+60-1)/60) C;have r:IU (b+1)=2:=by unfold IU;rw[if_neg (by omega)]
   have u:Hs (b+1)=60:=by unfold Hs;rw[if_neg (by omega)]
   have v:(Dy E 2 60 (b+1) st (GJ E t (b+1))).1=GJ E t (b+2):=by
    refine Ku ?_;rw[Q9,g,r,u];exact G
   have x:UH E t (b+1):=λk l=>by
    rw[g]at l;obtain⟨o,p⟩:=J k l;rw[r,u];rw[q k]at o p;exact⟨o,p⟩
   rw[v]at h ⊢;have D:=Un E t (b+1);have F:(GJ E t (b+2)).size<=10*6 ^ d:=by
    rw[D,g];rw[Ec]at n;generalize 6 ^ d=m at n ⊢
    omega
   obtain⟨B,o,p,K,L,M,N,O⟩:=ih (b+1) _ (by
    have A:(Dy E 2 60 (b+1) st (GJ E t (b+1))).2.ps=st.ps:=H;rw[A];exact h) F (by omega)
   refine⟨B,by omega,by omega,K,L,λa f c=>?_,λa f c=>?_,λy=>?_⟩
   ·by_cases e:a=b+1
    ·rw[e];exact x
    ·exact M a (by omega) c
   ·by_cases e:a=b
    ·rw[e];omega
    ·exact N a (by omega) c
   ·have z:(Dy E 2 60 (b+1) st (GJ E t (b+1))).2.puts=st.puts++(List.range (((GJ E t (b+1)).size+60-1)/60)).map (λk=>(Dz (b+1) k,Gf E (Dz (b+1) k))):=by
     refine Eq.trans I ?_;simp only[q]
    refine(O y).trans ?_;rw[z,Aq];constructor
    ·rintro((e|e)|⟨a,k,f,c,i,j⟩)
     ·exact .inl e
     ·obtain⟨k,l,rfl⟩:=As.1 e;exact .inr ⟨b+1,k,by omega,o,by rw[g];exact A4.1 l,rfl⟩
     ·exact .inr ⟨a,k,by omega,c,i,j⟩
    ·rintro(e|⟨a,k,f,c,i,j⟩)
     ·exact .inl (.inl e)
     ·by_cases e:a=b+1
      ·subst e;exact .inl (.inr (As.2 ⟨k,A4.2 (by rw[<-g];exact i),j.symm⟩))
      ·exact .inr ⟨a,k,by omega,c,i,j⟩
  ·rw[if_neg s]at h ⊢;exact⟨b,Aa _,by omega,by omega,rfl,λa f c=>by omega,λa f c=>by omega,λy=>⟨.inl,λe=>e.elim id (λ⟨a,k,f,c,_⟩=>by omega)⟩⟩
def Ql(E:FZ)(C:NB)(last:By)(x:It):By:=
 Ds last (jn x.ns) 2++Do last (jn x.ns)++⟨#[UInt8.ofNat x.f]⟩++Ja (C x.f).size 2++⟨(D5 (λk=>D7 (Gf E (Dd 4 x.f k)) (Dp (Gn (C x.f) k))) (Gu (C x.f))).toArray⟩
def KR(E:FZ)(C:NB):By->List It->By
 |_,[]=>⟨#[]⟩
 |last,x::xs=>Ql E C last x++KR E C (jn x.ns) xs
theorem W7(E:FZ)(C:NB)(a:By)(st:Pl)(x:It):st.ps.length<=(Dw E C a st x).2.ps.length:=by
 unfold Dw
 split
 ·exact Aa _
 ·split
  ·exact Aa _
  ·exact FZ.puts_ps_len E _ _ _ _ _
theorem WQ(E:FZ)(C:NB):∀(last:By) (st:Pl) (L:List It),st.ps.length<=(Du E C last st L).2.ps.length
 |_,_,[]=>Aa _
 |last,st,x::xs=>Af (W7 E C last st x) (WQ E C _ _ xs)
theorem K3(l:List UInt8):BL ⟨l.toArray⟩=l:=by unfold BL;simp
theorem V4(E:FZ)(C:NB):∀(last:By) (st:Pl) (L:List It),(∀x∈L,x.k=2)->(Du E C last st L).2.ps.length<=st.ps.length->
  (Du E C last st L).1=KR E C last L/\(Du E C last st L).2.ps=st.ps/\(∀x∈L,∀k,k<Gu (C x.f)->E.at (Dd 4 x.f k)=some (Gf E (Dd 4 x.f k))/\E.D[Gf E (Dd 4 x.f k)]?=some (Gn (C x.f) k))/\
  ∀y,y∈(Du E C last st L).2.puts↔y∈st.puts\/∃x∈L,∃k,k<Gu (C x.f)/\y=(Dd 4 x.f k,Gf E (Dd 4 x.f k))
 |last,st,[],_,_=>⟨rfl,rfl,λx i=>(by cases i),λy=>⟨.inl,λe=>e.elim id (λ⟨x,i,_⟩=>by cases i)⟩⟩
 |last,st,x::xs,hk,h=>by
  have i:=hk x (by simp);have c:Dw E C last st x=(Ds last (jn x.ns) 2++Do last (jn x.ns)++⟨#[UInt8.ofNat x.f]⟩++Ja (C x.f).size 2++JQ E x.f (C x.f) st 0 (List.range (Gu (C x.f))),E.puts (Dd 4 x.f) (Gn (C x.f)) st 0 (List.range (Gu (C x.f)))):=by
   unfold Dw;rw[if_neg (by omega),if_neg (by omega)]
  have o:(Du E C (jn x.ns) (Dw E C last st x).2 xs).2.ps.length<=st.ps.length:=h;have t:=WQ E C (jn x.ns) (Dw E C last st x).2 xs;have m2:=W7 E C last st x;have u:(E.puts (Dd 4 x.f) (Gn (C x.f)) st 0 (List.range (Gu (C x.f)))).ps.length<=st.ps.length:=by
   have:(Dw E C last st x).2.ps.length<=st.ps.length:=Af t o;rw[c]at this;exact this
  obtain⟨v,w,A,D⟩:=FZ.puts_stays (E:=E) (R:=Dd 4 x.f) (B:=Gn (C x.f)) (st:=st) (Gu (C x.f)) u;obtain⟨p,q,r,s⟩:=V4 E C (jn x.ns) (Dw E C last st x).2 xs (λy a=>hk y (AF _ a)) (by omega);have j:(Dw E C last st x).2.ps=st.ps:=by rw[c];exact w
  have l:(Dw E C last st x).1=Ql E C last x:=by
   rw[c,Vi];unfold Ql;show _++JG E (Dd 4 x.f) (Gn (C x.f)) st 0 (List.range (Gu (C x.f)))=_;have n:JG E (Dd 4 x.f) (Gn (C x.f)) st 0 (List.range (Gu (C x.f)))=⟨(D5 (λk=>D7 (Gf E (Dd 4 x.f k)) (Dp (Gn (C x.f) k))) (Gu (C x.f))).toArray⟩:=Ku (by rw[v,K3]);rw[n]
  have m:(Dw E C last st x).2.puts=st.puts++(List.range (Gu (C x.f))).map (λk=>(Dd 4 x.f k,Gf E (Dd 4 x.f k))):=by rw[c];exact A
  refine⟨?_,?_,λy a k g=>?_,λy=>?_⟩
  ·show(Dw E C last st x).1++(Du E C (jn x.ns) (Dw E C last st x).2 xs).1=_;rw[l,p];rfl
  ·show(Du E C (jn x.ns) (Dw E C last st x).2 xs).2.ps=_;rw[q,j]
  ·rcases AC.1 a with rfl|a
   ·exact D k g
   ·exact r y a k g
  ·refine(s y).trans ?_;rw[m,Aq];constructor
   ·rintro((e|e)|⟨z,b,k,d,f⟩)
    ·exact .inl e
    ·obtain⟨k,g,rfl⟩:=As.1 e;exact .inr ⟨x,by simp,k,A4.1 g,rfl⟩
    ·exact .inr ⟨z,AF _ b,k,d,f⟩
   ·rintro(e|⟨z,b,k,d,f⟩)
    ·exact .inl (.inl e)
    ·rcases AC.1 b with rfl|b
     ·exact .inl (.inr (As.2 ⟨k,A4.2 d,f.symm⟩))
     ·exact .inr ⟨z,b,k,d,f⟩
structure XH(s:KS)(C:NB)(L:List It)(t:By)(B:Nat):Prop where
 rows:Rows s.D (GJ (Dl s.es false s.tp s.D) t) (nR (Dl s.es false s.tp s.D) t) (λb k=>Gf (Dl s.es false s.tp s.D) (Dz b k)) (λb k=>Dp (Dx (IU b) (GJ (Dl s.es false s.tp s.D) t b) (Hs b) k)) B
 tab:t=KR (Dl s.es false s.tp s.D) C ⟨#[]⟩ L++⟨#[0]⟩
 dat:∀x∈L,∀k,k<Gu (C x.f)->16<=Gf (Dl s.es false s.tp s.D) (Dd 4 x.f k)/\Gf (Dl s.es false s.tp s.D) (Dd 4 x.f k)<1536/\s.D[Gf (Dl s.es false s.tp s.D) (Dd 4 x.f k)]?=some (Gn (C x.f) k)
 es:∀x,x∈s.es↔(∃z∈L,∃k,k<Gu (C z.f)/\x=(((Dd 4 z.f k:Nat):Int),((Gf (Dl s.es false s.tp s.D) (Dd 4 z.f k):Nat):Int)))\/∃b k,b<=B/\k<nR (Dl s.es false s.tp s.D) t b/\x=(((Dz b k:Nat):Int),((Gf (Dl s.es false s.tp s.D) (Dz b k):Nat):Int))
 tp:s.tp=Gf (Dl s.es false s.tp s.D) (Dz B 0)
 tx:s.tx=Dp (Dx (IU B) (GJ (Dl s.es false s.tp s.D) t B) (Hs B) 0)
 ts:t.size<=30601
structure LW(s:KS):Prop where
 ok:Hr s
 inj:∀x∈s.es,∀y∈s.es,x.2=y.2->x=y
 lo:∀x∈s.es,16<=x.2.toNat
theorem Gs.w{s:KS}(h:Gs s):LW s:=⟨h.ok,h.inj,h.lo⟩
structure XG(s:KS)(C:NB)(L:List It)(t:By)(B:Nat):Prop where
 rows:Rows s.D (GJ (Dl s.es false s.tp s.D) t) (nR (Dl s.es false s.tp s.D) t) (λb k=>Gf (Dl s.es false s.tp s.D) (Dz b k)) (λb k=>Dp (Dx (IU b) (GJ (Dl s.es false s.tp s.D) t b) (Hs b) k)) B
 tab:t=KR (Dl s.es false s.tp s.D) C ⟨#[]⟩ L++⟨#[0]⟩
 dat:∀x∈L,∀k,k<Gu (C x.f)->(Dl s.es false s.tp s.D).at (Dd 4 x.f k)=some (Gf (Dl s.es false s.tp s.D) (Dd 4 x.f k))/\16<=Gf (Dl s.es false s.tp s.D) (Dd 4 x.f k)/\Gf (Dl s.es false s.tp s.D) (Dd 4 x.f k)<1536/\s.D[Gf (Dl s.es false s.tp s.D) (Dd 4 x.f k)]?=some (Gn (C x.f) k)
 on:∀b,b<=B->UH (Dl s.es false s.tp s.D) t b
 puts:∀y,y∈(Dv s false C L).2.puts↔(∃z∈L,∃k,k<Gu (C z.f)/\y=(Dd 4 z.f k,Gf (Dl s.es false s.tp s.D) (Dd 4 z.f k)))\/∃b k,b<=B/\k<nR (Dl s.es false s.tp s.D) t b/\y=(Dz b k,Gf (Dl s.es false s.tp s.D) (Dz b k))
 tp:GA (Dv s false C L).1=Gf (Dl s.es false s.tp s.D) (Dz B 0)
 tx:GE (Dv s false C L).1=Dp (Dx (IU B) (GJ (Dl s.es false s.tp s.D) t B) (Hs B) 0)
 ts:t.size<=30601
 mn:∀b,b<B->1<nR (Dl s.es false s.tp s.D) t b
theorem Stays.on{s:KS}(u:LW s){C:NB}{L:List It}(A:GD C L)(hk:∀x∈L,x.k=2)(D:(Dv s false C L).2.ps=[]):∃t B,XG s C L t B:=by
 obtain⟨E,l⟩:=ex (Dl s.es false s.tp s.D);have p:=u.ok.env false;have ap:=u.ok.tp;rw[<-l]at p;obtain⟨T,v⟩:=ex (Du E C ⟨#[]⟩ ⟨s.tp+1,[],[]⟩ L);obtain⟨t1,t2,t3,t4,t5⟩:=Qq E C ⟨#[]⟩ ⟨s.tp+1,[],[]⟩ L (λz N=>⟨A.path z N,A.size z N,A.kind z N⟩);rw[<-v]at t1 t2 t3 t4 t5;have al:=A.len;obtain⟨t,M⟩:∃t:By,t=T.1++⟨#[0]⟩:=⟨_,rfl⟩;have aq:t.size=T.1.size+1:=by rw[M];exact Ai
 obtain⟨R,J⟩:=ex (Dy E 3 63 0 T.2 t);have o:Dv s false C L=DH E 8 1 R.2 R.1:=by
  rw[J,M,v,l];rfl
 rw[o]at D;have Y:=Vw E 8 1 R.2 R.1;rw[D,AK]at Y;have Z:=FZ.puts_ps_len E (Dd (3:UInt8).toNat 0) (Dx 3 t 63) T.2 0 (List.range ((t.size+63-1)/63));have I:R.2=E.puts (Dd (3:UInt8).toNat 0) (Dx 3 t 63) T.2 0 (List.range ((t.size+63-1)/63)):=by rw[J];rfl
 rw[<-I]at Z;obtain⟨p1,p2,p3,p4⟩:=FZ.puts_stays (E:=E) (R:=Dd (3:UInt8).toNat 0) (B:=Dx 3 t 63) (st:=T.2) ((t.size+63-1)/63) (by rw[<-I];omega);have ab:T.2.ps.length<=0:=by omega
 obtain⟨W,i2,G,X⟩:=V4 E C ⟨#[]⟩ ⟨s.tp+1,[],[]⟩ L hk (by rw[<-v];exact ab);rw[<-v]at W i2 X;have ao:∀k,Dd (3:UInt8).toNat 0 k=Dz 0 k:=λk=>rfl
 have am:nR E t 0=(t.size+63-1)/63:=rfl;have O:R.1=GJ E t 1:=by
  rw[J];refine Ku ?_;rw[Q9];exact p1
 rw[O]at D;rw[O]at o;have ag:=Un E t 0;have ak:(6:Nat) ^ 8=1679616:=by decide
 obtain⟨B,q1,q2,q3,q4,q5,q6,q7⟩:=Z9 E t 8 0 R.2 (by rw[D];exact Au _) (by omega) (by omega);have m:∀b,nR E t (b+1)=(10*nR E t b+60-1)/60:=λb=>by
  show((GJ E t (b+1)).size+Hs (b+1)-1)/Hs (b+1)=_;rw[Un,show Hs (b+1)=60 by unfold Hs;rw[if_neg (by omega)]]
 have w:∀b,nR E t b<=486:=λb=>by
  induction b with
  |zero=>omega
  |succ b ih=>have:=m b;omega
 have an:nR E t 4<=1:=by
  have P:=m 0;have Q:=m 1;have g3:=m 2;have g4:=m 3;have g0:=w 0;clear t1 t2 t3 t4 t5 Y Z ag;rw[show 0+1=1 from rfl]at P;rw[show 1+1=2 from rfl]at Q;rw[show 2+1=3 from rfl]at g3;rw[show 3+1=4 from rfl]at g4;omega
 have aa:B<8:=by
  rcases Bh B 8 with h|h
  ·exact h
  ·have d:=q6 4 (by omega) (by omega);omega
 have n:∀b,b<=B->UH E t b:=λb c=>by
  rcases Cj b with rfl|h
  ·intro k g;exact p4 k g
  ·exact q5 b h c
 have ad:∀y:Nat×Nat,y∈(Dv s false C L).2.puts↔(∃z∈L,∃k,k<Gu (C z.f)/\y=(Dd 4 z.f k,Gf E (Dd 4 z.f k)))\/∃b k,b<=B/\k<nR E t b/\y=(Dz b k,Gf E (Dz b k)):=λy=>by
  rw[o];refine(q7 y).trans ?_;rw[I,p3,Aq,X y];constructor
  ·rintro(((e|e)|e)|⟨b,k,d,f,a,h4⟩)
   ·cases e
   ·exact .inl e
   ·obtain⟨k,g,rfl⟩:=As.1 e;exact .inr ⟨0,k,Au _,A4.1 g,rfl⟩
   ·exact .inr ⟨b,k,f,a,h4⟩
  ·rintro(e|⟨b,k,d,f,a⟩)
   ·exact .inl (.inl (.inr e))
   ·rcases Cj b with rfl|h
    ·exact .inl (.inr (As.2 ⟨k,A4.2 f,a.symm⟩))
    ·exact .inr ⟨b,k,h,d,f,a⟩
 have K:∀r,E.at r=some (Gf E r)->16<=Gf E r/\Gf E r<1536:=λr hr=>by
  obtain⟨d,f⟩:=p.at_some hr;rw[l]at d;have a:=u.lo _ d;simp only[Bp]at a;rw[<-l]at a;exact⟨a,f⟩
 have S:∀r,Gf E r<1536:=λr=>by
  unfold Gf
  cases e:E.at r with
  |none=>show 0<_;omega
  |some q=>exact(p.at_some e).2
 have aj:E.D=s.D:=by rw[l];rfl
 have ae:BL (GJ E t (B+1))=D7 (Gf E (Dz B 0)) (Dp (Dx (IU B) (GJ E t B) (Hs B) 0)):=by
  rw[Q9,q3];unfold D5 D5;rw[AD]
 have U:GJ E t (B+1)=DI (Gf E (Dz B 0)) (Dp (Dx (IU B) (GJ E t B) (Hs B) 0)):=Ku (by rw[ae,Pz]);have ah:GA (Dv s false C L).1=Gf E (Dz B 0):=by
  rw[o];show GA (DH E 8 (0+1) R.2 (GJ E t (0+1))).1=_;rw[q4,U,UZ _ _ (by have:=S (Dz B 0);omega)]
 have ai:GE (Dv s false C L).1=Dp (Dx (IU B) (GJ E t B) (Hs B) 0):=by
  rw[o];show GE (DH E 8 (0+1) R.2 (GJ E t (0+1))).1=_;rw[q4,U,PP _ _ (KJ _)]
 refine⟨t,B,?_⟩;rw[l]at *;refine⟨⟨aa,rfl,λb _=>m b,λb _=>Q9 _ _ _,q3,λi j=>(n 0 (Au _) i j).2,λb c i j=>?_,λb i c j=>K _ (n b c i j).1,λb k=>⟨by have:=S (Dz b k);omega,KJ _⟩,λb i H V c ac j af e=>?_,λb _=>by have:=w b;omega⟩,by rw[M,W],λx F k g=>⟨(G x F k g).1,(K _ (G x F k g).1).1,(K _ (G x F k g).1).2,(G x F k g).2⟩,n,ad,ah,ai,by omega,λb c=>q6 b (Au _) c⟩
 ·have:=(n (b+1) c i j).2;rw[show IU (b+1)=2 by unfold IU;rw[if_neg (by omega)],show Hs (b+1)=60 by unfold Hs;rw[if_neg (by omega)]]at this;exact this
 ·have d:=(p.at_some (n b c i j).1).1;have f:=(p.at_some (n H ac V af).1).1;have a:=u.inj _ d _ f (by have e':Gf (Dl s.es false s.tp s.D) (Dz b i)=Gf (Dl s.es false s.tp s.D) (Dz H V):=e;show((_:Nat):Int)=((_:Nat):Int);rw[e']);rw[A9]at a;have P:=w b;have Q:=w H;exact TQ (by omega) (by omega) (by omega) (by omega) (by have:=a.1;omega)
theorem Gi.on{s:KS}(f:LW s){C:NB}{L:List It}(j:GD C L)(g:∀x∈L,x.k=2)(c:Gi s C L):∃t B,XH s C L t B/\XG s C L t B:=by
 obtain⟨t,B,h⟩:=Stays.on f j g c.ps;refine⟨t,B,⟨h.rows,h.tab,λx l k i=>(h.dat x l k i).2,λx=>?_,c.tp.symm.trans h.tp,c.tx.symm.trans h.tx,h.ts⟩,h⟩;rw[c.es.2.2];constructor
 ·rintro⟨y,m,rfl⟩;rcases(h.puts y).1 m with⟨z,e,k,a,rfl⟩|⟨b,k,a,d,rfl⟩
  ·exact .inl ⟨z,e,k,a,rfl⟩
  ·exact .inr ⟨b,k,a,d,rfl⟩
 ·rintro(⟨z,e,k,a,rfl⟩|⟨b,k,a,d,rfl⟩)
  ·exact⟨_,(h.puts _).2 (.inl ⟨z,e,k,a,rfl⟩),rfl⟩
  ·exact⟨_,(h.puts _).2 (.inr ⟨b,k,a,d,rfl⟩),rfl⟩
theorem Xd:∀(a b:List UInt8),a.take (JR a b)=b.take (JR a b)
 |[],b=>by unfold JR;simp
 |x::a,[]=>by unfold JR;simp
 |x::a,y::b=>by
  unfold JR;by_cases h:x=y
  ·subst h;have:=Xd a b;simp[this]
  ·simp[h]
theorem QJ(l:List UInt8){n:Nat}(h:n=l.length)(s:By)(r:List UInt8)(a:BL s=l++r):BL (Di s n)=l/\BL (s.extract n s.size)=r:=by
 have aa:s.size=l.length+r.length:=by rw[<-DK,a,Ab]
 subst h;rw[KW,J8,a];refine⟨?_,?_⟩
 ·rw[Ax,ES]
 ·rw[EG,Ag (by omega)]
theorem Oi(u:UInt8):DQ [u]=u.toNat:=by simp[DQ]
theorem PF{n:Nat}(h:n<256):(UInt8.ofNat n).toNat=n:=by simp;omega
theorem Lf.of{D:LY}{E:FZ}{C:NB}{o:By}{x:It}{s q:By}(hs:BL s=BL (Ql E C o x)++BL q)(hp:(jn x.ns).size<=100)(hf:x.f<60)(Q:(C x.f).size<=1280)(aa:∀r,Gf E r<1536)(R:∀k,k<Gu (C x.f)->16<=Gf E (Dd 4 x.f k)/\Gf E (Dd 4 x.f k)<1536/\D[Gf E (Dd 4 x.f k)]?=some (Gn (C x.f) k)):
  Lf D s o (jn x.ns) x.f (C x.f) (λk=>Gf E (Dd 4 x.f k)) q:=by
 obtain⟨p,A⟩:=ex (jn x.ns);obtain⟨d,b⟩:=ex (C x.f);obtain⟨a,F⟩:=ex (Kl o p);have T:=Uo o p;rw[<-F]at T;obtain⟨c,B⟩:=ex (D5 (λk=>D7 (Gf E (Dd 4 x.f k)) (Dp (Gn d k))) (Gu d));have Y:BL s=[UInt8.ofNat 2]++([UInt8.ofNat a]++([UInt8.ofNat (p.size-a)]++(BL (p.extract a p.size)++([UInt8.ofNat x.f]++(DD d.size 2++(c++BL q)))))):=by
  rw[hs];unfold Ql Ds Do;rw[<-A,<-b,<-F,Jy,Jy,Jy,Jy,<-B];have h1:BL (⟨#[UInt8.ofNat 2,UInt8.ofNat a,UInt8.ofNat (p.size-a)]⟩:By)=[UInt8.ofNat 2,UInt8.ofNat a,UInt8.ofNat (p.size-a)]:=rfl;have e:BL (⟨#[UInt8.ofNat x.f]⟩:By)=[UInt8.ofNat x.f]:=rfl;have t:BL (Ja d.size 2)=DD d.size 2:=K3 _;have u:BL (⟨c.toArray⟩:By)=c:=K3 _;rw[h1,e,t,u];simp only[Ax,AN,AD]
 rw[<-A]at hp;obtain⟨U,H⟩:=QJ _ (n:=1) rfl s _ Y;obtain⟨g,e⟩:=ex (s.extract 1 s.size);rw[<-e]at H;obtain⟨V,I⟩:=QJ _ (n:=1) rfl g _ H;obtain⟨h,t⟩:=ex (g.extract 1 g.size);rw[<-t]at I;obtain⟨W,J⟩:=QJ _ (n:=1) rfl h _ I;obtain⟨i,u⟩:=ex (h.extract 1 h.size);rw[<-u]at J;have hn:p.size-a=(BL (p.extract a p.size)).length:=by rw[DK,Ah];omega
 obtain⟨X,K⟩:=QJ _ hn i _ J;obtain⟨j,N⟩:=ex (i.extract (p.size-a) i.size);rw[<-N]at K;obtain⟨Z,L⟩:=QJ _ (n:=1) rfl j _ K;obtain⟨s6,O⟩:=ex (j.extract 1 j.size);rw[<-O]at L;obtain⟨g1,w⟩:=QJ _ (n:=2) (Jd 2 _).symm s6 _ L;obtain⟨G,y⟩:=ex (s6.extract 2 s6.size);rw[<-y]at w;have S:((256:Nat) ^ 2)=65536:=rfl;have z:=Qv (f:=λk=>D7 (Gf E (Dd 4 x.f k)) (Dp (Gn d k))) (m:=10) (λk=>KP _ _) (Gu d);rw[<-B]at z;rw[<-b]at Q R;refine⟨g,h,i,j,s6,a,p.size-a,T.1,by omega,hf,e,t,u,N,O,?_,?_,?_,?_,?_,by rw[<-b];exact Q,?_,λk v=>⟨?_,?_⟩,?_⟩
 ·rw[U,Oi];rfl
 ·rw[V,Oi,PF (by omega)]
 ·rw[W,Oi,PF (by omega)]
 ·refine Ku ?_;rw[Jy,X,J8,J8,BV,E9,<-A,Ag (l:=(BL p).drop a) (by rw[Az,DK];exact Aa _)];have:(BL o).take a=(BL p).take a:=by rw[F];exact Xd _ _
  rw[this,Co]
 ·rw[Z,Oi,PF (by omega)]
 ·rw[g1,KO 2 _ (by rw[S];omega),<-b]
 ·rw[<-b]at v;have P:BL (DE G k)=(c++BL q).drop (10*k):=by rw[Vg,w]
  rw[<-y];have M:=Rr (f:=λk=>D7 (Gf E (Dd 4 x.f k)) (Dp (Gn d k))) (m:=10) (λk=>KP _ _) (Gu d) k v;rw[<-B]at M;have ab:=Cu List.length P;rw[DK,Az,Ab,z]at ab;rw[Pn _ (by omega),P,ED (by omega)];have e:((c.drop (10*k)++BL q).take 2)=(D7 (Gf E (Dd 4 x.f k)) (Dp (Gn d k))).take 2:=by
   rw[<-M,B3,show min 2 10=2 from rfl,A3 (by rw[Az];omega)]
  rw[e];unfold D7;rw[BY (Jd 2 _),KO 2 _ (by rw[S];have:=aa (Dd 4 x.f k);omega)]
 ·rw[<-b]at v ⊢;exact R k v
 ·refine Ku ?_;rw[<-b,<-y,Vg,w,<-z,EG]
theorem Vk(s:List UInt8)(m:Nat):∀n,D5 (λi=>(((s.drop (i*m)).take m)++List.replicate m 0).take m) n=(s++List.replicate (m*n) 0).take (m*n)
 |0=>by simp[D5]
 |n+1=>by
  unfold D5;rw[Vk s m n];have e:m*(n+1)=m*n+m:=Nat.mul_succ m n;rw[e,List.take_add]
  congr 1
  ·rw[<-Fk,<-Ax,A3 (l₁:=s++List.replicate (m*n) 0) (by rw[Ab,Bj];omega)]
  ·rw[Nat.mul_comm n m,List.drop_append];rcases Nat.le_total (m*n) s.length with h|h
   ·rw[show m*n-s.length=0 by omega,BV];rw[Ca,B3,Nat.min_self,Ca,An,Az,BM,BM]
    congr 2
    omega
   ·rw[CN h,List.take_nil,AD,AD,CP,BM,BM]
    congr 1
    omega
theorem Gy.ext{a b:LI}(k:Gy a)(l:Gy b)(h:∀x,x∈a↔x∈b):a=b:=by
 have m:List.Perm a b:=(Cv k.nodup l.nodup).2 h;refine Fb (le:=λx y=>GK x.1 y.1=true) (λx y _ _ f g=>?_) ?_ ?_ m
 ·unfold GK at f g;simp only[AH]at f g;omega
 ·rw[Bk];exact λi j c e d=>k i j _ _ d (Ac c) (Ac e)
 ·rw[Bk];exact λi j c e d=>l i j _ _ d (Ac c) (Ac e)
structure F6(C:NB)(L:List It):Prop where
 k2:∀x∈L,x.k=2
 ns:∀x∈L,∃n,x.ns=[n]/\DL n=true
 nd:(L.map (·.ns)).Nodup
 fd:(L.map (·.f)).Nodup
 le:L.length<=8
 sz:∀x∈L,(C x.f).size<=1280
 num:∀x∈L,x.f<60
theorem F6.nms{C:NB}{L:List It}(h:F6 C L){x:It}(c:x∈L):Iw x.ns/\x.ns≠[]/\x.ns.length<=6:=by
 obtain⟨n,e,b⟩:=h.ns x c;rw[e];exact⟨λm a=>by rw[Ad.1 a];exact b,by simp,by simp⟩
theorem F6.path{C:NB}{L:List It}(h:F6 C L){x:It}(d:x∈L):Df (jn x.ns)=x.ns/\DS (jn x.ns)=true/\(jn x.ns).size<=78:=by
 obtain⟨a,b,c⟩:=h.nms d;have:=Tk a b c;exact⟨P9 a b,this,Rn _ this⟩
theorem F6.fresh{C:NB}{L:List It}(h:F6 C L){i j:Nat}{x y:It}(g:L[i]?=some x)(k:L[j]?=some y)(e:x.f=y.f):i=j:=by
 have a:=h.fd;obtain⟨d,b⟩:=Ae.1 g;obtain⟨f,c⟩:=Ae.1 k;unfold List.Nodup at a;rw[Bk]at a;rcases CB i j with q|q|q
 ·have:=a i j (by rw[AL];exact d) (by rw[AL];exact f) q;rw[Cz,Cz,b,c]at this;exact absurd e this
 ·exact q
 ·have:=a j i (by rw[AL];exact f) (by rw[AL];exact d) q;rw[Cz,Cz,b,c]at this;exact absurd e.symm this
theorem F6.ok{C:NB}{L:List It}(h:F6 C L):GD C L:=
 ⟨by have:=h.le;omega,λx a => .inr (.inl (h.k2 x a)),λx a=>by have:=(h.path a).2.2;omega,h.num,λx a _=>h.sz x a,λi j x y aa b c _ _ e=>by have:=h.fresh b c e;omega⟩
section
variable{D:LY}{R:NB}{N:Nat->Nat}{P X:Nat->Nat->Nat}{B:Nat}
theorem TC(a:Rows D R N P X B):Gw N P (λi=>BL (IC R i)) B (B+1) (Jl N P (IC R) B 0 Kb)/\∀b,b<=B->(Jl N P (IC R) B 0 Kb).tn b=N b:=by
 have d:=a.top;obtain⟨e,⟨f,g⟩,_⟩:=Rj a (cb:=IC R) (λ_=>rfl) B (Aa _) 0 Kb (by omega) (Gw.start N P _ B (B+1)) (Lv.start N B);refine⟨e,λb hb=>?_⟩;rcases Bh b B with h|h
 ·rw[g b h];have c:=Rows.grow a (B-b) b (by omega);rw[show b+(B-b)=B by omega,d]at c;exact C9 c
 ·obtain rfl:b=B:=by omega
  rw[f,d]
theorem ZkD(a:Rows D R N P X B):∃z,BL (Jl N P (IC R) B 0 Kb).t=BL (R 0)++List.replicate z 0/\z<=62:=by
 obtain⟨b,c⟩:=TC a;have e:(λi=>BL (IC R i))=(λi=>((((BL (R 0)).drop (i*63)).take 63)++List.replicate 63 0).take 63):=by
  funext i
  unfold IC;rw[Su];unfold Hy;rw[J8,show i*63+63-i*63=63 by omega]
 have hn:=a.n0;rw[b.g5,c 0 (Au _),e,Vk];refine⟨63*N 0-(R 0).size,?_,by omega⟩;rw[Ca,Ag (by rw[DK];omega),DK,BM]
 congr 2
 omega
end
structure QI(E:FZ)(M:Nat->Prop)(n:Nat)(q:Gj):Prop where
 ins:∀y,y∈q.ins↔M y.1/\y.2=Gf E y.1
 tk:∀p,q.tk p=true->∃r,M r/\p=Gf E r
 len:q.ins.length<=n
theorem QI.put{E:FZ}{M:Nat->Prop}{n:Nat}{q:Gj}(h:QI E M n q)(r:Nat):QI E (λk=>M k\/k=r) (n+1) ((q.take (Gf E r)).put r (Gf E r)):=by
 refine⟨λy=>?_,λp d=>?_,?_⟩
 ·show y∈q.ins++[(r,Gf E r)]↔_;rw[Aq,h.ins,Ad];constructor
  ·rintro(⟨a,b⟩|rfl)
   ·exact⟨.inl a,b⟩
   ·exact⟨.inr rfl,rfl⟩
  ·rintro⟨a|a,b⟩
   ·exact .inl ⟨a,b⟩
   ·exact .inr (FP a (by rw[b,a]))
 ·have c:(if p=Gf E r then true else q.tk p)=true:=d
  split at c
  ·rename_i e;exact⟨r,.inr rfl,e⟩
  ·obtain⟨f,a,b⟩:=h.tk p c;exact⟨f,.inl a,b⟩
 ·show(q.ins++[_]).length<=_;rw[Ab];have:=h.len;simp only[Be];omega
theorem QI.congr{E:FZ}{M a:Nat->Prop}{n c:Nat}{q:Gj}(h:QI E M n q)(b:∀r,M r↔a r)(f:n<=c):QI E a c q:=
 ⟨λy=>by rw[h.ins,b],λp g=>by obtain⟨r,d,e⟩:=h.tk p g;exact⟨r,(b r).1 d,e⟩,Af h.len f⟩
def gi(L:List It)(k:Nat):It:=(L[k]?).getD ⟨[],2,0⟩
theorem Kr{L:List It}{k:Nat}(h:k<L.length):L[k]?=some (gi L k)/\gi L k∈L:=by
 unfold gi;rw[Ac h];exact⟨rfl,Ea h⟩
def MN(E:FZ)(C:NB)(L:List It)(q:Gj):Nat->Gj
 |0=>q
 |k+1=>D3 (MN E C L q k) (gi L k).f (λi=>Gf E (Dd 4 (gi L k).f i)) (Gu (C (gi L k).f))
def MR(E:FZ)(C:NB)(L:List It)(t:By)(B k i r:Nat):Prop:=
 (∃b j,b<=B/\j<nR E t b/\r=Dz b j)\/∃k' i',(k'<k/\i'<Gu (C (gi L k').f)\/k'=k/\i'<i)/\r=Dd 4 (gi L k').f i'
theorem MR.next{E:FZ}{C:NB}{L:List It}{t:By}{B k i:Nat}(r:Nat):(MR E C L t B k i r\/r=Dd 4 (gi L k).f i)↔MR E C L t B k (i+1) r:=by
 unfold MR;constructor
 ·rintro((h|⟨d,c,a|a,b⟩)|h)
  ·exact .inl h
  ·exact .inr ⟨d,c,.inl a,b⟩
  ·exact .inr ⟨d,c,.inr ⟨a.1,by omega⟩,b⟩
  ·exact .inr ⟨k,i,.inr ⟨rfl,by omega⟩,h⟩
 ·rintro(h|⟨d,c,a|a,b⟩)
  ·exact .inl (.inl h)
  ·exact .inl (.inr ⟨d,c,.inl a,b⟩)
  ·by_cases e:c=i
   ·obtain⟨rfl,_⟩:=a;subst e;exact .inr b
   ·exact .inl (.inr ⟨d,c,.inr ⟨a.1,by omega⟩,b⟩)
theorem MR.file{E:FZ}{C:NB}{L:List It}{t:By}{B k:Nat}(r:Nat):MR E C L t B k (Gu (C (gi L k).f)) r↔MR E C L t B (k+1) 0 r:=by
 unfold MR;constructor
 ·rintro(h|⟨b,d,a|a,c⟩)
  ·exact .inl h
  ·exact .inr ⟨b,d,.inl ⟨by omega,a.2⟩,c⟩
  ·obtain⟨rfl,a⟩:=a;exact .inr ⟨b,d,.inl ⟨by omega,a⟩,c⟩
 ·rintro(h|⟨b,d,a|a,c⟩)
  ·exact .inl h
  ·by_cases e:b=k
   ·subst e;exact .inr ⟨b,d,.inr ⟨rfl,a.2⟩,c⟩
   ·exact .inr ⟨b,d,.inl ⟨by omega,a.2⟩,c⟩
  ·omega
theorem MR.fresh{E:FZ}{C:NB}{L:List It}(c:F6 C L){t:By}{B k i:Nat}(hB:B<8)(m:∀b,b<=B->nR E t b<=1000)(n:k<L.length)(hi:i<Gu (C (gi L k).f)):¬MR E C L t B k i (Dd 4 (gi L k).f i):=by
 obtain⟨h,f⟩:=Kr n;have hf:=c.num _ f;have hn:=K7 (c.sz _ f);rintro(⟨b,j,a,e,d⟩|⟨o,i',a|a,e⟩)
 ·have:=m b a;unfold Dz at d
  split at d
  ·have:=OB (by omega) (by omega) (by omega) (by omega) d;omega
  ·have:=OB (by omega) (by omega) (by omega) (by omega) d;omega
 ·obtain⟨l,g⟩:=Kr (L:=L) (k:=o) (by omega);have aa:=c.num _ g;have ab:=K7 (c.sz _ g);have:=c.fresh h l (Rp (by omega) (by omega) (by omega) (by omega) e);omega
 ·obtain⟨rfl,a⟩:=a;have:=QP e;omega
theorem QI.fil{E:FZ}{C:NB}{L:List It}{t:By}{B:Nat}{q:Gj}{k n:Nat}(h:QI E (MR E C L t B k 0) n q):∀i,QI E (MR E C L t B k i) (n+i) (D3 q (gi L k).f (λi=>Gf E (Dd 4 (gi L k).f i)) i)
 |0=>h
 |i+1=>((QI.fil h i).put (Dd 4 (gi L k).f i)).congr MR.next (Aa _)
theorem QI.files{E:FZ}{C:NB}{L:List It}(a:F6 C L){t:By}{B:Nat}{q:Gj}{n:Nat}(h:QI E (MR E C L t B 0 0) n q):∀k,k<=L.length->QI E (MR E C L t B k 0) (n+20*k) (MN E C L q k)
 |0,_=>h
 |k+1,hk=>by
  have h1:=K7 (a.sz _ (Kr (L:=L) (k:=k) (by omega)).2);exact((QI.files a h k (by omega)).fil _).congr MR.file (by omega)
section
variable{D0 D1:LY}{R0 R1:NB}{N0 N1:Nat->Nat}{P0 P1 X0 X1:Nat->Nat->Nat}{B0 B1:Nat}
end
end Go.Proofs.YtaieidcohdhgpaaGreatDoor
