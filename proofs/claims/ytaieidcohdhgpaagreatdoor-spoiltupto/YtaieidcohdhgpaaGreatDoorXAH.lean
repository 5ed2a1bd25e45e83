/- Spoilt. -/
import Derived.Test.YtaieidcohdhgpaaGreatDoorXAG
namespace Go.Proofs.YtaieidcohdhgpaaGreatDoor
set_option maxHeartbeats 40000000
set_option maxRecDepth 100000
open Go.RowKit
theorem TW.setI{w w':World}{tb j:Nat}{V:NV}{E:NS}{d f:Value}{G:Gh}{I a:LF}{C l:IB}(h:TW w tb j V E d G I C)
  (y:F0 w' tb 214 [.pointer (some ⟨j,0,none⟩),f]) (q:Sl w' 293 3 f a.length (Du a)) (z:Gn a) (m:Fr (fun k=>k=tb\/d.ownBlock=some k) w w')
  (s:∀x∈a,Sl w' 5 1 (.slice x.2.a x.2.l x.2.c) x.2.l (Dc (l x.1))) (v:Dm w d f):TW w' tb j V E f G a l:=by
 have r:∀k t R,(k=tb\/d.ownBlock=some k)->F0 w k t R->t=214\/t=293:=fun k t R b c=>by
  rcases b with rfl|b
  ·exact .inl (c.type h.t)
  ·obtain⟨o,i⟩:=h.i.type b;exact .inr (c.type i)
 refine⟨h.pk.fr m (fun e=>?_),y,h.d.fr m (fun k t R e c=>?_),q,z,s,h.lo.1,fun g u=>(v g u).elim (h.lo.2 g) (fun p=>Ag (Nat.le_of_lt (h.d.row _ _ (.inl ⟨rfl,rfl⟩)).lt) p)⟩
 ·obtain⟨_,n⟩:=h.pk;rcases e with rfl|b
  ·have:=n _ _ h.t;revert this;decide
  ·obtain⟨o,i⟩:=h.i.type b;have:=n _ _ i;revert this;decide
 ·rcases r k t R e c with rfl|rfl<;>decide
theorem Fr.progI{w w':World}{tb e:Nat}{V:NV}{E:NS}{b:Value}{G:Gh}{I:LF}{C:IB}(h:TW w tb e V E b G I C)(d:Fr (fun k=>k=tb\/b.ownBlock=some k) w w'):Fr (DP tb w) w w':=
 d.mono (fun k _ a=>by
  rcases a with rfl|a
  ·exact⟨⟨214,_,h.t,.inl rfl⟩,EI _⟩
  ·obtain⟨R,c⟩:=h.i.type a;exact⟨⟨293,R,c,.inr (.inr (.inr rfl))⟩,by have:=h.lo.1;have:=h.lo.2 k a;omega⟩)
theorem TW.ne{w:World}{tb c:Nat}{V:NV}{E:NS}{a:Value}{G:Gh}{I:LF}{C:IB}(h:TW w tb c V E a G I C):a.ownBlock≠some tb:=fun e=>by
 obtain⟨R,b⟩:=h.i.type e;have:=b.type h.t;revert this;decide
theorem S3{w w':World}{tb:Nat}{a b v c:Value}(h:F0 w tb 214 [a,b])(f:IK w w' tb 1 v c):F0 w' tb 214 [a,c]:=by
 have e:=f.head;have d:=h.set 1 c;unfold F0 at d ⊢;rw[e];simpa using d
theorem Xb(w:World)(tb f:Nat)(V:NV)(E:NS)(a:Value)(G:Gh)(I:LF)(C:IB)(h:TW w tb f V E a G I C)(t:I.length<=10000)(n:Int)(q r:VF)(z:(n,q)∈I)(s:By)(y:Sl w 5 1 (.slice r.a r.l r.c) r.l (Dc s)):
  Cl 228 #[.pointer (some ⟨tb,1,none⟩),.int .i64 n,.agg #[.slice r.a r.l r.c,.int .i64 r.f]] w fun e w'=>e = .returned (.tuple #[])/\(∃b,TW w' tb f V E a G b (fun k=>if k=n then s else C k)/\b.length=I.length/\∀x,x∈b↔x=(n,r)\/x∈I/\x.1≠n)/\Fr (fun k=>k=tb\/a.ownBlock=some k) w w':=by
 refine(Zq w tb 1 a I n q r (h.t.cell 1) h.ne h.i t h.si z).mono ?_;rintro e w' ⟨rfl,b,q1,H,J,K,o,p⟩;have c:Fr (fun k=>k=tb\/a.ownBlock=some k) w w':=Fr.of_grown p (fun k e => .inr e);have B:F0 w' tb 214 [.pointer (some ⟨f,0,none⟩),a]:=(p.block tb h.t.lt (fun e=>h.ne e.symm)).trans h.t;have l:∀(v:Value) (m:Nat) (xs:F6),Sl w 5 1 v m xs->Sl w' 5 1 v m xs:=fun v m xs j=>j.fr c (fun g d e=>by
  obtain⟨R,i⟩:=j.type d;rcases e with rfl|e
  ·have:=i.type h.t;revert this;decide
  ·obtain⟨R',u⟩:=h.i.type e;have:=i.type u;revert this;decide)
 refine⟨rfl,⟨b,h.setI B H J c (fun x D=>?_) (fun g d => .inl d),K,o⟩,c⟩;rcases (o x).1 D with rfl|⟨F,A⟩
 ·simp only[if_true];exact l _ _ _ y
 ·rw[if_neg A];exact l _ _ _ (h.dat x F)
theorem Zmv(w:World)(tb q:Nat)(V:NV)(E:NS)(c:Value)(G:Gh)(I:LF)(C:IB)(h:TW w tb q V E c G I C)(r:I.length<=10000)(n:Int)(p:VF)(u:(n,p)∈I):
  Cl 234 #[.pointer (some ⟨tb,1,none⟩),.int .i64 n] w fun e w'=>e = .returned (.tuple #[])/\(∃f b,TW w' tb q V E f G b C/\b.length+1=I.length/\∀x,x∈b↔x∈I/\x.1≠n)/\Fr (fun k=>k=tb\/c.ownBlock=some k) w w':=by
 refine(M9 w tb 1 c I n p (h.t.cell 1) (h.t.frozen 1) h.ne h.i r h.si u).mono ?_;rintro e w' ⟨rfl,f,b,q1,B,D,F,o,H,a⟩;have d:Fr (fun k=>k=tb\/c.ownBlock=some k) w w':=⟨a.os,a.tape,a.output,a.size,fun k y l=>a.block k y (fun e=>l (.inl e)) (fun e=>l (.inr e))⟩;have z:∀(v:Value) (m:Nat) (xs:F6),Sl w 5 1 v m xs->Sl w' 5 1 v m xs:=fun v m xs j=>j.fr d (fun g t e=>by
  obtain⟨R,i⟩:=j.type t;rcases e with rfl|e
  ·have:=i.type h.t;revert this;decide
  ·obtain⟨R',s⟩:=h.i.type e;have:=i.type s;revert this;decide)
 exact⟨rfl,⟨f,b,h.setI (S3 h.t a) B D d (fun x A=>z _ _ _ (h.dat x ((o x).1 A).1)) H,F,o⟩,d⟩
theorem ZiS(w:World)(tb u:Nat)(V:NV)(E:NS)(c:Value)(G:Gh)(I:LF)(C:IB)(h:TW w tb u V E c G I C)(y:I.length<=10000)(n:Int)(r:VF)(p:∀x∈I,x.1≠n)(s:By)(A:Sl w 5 1 (.slice r.a r.l r.c) r.l (Dc s)):
  Cl 228 #[.pointer (some ⟨tb,1,none⟩),.int .i64 n,.agg #[.slice r.a r.l r.c,.int .i64 r.f]] w fun e w'=>e = .returned (.tuple #[])/\(∃f b,TW w' tb u V E f G b (fun k=>if k=n then s else C k)/\b.length=I.length+1/\∀x,x∈b↔x=(n,r)\/x∈I)/\Fr (fun k=>k=tb\/c.ownBlock=some k) w w':=by
 refine(Yh w tb 1 c I n r (h.t.cell 1) (h.t.frozen 1) h.ne h.i y h.si p).mono ?_;rintro e w' ⟨rfl,f,b,q1,H,J,K,t,L,a⟩;have d:Fr (fun k=>k=tb\/c.ownBlock=some k) w w':=⟨a.os,a.tape,a.output,a.size,fun k D l=>a.block k D (fun e=>l (.inl e)) (fun e=>l (.inr e))⟩;have o:∀(v:Value) (m:Nat) (xs:F6),Sl w 5 1 v m xs->Sl w' 5 1 v m xs:=fun v m xs j=>j.fr d (fun g B e=>by
  obtain⟨R,i⟩:=j.type B;rcases e with rfl|e
  ·have:=i.type h.t;revert this;decide
  ·obtain⟨R',z⟩:=h.i.type e;have:=i.type z;revert this;decide)
 refine⟨rfl,⟨f,b,h.setI (S3 h.t a) H J d (fun x F=>?_) L,K,t⟩,d⟩;rcases (t x).1 F with rfl|q
 ·simp only[if_true];exact o _ _ _ A
 ·rw[if_neg (p x q)];exact o _ _ _ (h.dat x q)
theorem K3(w:World)(tb q:Nat)(V:NV)(E:NS)(c:Value)(G:Gh)(I:LF)(C:IB)(h:TW w tb q V E c G I C)(d:I.length<=10000)(n:Int)(r:VF)(a:(n,r)∈I):
  Cl 175 #[.pointer (some ⟨tb,1,none⟩),.int .i64 n] w fun e w'=>e = .returned (.tuple #[.agg #[.slice r.a r.l r.c,.int .i64 r.f],.bool true])/\Bw w w':=by
 refine(Mi w tb 1 c I n (h.t.cell 1) h.i d h.si).mono ?_;rintro e w' ⟨r',b,rfl,g,f⟩;rcases g with⟨rfl,m⟩|⟨rfl,_,p⟩
 ·have o:(I.map (·.1)).Nodup:=by
   unfold List.Nodup;rw[Bm];intro i j hi l k e;have aa:j<I.length:=by simpa using l
   rw[Cw,Cw]at e;have:=h.si i j I[i] I[j] k (Ac _) (Ac _);have:=Cg this;omega
  rw[QN o m a];exact⟨rfl,f⟩
 ·exact absurd rfl (p _ a)
def Gq(I I':LF)(n:Int)(r:VF):Prop:=I'.length=I.length/\∀x,x∈I'↔x=(n,r)\/x∈I/\x.1≠n
def UN(I I':LF)(n:Int):Prop:=I'.length+1=I.length/\∀x,x∈I'↔x∈I/\x.1≠n
theorem Zl8(C:IB)(n:Int):(fun k=>if k=n then C n else C k)=C:=by
 funext k;split
 ·rename_i h;rw[h]
 ·rfl
theorem V4(w:World)(tb c:Nat)(V:NV)(E:NS)(d:Value)(G:Gh)(I:LF)(C:IB)(h:TW w tb c V E d G I C)(m:I.length<=10000)(n:Int)(r:VF)(i:(n,r)∈I)(f:Int)(W:World)(g:Bw w W):
  Cl 228 #[.pointer (some ⟨tb,1,none⟩),.int .i64 n,.agg #[.slice r.a r.l r.c,.int .i64 f]] W fun e w'=>e = .returned (.tuple #[])/\((∃a,TW w' tb c V E d G a C/\Gq I a n ⟨r.a,r.l,r.c,f⟩)/\Fr (DP tb w) w w')/\∀k,k<W.heap.size->w.heap.size<=k->w'.heap[k]?=W.heap[k]? := by
 have b:=h.below g (Aa _);refine(Xb W tb c V E d G I C b m n r ⟨r.a,r.l,r.c,f⟩ i (C n) (b.dat _ i)).mono ?_;rintro e w' ⟨rfl,⟨a,j,p,q⟩,l⟩;rw[Zl8]at j;exact⟨rfl,⟨⟨a,j,p,q⟩,Fr.prog g (Fr.progI b l)⟩,fun k o aa=>l.block k o (fun e=>by
  rcases e with rfl|e
  ·have:=h.t.lt;omega
  ·have:=h.i.lt e;omega)⟩
theorem WF(w:World)(tb f:Nat)(V:NV)(E:NS)(g:Value)(G:Gh)(I:LF)(C:IB)(h:TW w tb f V E g G I C)(k:I.length<=10000)(n:Int)(r:VF)(l:(n,r)∈I)(aa:0<r.f)(ab:r.f<=10000):
  Cl 197 #[.pointer (some ⟨tb,0,none⟩),.int .i64 n] w fun e w'=>e = .returned (.tuple #[])/\(∃s b,TW w' tb f V E s G b C/\((r.f=1/\UN I b n)\/(r.f≠1/\Gq I b n ⟨r.a,r.l,r.c,r.f-1⟩)))/\Fr (DP tb w) w w':=by
 have D:=K3 w tb f V E g G I C h k n r l;have J:Hid (∀W,Bw w W->_):=fun W c=>V4 w tb f V E g G I C h k n r l (r.f-1) W c
 have t:=Db h;go_enter Tryz.func197,Tryz.ntmps197;go_wp2_with fail;refine D.mono ?_;rintro e w1 ⟨rfl,c⟩;clear D h;obtain⟨W,y,m,K,ac,z⟩:=De w1 [.slice r.a r.l r.c,.int .i64 (r.f-1)] 217;have i:Bw w W:=c.trans (z.mono c.size);have A:=c.size;have u:=Db y;clear y K c z;go_upto_region 2 with fail;rw[Da u];have v:=m.cell 0;have x:=m.cell 1;clear m u;by_cases d:r.f=1
 ·have M:(r.f-1==0)=true:=by rw[d];rfl
  have B:=Zmv W tb f V E g G I C ((Da t).below i (Aa _)) k n r l;have H:=Db B;have j:=Db d;clear B d;go_wp2_with (first|(go_at_call 234;refine(Da H).mono ?_;rintro e O ⟨rfl,⟨s,b,o,p,q⟩,N⟩));refine Ax (Ei rfl _ _ _) rfl ?_;exact⟨rfl,⟨s,b,o,.inl ⟨Da j,p,q⟩⟩,Fr.prog i (Fr.progI ((Da t).below i (Aa _)) N)⟩
 ·have M:(r.f-1==0)=false:=by simp;omega
  have j:=Db d;clear d;go_upto_region 4 with fail
  go_region_held3 (fun W=>W.cell? ⟨w1.heap.size,0,none⟩=some (.slice r.a r.l r.c)/\W.cell? ⟨w1.heap.size,1,none⟩=some (.int .i64 (r.f-1))) (go_keep)
   (first|(go_at_call 228;refine(Da J _ i.drew).mono ?_;rintro e O ⟨rfl,L,F⟩;have m0:=(AC (a:=⟨w1.heap.size,0,none⟩) (F _ (Aj _ _ v) A)).trans v;have m1:=(AC (a:=⟨w1.heap.size,1,none⟩) (F _ (Aj _ _ x) A)).trans x))
  all_goals
   go_wp2
   go_end0
   obtain⟨⟨b,o,p⟩,q⟩:=L;exact⟨rfl,⟨g,b,o,.inr ⟨Da j,p⟩⟩,q⟩
def Ml(G G':Gh)(ns:LY):Prop:=∀x,x∈G'↔x∈G/\x.1≠ns
def Ix(G:Gh)(p:By):Int:=if H3 G p≠0 then H3 G p else if Df p=[] then 7 else match Gr G (Df p) with|some u=>if u.p.isSome=true/\0<G.countP (Hk (Df p)) then 7 else 0|none=>0
def GX(G:Gh)(I:LF):Prop:=∀x∈G,x.2.p=none->∃r,(x.2.f,r)∈I/\0<r.f/\r.f<=10000
def Q3(w:World)(tb:Nat)(G:Gh)(I:LF)(C:IB)(p:By)(e:Ending)(w':World):Prop:=
 e = .returned (.int .i64 (Ix G p))/\Fr (DP tb w) w w'/\((Ix G p≠0/\PS w' tb G I C)\/(Ix G p=0/\∃u,Gr G (Df p)=some u/\
  ((u.p.isSome=true/\∀G',Ml G G' (Df p)->PS w' tb G' I C)\/
   (u.p=none/\∃r I',(u.f,r)∈I/\((r.f=1/\UN I I' u.f)\/(r.f≠1/\Gq I I' u.f ⟨r.a,r.l,r.c,r.f-1⟩))/\∀G',Ml G G' (Df p)->PS w' tb G' I' C))))
theorem TW.congrG{w:World}{tb e:Nat}{V:NV}{E:NS}{l:Value}{G G':Gh}{I:LF}{C:IB}(h:TW w tb e V E l G I C)(j:∀x,x∈G'↔x∈G):TW w tb e V E l G' I C:=by
 have c:∀ns b,F4 G' e ns b->F4 G e ns b:=fun ns b d=>d.elim .inl (fun d => .inr ((j _).1 d))
 exact⟨h.pk,h.t,⟨fun x d=>h.d.shp x ((j x).1 d),fun ns b a=>h.d.row ns b (c ns b a),fun ns b a=>h.d.sl ns b (c ns b a),fun ns b a=>h.d.srt ns b (c ns b a),fun ns b a n u=>(h.d.en ns b (c ns b a) n u).trans (j _).symm,fun ns k b f i=>h.d.inj ns k b (c _ _ f) (c _ _ i),fun ns k b m g f i=>h.d.own ns k b m g (c _ _ f) (c _ _ i),fun ns b a=>h.d.lo ns b (c ns b a)⟩,h.i,h.si,h.dat,h.lo⟩
def J1(G:Gh)(ns:LY):Gh:=G.filter (fun x=>decide (x.1≠ns))
theorem QC(G:Gh)(ns:LY):Ml G (J1 G ns) ns:=fun x=>by unfold J1;rw[EJ,AJ]
theorem GG.in{G:Gh}{f:Nat}{ns:LY}{d:OA}{n:By}{u:VS}(h:GG G f ns d n true u)(k:ns≠[]):∃b a,ns=b++[n]/\F4 G f b a/\d=some ⟨a,0,none⟩/\Gr G ns=some u:=by
 rcases h with⟨rfl,_⟩|⟨b,a,g,i,j,c,e⟩
 ·exact absurd rfl k
 ·refine⟨b,a,g,i,j,?_⟩
  cases ha:Gr G ns with
  | none=>rw[ha]at c;cases c
  | some v=>rw[ha]at e;rw[e];rfl
theorem WC(w:World)(tb:Nat)(G:Gh)(I:LF)(C:IB)(h:PS w tb G I C)(D:Gt G)(ac:G.length<=10000)(aM:I.length<=10000)(av:GX G I)(p:By)(hp:p.size<=2000000):
  Cl 127 #[.pointer (some ⟨tb,0,none⟩),.string p] w (Q3 w tb G I C p):=by
 obtain⟨B,V,E,J,h⟩:=h;have X:Hid (∀W,Bw w W->Ix G p≠0->Q3 w tb G I C p (.returned (.int .i64 (Ix G p))) W):=fun W o j=>⟨rfl,Fr.of_below o,.inl ⟨j,B,V,E,J,h.below o (Aa _)⟩⟩
 have aD:=Ru w tb B V E J G I C h D ac p hp;have HH:=Db h;have aH:=Db av;clear av h;go_enter Tryz.func127,Tryz.ntmps127;go_wp2_with fail;refine aD.mono ?_;rintro e w1 ⟨aO,o⟩;clear aD;rcases aO with⟨j,rfl⟩|⟨he,aA,d,n,u,aC,rfl⟩
 ·have k:Hid (Ix G p=H3 G p):=by show _=_;unfold Ix;rw[if_pos j]
  have aJ:=Db j;have aT:(H3 G p != 0)=true:=by simpa using j
  clear j;unfold DF Dn;go_wp2;go_ret;have:=Da X _ (o.alloc o.size (.cells (DQ none ⟨#[]⟩ false ⟨none,0⟩).toArray 262)) (by rw[Da k];exact Da aJ);rw[Da k]at this;exact this
 ·have aq:=Db aC;have al:=Db he;have aS:=Db aA;clear aC he aA;unfold Dn;go_upto_if 15 with fail;obtain⟨W,hW,q,hk,aU,ax⟩:=De w1 (DQ d n true u) 262;have ae:Bw w W:=o.trans (ax.mono o.size);rw[hW];clear hW hk;have Y:=q.cell 0;have Z:=q.cell 1;have a2:=q.cell 2;have a3:=q.cell 3;have a4:=q.cell 4;have aj:=fun W=>Zi2 d n true u W
  unfold Dn at aj;have ap:=Db aj;clear aj;go_wp2_with fail;refine(Da ap _).mono ?_;rintro e w2 ⟨rfl,ad⟩;clear ap Y Z a2 a3 a4;have s:F0 w2 w1.heap.size 262 _:=(ad.block _ q.lt).trans q;have F:Bw w w2:=ae.trans (ad.mono ae.size);have Y:=s.cell 0;have Z:=s.cell 1;have a2:=s.cell 2;have a3:=s.cell 3;have a4:=s.cell 4;have g:=(Da HH).below F (Aa _);have b:=Db g;clear o ax ae ad q g;by_cases j:Df p=[]
  ·have k:Hid (Ix G p=7):=by show _=_;unfold Ix;rw[if_neg (by rw[Da al];simp),if_pos j]
   obtain rfl:d=none:=by
    rcases Da aq with⟨_,M,_⟩|⟨f,a,M,_⟩
    ·exact M
    ·rw[j]at M;simp at M
   clear j;go_wp2;go_ret;have:=Da X w2 F (by rw[Da k];decide);rw[Da k]at this;exact this
  ·obtain⟨f,a,ai,v,rfl,N⟩:=(Da aq).in j;have P:=KE N;have az:(n,u)∈E a:=((Da b).d.en f a v n u).2 (by rw[<-ai];exact P);have k:Hid (Ix G p=if u.p.isSome=true/\0<G.countP (Hk (Df p)) then 7 else 0):=by show _=_;unfold Ix;rw[if_neg (by rw[Da al];simp),if_neg j,N]
   have aB:=(Da b).d.shp _ P;have ah:=Vu w2 a n true u u (V a) (E a) ((Da b).d.row f a v) ((Da b).d.sl f a v) (Ag ((Da b).d.le D v) ac) ((Da b).d.srt f a v) az;unfold Dn at ah;have U:=Db ah;have ao:=Db ai;have i:=Db v;have ak:=Db N;have an:=Db P;have aK:=Db aB;clear ah ai v N P aB az j;obtain⟨up,uf⟩:=u
   cases up with
   | none=>
    have m:Hid (Ix G p=0):=by show _=_;rw[Da k];simp
    obtain⟨r,af,aP,aQ⟩:=Da aH _ (Da an) rfl;simp only at af;have am:=Db af;clear af;go_wp2_with fail;refine(Da U).mono ?_;rintro e K ⟨rfl,v',aa,y,z,A,q4,Q,S,l⟩;have h3:TW K tb B (Iu V a v') (Iu E a aa) J (J1 G (Df p)) I C:=by
     have g:=Da b;exact TW.dirs g (g.d.row f a (Da i)) (g.d.sl f a (Da i)) l (g.d.del D (Da i) (n:=n) (fun x=>by rw[<-Da ao];exact QC G _ x) y z A Q S l)
    have aI:Hid (Fr (DP tb w) w K):=Fr.prog F (Fr.progOne ((Da b).dlo (Da i)) ((Da b).d.row f a (Da i)) ((Da b).d.sl f a (Da i)) l);have aF:F0 K w1.heap.size 262 _:=s.fr l (fun hX=>by
     rcases hX with e|e
     ·have:=(Da b).d.row f a (Da i);rw[<-e]at this;have:=this.type s;revert this;decide
     ·obtain⟨R,hR⟩:=((Da b).d.sl f a (Da i)).type e;have:=hR.type s;revert this;decide)
    clear Y Z a2 a3 a4 U y z A q4 Q S l;have b3:=aF.cell 3;have b4:=aF.cell 4;have aE:=WF K tb B (Iu V a v') (Iu E a aa) J (J1 G (Df p)) I C h3 aM uf r (Da am) aP aQ;have ar:=Db aE;clear aE h3;go_wp2_with fail;refine(Da ar).mono ?_;rintro e w4 ⟨rfl,⟨aR,I',y,z⟩,A⟩;have aG:Hid (Q3 w tb G I C p (.returned (.int .i64 0)) w4):=
     ⟨by rw[Da m],(Da aI).progTrans A,.inr ⟨Da m,⟨none,uf⟩,Da ak,.inr ⟨rfl,r,I',Da am,z,fun G' ab=>⟨B,_,_,aR,y.congrG (fun x=>(ab x).trans (QC G _ x).symm)⟩⟩⟩⟩
    clear ar y z A;go_wp2;go_ret;exact Da aG
   | some au=>
    rcases Da aK with L|⟨t,aw⟩
    ·simp at L
    ·simp only[VS.mk.injEq,Et]at aw;obtain⟨rfl,rfl⟩:=aw;have O:F4 G B (Df p) t := .inr (Da an);have ag:=I9 w2 t 0 (V t) (E t).length (Dq (E t)) (((Da b).d.row _ t O).cell 0) ((Da b).d.sl _ t O);have hc:=(Da b).d.len D O;rw[hc]at ag;have T:=Db ag;have aN:G.countP (Hk (Df p))<=10000:=Ag BT ac;obtain⟨c,ay⟩:=ex (G.countP (Hk (Df p)));rw[<-ay]at T k aN;clear ag hc ay O;by_cases L:0<c
     ·have m:Hid (Ix G p=7):=by show _=_;rw[Da k,if_pos ⟨rfl,L⟩]
      have aL:(0:Int)<(c:Int):=by omega
      go_wp2_with (first|(go_at_call 178;refine(Da T).mono ?_;rintro e w' ⟨rfl,H⟩;rw[H];clear H));go_ret;have:=Da X w2 F (by rw[Da m];decide);rw[Da m]at this;exact this
     ·have m:Hid (Ix G p=0):=by show _=_;rw[Da k,if_neg (fun h=>L h.2)]
      have aL:¬(0:Int)<(c:Int):=by omega
      go_wp2_with (first|(go_at_call 178;refine(Da T).mono ?_;rintro e w' ⟨rfl,H⟩;rw[H];clear H)|(go_at_call 196;refine(Da U).mono ?_;rintro e K ⟨rfl,v',aa,y,z,A,q4,Q,S,l⟩));go_ret;have g:=Da b;refine⟨by rw[Da m];rfl,Fr.prog F (Fr.progOne (g.dlo (Da i)) (g.d.row f a (Da i)) (g.d.sl f a (Da i)) l),.inr ⟨Da m,_,Da ak,.inl ⟨rfl,fun G' ab=>⟨B,_,_,J,TW.dirs g (g.d.row f a (Da i)) (g.d.sl f a (Da i)) l (g.d.del D (Da i) (n:=n) (fun x=>by rw[<-Da ao];exact ab x) y z A Q S l)⟩⟩⟩⟩
def Kz(G:Gh)(ds:LY):Bool:=decide (G.countP (Hk ds)<20/\G.length<100)
def Im(G:Gh)(p q:By):Int:=if DU q=false then 1 else if DL G p true≠0 then DL G p true else if Jo G (Df q)≠0 then Jo G (Df q) else if Kz G (Df q).dropLast=false then 8 else 0
def Q6(w:World)(tb:Nat)(G:Gh)(I:LF)(C:IB)(p q:By)(e:Ending)(w':World):Prop:=
 e = .returned (.int .i64 (Im G p q))/\Fr (DP tb w) w w'/\((Im G p q≠0/\PS w' tb G I C)\/(Im G p q=0/\∃u r I',Gr G (Df p)=some u/\u.p=none/\(u.f,r)∈I/\Gq I I' u.f ⟨r.a,r.l,r.c,r.f+1⟩/\PS w' tb (G++[(Df q,⟨none,u.f⟩)]) I' C))
theorem N6{p:By}(e:DU p=true){d:LY}{n:By}(c:Df p=d++[n]):n.size<=2000000:=by
 cases hr:(p.toList==[47]) with
 | true=>have a:=Uw hr;rw[c]at a;simp at a
 | false=>
  have b:=(QX e hr).2.1 n (by rw[c];simp);simp only[DX,Bu,AJ]at b;have:=b.1.2;omega
theorem GX.mono{G:Gh}{I:LF}(h:GX G I){u:VS}{ns:LY}(a:Gr G ns=some u)(b:u.p=none):∃r,(u.f,r)∈I/\0<r.f/\r.f<=10000:=h _ (KE a) b
theorem TS(w:World)(tb g:Nat)(V:NV)(E:NS)(j:Value)(G:Gh)(I:LF)(C:IB)(h:TW w tb g V E j G I C)(i:Gt G)(k:G.length<=10000)(_hIl:I.length<=10000)(b:LY)(a:Nat)(c:F4 G g b a)(n:By)(m:n.size<=2000000)(l:Gr G (b++[n])=none)(f:Int):
  Cl 183 #[Dn (some ⟨a,0,none⟩) n false ⟨none,0⟩,.agg #[.pointer none,.int .i64 f]] w fun e w'=>e = .returned (.tuple #[])/\∃V' E',TW w' tb g V' E' j (G++[(b++[n],⟨none,f⟩)]) I C/\Fr (DP tb w) w w':=by
 refine(Vk w a n m false ⟨none,0⟩ ⟨none,f⟩ (V a) (E a) (h.d.row b a c) (h.d.sl b a c) (Ag (h.d.le i c) k) (h.d.srt b a c) (fun x o e=>by
  have:=(h.d.en b a c x.1 x.2).1 o;rw[e]at this;exact Uj l _ this)).mono ?_
 rintro e w' ⟨rfl,v',aa,p,q,r,q4,s,t,d⟩;exact⟨rfl,_,_,TW.dirs h (h.d.row b a c) (h.d.sl b a c) d (h.d.addFile i c p q r s t d),Fr.progOne (h.dlo c) (h.d.row b a c) (h.d.sl b a c) d⟩
theorem Xl(w:World)(tb d:Nat)(V:NV)(E:NS)(g:Value)(G:Gh)(I:LF)(C:IB)(h:TW w tb d V E g G I C)(P:Gt G)(Q:G.length<=10000)(x:I.length<=10000)(b:LY)(l:Nat)(B:F4 G d b l)(n:By)(hn:n.size<=2000000)(T:Gr G (b++[n])=none)(f:Int)(r:VF)(F:(f,r)∈I)(am:0<=r.f)(an:r.f<=10000):
  Cl 192 #[.pointer (some ⟨tb,0,none⟩),Dn (some ⟨l,0,none⟩) n false ⟨none,0⟩,.int .i64 f] w fun e w'=>(Kz G b=false/\e = .returned (.int .i64 8)/\Bw w w')\/
   (Kz G b=true/\e = .returned (.int .i64 0)/\Fr (DP tb w) w w'/\∃u t c,TW w' tb d u t g (G++[(b++[n],⟨none,f⟩)]) c C/\Gq I c f ⟨r.a,r.l,r.c,r.f+1⟩):=by
 unfold Dn;obtain⟨W,R,o,hk,ao,p⟩:=De w (DQ (some ⟨l,0,none⟩) n false ⟨none,0⟩) 262;have ab:=W7 W tb d V E g G I C (h.below p (Aa _)) P Q b l B;have N:Hid (∀X,Bw w X->Cl 175 #[.pointer (some ⟨tb,1,none⟩),.int .i64 f] X fun e w'=>e = .returned (.tuple #[.agg #[.slice r.a r.l r.c,.int .i64 r.f],.bool true])/\Bw X w'):=fun X y=>K3 X tb d V E g G I C (h.below y (Aa _)) x f r F
 have ag:Hid (∀X,Bw w X->_):=fun X y=>V4 w tb d V E g G I C h x f r F (r.f+1) X y
 have af:Hid (∀(X:World) (c:LF),TW X tb d V E g G c C->_):=fun X c hX=>TS X tb d V E g G c C hX P Q
 have ae:=Db B;have ad:=Db T;have HI:=Db x;have O:=Db R;have al:=o.lt;clear R hk h B T F;go_enter Tryz.func192,Tryz.ntmps192;go_upto_region 1 with fail;rw[Da O];clear O;have k:=o.cell 0;go_wp2_with fail;refine ab.mono ?_;rintro e L ⟨rfl,z⟩;have H:F0 L w.heap.size 262 _:=(z.block _ o.lt).trans o;have m:Bw w L:=p.trans (z.mono p.size);clear ab k o al;rw[show decide (G.countP (Hk b)<20/\G.length<100)=Kz G b from rfl]
 cases hmb:Kz G b with
 | false=>
  go_wp2;go_ret;exact .inl ⟨hmb,rfl,m⟩
 | true=>
  have Z:=Da N L m;go_wp2_with fail;refine Z.mono ?_;rintro e i ⟨rfl,A⟩;have ac:F0 i w.heap.size 262 _:=(A.block _ H.lt).trans H;have q:Bw w i:=m.trans (A.mono m.size);clear Z N;obtain⟨W6,S,J,aa,ap,U⟩:=De i [.slice r.a r.l r.c,.int .i64 (r.f+1)] 217;have K:=aa _ _ _ ac;have ai:Bw w W6:=q.trans (U.mono q.size);go_upto_region 5 with fail;try rw[S]
  have k:=J.cell 0;have v:=J.cell 1;have Y:=q.size;have ah:=Db K;have ak:=K.lt;clear S aa J ac H U A z m q p K
  go_region_held3 (fun W=>W.cell? ⟨i.heap.size,0,none⟩=some (.slice r.a r.l r.c)/\W.cell? ⟨i.heap.size,1,none⟩=some (.int .i64 (r.f+1))) (go_keep)
   (first|(go_at_call 228;refine(Da ag _ ai.drew).mono ?_;rintro e w7 ⟨rfl,⟨⟨c,q1,q2⟩,q3⟩,s⟩;have m0:=(AC (a:=⟨i.heap.size,0,none⟩) (s _ (Aj _ _ k) Y)).trans k;have m1:=(AC (a:=⟨i.heap.size,1,none⟩) (s _ (Aj _ _ v) Y)).trans v))
  all_goals
   have j:F0 w7 w.heap.size 262 _:=(s _ ak (Aa _)).trans (Da ah);have D:=Da af w7 c q1 (by rw[q2.1];exact Da HI) b l (Da ae) n hn (Da ad) f;unfold Dn at D;have b0:=j.cell 0;have b1:=j.cell 1;have b2:=j.cell 2;have b3:=j.cell 3;have b4:=j.cell 4;have M:=Db D;clear D k v m0 m1 s j;go_wp2_with fail;refine(Da M).mono ?_;rintro e w8 ⟨rfl,u,t,h8,aj⟩;clear M b0 b1 b2 b3 b4;go_wp2;go_ret;exact .inr ⟨hmb,rfl,q3.progTrans aj,u,t,c,h8,q2⟩
theorem Zkm(w:World)(tb:Nat)(G:Gh)(I:LF)(C:IB)(h:PS w tb G I C)(Z:Gt G)(aa:G.length<=10000)(aJ:I.length<=10000)(an:GX G I)(p q:By)(hp:p.size<=2000000)(hq:q.size<=2000000):
  Cl 125 #[.pointer (some ⟨tb,0,none⟩),.string p,.string q] w (Q6 w tb G I C p q):=by
 obtain⟨H,V,E,J,h⟩:=h;have o:Hid (∀W,Bw w W->Im G p q≠0->Q6 w tb G I C p q (.returned (.int .i64 (Im G p q))) W):=fun W l f=>⟨rfl,Fr.of_below l,.inl ⟨f,H,V,E,J,h.below l (Aa _)⟩⟩
 have aw:=Zkx w tb H V E J G I C h Z aa p q hp hq;have HH:=Db h;have aF:=Db an;clear an h;go_enter Tryz.func125,Tryz.ntmps125;go_wp2_with fail;refine aw.mono ?_;rintro e w1 ⟨ag,l⟩;clear aw;rcases ag with⟨hn,rfl⟩|⟨O,a,c,ab,⟨f,rfl⟩|⟨he,aP,d,n,t,u,ah,rfl⟩⟩
 ·have b:Hid (Im G p q=1):=by show _=_;unfold Im;rw[if_pos hn]
  clear hn;unfold DF Dn;go_wp2;go_ret;have:=Da o _ (l.alloc l.size (.cells (DQ none ⟨#[]⟩ false ⟨none,0⟩).toArray 262)) (by rw[Da b];decide);rw[Da b]at this;exact this
 ·have b:Hid (Im G p q=DM G p true):=by
   show _=_;have:DL G p true=DM G p true:=by unfold DL;rw[if_pos f]
   unfold Im;rw[if_neg (by rw[O];simp),this,if_pos f]
  have Q:=Db f;have aO:(DM G p true != 0)=true:=by simpa using f
  obtain⟨F,v⟩:=ex ((Df q).length);rw[<-v];clear f O ab v;unfold DF Dn;go_wp2;go_ret;have:=Da o _ (l.alloc l.size (.cells (DQ none ⟨#[]⟩ false ⟨none,0⟩).toArray 262)) (by rw[Da b];exact Da Q);rw[Da b]at this;exact this
 ·have aS:=Db ah;have P:=Db he;have K:=Db O;have aH:=Db ab;obtain⟨F,v⟩:=ex ((Df q).length);have aG:=Db v;rw[<-v];have ax:=fun W=>Og d n t u W
  have aj:=Db ax;have aR:=VA ah;clear ah he O v ab ax aP;unfold Dn;obtain⟨W,hW,x,B,aU,ac⟩:=De w1 (DQ d n t u) 262;have ar:Bw w W:=l.trans (ac.mono l.size);have aC:=Db ac;have HW:=Db hW;clear hW B ac;go_upto_if 21 with fail;rw[Da HW];clear HW;have S:=x.cell 0;have T:=x.cell 1;have U:=x.cell 2;have X:=x.cell 3;have Y:=x.cell 4;go_wp2_with fail;refine(Da aj _).mono ?_;rintro e w2 ⟨rfl,aq⟩;have A:Bw w w2:=ar.trans (aq.mono ar.size);have aI:Hid (Sl w2 9 1 (.slice a (Df q).length c) (Df q).length ((Df q).map .string)):=((Da aH).kept (fun k B _=>(Da aC).block k B)).kept (fun k B _=>aq.block k B);clear aj S T U X Y x;have ai:Hid (DL G p true≠0->Im G p q=DL G p true):=fun f=>by unfold Im;rw[if_neg (by rw[Da K];simp),if_pos f]
  rcases aR with⟨rfl,g,i⟩|⟨rfl,g,i⟩|⟨rfl,g,i,s⟩
  ·have j:DL G p true=3:=by unfold DL;rw[if_neg (by rw[Da P];simp),if_neg g,i]
   have b:Hid (Im G p q=3):=by show _=_;rw[Da ai (by rw[j];decide),j]
   clear j g i;rw[if_pos rfl];go_wp2;go_ret;have:=Da o _ A (by rw[Da b];decide);rw[Da b]at this;exact this
  ·have j:DL G p true=5:=by
    unfold DL;rw[if_neg (by rw[Da P];simp)];rcases i with i|⟨i,s⟩
    ·rw[if_pos i]
    ·rw[if_neg i,s];simp[g]
   have b:Hid (Im G p q=5):=by show _=_;rw[Da ai (by rw[j];decide),j]
   rw[if_neg (by simp),if_pos g];clear j g i;go_wp2;go_ret;have:=Da o _ A (by rw[Da b];decide);rw[Da b]at this;exact this
  ·have j:DL G p true=0:=by unfold DL;rw[if_neg (by rw[Da P];simp),if_neg i,s];simp[g]
   have b:Hid (Im G p q=if Jo G (Df q)≠0 then Jo G (Df q) else if Kz G (Df q).dropLast=false then 8 else 0):=by show _=_;unfold Im;rw[if_neg (by rw[Da K];simp),if_neg (by rw[j];simp)]
   rw[if_neg (by simp),if_neg (by rw[g];simp)];have aA:=Db s;have HU:=Db g;obtain⟨r,az,aT,aQ⟩:=GX.mono (Da aF) s g;have ak:=Db az;have ad:=TM w2 tb H V E J G I C ((Da HH).below A (Aa _)) Z aa (Df q) (UG (Da K)) a c (Da aI);rw[<-Da aG]at ad;clear j g i s az;go_wp2_with fail;refine ad.mono ?_;rintro e w3 ⟨ag,aK⟩;have M:Bw w w3:=A.trans (aK.mono A.size);clear ad;rcases ag with⟨f,rfl⟩|⟨ay,ds,m,db,af,au,ap,rfl⟩
   ·have y:Hid (Im G p q=Jo G (Df q)):=by show _=_;rw[Da b,if_pos f]
    have Q:=Db f;have aO:(Jo G (Df q) != 0)=true:=by simpa using f
    clear f;unfold DF Dn;go_wp2;go_ret;have:=Da o _ (M.alloc M.size (.cells (DQ none ⟨#[]⟩ false ⟨none,0⟩).toArray 262)) (by rw[Da y];exact Da Q);rw[Da y]at this;exact this
   ·have y:Hid (Im G p q=if Kz G ds=false then 8 else 0):=by show _=_;rw[Da b,if_neg (by rw[ay];simp),af,CX]
    have R:=Db af;have aD:=Db au;have aB:=Db ap;clear ay af au ap;unfold Dn;obtain⟨W3,ao,D,aN,aV,aM⟩:=De w3 (DQ (some ⟨db,0,none⟩) m false ⟨none,0⟩) 262;have L:Bw w W3:=M.trans (aM.mono M.size);have ae:=Xl W3 tb H V E J G I C ((Da HH).below L (Aa _)) Z aa aJ ds db (Da aD) m (N6 (Da K) (Da R)) (by rw[<-Da R];exact Da aB) u.f r (Da ak) (by omega) aQ;unfold Dn at ae;have al:=Db ae;have am:=Db ao;clear ao aN ae;go_upto_if 38 with fail;rw[Da am];clear am;have S:=D.cell 0;have T:=D.cell 1;have U:=D.cell 2;have X:=D.cell 3;have Y:=D.cell 4;go_wp2_with fail;refine(Da al).mono ?_;rintro e w6 hq;clear al S T U X Y;rcases hq with⟨N,rfl,aL⟩|⟨N,rfl,av,V',E',I',q1,q2⟩
    ·have z:Hid (Im G p q=8):=by show _=_;rw[Da y,N];rfl
     go_wp2;go_ret;have:=Da o w6 (L.trans (aL.mono L.size)) (by rw[Da z];decide);rw[Da z]at this;exact this
    ·have z:Hid (Im G p q=0):=by show _=_;rw[Da y,N];rfl
     have aE:Hid (Q6 w tb G I C p q (.returned (.int .i64 0)) w6):=
      ⟨by rw[Da z],Fr.prog L av,.inr ⟨Da z,u,r,I',Da aA,Da HU,Da ak,q2,by rw[Da R];exact⟨H,V',E',J,q1⟩⟩⟩
     clear q1 q2 av N;go_wp2;go_ret;exact Da aE
theorem Dh(s:By):(Dc s).length=s.size:=by unfold Dc;rw[AK];exact AG
theorem Ko(s:By):∀u∈Dc s,u.oneCell'=true:=fun u a=>by
 unfold Dc at a;obtain⟨b,_,rfl⟩:=Au.1 a
 rfl
def Gy(w:World)(a:OA)(l c:Nat)(s:By):Prop:=l=s.size/\(a=none->c=0)/\∀j v,(Dc s)[j]?=some v->∃x,a=some x/\w.cell? (x.add j)=some v
theorem Gy.below{w w':World}{a:OA}{l c:Nat}{s:By}(h:Gy w a l c s)(d:Bw w w'):Gy w' a l c s:=
 ⟨h.1,h.2.1,fun j v f=>by
  obtain⟨x,e,b⟩:=h.2.2 j v f;exact⟨x,e,(d.cell (p:=x.add j) (Aj _ _ b)).trans b⟩⟩
theorem Sl.rdB{w:World}{a:OA}{l c:Nat}{s:By}(h:Sl w 5 1 (.slice a l c) l (Dc s)):Gy w a l c s:=by
 refine⟨by have:=h.1;rw[Dh]at this;omega,fun e=>?_,fun j v b=>?_⟩
 ·subst e;rcases h.2 with⟨e,_⟩|⟨g,f,L,e,_⟩
  ·cases e;rfl
  ·cases e
 ·rcases h.2 with⟨e,i⟩|⟨g,f,L,e,k,_,_,_,m⟩
  ·have d:=h.1;rw[i]at d;have:Dc s=[]:=Ay (by simpa using d);rw[this]at b;simp at b
  ·cases e
   refine⟨_,rfl,?_⟩;rw[AL,Av,k.cell];rw[<-m,Ao]at b
   split at b
   ·exact b
   ·cases b
theorem Q2:(Tryz.prog.info? 5).map (·.size)=some 1:=by kernel_rfl
theorem PQ(w:World)(g n c:Nat):(Builtin.copy_ #[59,59] 3 #[.slice (some ⟨g,0,none⟩) n c,.slice none 0 0]).run Tryz.prog w = .ok (goInt 0) w:=by
 obtain⟨i0,a,aa,ab,ac⟩:=BU KB;simp[Builtin.copy_,run_underlying Tryz.underlying59,Builtin.lenOf,sizeOf,typeInfo,a,Builtin.firstCells,storeCells]
theorem JE(a b:By):Dc (a++b)=Dc a++Dc b:=by unfold Dc;rw[Fl,Ez,Bp]
theorem Jt(s:By)(i j:Nat):Dc (s.extract i j)=((Dc s).drop i).take (j-i):=by
 unfold Dc;rw[Cc];simp[List.map_drop,List.map_take]
theorem Kw(n:Nat):Dc ⟨(List.replicate n 0).toArray⟩=List.replicate n (.int .u8 0):=by unfold Dc;simp
theorem RO(w:World)(a:OA)(l c:Nat)(s:By)(h:Gy w a l c s)(_hs:s.size<=2000000)(n:Nat)(hn:n<=2000000):
  Cl 176 #[.slice a l c,.int .i64 n] w fun e w'=>∃x,e = .returned (.slice (some ⟨x,0,none⟩) n n)/\w.heap.size<=x/\Sl w' 5 1 (.slice (some ⟨x,0,none⟩) n n) n (Dc (Dg s n))/\Bw w w':=by
 obtain⟨i0,N,X,Y,Z⟩:=BU KB;have r:∀W:World,W.ownsRow 0 5 1 (.slice (some ⟨w.heap.size,0,none⟩) n n) n (madeCells (Value.int .u8 0).cells (n*1)).toList->w.grownBy W none->∃b k,(Builtin.copy_ #[59,59] 3 #[.slice (some ⟨w.heap.size,0,none⟩) n n,.slice a l c]).run Tryz.prog W = .ok (goInt k) b/\Hid (Sl b 5 1 (.slice (some ⟨w.heap.size,0,none⟩) n n) n (Dc (Dg s n))/\Bw w b):=by
  intro W H K;have i:=Sl.of_owns H;have f:=KT K;have B:(madeCells (Value.int .u8 0).cells (n*1)).toList=List.replicate n (.int .u8 0):=by rw[BW];exact EQ (.int .u8 0) n
  rw[B]at i;have S:=h.below f
  cases a with
  | none=>
   have q:s.size=0:=by
    rcases BC s.size with e|e
    ·exact e
    ·obtain⟨x,U,_⟩:=h.2.2 0 ((Dc s)[0]'(by rw[Dh];exact e)) (Ac _)
     cases U
   have O:l=0:=by rw[h.1,q]
   have I:=h.2.1 rfl;subst O I;refine⟨W,0,PQ W _ _ _,?_,f⟩;have:Dc (Dg s n)=List.replicate n (.int .u8 0):=by
    have T:s=⟨#[]⟩:=by
     apply A7;have:s.data.toList.length=0:=by rw[<-q];exact AG
     rw[Ay this]
    unfold Dg;by_cases t:n<=s.size
    ·rw[if_pos t];have:n=0:=by omega
     subst this;rw[Jt];simp
    ·rw[if_neg t,JE,Kw,q,T];simp[Dc]
   rw[this];exact i
  | some x=>
   rcases i.2 with⟨e,_⟩|⟨g,aa,L,e,G,h1,C,D,E⟩
   ·cases e
   ·cases e
    have F:L=List.replicate n (.int .u8 0):=by
     rw[<-E,Ah (by omega)]
    have m:((Dc s).take (Nat.min l n)).length=Nat.min l n*1:=by
     rw[Am,Dh,h.1,BW];exact BB (FH _ _)
    obtain⟨b,q1,u,q3⟩:=JP (P:=Tryz.prog) W 59 59 3 5 1 w.heap.size 0 n n x l c L 5 ((Dc s).take (Nat.min l n)) Tryz.underlying59 Q2 G m
     (fun j v d=>by
      rw[Ao]at d
      split at d
      ·obtain⟨y,e,V⟩:=S.2.2 j v d;cases e;exact V
      ·cases d) (by rw[m,D];have:Nat.min l n<=n:=Nat.min_le_right _ _;omega) (fun v d=>Ko s v (BE d))
    refine⟨b,_,q1,?_,?_⟩
    ·have J:F8 L 0 ((Dc s).take (Nat.min l n))=Dc (Dg s n):=by
      unfold F8;rw[m,F,Ct,AA,Av,BW,CL];unfold Dg;by_cases p:n<=s.size
      ·have o:Nat.min l n=n:=by rw[h.1];exact Eh p
       rw[if_pos p,Jt,o];simp
      ·have o:Nat.min l n=s.size:=by rw[h.1];exact BB (by omega)
       rw[if_neg p,JE,Kw,o,Ah (by rw[Dh];exact Aa _)]
     rw[J]at u;refine⟨by rw[Dh,Jc];omega,.inr ⟨w.heap.size,n,_,rfl,u,Aa _,C,by rw[Dh,Jc];omega,by rw[Ah (by rw[Dh,Jc];omega)]⟩⟩
    ·exact f.grown q3 f.size (fun k e=>by cases e;exact Aa _)
 have z:=Db r;clear r;go_enter Tryz.func176,Tryz.ntmps176;go_wp2_with (first|(at_make;refine BA _ rfl _ _ 59 rfl 0 5 i0 (.int .u8 0) 1 Tryz.underlying59 N X Y _ _ _ _ n rfl rfl rfl rfl (by rw[Z];omega) (by unfold maxLen;omega) (Aw _) ?_;intro w1 Q M;obtain⟨b,k,R,A⟩:=Da z w1 Q M)|(at_builtin;refine D9 _ rfl _ _ 59 59 rfl _ _ rfl rfl R ?_));go_ret;obtain⟨p1,p2⟩:=Da (Da A);exact⟨w.heap.size,rfl,Aa _,p1,p2⟩
theorem Wz(s:By)(n:Nat):Dc (Dg s n)=(Dc s++List.replicate n (Value.int .u8 0)).take n:=by
 unfold Dg;by_cases h:n<=s.size
 ·rw[if_pos h,Jt,A4 (by rw[Dh];exact h)];simp
 ·rw[if_neg h,JE,Kw,BN,Ah (by rw[Dh];omega),Dh,BM,BB (by omega)]
theorem ZlA(s d:By)(i M:Nat)(hM:M=max s.size (i+d.size)):F8 (Dc (Dg s M)) i (Dc d)=Dc (IL s i d):=by
 unfold F8 IL;rw[JE,JE,Wz,Wz,Dh];have c:((Dc s++List.replicate M (Value.int .u8 0)).take M).take i=(Dc s++List.replicate i (Value.int .u8 0)).take i:=by
  rw[B9,BB (by omega)];rw[BN,BN,BM,BM]
  congr 2
  omega
 rw[c]
 congr 1
 by_cases b:i+d.size<s.size
 ·rw[if_pos b];have a:M=s.size:=by omega
  rw[a,A4 (by rw[Dh];exact Aa _),Ah (by rw[Dh];exact Aa _),Jt];rw[Ah (by rw[Az,Dh];exact Aa _)]
 ·rw[if_neg b];have a:M=i+d.size:=by omega
  rw[a,Fh];simp[Dc]
theorem ZkX(s:By)(m:Nat)(d:By):(IL s m d).size=max (m+d.size) s.size:=Ur s m d
theorem Zhb(w:World)(a:OA)(l c:Nat)(s:By)(h:Gy w a l c s)(hs:s.size<=1280)(i:Nat)(o:OA)(G p:Nat)(d:By)(Y:Gy w o G p d)(hi:i+d.size<=1280):
  Cl 187 #[.slice a l c,.int .i64 i,.slice o G p] w fun e w'=>((d.size=0/\e = .returned (.slice a l c))\/(0<d.size/\∃x m,e = .returned (.slice (some ⟨x,0,none⟩) m m)/\w.heap.size<=x/\Sl w' 5 1 (.slice (some ⟨x,0,none⟩) m m) m (Dc (IL s i d))))/\Bw w w':=by
 obtain⟨aa,X,E⟩:=h;obtain⟨Z,V,q⟩:=Y;subst aa Z;have N:Hid (Gy w a s.size c s):=⟨rfl,X,E⟩;have K:Hid (Gy w o d.size p d):=⟨rfl,V,q⟩;clear E q;by_cases f:d.size=0
 ·have O:((d.size:Int)==0)=true:=by rw[f];rfl
  have t:=Db f;clear f;go_enter Tryz.func187,Tryz.ntmps187;go_wp2;go_ret;exact⟨.inl ⟨Da t,rfl⟩,Al _ _⟩
 ·have O:((d.size:Int)==0)=false:=by simpa using f
  obtain⟨M,B⟩:=ex (max s.size (i+d.size));have n:=Db B;have I:Hid (max (s.size:Int) ((i:Int)+(d.size:Int))=(M:Int)):=by show _=_;omega
  have D:=RO w a s.size c s (Da N) (by omega) M (by omega);have A:=Db D;have ah:i<M:=by omega
  have ag:M<=2000000:=by omega
  clear D B;go_enter Tryz.func187,Tryz.ntmps187;go_wp2_with fail;rw[Da I];refine(Da A).mono ?_;rintro e w1 ⟨x,rfl,F,C,r⟩;have W:∃b k,(Builtin.copy_ #[59,59] 3 #[.slice (some ⟨x,i,none⟩) (M-i) (M-i),.slice o d.size p]).run Tryz.prog w1 = .ok (goInt k) b/\Hid (Sl b 5 1 (.slice (some ⟨x,0,none⟩) M M) M (Dc (IL s i d))/\Bw w b):=by
   have q:=(Da K).below r
   cases o with
   | none=>
    exfalso;have ac:0<d.size:=by omega
    obtain⟨y,hy,_⟩:=q.2.2 0 ((Dc d)[0]'(by rw[Dh];exact ac)) (Ac _)
    cases hy
   | some y=>
    rcases C.2 with⟨e,_⟩|⟨g,af,L,e,U,h1,Q,R,S⟩
    ·cases e
    ·cases e
     have T:L=Dc (Dg s M):=by rw[<-S,Ah (by omega)]
     have ab:Nat.min d.size (M-i)=d.size:=BB (by have:=Da n;omega);obtain⟨b,q1,H,q3⟩:=JP (P:=Tryz.prog) w1 59 59 3 5 1 x i (M-i) (M-i) y d.size p L 5 (Dc d) Tryz.underlying59 Q2 U (by rw[Dh,ab,BW])
      (fun j v hv=>by obtain⟨z,e,hz⟩:=q.2.2 j v hv;cases e;exact hz) (by rw[Dh,R];have:=Da n;omega) (Ko d)
     refine⟨b,_,q1,?_,r.grown q3 r.size (fun k e=>by cases e;exact F)⟩;rw[T,ZlA s d i M (Da n)]at H;have u:(Dc (IL s i d)).length=M:=by rw[Dh,ZkX,Da n];omega
     exact⟨by rw[u];omega,.inr ⟨x,M,_,rfl,H,Aa _,Q,by rw[u];omega,by rw[Ah (by rw[u];omega)]⟩⟩
  obtain⟨b,k,ae,J⟩:=W;have t:=Db f;clear C r A n f;go_wp2_with (first|(at_builtin;refine D9 _ rfl _ _ 59 59 rfl _ _ rfl rfl ae ?_));go_ret;obtain⟨p1,p2⟩:=Da (Da J);exact⟨.inr ⟨Nat.pos_of_ne_zero (Da t),x,M,rfl,F,p1⟩,p2⟩
def I8(G:Gh)(p:By)(i n:Int):Int:=DL G p (decide (0<=i/\0<=n))
def Qu(w:World)(G:Gh)(C:IB)(p:By)(i n:Int)(e:Ending)(w':World):Prop:=
 ((I8 G p i n≠0/\e = .returned (.tuple #[.slice none 0 0,.int .i64 (I8 G p i n)]))\/
  (I8 G p i n=0/\∃u,Gr G (Df p)=some u/\u.p=none/\∃x m,e = .returned (.tuple #[.slice (some ⟨x,0,none⟩) m m,.int .i64 0])/\w.heap.size<=x/\Sl w' 5 1 (.slice (some ⟨x,0,none⟩) m m) m (Dc (IV (C u.f) i n))))/\Bw w w'
theorem RF{G:Gh}{p:By}{b:Bool}(h:DL G p b=0):b=true:=by
 cases b with
 | true=>rfl
 | false=>
  exfalso;have a:DM G p false≠0:=by unfold DM;split<;>simp
  unfold DL at h;rw[if_pos a]at h;exact a h
theorem Wb(w:World)(tb rd:Nat)(V:NV)(E:NS)(vi:Value)(G:Gh)(I:LF)(C:IB)(h:TW w tb rd V E vi G I C)(hG:Gt G)(ax:G.length<=10000)(ay:I.length<=10000)(ae:GX G I)(hC:∀x∈I,(C x.1).size<=1280)(p:By)(hp:p.size<=2000000)(i n:Int)(hi:i<=9223372036854775807)(hn:n<=9223372036854775807):
  Cl 119 #[.pointer (some ⟨tb,0,none⟩),.string p,.int .i64 i,.int .i64 n] w (Qu w G C p i n):=by
 have aj:=WZ w tb rd V E vi G I C h hG ax p hp (decide (0<=i/\0<=n));have HH:=Db h;have aw:=Db ae;have HC:=Db hC;have f:=Db aj;clear h ae hC aj;have ab:∀b:Bool,b=decide (0<=i/\0<=n)->Hid (b=decide (0<=i/\0<=n)):=fun _ h=>h
 by_cases ai:0<=i
 ·by_cases ak:0<=n
  ·have q:=ab true (Cs ⟨ai,ak⟩).symm;rw[<-Da q]at f;go_enter Tryz.func119,Tryz.ntmps119;go_wp2_with fail;refine(Da f).mono ?_;rintro e w1 ⟨J,o⟩;have l:Hid (I8 G p i n=DL G p true):=by show _=_;unfold I8;rw[<-Da q]
   clear f;rcases J with⟨c,rfl⟩|⟨B,aD,u,X,hu,rfl⟩
   ·have al:(DL G p true != 0)=true:=by simpa using c
    have t:=Db c;clear c;go_wp2
    go_ret2
    exact⟨.inl ⟨by rw[Da l];exact Da t,by rw[Da l];rfl⟩,o⟩
   ·obtain⟨r,ac,aE,aF⟩:=GX.mono (Da aw) X hu;have T:=(Da HH).below o (Aa _);have ah:=K3 w1 tb rd V E vi G I C T ay u.f r ac;have HE:=Db B;have ar:=Db X;have HU:=Db hu;have ad:=Db ac;clear B aD X hu ac T aE aF;go_wp2_with fail;refine ah.mono ?_;rintro e w2 ⟨rfl,af⟩;have M:Bw w w2:=o.trans (af.mono o.size);have U:=(Da HH).below M (Aa _);have A:=U.dat _ (Da ad);have aq:=Da HC _ (Da ad);simp only at A aq;obtain⟨s,hs⟩:=ex (C u.f);rw[<-hs]at A aq;have HS:=Db hs;clear hs U ah;obtain⟨ra,rl,y,rf⟩:=r;simp only at A;have aC:rl=s.size:=by have:=A.1;rw[Dh]at this;omega
    subst aC;obtain⟨k,N⟩:∃k:Nat,(k:Int)=min i (s.size:Int):=⟨(min i (s.size:Int)).toNat,by omega⟩;have HK:Hid (min i (s.size:Int)=(k:Int)):=N.symm;have aL:k<=s.size:=by omega
    obtain⟨m,hm⟩:∃m:Nat,(m:Int)=min n ((s.size-k:Nat):Int):=⟨(min n ((s.size-k:Nat):Int)).toNat,by omega⟩;have HM:Hid (min n ((s.size:Int)-(k:Int))=(m:Int)):=by show _=_;omega
    have au:Hid (IV s i n=Dg (s.extract k s.size) m):=by
     show _=_;have e1:min i.toNat s.size=k:=by omega
     have e2:min n.toNat (s.size-k)=m:=by omega
     unfold IV Dg;rw[e1,e2,if_pos (by simp[ByteArray.size_extract];omega)];apply Uk;rw[Cc,Cc,Cc];simp;rw[B9]
     congr 1
     have:s.size=s.data.size:=rfl;omega
    clear N hm;go_upto_region 5 with fail;obtain⟨W,hW,hx,aB,aH,Y⟩:=De w2 [.slice ra s.size y,.int .i64 rf] 217;have Z:Bw w W:=M.trans (Y.mono M.size);have aa:Sl W 5 1 (.slice ra s.size y) s.size (Dc s):=A.kept (fun k N _=>Y.block k N);rw[hW];have a0:=hx.cell 0;have a1:=hx.cell 1;clear hW aB aH Y A M o af hx;have F:Hid (∀(K:OA) (d:Nat),Gy W K (s.size-k) d (s.extract k s.size)->Cl 176 #[.slice K (s.size-k) d,.int .i64 (m:Int)] W fun e w'=>∃x,e = .returned (.slice (some ⟨x,0,none⟩) m m)/\Hid (Qu w G C p i n (.returned (.tuple #[.slice (some ⟨x,0,none⟩) m m,.int .i64 0])) w')):=by
     intro K d aG;refine(RO W K (s.size-k) d _ aG (by simp[ByteArray.size_extract];omega) m (by have:=Da HM;omega)).mono ?_;rintro e w' ⟨x,rfl,aI,az,aA⟩;refine⟨x,rfl,.inr ⟨(Da l).trans (Da HE),u,Da ar,Da HU,x,m,rfl,Ag Z.size aI,?_⟩,Z.trans (aA.mono Z.size)⟩;rw[<-Da HS,Da au];exact az
    have Q:Hid (min n ((s.size-k:Nat):Int)=(m:Int)):=by have:=Da HM;show _=_;omega
    have aK:=Da HK;rcases aa.2 with⟨e,h0⟩|⟨g,aJ,L,e,hR,T,U,h3,h4⟩
    ·simp only[Bl]at e;obtain⟨rfl,e2,rfl⟩:=e;have am:Gy W none (s.size-k) 0 (s.extract k s.size):=⟨by simp[ByteArray.size_extract],fun _=>rfl,fun j v a=>by
      have:(Dc (s.extract k s.size)).length=0:=by rw[Dh];simp[ByteArray.size_extract];omega
      rw[Ay this]at a;simp at a⟩
     have hc:=Da F none 0 am;obtain rfl:k=0:=by omega
     have R:Hid (min n 0=(m:Int)):=by have:=Da Q;show _=_;omega
     have S:s.size-0=0:=by omega
     rw[S]at hc;have D:=Db hc;clear hc am F aa;go_wp2_with fail;rw[Da R];refine(Da D).mono ?_;rintro e w' ⟨x,rfl,H⟩;go_wp2
     go_ret2
     exact Da (Da H)
    ·simp only[Bl]at e;obtain⟨rfl,_,rfl⟩:=e;have ag:∀j v,(Dc s)[j]?=some v->W.cell? ⟨g,j,none⟩=some v:=fun j v a=>by
      rw[hR.cell];rw[<-h4,Ao]at a
      split at a
      ·exact a
      ·cases a
     have an:∀d,Gy W (some ⟨g,k,none⟩) (s.size-k) d (s.extract k s.size):=fun d=>⟨by simp[ByteArray.size_extract],fun e=>(by cases e),fun j v a=>by
      refine⟨_,rfl,?_⟩;rw[AL];refine ag _ _ ?_;rw[Jt,Ao]at a
      split at a
      ·rwa [Bc]at a
      ·cases a⟩
     have ao:y=k->Gy W (some ⟨g,0,none⟩) (s.size-k) 0 (s.extract k s.size):=fun e=>⟨by simp[ByteArray.size_extract],fun e=>(by cases e),fun j v a=>by
      have:(Dc (s.extract k s.size)).length=0:=by rw[Dh];simp[ByteArray.size_extract];omega
      rw[Ay this]at a;simp at a⟩
     have O:Hid (∀d,_):=fun d=>Da F _ _ (an d)
     have P:Hid (y=k->_):=fun e=>Da F _ _ (ao e)
     clear an ao ag F aa hR h3 h4;by_cases ap:y=k
     ·have z:=Da P ap;have S:s.size-k=0:=by omega
      rw[S]at z;have R:Hid (min n 0=(m:Int)):=by have:=Da Q;show _=_;omega
      have D:=Db z;subst ap;clear z O P;go_wp2_with fail
      all_goals
       rw[Da R];refine(Da D).mono ?_;rintro e w' ⟨x,rfl,H⟩;go_wp2
       go_ret2
       exact Da (Da H)
     ·have aM:k<y:=by omega
      have z:=Da O (y-k);have D:=Db z;clear z O P;go_wp2_with fail
      all_goals
       rw[Da Q];refine(Da D).mono ?_;rintro e w' ⟨x,rfl,H⟩;go_wp2
       go_ret2
       exact Da (Da H)
  ·have q:=ab false (B2 (fun h=>ak h.2)).symm;rw[<-Da q]at f;have c:DL G p false≠0:=fun e=>by have:=RF e;cases this
   have al:(DL G p false != 0)=true:=by simpa using c
   have l:Hid (I8 G p i n=DL G p false):=by show _=_;unfold I8;rw[<-Da q]
   have t:=Db c;clear c;go_enter Tryz.func119,Tryz.ntmps119;go_wp2_with fail;refine(Da f).mono ?_;rintro e w1 ⟨J,o⟩;rcases J with⟨_,rfl⟩|⟨B,_⟩
   ·clear f;go_wp2
    go_ret2
    exact⟨.inl ⟨by rw[Da l];exact Da t,by rw[Da l];rfl⟩,o⟩
   ·exact absurd B (Da t)
 ·have q:=ab false (B2 (fun h=>ai h.1)).symm;rw[<-Da q]at f;have c:DL G p false≠0:=fun e=>by have:=RF e;cases this
  have al:(DL G p false != 0)=true:=by simpa using c
  have l:Hid (I8 G p i n=DL G p false):=by show _=_;unfold I8;rw[<-Da q]
  have t:=Db c;clear c;go_enter Tryz.func119,Tryz.ntmps119;go_wp2_with fail;refine(Da f).mono ?_;rintro e w1 ⟨J,o⟩;rcases J with⟨_,rfl⟩|⟨B,_⟩
  ·clear f;go_wp2
   go_ret2
   exact⟨.inl ⟨by rw[Da l];exact Da t,by rw[Da l];rfl⟩,o⟩
  ·exact absurd B (Da t)
end Go.Proofs.YtaieidcohdhgpaaGreatDoor
