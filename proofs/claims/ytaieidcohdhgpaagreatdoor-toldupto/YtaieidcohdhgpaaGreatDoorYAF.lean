/- Told. -/
import Derived.Test.YtaieidcohdhgpaaGreatDoorYAE
namespace Go.Proofs.YtaieidcohdhgpaaGreatDoor
set_option maxHeartbeats 40000000
set_option maxRecDepth 100000
open Tryz
open Go.RowKit
theorem TW.setI{w w':World}{tb j:Nat}{V:NV}{E:NS}{d f:Value}{G:Gh}{I a:LF}{C C':IB}(h:TW w tb j V E d G I C)(v:FX w' tb 214 [.pointer (some ⟨j,0,none⟩),f])(p:Sl w' 293 3 f a.length (Dq a))(y:Gm a)(l:Fr (λk=>k=tb\/d.ownBlock=some k) w w')(r:∀x∈a,Sl w' 5 1 (.slice x.2.a x.2.l x.2.c) x.2.l (Dc (C' x.1)))(u:Dk w d f):TW w' tb j V E f G a C':=by
 have q:∀k t R,(k=tb\/d.ownBlock=some k)->FX w k t R->t=214\/t=293:=λk t R b c=>by
  rcases b with rfl|b
  ·exact .inl (c.type h.t)
  ·obtain⟨n,i⟩:=h.i.type b;exact .inr (c.type i)
 refine⟨h.pk.fr l (λe=>?_),v,h.d.fr l (λk t R e c=>?_),p,y,r,h.lo.1,λg s=>(u g s).elim (h.lo.2 g) (λo=>Af (CC (h.d.row _ _ (.inl ⟨rfl,rfl⟩)).lt) o)⟩
 ·obtain⟨_,m⟩:=h.pk;rcases e with rfl|b
  ·have:=m _ _ h.t;revert this;decide
  ·obtain⟨n,i⟩:=h.i.type b;have:=m _ _ i;revert this;decide
 ·rcases q k t R e c with rfl|rfl<;>decide
theorem Fr.progI{w w':World}{tb e:Nat}{V:NV}{E:NS}{b:Value}{G:Gh}{I:LF}{C:IB}(h:TW w tb e V E b G I C)(d:Fr (λk=>k=tb\/b.ownBlock=some k) w w'):Fr (DM tb w) w w':=
 d.mono (λk _ a=>by
  rcases a with rfl|a
  ·exact⟨⟨214,_,h.t,.inl rfl⟩,EL _⟩
  ·obtain⟨R,c⟩:=h.i.type a;exact⟨⟨293,R,c,.inr (.inr (.inr rfl))⟩,by have:=h.lo.1;have:=h.lo.2 k a;omega⟩)
theorem TW.ne{w:World}{tb c:Nat}{V:NV}{E:NS}{a:Value}{G:Gh}{I:LF}{C:IB}(h:TW w tb c V E a G I C):a.ownBlock≠some tb:=λe=>by
 obtain⟨R,b⟩:=h.i.type e;have:=b.type h.t;revert this;decide
theorem S0{w w':World}{tb:Nat}{a b v c:Value}(h:FX w tb 214 [a,b])(f:I0 w w' tb 1 v c):FX w' tb 214 [a,c]:=by
 have e:=f.head;have d:=h.set 1 c;unfold FX at d ⊢;rw[e];simpa using d
theorem Xs(w:World)(tb f:Nat)(V:NV)(E:NS)(a:Value)(G:Gh)(I:LF)(C:IB)(h:TW w tb f V E a G I C)(t:I.length<=10000)(n:Int)(q r:VF)(z:(n,q)∈I)(s:By)(y:Sl w 5 1 (.slice r.a r.l r.c) r.l (Dc s)):
  Cl 228 #[.pointer (some ⟨tb,1,none⟩),.int .i64 n,.agg #[.slice r.a r.l r.c,.int .i64 r.f]] w λe w'=>e=.returned (.tuple #[])/\(∃b,TW w' tb f V E a G b (λk=>if k=n then s else C k)/\b.length=I.length/\∀x,x∈b↔x=(n,r)\/x∈I/\x.1≠n)/\Fr (λk=>k=tb\/a.ownBlock=some k) w w':=by
 refine(ZH w tb 1 a I n q r (h.t.cell 1) h.ne h.i t h.si z).mono ?_;rintro e w'⟨rfl,b,q1,H,J,K,o,p⟩;have c:Fr (λk=>k=tb\/a.ownBlock=some k) w w':=Fr.of_grown p (λk e => .inr e);have B:FX w' tb 214 [.pointer (some ⟨f,0,none⟩),a]:=(p.block tb h.t.lt (λe=>h.ne e.symm)).trans h.t;have l:∀(v:Value) (m:Nat) (xs:F0),Sl w 5 1 v m xs->Sl w' 5 1 v m xs:=λv m xs j=>j.fr c (λg d e=>by
  obtain⟨R,i⟩:=j.type d;rcases e with rfl|e
  ·have:=i.type h.t;revert this;decide
  ·obtain⟨R',u⟩:=h.i.type e;have:=i.type u;revert this;decide)
 refine⟨rfl,⟨b,h.setI B H J c (λx D=>?_) (λg d => .inl d),K,o⟩,c⟩;rcases(o x).1 D with rfl|⟨F,A⟩
 ·simp only[if_true];exact l _ _ _ y
 ·rw[if_neg A];exact l _ _ _ (h.dat x F)
theorem ZmA(w:World)(tb q:Nat)(V:NV)(E:NS)(c:Value)(G:Gh)(I:LF)(C:IB)(h:TW w tb q V E c G I C)(r:I.length<=10000)(n:Int)(p:VF)(u:(n,p)∈I):
  Cl 234 #[.pointer (some ⟨tb,1,none⟩),.int .i64 n] w λe w'=>e=.returned (.tuple #[])/\(∃f b,TW w' tb q V E f G b C/\b.length+1=I.length/\∀x,x∈b↔x∈I/\x.1≠n)/\Fr (λk=>k=tb\/c.ownBlock=some k) w w':=by
 refine(Nn w tb 1 c I n p (h.t.cell 1) (h.t.frozen 1) h.ne h.i r h.si u).mono ?_;rintro e w'⟨rfl,f,b,q1,B,D,F,o,H,a⟩;have d:Fr (λk=>k=tb\/c.ownBlock=some k) w w':=⟨a.os,a.tape,a.output,a.size,λk y l=>a.block k y (λe=>l (.inl e)) (λe=>l (.inr e))⟩;have z:∀(v:Value) (m:Nat) (xs:F0),Sl w 5 1 v m xs->Sl w' 5 1 v m xs:=λv m xs j=>j.fr d (λg t e=>by
  obtain⟨R,i⟩:=j.type t;rcases e with rfl|e
  ·have:=i.type h.t;revert this;decide
  ·obtain⟨R',s⟩:=h.i.type e;have:=i.type s;revert this;decide)
 exact⟨rfl,⟨f,b,h.setI (S0 h.t a) B D d (λx A=>z _ _ _ (h.dat x ((o x).1 A).1)) H,F,o⟩,d⟩
theorem ZiY(w:World)(tb u:Nat)(V:NV)(E:NS)(c:Value)(G:Gh)(I:LF)(C:IB)(h:TW w tb u V E c G I C)(y:I.length<=10000)(n:Int)(r:VF)(p:∀x∈I,x.1≠n)(s:By)(A:Sl w 5 1 (.slice r.a r.l r.c) r.l (Dc s)):
  Cl 228 #[.pointer (some ⟨tb,1,none⟩),.int .i64 n,.agg #[.slice r.a r.l r.c,.int .i64 r.f]] w λe w'=>e=.returned (.tuple #[])/\(∃f b,TW w' tb u V E f G b (λk=>if k=n then s else C k)/\b.length=I.length+1/\∀x,x∈b↔x=(n,r)\/x∈I)/\Fr (λk=>k=tb\/c.ownBlock=some k) w w':=by
 refine(Yt w tb 1 c I n r (h.t.cell 1) (h.t.frozen 1) h.ne h.i y h.si p).mono ?_;rintro e w'⟨rfl,f,b,q1,H,J,K,t,L,a⟩;have d:Fr (λk=>k=tb\/c.ownBlock=some k) w w':=⟨a.os,a.tape,a.output,a.size,λk D l=>a.block k D (λe=>l (.inl e)) (λe=>l (.inr e))⟩;have o:∀(v:Value) (m:Nat) (xs:F0),Sl w 5 1 v m xs->Sl w' 5 1 v m xs:=λv m xs j=>j.fr d (λg B e=>by
  obtain⟨R,i⟩:=j.type B;rcases e with rfl|e
  ·have:=i.type h.t;revert this;decide
  ·obtain⟨R',z⟩:=h.i.type e;have:=i.type z;revert this;decide)
 refine⟨rfl,⟨f,b,h.setI (S0 h.t a) H J d (λx F=>?_) L,K,t⟩,d⟩;rcases(t x).1 F with rfl|q
 ·simp only[if_true];exact o _ _ _ A
 ·rw[if_neg (p x q)];exact o _ _ _ (h.dat x q)
theorem Qd(w:World)(tb q:Nat)(V:NV)(E:NS)(c:Value)(G:Gh)(I:LF)(C:IB)(h:TW w tb q V E c G I C)(d:I.length<=10000)(n:Int)(r:VF)(a:(n,r)∈I):
  Cl 175 #[.pointer (some ⟨tb,1,none⟩),.int .i64 n] w λe w'=>e=.returned (.tuple #[.agg #[.slice r.a r.l r.c,.int .i64 r.f],.bool true])/\Bw w w':=by
 refine(LN w tb 1 c I n (h.t.cell 1) h.i d h.si).mono ?_;rintro e w'⟨r',b,rfl,g,f⟩;rcases g with⟨rfl,m⟩|⟨rfl,_,p⟩
 ·have o:(I.map (·.1)).Nodup:=by
   unfold List.Nodup;rw[Bk];intro i j hi l k e;have aa:j<I.length:=by simpa using l
   rw[Cz,Cz]at e;have:=h.si i j I[i] I[j] k (Ac _) (Ac _);have:=BO this;omega
  rw[QO o m a];exact⟨rfl,f⟩
 ·exact absurd rfl (p _ a)
def F7(I I':LF)(n:Int)(r:VF):Prop:=I'.length=I.length/\∀x,x∈I'↔x=(n,r)\/x∈I/\x.1≠n
def UF(I I':LF)(n:Int):Prop:=I'.length+1=I.length/\∀x,x∈I'↔x∈I/\x.1≠n
theorem Zmg(C:IB)(n:Int):(λk=>if k=n then C n else C k)=C:=by
 funext k;split
 ·rename_i h;rw[h]
 ·rfl
theorem WE(w:World)(tb c:Nat)(V:NV)(E:NS)(d:Value)(G:Gh)(I:LF)(C:IB)(h:TW w tb c V E d G I C)(m:I.length<=10000)(n:Int)(r:VF)(i:(n,r)∈I)(f:Int)(W:World)(g:Bw w W):
  Cl 228 #[.pointer (some ⟨tb,1,none⟩),.int .i64 n,.agg #[.slice r.a r.l r.c,.int .i64 f]] W λe w'=>e=.returned (.tuple #[])/\((∃a,TW w' tb c V E d G a C/\F7 I a n ⟨r.a,r.l,r.c,f⟩)/\Fr (DM tb w) w w')/\∀k,k<W.heap.size->w.heap.size<=k->w'.heap[k]?=W.heap[k]? := by
 have b:=h.below g (Aa _);refine(Xs W tb c V E d G I C b m n r ⟨r.a,r.l,r.c,f⟩ i (C n) (b.dat _ i)).mono ?_;rintro e w'⟨rfl,⟨a,j,p,q⟩,l⟩;rw[Zmg]at j;exact⟨rfl,⟨⟨a,j,p,q⟩,Fr.prog g (Fr.progI b l)⟩,λk o aa=>l.block k o (λe=>by
  rcases e with rfl|e
  ·have:=h.t.lt;omega
  ·have:=h.i.lt e;omega)⟩
theorem WS(w:World)(tb f:Nat)(V:NV)(E:NS)(g:Value)(G:Gh)(I:LF)(C:IB)(h:TW w tb f V E g G I C)(k:I.length<=10000)(n:Int)(r:VF)(l:(n,r)∈I)(aa:0<r.f)(ab:r.f<=10000):
  Cl 197 #[.pointer (some ⟨tb,0,none⟩),.int .i64 n] w λe w'=>e=.returned (.tuple #[])/\(∃s b,TW w' tb f V E s G b C/\((r.f=1/\UF I b n)\/(r.f≠1/\F7 I b n ⟨r.a,r.l,r.c,r.f-1⟩)))/\Fr (DM tb w) w w':=by
 have D:=Qd w tb f V E g G I C h k n r l;have J:Hid (∀W,Bw w W->_):=λW c=>WE w tb f V E g G I C h k n r l (r.f-1) W c
 have t:=Db h;go_enter func197,ntmps197;go_wp2_with fail;refine D.mono ?_;rintro e w1⟨rfl,c⟩;clear D h;obtain⟨W,y,m,K,ac,z⟩:=De w1 [.slice r.a r.l r.c,.int .i64 (r.f-1)] 217;have i:Bw w W:=c.trans (z.mono c.size);have A:=c.size;have u:=Db y;clear y K c z;go_upto_region 2 with fail;rw[Da u];have v:=m.cell 0;have x:=m.cell 1;clear m u;by_cases d:r.f=1
 ·have M:(r.f-1==0)=true:=by rw[d];rfl
  have B:=ZmA W tb f V E g G I C ((Da t).below i (Aa _)) k n r l;have H:=Db B;have j:=Db d;clear B d;go_wp2_with(first|(go_at_call 234;refine(Da H).mono ?_;rintro e O⟨rfl,⟨s,b,o,p,q⟩,N⟩));refine Ap (Eb rfl _ _ _) rfl ?_;exact⟨rfl,⟨s,b,o,.inl ⟨Da j,p,q⟩⟩,Fr.prog i (Fr.progI ((Da t).below i (Aa _)) N)⟩
 ·have M:(r.f-1==0)=false:=by simp;omega
  have j:=Db d;clear d;go_upto_region 4 with fail
  go_region_held3 (λW=>W.cell? ⟨w1.heap.size,0,none⟩=some (.slice r.a r.l r.c)/\W.cell? ⟨w1.heap.size,1,none⟩=some (.int .i64 (r.f-1))) (go_keep)
   (first|(go_at_call 228;refine(Da J _ i.drew).mono ?_;rintro e O⟨rfl,L,F⟩;have m0:=(Ay (a:=⟨w1.heap.size,0,none⟩) (F _ (Am _ _ v) A)).trans v;have m1:=(Ay (a:=⟨w1.heap.size,1,none⟩) (F _ (Am _ _ x) A)).trans x))
  all_goals
   go_wp2
   go_end0
   obtain⟨⟨b,o,p⟩,q⟩:=L;exact⟨rfl,⟨g,b,o,.inr ⟨Da j,p⟩⟩,q⟩
def Mt(G G':Gh)(ns:LY):Prop:=∀x,x∈G'↔x∈G/\x.1≠ns
def Iz(G:Gh)(p:By):Int:=if Hx G p≠0 then Hx G p else if Df p=[] then 7 else match Gl G (Df p) with|some u=>if u.p.isSome=true/\0<G.countP (He (Df p)) then 7 else 0|none=>0
def GQ(G:Gh)(I:LF):Prop:=∀x∈G,x.2.p=none->∃r,(x.2.f,r)∈I/\0<r.f/\r.f<=10000
def Q8(w:World)(tb:Nat)(G:Gh)(I:LF)(C:IB)(p:By)(e:Ending)(w':World):Prop:=
 e=.returned (.int .i64 (Iz G p))/\Fr (DM tb w) w w'/\((Iz G p≠0/\PS w' tb G I C)\/(Iz G p=0/\∃u,Gl G (Df p)=some u/\
  ((u.p.isSome=true/\∀G',Mt G G' (Df p)->PS w' tb G' I C)\/
   (u.p=none/\∃r I',(u.f,r)∈I/\((r.f=1/\UF I I' u.f)\/(r.f≠1/\F7 I I' u.f ⟨r.a,r.l,r.c,r.f-1⟩))/\∀G',Mt G G' (Df p)->PS w' tb G' I' C))))
theorem TW.congrG{w:World}{tb e:Nat}{V:NV}{E:NS}{l:Value}{G G':Gh}{I:LF}{C:IB}(h:TW w tb e V E l G I C)(j:∀x,x∈G'↔x∈G):TW w tb e V E l G' I C:=by
 have c:∀ns b,FY G' e ns b->FY G e ns b:=λns b d=>d.elim .inl (λd => .inr ((j _).1 d))
 exact⟨h.pk,h.t,⟨λx d=>h.d.shp x ((j x).1 d),λns b a=>h.d.row ns b (c ns b a),λns b a=>h.d.sl ns b (c ns b a),λns b a=>h.d.srt ns b (c ns b a),λns b a n u=>(h.d.en ns b (c ns b a) n u).trans (j _).symm,λns k b f i=>h.d.inj ns k b (c _ _ f) (c _ _ i),λns k b m g f i=>h.d.own ns k b m g (c _ _ f) (c _ _ i),λns b a=>h.d.lo ns b (c ns b a)⟩,h.i,h.si,h.dat,h.lo⟩
def J4(G:Gh)(ns:LY):Gh:=G.filter (λx=>decide (x.1≠ns))
theorem QT(G:Gh)(ns:LY):Mt G (J4 G ns) ns:=λx=>by unfold J4;rw[EN,AH]
theorem Gz.in{G:Gh}{f:Nat}{ns:LY}{d:OA}{n:By}{u:VS}(h:Gz G f ns d n true u)(k:ns≠[]):∃b a,ns=b++[n]/\FY G f b a/\d=some ⟨a,0,none⟩/\Gl G ns=some u:=by
 rcases h with⟨rfl,_⟩|⟨b,a,g,i,j,c,e⟩
 ·exact absurd rfl k
 ·refine⟨b,a,g,i,j,?_⟩
  cases ha:Gl G ns with
  |none=>rw[ha]at c;cases c
  |some v=>rw[ha]at e;rw[e];rfl
theorem WP(w:World)(tb:Nat)(G:Gh)(I:LF)(C:IB)(h:PS w tb G I C)(D:Gk G)(ac:G.length<=10000)(aM:I.length<=10000)(av:GQ G I)(p:By)(hp:p.size<=2000000):
  Cl 127 #[.pointer (some ⟨tb,0,none⟩),.string p] w (Q8 w tb G I C p):=by
 obtain⟨B,V,E,J,h⟩:=h;have X:Hid (∀W,Bw w W->Iz G p≠0->Q8 w tb G I C p (.returned (.int .i64 (Iz G p))) W):=λW o j=>⟨rfl,Fr.of_below o,.inl ⟨j,B,V,E,J,h.below o (Aa _)⟩⟩
 have aD:=RM w tb B V E J G I C h D ac p hp;have HH:=Db h;have aH:=Db av;clear av h;go_enter func127,ntmps127;go_wp2_with fail;refine aD.mono ?_;rintro e w1⟨aO,o⟩;clear aD;rcases aO with⟨j,rfl⟩|⟨he,aA,d,n,u,aC,rfl⟩
 ·have k:Hid (Iz G p=Hx G p):=by show _=_;unfold Iz;rw[if_pos j]
  have aJ:=Db j;have aT:(Hx G p != 0)=true:=by simpa using j
  clear j;unfold DB Dj;go_wp2;go_ret;have:=Da X _ (o.alloc o.size (.cells (DG none ⟨#[]⟩ false ⟨none,0⟩).toArray 262)) (by rw[Da k];exact Da aJ);rw[Da k]at this;exact this
 ·have aq:=Db aC;have al:=Db he;have aS:=Db aA;clear aC he aA;unfold Dj;go_upto_if 15 with fail;obtain⟨W,hW,q,hk,aU,ax⟩:=De w1 (DG d n true u) 262;have ae:Bw w W:=o.trans (ax.mono o.size);rw[hW];clear hW hk;have Y:=q.cell 0;have Z:=q.cell 1;have a2:=q.cell 2;have a3:=q.cell 3;have a4:=q.cell 4;have aj:=λW=>Zi8 d n true u W
  unfold Dj at aj;have ap:=Db aj;clear aj;go_wp2_with fail;refine(Da ap _).mono ?_;rintro e w2⟨rfl,ad⟩;clear ap Y Z a2 a3 a4;have s:FX w2 w1.heap.size 262 _:=(ad.block _ q.lt).trans q;have F:Bw w w2:=ae.trans (ad.mono ae.size);have Y:=s.cell 0;have Z:=s.cell 1;have a2:=s.cell 2;have a3:=s.cell 3;have a4:=s.cell 4;have g:=(Da HH).below F (Aa _);have b:=Db g;clear o ax ae ad q g;by_cases j:Df p=[]
  ·have k:Hid (Iz G p=7):=by show _=_;unfold Iz;rw[if_neg (by rw[Da al];simp),if_pos j]
   obtain rfl:d=none:=by
    rcases Da aq with⟨_,M,_⟩|⟨f,a,M,_⟩
    ·exact M
    ·rw[j]at M;simp at M
   clear j;go_wp2;go_ret;have:=Da X w2 F (by rw[Da k];decide);rw[Da k]at this;exact this
  ·obtain⟨f,a,ai,v,rfl,N⟩:=(Da aq).in j;have P:=KI N;have az:(n,u)∈E a:=((Da b).d.en f a v n u).2 (by rw[<-ai];exact P);have k:Hid (Iz G p=if u.p.isSome=true/\0<G.countP (He (Df p)) then 7 else 0):=by show _=_;unfold Iz;rw[if_neg (by rw[Da al];simp),if_neg j,N]
   have aB:=(Da b).d.shp _ P;have ah:=Wg w2 a n true u u (V a) (E a) ((Da b).d.row f a v) ((Da b).d.sl f a v) (Af ((Da b).d.le D v) ac) ((Da b).d.srt f a v) az;unfold Dj at ah;have U:=Db ah;have ao:=Db ai;have i:=Db v;have ak:=Db N;have an:=Db P;have aK:=Db aB;clear ah ai v N P aB az j;obtain⟨up,uf⟩:=u
   cases up with
   |none=>
    have m:Hid (Iz G p=0):=by show _=_;rw[Da k];simp
    obtain⟨r,af,aP,aQ⟩:=Da aH _ (Da an) rfl;simp only at af;have am:=Db af;clear af;go_wp2_with fail;refine(Da U).mono ?_;rintro e K⟨rfl,v',aa,y,z,A,q4,Q,S,l⟩;have h3:TW K tb B (Is V a v') (Is E a aa) J (J4 G (Df p)) I C:=by
     have g:=Da b;exact TW.dirs g (g.d.row f a (Da i)) (g.d.sl f a (Da i)) l (g.d.del D (Da i) (n:=n) (λx=>by rw[<-Da ao];exact QT G _ x) y z A Q S l)
    have aI:Hid (Fr (DM tb w) w K):=Fr.prog F (Fr.progOne ((Da b).dlo (Da i)) ((Da b).d.row f a (Da i)) ((Da b).d.sl f a (Da i)) l);have aF:FX K w1.heap.size 262 _:=s.fr l (λhX=>by
     rcases hX with e|e
     ·have:=(Da b).d.row f a (Da i);rw[<-e]at this;have:=this.type s;revert this;decide
     ·obtain⟨R,hR⟩:=((Da b).d.sl f a (Da i)).type e;have:=hR.type s;revert this;decide)
    clear Y Z a2 a3 a4 U y z A q4 Q S l;have b3:=aF.cell 3;have b4:=aF.cell 4;have aE:=WS K tb B (Is V a v') (Is E a aa) J (J4 G (Df p)) I C h3 aM uf r (Da am) aP aQ;have ar:=Db aE;clear aE h3;go_wp2_with fail;refine(Da ar).mono ?_;rintro e w4⟨rfl,⟨aR,I',y,z⟩,A⟩;have aG:Hid (Q8 w tb G I C p (.returned (.int .i64 0)) w4):=
     ⟨by rw[Da m],(Da aI).progTrans A,.inr ⟨Da m,⟨none,uf⟩,Da ak,.inr ⟨rfl,r,I',Da am,z,λG' ab=>⟨B,_,_,aR,y.congrG (λx=>(ab x).trans (QT G _ x).symm)⟩⟩⟩⟩
    clear ar y z A;go_wp2;go_ret;exact Da aG
   |some au=>
    rcases Da aK with L|⟨t,aw⟩
    ·simp at L
    ·simp only[VS.mk.injEq,Em]at aw;obtain⟨rfl,rfl⟩:=aw;have O:FY G B (Df p) t:=.inr (Da an);have ag:=Lp w2 t 0 (V t) (E t).length (Dm (E t)) (((Da b).d.row _ t O).cell 0) ((Da b).d.sl _ t O);have hc:=(Da b).d.len D O;rw[hc]at ag;have T:=Db ag;have aN:G.countP (He (Df p))<=10000:=Af B2 ac;obtain⟨c,ay⟩:=ex (G.countP (He (Df p)));rw[<-ay]at T k aN;clear ag hc ay O;by_cases L:0<c
     ·have m:Hid (Iz G p=7):=by show _=_;rw[Da k,if_pos ⟨rfl,L⟩]
      have aL:(0:Int)<(c:Int):=by omega
      go_wp2_with(first|(go_at_call 178;refine(Da T).mono ?_;rintro e w'⟨rfl,H⟩;rw[H];clear H));go_ret;have:=Da X w2 F (by rw[Da m];decide);rw[Da m]at this;exact this
     ·have m:Hid (Iz G p=0):=by show _=_;rw[Da k,if_neg (λh=>L h.2)]
      have aL:¬(0:Int)<(c:Int):=by omega
      go_wp2_with(first|(go_at_call 178;refine(Da T).mono ?_;rintro e w'⟨rfl,H⟩;rw[H];clear H)|(go_at_call 196;refine(Da U).mono ?_;rintro e K⟨rfl,v',aa,y,z,A,q4,Q,S,l⟩));go_ret;have g:=Da b;refine⟨by rw[Da m];rfl,Fr.prog F (Fr.progOne (g.dlo (Da i)) (g.d.row f a (Da i)) (g.d.sl f a (Da i)) l),.inr ⟨Da m,_,Da ak,.inl ⟨rfl,λG' ab=>⟨B,_,_,J,TW.dirs g (g.d.row f a (Da i)) (g.d.sl f a (Da i)) l (g.d.del D (Da i) (n:=n) (λx=>by rw[<-Da ao];exact ab x) y z A Q S l)⟩⟩⟩⟩
def KB(G:Gh)(ds:LY):Bool:=decide (G.countP (He ds)<20/\G.length<100)
def Ii(G:Gh)(p q:By):Int:=if DS q=false then 1 else if DJ G p true≠0 then DJ G p true else if Jk G (Df q)≠0 then Jk G (Df q) else if KB G (Df q).dropLast=false then 8 else 0
def Q6(w:World)(tb:Nat)(G:Gh)(I:LF)(C:IB)(p q:By)(e:Ending)(w':World):Prop:=
 e=.returned (.int .i64 (Ii G p q))/\Fr (DM tb w) w w'/\((Ii G p q≠0/\PS w' tb G I C)\/(Ii G p q=0/\∃u r I',Gl G (Df p)=some u/\u.p=none/\(u.f,r)∈I/\F7 I I' u.f ⟨r.a,r.l,r.c,r.f+1⟩/\PS w' tb (G++[(Df q,⟨none,u.f⟩)]) I' C))
theorem Of{p:By}(e:DS p=true){d:LY}{n:By}(c:Df p=d++[n]):n.size<=2000000:=by
 cases hr:(p.toList==[47]) with
 |true=>have a:=Us hr;rw[c]at a;simp at a
 |false=>
  have b:=(Qt e hr).2.1 n (by rw[c];simp);simp only[DL,A6,AH]at b;have:=b.1.2;omega
theorem GQ.mono{G:Gh}{I:LF}(h:GQ G I){u:VS}{ns:LY}(a:Gl G ns=some u)(b:u.p=none):∃r,(u.f,r)∈I/\0<r.f/\r.f<=10000:=h _ (KI a) b
theorem TK(w:World)(tb g:Nat)(V:NV)(E:NS)(j:Value)(G:Gh)(I:LF)(C:IB)(h:TW w tb g V E j G I C)(i:Gk G)(k:G.length<=10000)(_hIl:I.length<=10000)(b:LY)(a:Nat)(c:FY G g b a)(n:By)(m:n.size<=2000000)(l:Gl G (b++[n])=none)(f:Int):
  Cl 183 #[Dj (some ⟨a,0,none⟩) n false ⟨none,0⟩,.agg #[.pointer none,.int .i64 f]] w λe w'=>e=.returned (.tuple #[])/\∃V' E',TW w' tb g V' E' j (G++[(b++[n],⟨none,f⟩)]) I C/\Fr (DM tb w) w w':=by
 refine(Vr w a n m false ⟨none,0⟩ ⟨none,f⟩ (V a) (E a) (h.d.row b a c) (h.d.sl b a c) (Af (h.d.le i c) k) (h.d.srt b a c) (λx o e=>by
  have:=(h.d.en b a c x.1 x.2).1 o;rw[e]at this;exact Uh l _ this)).mono ?_
 rintro e w'⟨rfl,v',aa,p,q,r,q4,s,t,d⟩;exact⟨rfl,_,_,TW.dirs h (h.d.row b a c) (h.d.sl b a c) d (h.d.addFile i c p q r s t d),Fr.progOne (h.dlo c) (h.d.row b a c) (h.d.sl b a c) d⟩
theorem XD(w:World)(tb d:Nat)(V:NV)(E:NS)(g:Value)(G:Gh)(I:LF)(C:IB)(h:TW w tb d V E g G I C)(P:Gk G)(Q:G.length<=10000)(x:I.length<=10000)(b:LY)(l:Nat)(B:FY G d b l)(n:By)(hn:n.size<=2000000)(T:Gl G (b++[n])=none)(f:Int)(r:VF)(F:(f,r)∈I)(am:0<=r.f)(an:r.f<=10000):
  Cl 192 #[.pointer (some ⟨tb,0,none⟩),Dj (some ⟨l,0,none⟩) n false ⟨none,0⟩,.int .i64 f] w λe w'=>(KB G b=false/\e=.returned (.int .i64 8)/\Bw w w')\/
   (KB G b=true/\e=.returned (.int .i64 0)/\Fr (DM tb w) w w'/\∃u t c,TW w' tb d u t g (G++[(b++[n],⟨none,f⟩)]) c C/\F7 I c f ⟨r.a,r.l,r.c,r.f+1⟩):=by
 unfold Dj;obtain⟨W,R,o,hk,ao,p⟩:=De w (DG (some ⟨l,0,none⟩) n false ⟨none,0⟩) 262;have ab:=Xo W tb d V E g G I C (h.below p (Aa _)) P Q b l B;have N:Hid (∀X,Bw w X->Cl 175 #[.pointer (some ⟨tb,1,none⟩),.int .i64 f] X λe w'=>e=.returned (.tuple #[.agg #[.slice r.a r.l r.c,.int .i64 r.f],.bool true])/\Bw X w'):=λX y=>Qd X tb d V E g G I C (h.below y (Aa _)) x f r F
 have ag:Hid (∀X,Bw w X->_):=λX y=>WE w tb d V E g G I C h x f r F (r.f+1) X y
 have af:Hid (∀(X:World) (c:LF),TW X tb d V E g G c C->_):=λX c hX=>TK X tb d V E g G c C hX P Q
 have ae:=Db B;have ad:=Db T;have HI:=Db x;have O:=Db R;have al:=o.lt;clear R hk h B T F;go_enter func192,ntmps192;go_upto_region 1 with fail;rw[Da O];clear O;have k:=o.cell 0;go_wp2_with fail;refine ab.mono ?_;rintro e L⟨rfl,z⟩;have H:FX L w.heap.size 262 _:=(z.block _ o.lt).trans o;have m:Bw w L:=p.trans (z.mono p.size);clear ab k o al;rw[show decide (G.countP (He b)<20/\G.length<100)=KB G b from rfl]
 cases hmb:KB G b with
 |false=>
  go_wp2;go_ret;exact .inl ⟨hmb,rfl,m⟩
 |true=>
  have Z:=Da N L m;go_wp2_with fail;refine Z.mono ?_;rintro e i⟨rfl,A⟩;have ac:FX i w.heap.size 262 _:=(A.block _ H.lt).trans H;have q:Bw w i:=m.trans (A.mono m.size);clear Z N;obtain⟨W6,S,J,aa,ap,U⟩:=De i [.slice r.a r.l r.c,.int .i64 (r.f+1)] 217;have K:=aa _ _ _ ac;have ai:Bw w W6:=q.trans (U.mono q.size);go_upto_region 5 with fail;try rw[S]
  have k:=J.cell 0;have v:=J.cell 1;have Y:=q.size;have ah:=Db K;have ak:=K.lt;clear S aa J ac H U A z m q p K
  go_region_held3 (λW=>W.cell? ⟨i.heap.size,0,none⟩=some (.slice r.a r.l r.c)/\W.cell? ⟨i.heap.size,1,none⟩=some (.int .i64 (r.f+1))) (go_keep)
   (first|(go_at_call 228;refine(Da ag _ ai.drew).mono ?_;rintro e w7⟨rfl,⟨⟨c,q1,q2⟩,q3⟩,s⟩;have m0:=(Ay (a:=⟨i.heap.size,0,none⟩) (s _ (Am _ _ k) Y)).trans k;have m1:=(Ay (a:=⟨i.heap.size,1,none⟩) (s _ (Am _ _ v) Y)).trans v))
  all_goals
   have j:FX w7 w.heap.size 262 _:=(s _ ak (Aa _)).trans (Da ah);have D:=Da af w7 c q1 (by rw[q2.1];exact Da HI) b l (Da ae) n hn (Da ad) f;unfold Dj at D;have b0:=j.cell 0;have b1:=j.cell 1;have b2:=j.cell 2;have b3:=j.cell 3;have b4:=j.cell 4;have M:=Db D;clear D k v m0 m1 s j;go_wp2_with fail;refine(Da M).mono ?_;rintro e w8⟨rfl,u,t,h8,aj⟩;clear M b0 b1 b2 b3 b4;go_wp2;go_ret;exact .inr ⟨hmb,rfl,q3.progTrans aj,u,t,c,h8,q2⟩
theorem Zkt(w:World)(tb:Nat)(G:Gh)(I:LF)(C:IB)(h:PS w tb G I C)(Z:Gk G)(aa:G.length<=10000)(aJ:I.length<=10000)(an:GQ G I)(p q:By)(hp:p.size<=2000000)(hq:q.size<=2000000):
  Cl 125 #[.pointer (some ⟨tb,0,none⟩),.string p,.string q] w (Q6 w tb G I C p q):=by
 obtain⟨H,V,E,J,h⟩:=h;have o:Hid (∀W,Bw w W->Ii G p q≠0->Q6 w tb G I C p q (.returned (.int .i64 (Ii G p q))) W):=λW l f=>⟨rfl,Fr.of_below l,.inl ⟨f,H,V,E,J,h.below l (Aa _)⟩⟩
 have aw:=ZkF w tb H V E J G I C h Z aa p q hp hq;have HH:=Db h;have aF:=Db an;clear an h;go_enter func125,ntmps125;go_wp2_with fail;refine aw.mono ?_;rintro e w1⟨ag,l⟩;clear aw;rcases ag with⟨hn,rfl⟩|⟨O,a,c,ab,⟨f,rfl⟩|⟨he,aP,d,n,t,u,ah,rfl⟩⟩
 ·have b:Hid (Ii G p q=1):=by show _=_;unfold Ii;rw[if_pos hn]
  clear hn;unfold DB Dj;go_wp2;go_ret;have:=Da o _ (l.alloc l.size (.cells (DG none ⟨#[]⟩ false ⟨none,0⟩).toArray 262)) (by rw[Da b];decide);rw[Da b]at this;exact this
 ·have b:Hid (Ii G p q=DN G p true):=by
   show _=_;have:DJ G p true=DN G p true:=by unfold DJ;rw[if_pos f]
   unfold Ii;rw[if_neg (by rw[O];simp),this,if_pos f]
  have Q:=Db f;have aO:(DN G p true != 0)=true:=by simpa using f
  obtain⟨F,v⟩:=ex ((Df q).length);rw[<-v];clear f O ab v;unfold DB Dj;go_wp2;go_ret;have:=Da o _ (l.alloc l.size (.cells (DG none ⟨#[]⟩ false ⟨none,0⟩).toArray 262)) (by rw[Da b];exact Da Q);rw[Da b]at this;exact this
 ·have aS:=Db ah;have P:=Db he;have K:=Db O;have aH:=Db ab;obtain⟨F,v⟩:=ex ((Df q).length);have aG:=Db v;rw[<-v];have ax:=λW=>Oc d n t u W
  have aj:=Db ax;have aR:=VX ah;clear ah he O v ab ax aP;unfold Dj;obtain⟨W,hW,x,B,aU,ac⟩:=De w1 (DG d n t u) 262;have ar:Bw w W:=l.trans (ac.mono l.size);have aC:=Db ac;have HW:=Db hW;clear hW B ac;go_upto_if 21 with fail;rw[Da HW];clear HW;have S:=x.cell 0;have T:=x.cell 1;have U:=x.cell 2;have X:=x.cell 3;have Y:=x.cell 4;go_wp2_with fail;refine(Da aj _).mono ?_;rintro e w2⟨rfl,aq⟩;have A:Bw w w2:=ar.trans (aq.mono ar.size);have aI:Hid (Sl w2 9 1 (.slice a (Df q).length c) (Df q).length ((Df q).map .string)):=((Da aH).kept (λk B _=>(Da aC).block k B)).kept (λk B _=>aq.block k B);clear aj S T U X Y x;have ai:Hid (DJ G p true≠0->Ii G p q=DJ G p true):=λf=>by unfold Ii;rw[if_neg (by rw[Da K];simp),if_pos f]
  rcases aR with⟨rfl,g,i⟩|⟨rfl,g,i⟩|⟨rfl,g,i,s⟩
  ·have j:DJ G p true=3:=by unfold DJ;rw[if_neg (by rw[Da P];simp),if_neg g,i]
   have b:Hid (Ii G p q=3):=by show _=_;rw[Da ai (by rw[j];decide),j]
   clear j g i;rw[if_pos rfl];go_wp2;go_ret;have:=Da o _ A (by rw[Da b];decide);rw[Da b]at this;exact this
  ·have j:DJ G p true=5:=by
    unfold DJ;rw[if_neg (by rw[Da P];simp)];rcases i with i|⟨i,s⟩
    ·rw[if_pos i]
    ·rw[if_neg i,s];simp[g]
   have b:Hid (Ii G p q=5):=by show _=_;rw[Da ai (by rw[j];decide),j]
   rw[if_neg (by simp),if_pos g];clear j g i;go_wp2;go_ret;have:=Da o _ A (by rw[Da b];decide);rw[Da b]at this;exact this
  ·have j:DJ G p true=0:=by unfold DJ;rw[if_neg (by rw[Da P];simp),if_neg i,s];simp[g]
   have b:Hid (Ii G p q=if Jk G (Df q)≠0 then Jk G (Df q) else if KB G (Df q).dropLast=false then 8 else 0):=by show _=_;unfold Ii;rw[if_neg (by rw[Da K];simp),if_neg (by rw[j];simp)]
   rw[if_neg (by simp),if_neg (by rw[g];simp)];have aA:=Db s;have HU:=Db g;obtain⟨r,az,aT,aQ⟩:=GQ.mono (Da aF) s g;have ak:=Db az;have ad:=TB w2 tb H V E J G I C ((Da HH).below A (Aa _)) Z aa (Df q) (Uv (Da K)) a c (Da aI);rw[<-Da aG]at ad;clear j g i s az;go_wp2_with fail;refine ad.mono ?_;rintro e w3⟨ag,aK⟩;have M:Bw w w3:=A.trans (aK.mono A.size);clear ad;rcases ag with⟨f,rfl⟩|⟨ay,ds,m,db,af,au,ap,rfl⟩
   ·have y:Hid (Ii G p q=Jk G (Df q)):=by show _=_;rw[Da b,if_pos f]
    have Q:=Db f;have aO:(Jk G (Df q) != 0)=true:=by simpa using f
    clear f;unfold DB Dj;go_wp2;go_ret;have:=Da o _ (M.alloc M.size (.cells (DG none ⟨#[]⟩ false ⟨none,0⟩).toArray 262)) (by rw[Da y];exact Da Q);rw[Da y]at this;exact this
   ·have y:Hid (Ii G p q=if KB G ds=false then 8 else 0):=by show _=_;rw[Da b,if_neg (by rw[ay];simp),af,CV]
    have R:=Db af;have aD:=Db au;have aB:=Db ap;clear ay af au ap;unfold Dj;obtain⟨W3,ao,D,aN,aV,aM⟩:=De w3 (DG (some ⟨db,0,none⟩) m false ⟨none,0⟩) 262;have L:Bw w W3:=M.trans (aM.mono M.size);have ae:=XD W3 tb H V E J G I C ((Da HH).below L (Aa _)) Z aa aJ ds db (Da aD) m (Of (Da K) (Da R)) (by rw[<-Da R];exact Da aB) u.f r (Da ak) (by omega) aQ;unfold Dj at ae;have al:=Db ae;have am:=Db ao;clear ao aN ae;go_upto_if 38 with fail;rw[Da am];clear am;have S:=D.cell 0;have T:=D.cell 1;have U:=D.cell 2;have X:=D.cell 3;have Y:=D.cell 4;go_wp2_with fail;refine(Da al).mono ?_;rintro e w6 hq;clear al S T U X Y;rcases hq with⟨N,rfl,aL⟩|⟨N,rfl,av,V',E',I',q1,q2⟩
    ·have z:Hid (Ii G p q=8):=by show _=_;rw[Da y,N];rfl
     go_wp2;go_ret;have:=Da o w6 (L.trans (aL.mono L.size)) (by rw[Da z];decide);rw[Da z]at this;exact this
    ·have z:Hid (Ii G p q=0):=by show _=_;rw[Da y,N];rfl
     have aE:Hid (Q6 w tb G I C p q (.returned (.int .i64 0)) w6):=
      ⟨by rw[Da z],Fr.prog L av,.inr ⟨Da z,u,r,I',Da aA,Da HU,Da ak,q2,by rw[Da R];exact⟨H,V',E',J,q1⟩⟩⟩
     clear q1 q2 av N;go_wp2;go_ret;exact Da aE
theorem Dg(s:By):(Dc s).length=s.size:=by unfold Dc;rw[AL];exact AG
theorem Ko(s:By):∀u∈Dc s,u.oneCell'=true:=λu a=>by
 unfold Dc at a;obtain⟨b,_,rfl⟩:=As.1 a
 rfl
def Gp(w:World)(a:OA)(l c:Nat)(s:By):Prop:=l=s.size/\(a=none->c=0)/\∀j v,(Dc s)[j]?=some v->∃x,a=some x/\w.cell? (x.add j)=some v
theorem Gp.below{w w':World}{a:OA}{l c:Nat}{s:By}(h:Gp w a l c s)(d:Bw w w'):Gp w' a l c s:=
 ⟨h.1,h.2.1,λj v f=>by
  obtain⟨x,e,b⟩:=h.2.2 j v f;exact⟨x,e,(d.cell (p:=x.add j) (Am _ _ b)).trans b⟩⟩
theorem Sl.rdB{w:World}{a:OA}{l c:Nat}{s:By}(h:Sl w 5 1 (.slice a l c) l (Dc s)):Gp w a l c s:=by
 refine⟨by have:=h.1;rw[Dg]at this;omega,λe=>?_,λj v b=>?_⟩
 ·subst e;rcases h.2 with⟨e,_⟩|⟨g,f,L,e,_⟩
  ·cases e;rfl
  ·cases e
 ·rcases h.2 with⟨e,i⟩|⟨g,f,L,e,k,_,_,_,m⟩
  ·have d:=h.1;rw[i]at d;have:Dc s=[]:=AA (by simpa using d);rw[this]at b;simp at b
  ·cases e
   refine⟨_,rfl,?_⟩;rw[AI,Av,k.cell];rw[<-m,Ao]at b
   split at b
   ·exact b
   ·cases b
theorem Q3:(prog.info? 5).map (·.size)=some 1:=by kernel_rfl
theorem Rg(w:World)(g n c:Nat):(Builtin.copy_ #[59,59] 3 #[.slice (some ⟨g,0,none⟩) n c,.slice none 0 0]).run prog w=.ok (goInt 0) w:=by
 obtain⟨i0,a,aa,ab,ac⟩:=BT KG;simp[Builtin.copy_,run_underlying underlying59,Builtin.lenOf,sizeOf,typeInfo,a,Builtin.firstCells,storeCells]
theorem Jz(a b:By):Dc (a++b)=Dc a++Dc b:=by unfold Dc;rw[Fp,EA,Bq]
theorem Jp(s:By)(i j:Nat):Dc (s.extract i j)=((Dc s).drop i).take (j-i):=by
 unfold Dc;rw[Cb];simp[List.map_drop,List.map_take]
theorem Ky(n:Nat):Dc ⟨(List.replicate n 0).toArray⟩=List.replicate n (.int .u8 0):=by unfold Dc;simp
theorem RZ(w:World)(a:OA)(l c:Nat)(s:By)(h:Gp w a l c s)(_hs:s.size<=2000000)(n:Nat)(hn:n<=2000000):
  Cl 176 #[.slice a l c,.int .i64 n] w λe w'=>∃x,e=.returned (.slice (some ⟨x,0,none⟩) n n)/\w.heap.size<=x/\Sl w' 5 1 (.slice (some ⟨x,0,none⟩) n n) n (Dc (Di s n))/\Bw w w':=by
 obtain⟨i0,N,X,Y,Z⟩:=BT KG;have r:∀W:World,W.ownsRow 0 5 1 (.slice (some ⟨w.heap.size,0,none⟩) n n) n (madeCells (Value.int .u8 0).cells (n*1)).toList->w.grownBy W none->∃b k,(Builtin.copy_ #[59,59] 3 #[.slice (some ⟨w.heap.size,0,none⟩) n n,.slice a l c]).run prog W=.ok (goInt k) b/\Hid (Sl b 5 1 (.slice (some ⟨w.heap.size,0,none⟩) n n) n (Dc (Di s n))/\Bw w b):=by
  intro W H K;have i:=Sl.of_owns H;have f:=KX K;have B:(madeCells (Value.int .u8 0).cells (n*1)).toList=List.replicate n (.int .u8 0):=by rw[BS];exact ER (.int .u8 0) n
  rw[B]at i;have S:=h.below f
  cases a with
  |none=>
   have q:s.size=0:=by
    rcases Cj s.size with e|e
    ·exact e
    ·obtain⟨x,U,_⟩:=h.2.2 0 ((Dc s)[0]'(by rw[Dg];exact e)) (Ac _)
     cases U
   have O:l=0:=by rw[h.1,q]
   have I:=h.2.1 rfl;subst O I;refine⟨W,0,Rg W _ _ _,?_,f⟩;have:Dc (Di s n)=List.replicate n (.int .u8 0):=by
    have T:s=⟨#[]⟩:=by
     apply A8;have:s.data.toList.length=0:=by rw[<-q];exact AG
     rw[AA this]
    unfold Di;by_cases t:n<=s.size
    ·rw[if_pos t];have:n=0:=by omega
     subst this;rw[Jp];simp
    ·rw[if_neg t,Jz,Ky,q,T];simp[Dc]
   rw[this];exact i
  |some x=>
   rcases i.2 with⟨e,_⟩|⟨g,aa,L,e,G,h1,C,D,E⟩
   ·cases e
   ·cases e
    have F:L=List.replicate n (.int .u8 0):=by
     rw[<-E,Ag (by omega)]
    have m:((Dc s).take (Nat.min l n)).length=Nat.min l n*1:=by
     rw[An,Dg,h.1,BS];exact BB (FE _ _)
    obtain⟨b,q1,u,q3⟩:=JS (P:=prog) W 59 59 3 5 1 w.heap.size 0 n n x l c L 5 ((Dc s).take (Nat.min l n)) underlying59 Q3 G m
     (λj v d=>by
      rw[Ao]at d
      split at d
      ·obtain⟨y,e,V⟩:=S.2.2 j v d;cases e;exact V
      ·cases d) (by rw[m,D];have:Nat.min l n<=n:=Nat.min_le_right _ _;omega) (λv d=>Ko s v (Bv d))
    refine⟨b,_,q1,?_,?_⟩
    ·have J:F2 L 0 ((Dc s).take (Nat.min l n))=Dc (Di s n):=by
      unfold F2;rw[m,F,Cs,AD,Av,BS,CP];unfold Di;by_cases p:n<=s.size
      ·have o:Nat.min l n=n:=by rw[h.1];exact C9 p
       rw[if_pos p,Jp,o];simp
      ·have o:Nat.min l n=s.size:=by rw[h.1];exact BB (by omega)
       rw[if_neg p,Jz,Ky,o,Ag (by rw[Dg];exact Aa _)]
     rw[J]at u;refine⟨by rw[Dg,Jc];omega,.inr ⟨w.heap.size,n,_,rfl,u,Aa _,C,by rw[Dg,Jc];omega,by rw[Ag (by rw[Dg,Jc];omega)]⟩⟩
    ·exact f.grown q3 f.size (λk e=>by cases e;exact Aa _)
 have z:=Db r;clear r;go_enter func176,ntmps176;go_wp2_with(first|(at_make;refine Bz _ rfl _ _ 59 rfl 0 5 i0 (.int .u8 0) 1 underlying59 N X Y _ _ _ _ n rfl rfl rfl rfl (by rw[Z];omega) (by unfold maxLen;omega) (Au _) ?_;intro w1 Q M;obtain⟨b,k,R,A⟩:=Da z w1 Q M)|(at_builtin;refine D4 _ rfl _ _ 59 59 rfl _ _ rfl rfl R ?_));go_ret;obtain⟨p1,p2⟩:=Da (Da A);exact⟨w.heap.size,rfl,Aa _,p1,p2⟩
theorem Wz(s:By)(n:Nat):Dc (Di s n)=(Dc s++List.replicate n (Value.int .u8 0)).take n:=by
 unfold Di;by_cases h:n<=s.size
 ·rw[if_pos h,Jp,A3 (by rw[Dg];exact h)];simp
 ·rw[if_neg h,Jz,Ky,Ca,Ag (by rw[Dg];omega),Dg,BM,BB (by omega)]
theorem ZlH(s d:By)(i M:Nat)(hM:M=max s.size (i+d.size)):F2 (Dc (Di s M)) i (Dc d)=Dc (I4 s i d):=by
 unfold F2 I4;rw[Jz,Jz,Wz,Wz,Dg];have c:((Dc s++List.replicate M (Value.int .u8 0)).take M).take i=(Dc s++List.replicate i (Value.int .u8 0)).take i:=by
  rw[B3,BB (by omega)];rw[Ca,Ca,BM,BM]
  congr 2
  omega
 rw[c]
 congr 1
 by_cases b:i+d.size<s.size
 ·rw[if_pos b];have a:M=s.size:=by omega
  rw[a,A3 (by rw[Dg];exact Aa _),Ag (by rw[Dg];exact Aa _),Jp];rw[Ag (by rw[Az,Dg];exact Aa _)]
 ·rw[if_neg b];have a:M=i+d.size:=by omega
  rw[a,Fo];simp[Dc]
theorem Zk0(s:By)(m:Nat)(d:By):(I4 s m d).size=max (m+d.size) s.size:=Ug s m d
theorem ZgQ(w:World)(a:OA)(l c:Nat)(s:By)(h:Gp w a l c s)(hs:s.size<=1280)(i:Nat)(o:OA)(G p:Nat)(d:By)(Y:Gp w o G p d)(hi:i+d.size<=1280):
  Cl 187 #[.slice a l c,.int .i64 i,.slice o G p] w λe w'=>((d.size=0/\e=.returned (.slice a l c))\/(0<d.size/\∃x m,e=.returned (.slice (some ⟨x,0,none⟩) m m)/\w.heap.size<=x/\Sl w' 5 1 (.slice (some ⟨x,0,none⟩) m m) m (Dc (I4 s i d))))/\Bw w w':=by
 obtain⟨aa,X,E⟩:=h;obtain⟨Z,V,q⟩:=Y;subst aa Z;have N:Hid (Gp w a s.size c s):=⟨rfl,X,E⟩;have K:Hid (Gp w o d.size p d):=⟨rfl,V,q⟩;clear E q;by_cases f:d.size=0
 ·have O:((d.size:Int)==0)=true:=by rw[f];rfl
  have t:=Db f;clear f;go_enter func187,ntmps187;go_wp2;go_ret;exact⟨.inl ⟨Da t,rfl⟩,Ak _ _⟩
 ·have O:((d.size:Int)==0)=false:=by simpa using f
  obtain⟨M,B⟩:=ex (max s.size (i+d.size));have n:=Db B;have I:Hid (max (s.size:Int) ((i:Int)+(d.size:Int))=(M:Int)):=by show _=_;omega
  have D:=RZ w a s.size c s (Da N) (by omega) M (by omega);have A:=Db D;have ah:i<M:=by omega
  have ag:M<=2000000:=by omega
  clear D B;go_enter func187,ntmps187;go_wp2_with fail;rw[Da I];refine(Da A).mono ?_;rintro e w1⟨x,rfl,F,C,r⟩;have W:∃b k,(Builtin.copy_ #[59,59] 3 #[.slice (some ⟨x,i,none⟩) (M-i) (M-i),.slice o d.size p]).run prog w1=.ok (goInt k) b/\Hid (Sl b 5 1 (.slice (some ⟨x,0,none⟩) M M) M (Dc (I4 s i d))/\Bw w b):=by
   have q:=(Da K).below r
   cases o with
   |none=>
    exfalso;have ac:0<d.size:=by omega
    obtain⟨y,hy,_⟩:=q.2.2 0 ((Dc d)[0]'(by rw[Dg];exact ac)) (Ac _)
    cases hy
   |some y=>
    rcases C.2 with⟨e,_⟩|⟨g,af,L,e,U,h1,Q,R,S⟩
    ·cases e
    ·cases e
     have T:L=Dc (Di s M):=by rw[<-S,Ag (by omega)]
     have ab:Nat.min d.size (M-i)=d.size:=BB (by have:=Da n;omega);obtain⟨b,q1,H,q3⟩:=JS (P:=prog) w1 59 59 3 5 1 x i (M-i) (M-i) y d.size p L 5 (Dc d) underlying59 Q3 U (by rw[Dg,ab,BS])
      (λj v hv=>by obtain⟨z,e,hz⟩:=q.2.2 j v hv;cases e;exact hz) (by rw[Dg,R];have:=Da n;omega) (Ko d)
     refine⟨b,_,q1,?_,r.grown q3 r.size (λk e=>by cases e;exact F)⟩;rw[T,ZlH s d i M (Da n)]at H;have u:(Dc (I4 s i d)).length=M:=by rw[Dg,Zk0,Da n];omega
     exact⟨by rw[u];omega,.inr ⟨x,M,_,rfl,H,Aa _,Q,by rw[u];omega,by rw[Ag (by rw[u];omega)]⟩⟩
  obtain⟨b,k,ae,J⟩:=W;have t:=Db f;clear C r A n f;go_wp2_with(first|(at_builtin;refine D4 _ rfl _ _ 59 59 rfl _ _ rfl rfl ae ?_));go_ret;obtain⟨p1,p2⟩:=Da (Da J);exact⟨.inr ⟨Nat.pos_of_ne_zero (Da t),x,M,rfl,F,p1⟩,p2⟩
def Lo(G:Gh)(p:By)(i n:Int):Int:=DJ G p (decide (0<=i/\0<=n))
def QB(w:World)(G:Gh)(C:IB)(p:By)(i n:Int)(e:Ending)(w':World):Prop:=
 ((Lo G p i n≠0/\e=.returned (.tuple #[.slice none 0 0,.int .i64 (Lo G p i n)]))\/
  (Lo G p i n=0/\∃u,Gl G (Df p)=some u/\u.p=none/\∃x m,e=.returned (.tuple #[.slice (some ⟨x,0,none⟩) m m,.int .i64 0])/\w.heap.size<=x/\Sl w' 5 1 (.slice (some ⟨x,0,none⟩) m m) m (Dc (Lc (C u.f) i n))))/\Bw w w'
theorem RE{G:Gh}{p:By}{b:Bool}(h:DJ G p b=0):b=true:=by
 cases b with
 |true=>rfl
 |false=>
  exfalso;have a:DN G p false≠0:=by unfold DN;split<;>simp
  unfold DJ at h;rw[if_pos a]at h;exact a h
theorem WH(w:World)(tb rd:Nat)(V:NV)(E:NS)(vi:Value)(G:Gh)(I:LF)(C:IB)(h:TW w tb rd V E vi G I C)(hG:Gk G)(ax:G.length<=10000)(ay:I.length<=10000)(ae:GQ G I)(hC:∀x∈I,(C x.1).size<=1280)(p:By)(hp:p.size<=2000000)(i n:Int)(hi:i<=9223372036854775807)(hn:n<=9223372036854775807):
  Cl 119 #[.pointer (some ⟨tb,0,none⟩),.string p,.int .i64 i,.int .i64 n] w (QB w G C p i n):=by
 have aj:=Xm w tb rd V E vi G I C h hG ax p hp (decide (0<=i/\0<=n));have HH:=Db h;have aw:=Db ae;have HC:=Db hC;have f:=Db aj;clear h ae hC aj;have ab:∀b:Bool,b=decide (0<=i/\0<=n)->Hid (b=decide (0<=i/\0<=n)):=λ_ h=>h
 by_cases ai:0<=i
 ·by_cases ak:0<=n
  ·have q:=ab true (Cr ⟨ai,ak⟩).symm;rw[<-Da q]at f;go_enter func119,ntmps119;go_wp2_with fail;refine(Da f).mono ?_;rintro e w1⟨J,o⟩;have l:Hid (Lo G p i n=DJ G p true):=by show _=_;unfold Lo;rw[<-Da q]
   clear f;rcases J with⟨c,rfl⟩|⟨B,aD,u,X,hu,rfl⟩
   ·have al:(DJ G p true != 0)=true:=by simpa using c
    have t:=Db c;clear c;go_wp2
    go_ret2
    exact⟨.inl ⟨by rw[Da l];exact Da t,by rw[Da l];rfl⟩,o⟩
   ·obtain⟨r,ac,aE,aF⟩:=GQ.mono (Da aw) X hu;have T:=(Da HH).below o (Aa _);have ah:=Qd w1 tb rd V E vi G I C T ay u.f r ac;have HE:=Db B;have ar:=Db X;have HU:=Db hu;have ad:=Db ac;clear B aD X hu ac T aE aF;go_wp2_with fail;refine ah.mono ?_;rintro e w2⟨rfl,af⟩;have M:Bw w w2:=o.trans (af.mono o.size);have U:=(Da HH).below M (Aa _);have A:=U.dat _ (Da ad);have aq:=Da HC _ (Da ad);simp only at A aq;obtain⟨s,hs⟩:=ex (C u.f);rw[<-hs]at A aq;have HS:=Db hs;clear hs U ah;obtain⟨ra,rl,y,rf⟩:=r;simp only at A;have aC:rl=s.size:=by have:=A.1;rw[Dg]at this;omega
    subst aC;obtain⟨k,N⟩:∃k:Nat,(k:Int)=min i (s.size:Int):=⟨(min i (s.size:Int)).toNat,by omega⟩;have HK:Hid (min i (s.size:Int)=(k:Int)):=N.symm;have aL:k<=s.size:=by omega
    obtain⟨m,hm⟩:∃m:Nat,(m:Int)=min n ((s.size-k:Nat):Int):=⟨(min n ((s.size-k:Nat):Int)).toNat,by omega⟩;have HM:Hid (min n ((s.size:Int)-(k:Int))=(m:Int)):=by show _=_;omega
    have au:Hid (Lc s i n=Di (s.extract k s.size) m):=by
     show _=_;have e1:min i.toNat s.size=k:=by omega
     have e2:min n.toNat (s.size-k)=m:=by omega
     unfold Lc Di;rw[e1,e2,if_pos (by simp[ByteArray.size_extract];omega)];apply Ui;rw[Cb,Cb,Cb];simp;rw[B3]
     congr 1
     have:s.size=s.data.size:=rfl;omega
    clear N hm;go_upto_region 5 with fail;obtain⟨W,hW,hx,aB,aH,Y⟩:=De w2 [.slice ra s.size y,.int .i64 rf] 217;have Z:Bw w W:=M.trans (Y.mono M.size);have aa:Sl W 5 1 (.slice ra s.size y) s.size (Dc s):=A.kept (λk N _=>Y.block k N);rw[hW];have a0:=hx.cell 0;have a1:=hx.cell 1;clear hW aB aH Y A M o af hx;have F:Hid (∀(K:OA) (d:Nat),Gp W K (s.size-k) d (s.extract k s.size)->Cl 176 #[.slice K (s.size-k) d,.int .i64 (m:Int)] W λe w'=>∃x,e=.returned (.slice (some ⟨x,0,none⟩) m m)/\Hid (QB w G C p i n (.returned (.tuple #[.slice (some ⟨x,0,none⟩) m m,.int .i64 0])) w')):=by
     intro K d aG;refine(RZ W K (s.size-k) d _ aG (by simp[ByteArray.size_extract];omega) m (by have:=Da HM;omega)).mono ?_;rintro e w'⟨x,rfl,aI,az,aA⟩;refine⟨x,rfl,.inr ⟨(Da l).trans (Da HE),u,Da ar,Da HU,x,m,rfl,Af Z.size aI,?_⟩,Z.trans (aA.mono Z.size)⟩;rw[<-Da HS,Da au];exact az
    have Q:Hid (min n ((s.size-k:Nat):Int)=(m:Int)):=by have:=Da HM;show _=_;omega
    have aK:=Da HK;rcases aa.2 with⟨e,h0⟩|⟨g,aJ,L,e,hR,T,U,h3,h4⟩
    ·simp only[Bu]at e;obtain⟨rfl,e2,rfl⟩:=e;have am:Gp W none (s.size-k) 0 (s.extract k s.size):=⟨by simp[ByteArray.size_extract],λ_=>rfl,λj v a=>by
      have:(Dc (s.extract k s.size)).length=0:=by rw[Dg];simp[ByteArray.size_extract];omega
      rw[AA this]at a;simp at a⟩
     have hc:=Da F none 0 am;obtain rfl:k=0:=by omega
     have R:Hid (min n 0=(m:Int)):=by have:=Da Q;show _=_;omega
     have S:s.size-0=0:=by omega
     rw[S]at hc;have D:=Db hc;clear hc am F aa;go_wp2_with fail;rw[Da R];refine(Da D).mono ?_;rintro e w'⟨x,rfl,H⟩;go_wp2
     go_ret2
     exact Da (Da H)
    ·simp only[Bu]at e;obtain⟨rfl,_,rfl⟩:=e;have ag:∀j v,(Dc s)[j]?=some v->W.cell? ⟨g,j,none⟩=some v:=λj v a=>by
      rw[hR.cell];rw[<-h4,Ao]at a
      split at a
      ·exact a
      ·cases a
     have an:∀d,Gp W (some ⟨g,k,none⟩) (s.size-k) d (s.extract k s.size):=λd=>⟨by simp[ByteArray.size_extract],λe=>(by cases e),λj v a=>by
      refine⟨_,rfl,?_⟩;rw[AI];refine ag _ _ ?_;rw[Jp,Ao]at a
      split at a
      ·rwa [Bf]at a
      ·cases a⟩
     have ao:y=k->Gp W (some ⟨g,0,none⟩) (s.size-k) 0 (s.extract k s.size):=λe=>⟨by simp[ByteArray.size_extract],λe=>(by cases e),λj v a=>by
      have:(Dc (s.extract k s.size)).length=0:=by rw[Dg];simp[ByteArray.size_extract];omega
      rw[AA this]at a;simp at a⟩
     have O:Hid (∀d,_):=λd=>Da F _ _ (an d)
     have P:Hid (y=k->_):=λe=>Da F _ _ (ao e)
     clear an ao ag F aa hR h3 h4;by_cases ap:y=k
     ·have z:=Da P ap;have S:s.size-k=0:=by omega
      rw[S]at z;have R:Hid (min n 0=(m:Int)):=by have:=Da Q;show _=_;omega
      have D:=Db z;subst ap;clear z O P;go_wp2_with fail
      all_goals
       rw[Da R];refine(Da D).mono ?_;rintro e w'⟨x,rfl,H⟩;go_wp2
       go_ret2
       exact Da (Da H)
     ·have aM:k<y:=by omega
      have z:=Da O (y-k);have D:=Db z;clear z O P;go_wp2_with fail
      all_goals
       rw[Da Q];refine(Da D).mono ?_;rintro e w'⟨x,rfl,H⟩;go_wp2
       go_ret2
       exact Da (Da H)
  ·have q:=ab false (Cm (λh=>ak h.2)).symm;rw[<-Da q]at f;have c:DJ G p false≠0:=λe=>by have:=RE e;cases this
   have al:(DJ G p false != 0)=true:=by simpa using c
   have l:Hid (Lo G p i n=DJ G p false):=by show _=_;unfold Lo;rw[<-Da q]
   have t:=Db c;clear c;go_enter func119,ntmps119;go_wp2_with fail;refine(Da f).mono ?_;rintro e w1⟨J,o⟩;rcases J with⟨_,rfl⟩|⟨B,_⟩
   ·clear f;go_wp2
    go_ret2
    exact⟨.inl ⟨by rw[Da l];exact Da t,by rw[Da l];rfl⟩,o⟩
   ·exact absurd B (Da t)
 ·have q:=ab false (Cm (λh=>ai h.1)).symm;rw[<-Da q]at f;have c:DJ G p false≠0:=λe=>by have:=RE e;cases this
  have al:(DJ G p false != 0)=true:=by simpa using c
  have l:Hid (Lo G p i n=DJ G p false):=by show _=_;unfold Lo;rw[<-Da q]
  have t:=Db c;clear c;go_enter func119,ntmps119;go_wp2_with fail;refine(Da f).mono ?_;rintro e w1⟨J,o⟩;rcases J with⟨_,rfl⟩|⟨B,_⟩
  ·clear f;go_wp2
   go_ret2
   exact⟨.inl ⟨by rw[Da l];exact Da t,by rw[Da l];rfl⟩,o⟩
  ·exact absurd B (Da t)
theorem WN(w:World)(tb c:Nat)(V:NV)(E:NS)(d:Value)(G:Gh)(I:LF)(C:IB)(h:TW w tb c V E d G I C)(l:I.length<=10000)(n:Int)(g r:VF)(p:(n,g)∈I)(s:By)(o:Sl w 5 1 (.slice r.a r.l r.c) r.l (Dc s)):
  Cl 228 #[.pointer (some ⟨tb,1,none⟩),.int .i64 n,.agg #[.slice r.a r.l r.c,.int .i64 r.f]] w λe w'=>e=.returned (.tuple #[])/\(∃a,TW w' tb c V E d G a (λk=>if k=n then s else C k)/\F7 I a n r)/\Fr (DM tb w) w w'/\∀k t R,FX w k t R->t≠214->t≠293->FX w' k t R:=by
 refine(Xs w tb c V E d G I C h l n g r p s o).mono ?_;rintro e w'⟨rfl,⟨a,q,u,v⟩,f⟩;refine⟨rfl,⟨a,q,u,v⟩,Fr.progI h f,λk t R b i j=>b.fr f (λe=>?_)⟩;rcases e with rfl|e
 ·exact i (b.type h.t)
 ·obtain⟨R',m⟩:=h.i.type e;exact j (b.type m)
theorem Wr(l i j d:Nat)(u:FrameMode)(w:World)(tb p:Nat)(V:NV)(E:NS)(q:Value)(G:Gh)(I:LF)(C:IB)(h:TW w tb p V E q G I C)(H:I.length<=10000)(n:Int)(y r:VF)(K:(n,y)∈I)(s:By)(x:Sl w 5 1 (.slice r.a r.l r.c) r.l (Dc s))(a:Int)(f:FX w l 26 [.int .i64 a])(m:FX w i 37 [.pointer (some ⟨tb,0,none⟩)])(o:FX w j 3 [.int .i64 n])(g:FX w d 217 [.slice r.a r.l r.c,.int .i64 r.f]):
  CallsD prog 230 #[.pointer (some ⟨l,0,none⟩),.pointer (some ⟨i,0,none⟩),.pointer (some ⟨j,0,none⟩),.pointer (some ⟨d,0,none⟩)] u w λe O w'=>O=u/\(e=.returned (.tuple #[])/\FX w' l 26 [.int .i64 a]/\Fr (DM tb w) w w'/\((a=0/\w'=w)\/(a≠0/\∃I',TW w' tb p V E q G I' (λk=>if k=n then s else C k)/\F7 I I' n r))):=by
 have a0:=f.cell 0;by_cases b:a=0
 ·have J:(a != 0)=false:=by simpa using b
  go_enter_d func230,ntmps230
  go_wp2
  go_end0
  exact⟨rfl,f,Fr.refl _ _,.inl ⟨b,rfl⟩⟩
 ·have J:(a != 0)=true:=by simpa using b
  have F:Hid (∀W,Bw w W->_):=λW v=>WN W tb p V E q G I C (h.below v (Aa _)) H n y r K s (x.kept (λk L _=>v.block k L))
  have b0:=m.cell 0;have c0:=o.cell 0;have d0:=g.cell 0;have d1:=g.cell 1;have D:=Db b;have B:=Db f;have z:=Db m;have A:=Db o;have t:=Db g;clear h x b f m o g
  go_enter_d func230,ntmps230
  go_wp2_with fail
  go_region_held3 (λW=>W.cell? ⟨i,0,none⟩=some (.pointer (some ⟨tb,0,none⟩))/\W.cell? ⟨j,0,none⟩=some (.int .i64 n)/\W.cell? ⟨d,0,none⟩=some (.slice r.a r.l r.c)/\W.cell? ⟨d,1,none⟩=some (.int .i64 r.f)) (go_keep)
   (first|(go_at_call 228;refine(Da F _ (Ak _ w).drew).mono ?_;rintro e aa⟨rfl,M,N,c⟩;have m0:=(c _ _ _ (Da z) (by decide) (by decide)).cell 0;have m1:=(c _ _ _ (Da A) (by decide) (by decide)).cell 0;have m2:=(c _ _ _ (Da t) (by decide) (by decide)).cell 0;have m3:=(c _ _ _ (Da t) (by decide) (by decide)).cell 1))
  all_goals
   go_wp2
   go_end0
   exact⟨rfl,c _ _ _ (Da B) (by decide) (by decide),Fr.prog (Ak _ w).drew N,.inr ⟨Da D,M⟩⟩
theorem TW.setOther{w:World}{tb a:Nat}{V:NV}{E:NS}{c:Value}{G:Gh}{I:LF}{C:IB}(h:TW w tb a V E c G I C){b:Nat}{t:TypeId}{R:F0}(g:FX w b t R)(f:b≠0)(i:t≠214/\t≠229/\t≠310/\t≠293/\t≠5)(j:Nat)(u:Value):TW (w.setCell ⟨b,j,none⟩ u) tb a V E c G I C:=
 h.fr (X:=λk=>k=b) ((Fr.refl _ _).set ⟨b,j,none⟩ u rfl) (λe=>f e.symm) (λk t' R' e d=>by subst e;rw[d.type g];exact i)
theorem Sl.prog{tb:Nat}{w w':World}{v:Value}{n:Nat}{xs:F0}(h:Sl w 5 1 v n xs)(c:Fr (DM tb w) w w'):Sl w' 5 1 v n xs:=
 h.fr c (λg d ⟨⟨t,R,a,e⟩,_⟩=>by
  obtain⟨R',b⟩:=h.type d;have:=b.type a;subst this
  revert e;decide)
theorem Fr.ext{X:Nat->Prop}{w w1 w2:World}(h:Fr X w w1)(a:Below w.heap.size w1 w2):Fr X w w2:=
 ⟨a.os.trans h.os,a.tape.trans h.tape,a.output.trans h.output,Af h.size a.size,λk b c=>(a.block k b).trans (h.block k b c)⟩
def Hj(w:World)(tb rd:Nat)(V:NV)(E:NS)(vi:Value)(G:Gh)(I:LF)(C:IB)(n:Int)(r:VF)(s:By)(e:Ending)(w':World):Prop:=
 Fr (DM tb w) w w'/\∃I',F7 I I' n r/\
  ((e=.returned (.int .i64 9)/\160<DO (I'.map (·.2.l))/\∃I'',TW w' tb rd V E vi G I'' C/\I''.length=I.length/\∀x,x∈I''↔x∈I)\/
   (e=.returned (.int .i64 0)/\DO (I'.map (·.2.l))<=160/\TW w' tb rd V E vi G I' (λk=>if k=n then s else C k)))
theorem Gm.nd{I:LF}(h:Gm I):(I.map (·.1)).Nodup:=by
 unfold List.Nodup;rw[Bk];intro i j hi b a e;have aa:j<I.length:=by simpa using b
 rw[Cz,Cz]at e;have:=h i j I[i] I[j] a (Ac _) (Ac _);have:=BO this;omega
theorem Rt(w:World)(tb M:Nat)(V:NV)(E:NS)(F:Value)(G:Gh)(I:LF)(C:IB)(h:TW w tb M V E F G I C)(P:I.length<=10000)(aC:∀x∈I,x.2.l<=2000000)(n:Int)(c:VF)(az:(n,c)∈I)(da:OA)(r dc:Nat)(aL:r<=2000000)(s:By)(ax:Sl w 5 1 (.slice da r dc) r (Dc s)):
  Cl 189 #[.pointer (some ⟨tb,0,none⟩),.int .i64 n,.slice da r dc] w (Hj w tb M V E F G I C n ⟨da,r,dc,c.f⟩ s):=by
 have a5:∀(fn:Fn) (first cap:Array Value) (w:World),(Instr.makeFunc fn first cap).run prog w=.ok (.func fn first cap) w:=λ_ _ _ _=>rfl
 have O:=Db h;have aH:=Db ax;have J:=Db az;have aI:=Db aC;clear h ax az aC
 go_enter_defers func189,ntmps189
 go_wp2_with fail;obtain⟨W1,ap,aF,aP,aj,au⟩:=De w [.pointer (some ⟨tb,0,none⟩)] 37;obtain⟨W2,aq,aG,aB,aE,av⟩:=De W1 [.int .i64 n] 3;obtain⟨a,ar,ab,ah,aW,j⟩:=De W2 [.int .i64 0] 26;rw[ap,aq,ar];have y1:=ah _ _ _ (aB _ _ _ aF);have X:=ah _ _ _ aG;have A:Bw w a:=(au.trans (av.mono (by omega))).trans (j.mono (by omega));rw[aj]at X;rw[aE,aj]at ab;have aD:a.heap.size=w.heap.size+3:=by omega
 clear ap aq ar aP aB ah au av j aF aG aj aE aW;have am:Hid (∀W,Bw w W->_):=λW hb=>Qd W tb M V E F G I C ((Da O).below hb (Aa _)) P n c (Da J)
 have a0:=y1.cell 0;have a1:=X.cell 0;have ad:=A.drew;have an:=Db aD;have a4:w.heap.size+1+1<a.heap.size:=by omega
 have aS:¬a.heap.size=w.heap.size:=by omega
 have aT:¬a.heap.size=w.heap.size+1:=by omega
 have aU:¬w.heap.size=a.heap.size:=by omega
 have aV:¬w.heap.size+1=a.heap.size:=by omega
 clear aD
 go_region_held3 (λW=>W.cell? ⟨w.heap.size,0,none⟩=some (.pointer (some ⟨tb,0,none⟩))/\W.cell? ⟨w.heap.size+1,0,none⟩=some (.int .i64 n)) (go_keep)
  (first|(go_at_call 175;refine(Da am _ (by first|exact A.drew|exact ad.alloc ad.size _|exact(A.alloc A.size _).drew)).mono ?_;rintro e w'⟨rfl,S⟩;have j:Bw a w':=(by first|exact((Ak _ a).drew).trans (S.mono (by simp))|exact(((Ak _ a).alloc (Aa _) _).drew).trans (S.mono (by simp))|exact(((Ak _ a).drew).alloc (by simp) _).trans (S.mono (by simp)));have m0:=(j.cell (p:=⟨w.heap.size,0,none⟩) (by rw[Da an];simp)).trans a0;have m1:=(j.cell (p:=⟨w.heap.size+1,0,none⟩) (by rw[Da an];simp)).trans a1;(try(have z:FX w' a.heap.size 217 [.slice none 0 0,.int .i64 0]:=(S.block a.heap.size (by simp)).trans (Je a [.slice none 0 0,.int .i64 0] 217);have z0:=z.cell 0;have z1:=z.cell 1;have a7:=z.frozen 0;have a8:=z.frozen 1))))
 case' refine_2.refine_3.refine_3.refine_3.refine_3.refine_1.refine_2.refine_3.refine_3.refine_3.refine_1.refine_2.refine_1.refine_2.refine_3=>
  obtain⟨g,Q,D,aQ,aX,aw⟩:=De w' [.slice c.a c.l c.c,.int .i64 c.f] 217;rw[Q];have v:Bw a g:=j.trans (aw.mono j.size);have ac:a.heap.size<=w'.heap.size:=j.size;obtain⟨i,K⟩:∃b,b=w'.heap.size:=⟨_,rfl⟩;rw[<-K]at D ac ⊢;clear Q aQ aX aw K
 case' refine_2.refine_3.refine_3.refine_3.refine_3.refine_2.refine_1.refine_2.refine_1.refine_2.refine_3.refine_3.refine_3.refine_1.refine_2.refine_3=>
  have D:FX ((w'.setCell ⟨a.heap.size,0,none⟩ (.slice c.a c.l c.c)).setCell ⟨a.heap.size,1,none⟩ (.int .i64 c.f)) a.heap.size 217 [.slice c.a c.l c.c,.int .i64 c.f]:=by
   have:=(z.set 0 (.slice c.a c.l c.c)).set 1 (.int .i64 c.f)
   simpa using this
  have v:Bw a ((w'.setCell ⟨a.heap.size,0,none⟩ (.slice c.a c.l c.c)).setCell ⟨a.heap.size,1,none⟩ (.int .i64 c.f)):=(j.setCell (p:=⟨a.heap.size,0,none⟩) (Aa _) _).setCell (p:=⟨a.heap.size,1,none⟩) (Aa _) _;obtain⟨g,Q⟩:∃g,(w'.setCell ⟨a.heap.size,0,none⟩ (.slice c.a c.l c.c)).setCell ⟨a.heap.size,1,none⟩ (.int .i64 c.f)=g:=⟨_,rfl⟩;rw[Q]at D v ⊢;have ac:a.heap.size<=a.heap.size:=Aa _;obtain⟨i,K⟩:∃b,b=a.heap.size:=⟨_,rfl⟩;have ac:a.heap.size<=i:=by omega
  rw[<-K]at D;rw[show(Value.pointer (some { block:=a.heap.size,off:=0 }))=Value.pointer (some { block:=i,off:=0 }) by rw[K]];clear Q K
 all_goals
  have y3:FX g w.heap.size 37 _:=(v.block _ y1.lt).trans y1;have y4:FX g (w.heap.size+1) 3 _:=(v.block _ X.lt).trans X;have y6:FX g (w.heap.size+1+1) 26 _:=(v.block _ ab.lt).trans ab;have ae:Bw w g:=A.trans (v.mono A.size);clear ab y1 X A v a0 a1 am ad aS aT aU aV S j m0 m1;have aJ:Hid (∀W,Bw g W->_):=λW hb=>WN W tb M V E F G I C (((Da O).below ae (Aa _)).below hb (Aa _)) P n c ⟨da,r,dc,c.f⟩ (Da J) s (((Da aH).kept (λk d _=>ae.block k d)).kept (λk d _=>hb.block k d))
  have b0:=y3.cell 0;have b1:=y4.cell 0;have b2:=D.cell 1;have Y3:=Db y3;have Y4:=Db y4;have Y6:=Db y6;have Y7:=Db D;clear y3 y4 y6 D;go_wp2_with fail
  go_region_held3 (λW=>W.cell? ⟨w.heap.size,0,none⟩=some (.pointer (some ⟨tb,0,none⟩))/\W.cell? ⟨w.heap.size+1,0,none⟩=some (.int .i64 n)/\W.cell? ⟨i,1,none⟩=some (.int .i64 c.f)) (go_keep)
   (first|(go_at_call 228;refine(Da aJ _ (Ak _ g).drew).mono ?_;rintro e N⟨rfl,q1,q2,t⟩;have m0:=(t _ _ _ (Da Y3) (by decide) (by decide)).cell 0;have m1:=(t _ _ _ (Da Y4) (by decide) (by decide)).cell 0;have m2:=(t _ _ _ (Da Y7) (by decide) (by decide)).cell 1))
  obtain⟨o,Y,L⟩:=q1;have aO:=L;have aa:∀x∈o,x.2.l<=2000000:=λx B=>by
   rcases(L.2 x).1 B with rfl|⟨a2,_⟩
   ·exact aL
   ·exact Da aI x a2
  have al:=RN N tb _ F o Y.t Y.i (by rw[L.1];exact P) aa;have z3:FX N w.heap.size 37 _:=t _ _ _ (Da Y3) (by decide) (by decide);have z4:FX N (w.heap.size+1) 3 _:=t _ _ _ (Da Y4) (by decide) (by decide);have z6:FX N (w.heap.size+1+1) 26 _:=t _ _ _ (Da Y6) (by decide) (by decide);have z7:FX N i 217 _:=t _ _ _ (Da Y7) (by decide) (by decide);have H:Hid (Fr (DM tb w) w N):=Fr.prog ae.drew q2;have ak:=Tw (o.map (·.2.l)) (λm hm=>by obtain⟨y,hy,e⟩:=As.1 hm;rw[<-e];exact aa y hy);rw[AL]at ak;have aY:DO (o.map (·.2.l))<=400000000:=Af ak (by rw[L.1];omega);obtain⟨U,hU⟩:=ex (DO (o.map (·.2.l)));rw[<-hU]at al aY;have HU:=Db hU;have q:=Db L;have H5:=Db Y;have a3:=Db aa;clear q2 t ak hU L aO Y m2 aa;go_wp2_with fail;refine al.mono ?_;rintro e w6⟨rfl,l⟩;have t3:FX w6 w.heap.size 37 _:=(l.block _ z3.lt).trans z3;have t4:FX w6 (w.heap.size+1) 3 _:=(l.block _ z4.lt).trans z4;have u:FX w6 (w.heap.size+1+1) 26 _:=(l.block _ z6.lt).trans z6;have t7:FX w6 i 217 _:=(l.block _ z7.lt).trans z7;have c6:=u.cell 0;have f6:=u.frozen 0;clear al;by_cases aM:160<U
  ·have aN:(160:Int)<(U:Int):=by omega
   go_wp2;have d6:=u.set 0 (.int .i64 9);have a6:w.heap.size≠w.heap.size+1+1:=by omega
   have d3:=t3.setOther ⟨w.heap.size+1+1,0,none⟩ (.int .i64 9) (by show w.heap.size+1+1≠w.heap.size;omega);have d4:=t4.setOther ⟨w.heap.size+1+1,0,none⟩ (.int .i64 9) (by show w.heap.size+1+1≠w.heap.size+1;omega);have d7:=t7.setOther ⟨w.heap.size+1+1,0,none⟩ (.int .i64 9) (by show w.heap.size+1+1≠i;omega);have Z:=((Da H5).below l (Aa _)).setOther u (by omega) (by decide) 0 (.int .i64 9);have T:=(((Da O).dat _ (Da J)).prog (Da H)).kept (λk d _=>l.block k d);have ag:=T.setCell ⟨w.heap.size+1+1,0,none⟩ (.int .i64 9) (λe=>by obtain⟨R,hR⟩:=T.type e;have:=hR.type u;revert this;decide);refine leaves_cons (f:=230) (args:=#[.pointer (some ⟨w.heap.size+1+1,0,none⟩),.pointer (some ⟨w.heap.size,0,none⟩),.pointer (some ⟨w.heap.size+1,0,none⟩),.pointer (some ⟨i,0,none⟩)]) (by simp) (by simp[go_sem]) ?_;refine(Wr _ _ _ _ .returning _ tb M V E F G o _ Z (by rw[(Da q).1];exact P) n ⟨da,r,dc,c.f⟩ c (((Da q).2 _).2 (.inl rfl)) (C n) ag 9 (by simpa using d6) d3 d4 d7).mono ?_;rintro e u' w7⟨rfl,rfl,ai,ay,af⟩;have hc:=ai.cell 0;refine⟨.int .i64 9,by simp[results,results189,go_sem,hc],?_⟩;rcases af with⟨h0,_⟩|⟨_,aK,ao,aA⟩
   ·exact absurd h0 (by decide)
   ·have hC:(λk=>if k=n then C n else(λk=>if k=n then s else C k) k)=C:=by
     funext k
     by_cases d:k=n
     ·simp[d]
     ·simp[d]
    rw[hC]at ao;refine⟨((Da H).ext ((l.mono (Da H).size).setCell (p:=⟨w.heap.size+1+1,0,none⟩) (by show w.heap.size<=w.heap.size+1+1;omega) (.int .i64 9))).progTrans ay,o,Da q,.inl ⟨rfl,by rw[<-Da HU];exact aM,aK,ao,aA.1.trans (Da q).1,λx=>?_⟩⟩;rw[aA.2 x,(Da q).2 x];constructor
    ·rintro(rfl|⟨rfl|⟨B,_⟩,aR⟩)
     ·exact Da J
     ·exact absurd rfl aR
     ·exact B
    ·intro B;by_cases d:x.1=n
     ·left;have:x=(n,x.2):=by rw[<-d]
      rw[this]at B ⊢;rw[QO (Da O).si.nd B (Da J)]
     ·exact .inr ⟨.inr ⟨B,d⟩,d⟩
  ·have aN:¬(160:Int)<(U:Int):=by omega
   go_wp2;have d6:=u.set 0 (.int .i64 0);have d3:=t3.setOther ⟨w.heap.size+1+1,0,none⟩ (.int .i64 0) (by show w.heap.size+1+1≠w.heap.size;omega);have d4:=t4.setOther ⟨w.heap.size+1+1,0,none⟩ (.int .i64 0) (by show w.heap.size+1+1≠w.heap.size+1;omega);have d7:=t7.setOther ⟨w.heap.size+1+1,0,none⟩ (.int .i64 0) (by show w.heap.size+1+1≠i;omega);have Z:=((Da H5).below l (Aa _)).setOther u (by omega) (by decide) 0 (.int .i64 0);have T:=(((Da O).dat _ (Da J)).prog (Da H)).kept (λk d _=>l.block k d);have ag:=T.setCell ⟨w.heap.size+1+1,0,none⟩ (.int .i64 0) (λe=>by obtain⟨R,hR⟩:=T.type e;have:=hR.type u;revert this;decide);refine leaves_cons (f:=230) (args:=#[.pointer (some ⟨w.heap.size+1+1,0,none⟩),.pointer (some ⟨w.heap.size,0,none⟩),.pointer (some ⟨w.heap.size+1,0,none⟩),.pointer (some ⟨i,0,none⟩)]) (by simp) (by simp[go_sem]) ?_;refine(Wr _ _ _ _ .returning _ tb M V E F G o _ Z (by rw[(Da q).1];exact P) n ⟨da,r,dc,c.f⟩ c (((Da q).2 _).2 (.inl rfl)) (C n) ag 0 (by simpa using d6) d3 d4 d7).mono ?_;rintro e u' w7⟨rfl,rfl,ai,ay,af⟩;have hc:=ai.cell 0;refine⟨.int .i64 0,by simp[results,results189,go_sem,hc],?_⟩;rcases af with⟨_,aZ⟩|⟨h0,_⟩
   ·rw[aZ];exact⟨(Da H).ext ((l.mono (Da H).size).setCell (p:=⟨w.heap.size+1+1,0,none⟩) (by show w.heap.size<=w.heap.size+1+1;omega) (.int .i64 0)),o,Da q,.inr ⟨rfl,by rw[<-Da HU];omega,Z⟩⟩
   ·exact absurd rfl h0
def Ru(w:World)(tb:Nat)(G:Gh)(I:LF)(C:IB)(n:Int)(r:VF)(s:By)(e:Ending)(w':World):Prop:=
 Fr (DM tb w) w w'/\∃I',F7 I I' n r/\
  ((e=.returned (.int .i64 9)/\160<DO (I'.map (·.2.l))/\∃I'',PS w' tb G I'' C/\I''.length=I.length/\∀x,x∈I''↔x∈I)\/
   (e=.returned (.int .i64 0)/\DO (I'.map (·.2.l))<=160/\PS w' tb G I' (λk=>if k=n then s else C k)))
theorem Hj.ps{w g:World}{tb d:Nat}{V:NV}{E:NS}{f:Value}{G:Gh}{I:LF}{C:IB}{n:Int}{r:VF}{s:By}{e:Ending}{w':World}(h:Hj w tb d V E f G I C n r s e w')(q:Bw g w):Ru g tb G I C n r s e w':=by
 obtain⟨m,i,o,p⟩:=h;refine⟨Fr.prog q m,i,o,?_⟩;rcases p with⟨a,b,j,c,k,l⟩|⟨a,b,c⟩
 ·exact .inl ⟨a,b,j,⟨d,V,E,f,c⟩,k,l⟩
 ·exact .inr ⟨a,b,d,V,E,f,c⟩
def MP(G:Gh)(p:By)(n:Int):Int:=DJ G p (decide (0<=n/\n<=1280))
def Q5(w:World)(tb:Nat)(G:Gh)(I:LF)(C:IB)(p:By)(n:Int)(e:Ending)(w':World):Prop:=
 (MP G p n≠0/\e=.returned (.int .i64 (MP G p n))/\Fr (DM tb w) w w'/\PS w' tb G I C)\/
 (MP G p n=0/\∃u r a c,Gl G (Df p)=some u/\u.p=none/\(u.f,r)∈I/\Ru w tb G I C u.f ⟨a,n.toNat,c,r.f⟩ (Di (C u.f) n.toNat) e w')
theorem ZmE(w:World)(tb:Nat)(G:Gh)(I:LF)(C:IB)(h:PS w tb G I C)(hG:Gk G)(ai:G.length<=10000)(Q:I.length<=10000)(P:GQ G I)(Z:∀x∈I,x.2.l<=2000000)(O:∀x∈I,(C x.1).size<=1280)(p:By)(hp:p.size<=2000000)(n:Int):
  Cl 124 #[.pointer (some ⟨tb,0,none⟩),.string p,.int .i64 n] w (Q5 w tb G I C p n):=by
 obtain⟨t,V,E,v,h⟩:=h;have aa:=Xm w tb t V E v G I C h hG ai p hp (decide (0<=n/\n<=1280));have M:=Db h;have af:=Db P;have HC:=Db O;have ag:=Db Z;have i:=Db aa;have y:Hid (∀b,b=decide (0<=n/\n<=1280)->∀W,Bw w W->DJ G p b≠0->Q5 w tb G I C p n (.returned (.int .i64 (DJ G p b))) W):=λb a W o d=>by
  subst a;exact .inl ⟨d,rfl,Fr.of_below o,t,V,E,v,h.below o (Aa _)⟩
 clear h P O aa Z;by_cases j:0<=n/\n<=1280
 ·have a:=Cr j;rw[a]at i;have ab:=j.1;have an:=j.2;have l:=Db a;clear j a;go_enter func124,ntmps124;go_wp2_with fail;refine(Da i).mono ?_;rintro e w1⟨f,c⟩;clear i;rcases f with⟨d,rfl⟩|⟨k,ap,u,B,J,rfl⟩
  ·have ao:(DJ G p true != 0)=true:=by simpa using d
   have g:=Db (Da y true (Da l).symm w1 c d);clear d;go_wp2;go_ret;exact Da g
  ·obtain⟨r,H,aq,ar⟩:=GQ.mono (Da af) B J;have Y:=Qd w1 tb t V E v G I C ((Da M).below c (Aa _)) Q u.f r H;have HE:=Db k;have ae:=Db B;have HU:=Db J;have q:=Db H;clear k ap B J H aq ar;go_wp2_with fail;refine Y.mono ?_;rintro e w2⟨rfl,S⟩;have F:Bw w w2:=c.trans (S.mono c.size);go_upto_region 5 with fail;obtain⟨W,R,K,am,au,o⟩:=De w2 [.slice r.a r.l r.c,.int .i64 r.f] 217;have D:Bw w W:=F.trans (o.mono F.size);rw[R];have a0:=K.cell 0;have a1:=K.cell 1;have A:=(Da M).below D (Aa _);obtain⟨m,hm⟩:∃m:Nat,n=(m:Int):=⟨n.toNat,by omega⟩;have U:=A.dat _ (Da q);have ad:=RZ W r.a r.l r.c (C u.f) U.rdB (Af (Da HC _ (Da q)) (by omega)) m (by omega);subst hm;have N:=Db ad;have ah:=Db A;clear R am au o K Y c S F U ad A;go_wp2_with fail;refine(Da N).mono ?_;rintro e w3⟨x,rfl,av,aj,T⟩;have X:=Rt w3 tb t V E v G I C ((Da ah).below T (Aa _)) Q (Da ag) u.f r (Da q) (some ⟨x,0,none⟩) m m (by omega) (Di (C u.f) m) aj;have L:=Db X;have ak:Bw w w3:=D.trans (T.mono D.size);clear X N;go_wp2_with fail;refine(Da L).mono ?_;rintro e w4 f;have ac:=f.ps ak;have g:Hid (Q5 w tb G I C p (m:Int) e w4):=.inr ⟨by unfold MP;rw[Da l];exact Da HE,u,r,some ⟨x,0,none⟩,m,Da ae,Da HU,Da q,ac⟩;have al:e=.returned (.int .i64 9)\/e=.returned (.int .i64 0):=by
    obtain⟨_,I',_,⟨z,_⟩|⟨z,_⟩⟩:=f
    ·exact .inl z
    ·exact .inr z
   clear f ac L;rcases al with rfl|rfl
   ·go_wp2;go_ret;exact Da g
   ·go_wp2;go_ret;exact Da g
 ·have a:=Cm j;rw[a]at i;have d:DJ G p false≠0:=λe=>by have:=RE e;cases this
  have ao:(DJ G p false != 0)=true:=by simpa using d
  have s:=Db d;have l:=Db a;clear d a;by_cases ab:0<=n
  ·have an:¬n<=1280:=λh=>j ⟨ab,h⟩
   clear j;go_enter func124,ntmps124;go_wp2_with fail;refine(Da i).mono ?_;rintro e w1⟨f,c⟩;rcases f with⟨_,rfl⟩|⟨k,_⟩
   ·have g:=Db (Da y false (Da l).symm w1 c (Da s));clear i;go_wp2;go_ret;exact Da g
   ·exact absurd k (Da s)
  ·clear j;go_enter func124,ntmps124;go_wp2_with fail;refine(Da i).mono ?_;rintro e w1⟨f,c⟩;rcases f with⟨_,rfl⟩|⟨k,_⟩
   ·have g:=Db (Da y false (Da l).symm w1 c (Da s));clear i;go_wp2;go_ret;exact Da g
   ·exact absurd k (Da s)
end Go.Proofs.YtaieidcohdhgpaaGreatDoor
