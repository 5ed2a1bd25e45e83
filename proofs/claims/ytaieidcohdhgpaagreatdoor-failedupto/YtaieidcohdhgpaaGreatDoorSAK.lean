/- Failed. -/
import Derived.Test.YtaieidcohdhgpaaGreatDoorSAJ
namespace Go.Proofs.YtaieidcohdhgpaaGreatDoor
set_option maxHeartbeats 40000000
set_option maxRecDepth 100000
open Go.RowKit
theorem TW.setI{w w':World}{tb j:Nat}{V:NV}{E:NS}{d f:Value}{G:Gh}{I a:LF}{C C':IB}(h:TW w tb j V E d G I C)
  (v:RowIs w' tb 214 [.pointer (some ⟨j,0,none⟩),f]) (p:Sl w' 293 3 f a.length (Dr a)) (y:SrtI a) (l:Fr (fun k=>k=tb\/d.ownBlock=some k) w w')
  (r:∀x∈a,Sl w' 5 1 (.slice x.2.a x.2.l x.2.c) x.2.l (Dc (C' x.1))) (u:Dk w d f):TW w' tb j V E f G a C':=by
 have q:∀k t R,(k=tb\/d.ownBlock=some k)->RowIs w k t R->t=214\/t=293:=fun k t R b c=>by
  rcases b with rfl|b
  ·exact .inl (c.type h.t)
  ·obtain⟨n,i⟩:=h.i.type b;exact .inr (c.type i)
 refine⟨h.pk.fr l (fun e=>?_),v,h.d.fr l (fun k t R e c=>?_),p,y,r,h.lo.1,fun g s=>(u g s).elim (h.lo.2 g) (fun o=>Nat.le_trans (Nat.le_of_lt (h.d.row _ _ (.inl ⟨rfl,rfl⟩)).lt) o)⟩
 ·obtain⟨_,m⟩:=h.pk;rcases e with rfl|b
  ·have:=m _ _ h.t;revert this;decide
  ·obtain⟨n,i⟩:=h.i.type b;have:=m _ _ i;revert this;decide
 ·rcases q k t R e c with rfl|rfl<;>decide
theorem Fr.progI{w w':World}{tb e:Nat}{V:NV}{E:NS}{b:Value}{G:Gh}{I:LF}{C:IB}(h:TW w tb e V E b G I C)(d:Fr (fun k=>k=tb\/b.ownBlock=some k) w w'):Fr (DM tb w) w w':=
 d.mono (fun k _ a=>by
  rcases a with rfl|a
  ·exact⟨⟨214,_,h.t,.inl rfl⟩,Nat.le_succ _⟩
  ·obtain⟨R,c⟩:=h.i.type a;exact⟨⟨293,R,c,.inr (.inr (.inr rfl))⟩,by have:=h.lo.1;have:=h.lo.2 k a;omega⟩)
theorem TW.ne{w:World}{tb c:Nat}{V:NV}{E:NS}{a:Value}{G:Gh}{I:LF}{C:IB}(h:TW w tb c V E a G I C):a.ownBlock≠some tb:=fun e=>by
 obtain⟨R,b⟩:=h.i.type e;have:=b.type h.t;revert this;decide
theorem ZkW{w w':World}{tb:Nat}{a b v c:Value}(h:RowIs w tb 214 [a,b])(f:Zd7 w w' tb 1 v c):RowIs w' tb 214 [a,c]:=by
 have e:=f.head;have d:=h.set 1 c;unfold RowIs at d ⊢;rw[e];simpa using d
theorem ZeA(w:World)(tb f:Nat)(V:NV)(E:NS)(a:Value)(G:Gh)(I:LF)(C:IB)(h:TW w tb f V E a G I C)(t:I.length<=10000)(n:Int)(q r:VF)(z:(n,q)∈I)(s:By)(y:Sl w 5 1 (.slice r.a r.l r.c) r.l (Dc s)):
  Calls Tryz.prog 228 #[.pointer (some ⟨tb,1,none⟩),.int .i64 n,.agg #[.slice r.a r.l r.c,.int .i64 r.f]] w fun e w'=>e = .returned (.tuple #[])/\(∃b,TW w' tb f V E a G b (fun k=>if k=n then s else C k)/\b.length=I.length/\∀x,x∈b↔x=(n,r)\/x∈I/\x.1≠n)/\Fr (fun k=>k=tb\/a.ownBlock=some k) w w':=by
 refine(ZmK w tb 1 a I n q r (h.t.cell 1) h.ne h.i t h.si z).mono ?_;rintro e w' ⟨rfl,b,q1,H,J,K,o,p⟩;have c:Fr (fun k=>k=tb\/a.ownBlock=some k) w w':=Fr.of_grown p (fun k e => .inr e);have B:RowIs w' tb 214 [.pointer (some ⟨f,0,none⟩),a]:=(p.block tb h.t.lt (fun e=>h.ne e.symm)).trans h.t;have l:∀(v:Value) (m:Nat) (xs:LVa),Sl w 5 1 v m xs->Sl w' 5 1 v m xs:=fun v m xs j=>j.fr c (fun g d e=>by
  obtain⟨R,i⟩:=j.type d;rcases e with rfl|e
  ·have:=i.type h.t;revert this;decide
  ·obtain⟨R',u⟩:=h.i.type e;have:=i.type u;revert this;decide)
 refine⟨rfl,⟨b,h.setI B H J c (fun x D=>?_) (fun g d => .inl d),K,o⟩,c⟩;rcases (o x).1 D with rfl|⟨F,A⟩
 ·simp only[if_true];exact l _ _ _ y
 ·rw[if_neg A];exact l _ _ _ (h.dat x F)
theorem Zl2(w:World)(tb q:Nat)(V:NV)(E:NS)(c:Value)(G:Gh)(I:LF)(C:IB)(h:TW w tb q V E c G I C)(r:I.length<=10000)(n:Int)(p:VF)(u:(n,p)∈I):
  Calls Tryz.prog 234 #[.pointer (some ⟨tb,1,none⟩),.int .i64 n] w fun e w'=>e = .returned (.tuple #[])/\(∃f b,TW w' tb q V E f G b C/\b.length+1=I.length/\∀x,x∈b↔x∈I/\x.1≠n)/\Fr (fun k=>k=tb\/c.ownBlock=some k) w w':=by
 refine(dropI w tb 1 c I n p (h.t.cell 1) (h.t.frozen 1) h.ne h.i r h.si u).mono ?_;rintro e w' ⟨rfl,f,b,q1,B,D,F,o,H,a⟩;have d:Fr (fun k=>k=tb\/c.ownBlock=some k) w w':=⟨a.os,a.tape,a.output,a.size,fun k y l=>a.block k y (fun e=>l (.inl e)) (fun e=>l (.inr e))⟩;have z:∀(v:Value) (m:Nat) (xs:LVa),Sl w 5 1 v m xs->Sl w' 5 1 v m xs:=fun v m xs j=>j.fr d (fun g t e=>by
  obtain⟨R,i⟩:=j.type t;rcases e with rfl|e
  ·have:=i.type h.t;revert this;decide
  ·obtain⟨R',s⟩:=h.i.type e;have:=i.type s;revert this;decide)
 exact⟨rfl,⟨f,b,h.setI (ZkW h.t a) B D d (fun x A=>z _ _ _ (h.dat x ((o x).1 A).1)) H,F,o⟩,d⟩
theorem ZiF(w:World)(tb u:Nat)(V:NV)(E:NS)(c:Value)(G:Gh)(I:LF)(C:IB)(h:TW w tb u V E c G I C)(y:I.length<=10000)(n:Int)(r:VF)(p:∀x∈I,x.1≠n)(s:By)(A:Sl w 5 1 (.slice r.a r.l r.c) r.l (Dc s)):
  Calls Tryz.prog 228 #[.pointer (some ⟨tb,1,none⟩),.int .i64 n,.agg #[.slice r.a r.l r.c,.int .i64 r.f]] w fun e w'=>e = .returned (.tuple #[])/\(∃f b,TW w' tb u V E f G b (fun k=>if k=n then s else C k)/\b.length=I.length+1/\∀x,x∈b↔x=(n,r)\/x∈I)/\Fr (fun k=>k=tb\/c.ownBlock=some k) w w':=by
 refine(Zoc w tb 1 c I n r (h.t.cell 1) (h.t.frozen 1) h.ne h.i y h.si p).mono ?_;rintro e w' ⟨rfl,f,b,q1,H,J,K,t,L,a⟩;have d:Fr (fun k=>k=tb\/c.ownBlock=some k) w w':=⟨a.os,a.tape,a.output,a.size,fun k D l=>a.block k D (fun e=>l (.inl e)) (fun e=>l (.inr e))⟩;have o:∀(v:Value) (m:Nat) (xs:LVa),Sl w 5 1 v m xs->Sl w' 5 1 v m xs:=fun v m xs j=>j.fr d (fun g B e=>by
  obtain⟨R,i⟩:=j.type B;rcases e with rfl|e
  ·have:=i.type h.t;revert this;decide
  ·obtain⟨R',z⟩:=h.i.type e;have:=i.type z;revert this;decide)
 refine⟨rfl,⟨f,b,h.setI (ZkW h.t a) H J d (fun x F=>?_) L,K,t⟩,d⟩;rcases (t x).1 F with rfl|q
 ·simp only[if_true];exact o _ _ _ A
 ·rw[if_neg (p x q)];exact o _ _ _ (h.dat x q)
theorem KZ(w:World)(tb q:Nat)(V:NV)(E:NS)(c:Value)(G:Gh)(I:LF)(C:IB)(h:TW w tb q V E c G I C)(d:I.length<=10000)(n:Int)(r:VF)(a:(n,r)∈I):
  Calls Tryz.prog 175 #[.pointer (some ⟨tb,1,none⟩),.int .i64 n] w fun e w'=>e = .returned (.tuple #[.agg #[.slice r.a r.l r.c,.int .i64 r.f],.bool true])/\Below w.heap.size w w':=by
 refine(getI w tb 1 c I n (h.t.cell 1) h.i d h.si).mono ?_;rintro e w' ⟨r',b,rfl,g,f⟩;rcases g with⟨rfl,m⟩|⟨rfl,_,p⟩
 ·have o:(I.map (·.1)).Nodup:=by
   unfold List.Nodup;rw[List.pairwise_iff_getElem];intro i j hi l k e;have aa:j<I.length:=by simpa using l
   rw[List.getElem_map,List.getElem_map]at e;have:=h.si i j I[i] I[j] k (List.getElem?_eq_getElem _) (List.getElem?_eq_getElem _);have:=of_decide_eq_true this;omega
  rw[QJ o m a];exact⟨rfl,f⟩
 ·exact absurd rfl (p _ a)
def Jm(I I':LF)(n:Int)(r:VF):Prop:=I'.length=I.length/\∀x,x∈I'↔x=(n,r)\/x∈I/\x.1≠n
def Us(I I':LF)(n:Int):Prop:=I'.length+1=I.length/\∀x,x∈I'↔x∈I/\x.1≠n
theorem ZlI(C:IB)(n:Int):(fun k=>if k=n then C n else C k)=C:=by
 funext k;split
 ·rename_i h;rw[h]
 ·rfl
theorem Zge(w:World)(tb c:Nat)(V:NV)(E:NS)(d:Value)(G:Gh)(I:LF)(C:IB)(h:TW w tb c V E d G I C)(m:I.length<=10000)(n:Int)(r:VF)(i:(n,r)∈I)(f:Int)(W:World)(g:Below w.heap.size w W):
  Calls Tryz.prog 228 #[.pointer (some ⟨tb,1,none⟩),.int .i64 n,.agg #[.slice r.a r.l r.c,.int .i64 f]] W fun e w'=>e = .returned (.tuple #[])/\((∃a,TW w' tb c V E d G a C/\Jm I a n ⟨r.a,r.l,r.c,f⟩)/\Fr (DM tb w) w w')/\∀k,k<W.heap.size->w.heap.size<=k->w'.heap[k]?=W.heap[k]? := by
 have b:=h.below g (Nat.le_refl _);refine(ZeA W tb c V E d G I C b m n r ⟨r.a,r.l,r.c,f⟩ i (C n) (b.dat _ i)).mono ?_;rintro e w' ⟨rfl,⟨a,j,p,q⟩,l⟩;rw[ZlI]at j;exact⟨rfl,⟨⟨a,j,p,q⟩,Fr.prog g (Fr.progI b l)⟩,fun k o aa=>l.block k o (fun e=>by
  rcases e with rfl|e
  ·have:=h.t.lt;omega
  ·have:=h.i.lt e;omega)⟩
theorem Zfa(w:World)(tb f:Nat)(V:NV)(E:NS)(g:Value)(G:Gh)(I:LF)(C:IB)(h:TW w tb f V E g G I C)(k:I.length<=10000)(n:Int)(r:VF)(l:(n,r)∈I)(aa:0<r.f)(ab:r.f<=10000):
  Calls Tryz.prog 197 #[.pointer (some ⟨tb,0,none⟩),.int .i64 n] w fun e w'=>e = .returned (.tuple #[])/\(∃s b,TW w' tb f V E s G b C/\((r.f=1/\Us I b n)\/(r.f≠1/\Jm I b n ⟨r.a,r.l,r.c,r.f-1⟩)))/\Fr (DM tb w) w w':=by
 have D:=KZ w tb f V E g G I C h k n r l;have J:Hid (∀W,Below w.heap.size w W->_):=fun W c=>Zge w tb f V E g G I C h k n r l (r.f-1) W c
 have t:=Db h;go_enter Tryz.func197,Tryz.ntmps197;go_wp2_with fail;refine D.mono ?_;rintro e w1 ⟨rfl,c⟩;clear D h;obtain⟨W,y,m,K,ac,z⟩:=De w1 [.slice r.a r.l r.c,.int .i64 (r.f-1)] 217;have i:Below w.heap.size w W:=c.trans (z.mono c.size);have A:=c.size;have u:=Db y;clear y K c z;go_upto_region 2 with fail;rw[Da u];have v:=m.cell 0;have x:=m.cell 1;clear m u;by_cases d:r.f=1
 ·have M:(r.f-1==0)=true:=by rw[d];rfl
  have B:=Zl2 W tb f V E g G I C ((Da t).below i (Nat.le_refl _)) k n r l;have H:=Db B;have j:=Db d;clear B d;go_wp2_with (first|(go_at_call 234;refine(Da H).mono ?_;rintro e O ⟨rfl,⟨s,b,o,p,q⟩,N⟩));refine bodyPost_ret (results_none rfl _ _ _) rfl ?_;exact⟨rfl,⟨s,b,o,.inl ⟨Da j,p,q⟩⟩,Fr.prog i (Fr.progI ((Da t).below i (Nat.le_refl _)) N)⟩
 ·have M:(r.f-1==0)=false:=by simp;omega
  have j:=Db d;clear d;go_upto_region 4 with fail
  go_region_held3 (fun W=>W.cell? ⟨w1.heap.size,0,none⟩=some (.slice r.a r.l r.c)/\W.cell? ⟨w1.heap.size,1,none⟩=some (.int .i64 (r.f-1))) (go_keep)
   (first|(go_at_call 228;refine(Da J _ i.drew).mono ?_;rintro e O ⟨rfl,L,F⟩;have m0:=(World.cell?_of_block (a:=⟨w1.heap.size,0,none⟩) (F _ (World.block_lt_of_cell? _ _ v) A)).trans v;have m1:=(World.cell?_of_block (a:=⟨w1.heap.size,1,none⟩) (F _ (World.block_lt_of_cell? _ _ x) A)).trans x))
  all_goals
   go_wp2
   go_end0
   obtain⟨⟨b,o,p⟩,q⟩:=L;exact⟨rfl,⟨g,b,o,.inr ⟨Da j,p⟩⟩,q⟩
def delG(G G':Gh)(ns:LY):Prop:=∀x,x∈G'↔x∈G/\x.1≠ns
def rmE(G:Gh)(p:By):Int:=if thE G p≠0 then thE G p else if Df p=[] then 7 else match atG G (Df p) with|some u=>if u.p.isSome=true/\0<G.countP (qIn (Df p)) then 7 else 0|none=>0
def FlOk(G:Gh)(I:LF):Prop:=∀x∈G,x.2.p=none->∃r,(x.2.f,r)∈I/\0<r.f/\r.f<=10000
def QW(w:World)(tb:Nat)(G:Gh)(I:LF)(C:IB)(p:By)(e:Ending)(w':World):Prop:=
 e = .returned (.int .i64 (rmE G p))/\Fr (DM tb w) w w'/\((rmE G p≠0/\PS w' tb G I C)\/(rmE G p=0/\∃u,atG G (Df p)=some u/\
  ((u.p.isSome=true/\∀G',delG G G' (Df p)->PS w' tb G' I C)\/
   (u.p=none/\∃r I',(u.f,r)∈I/\((r.f=1/\Us I I' u.f)\/(r.f≠1/\Jm I I' u.f ⟨r.a,r.l,r.c,r.f-1⟩))/\∀G',delG G G' (Df p)->PS w' tb G' I' C))))
theorem TW.congrG{w:World}{tb e:Nat}{V:NV}{E:NS}{l:Value}{G G':Gh}{I:LF}{C:IB}(h:TW w tb e V E l G I C)(j:∀x,x∈G'↔x∈G):TW w tb e V E l G' I C:=by
 have c:∀ns b,IsDir G' e ns b->IsDir G e ns b:=fun ns b d=>d.elim .inl (fun d => .inr ((j _).1 d))
 exact⟨h.pk,h.t,⟨fun x d=>h.d.shp x ((j x).1 d),fun ns b a=>h.d.row ns b (c ns b a),fun ns b a=>h.d.sl ns b (c ns b a),fun ns b a=>h.d.srt ns b (c ns b a),fun ns b a n u=>(h.d.en ns b (c ns b a) n u).trans (j _).symm,fun ns k b f i=>h.d.inj ns k b (c _ _ f) (c _ _ i),fun ns k b m g f i=>h.d.own ns k b m g (c _ _ f) (c _ _ i),fun ns b a=>h.d.lo ns b (c ns b a)⟩,h.i,h.si,h.dat,h.lo⟩
def JZ(G:Gh)(ns:LY):Gh:=G.filter (fun x=>decide (x.1≠ns))
theorem Qy(G:Gh)(ns:LY):delG G (JZ G ns) ns:=fun x=>by unfold JZ;rw[List.mem_filter,decide_eq_true_eq]
theorem SpotIs.in{G:Gh}{f:Nat}{ns:LY}{d:OA}{n:By}{u:VS}(h:SpotIs G f ns d n true u)(k:ns≠[]):∃b a,ns=b++[n]/\IsDir G f b a/\d=some ⟨a,0,none⟩/\atG G ns=some u:=by
 rcases h with⟨rfl,_⟩|⟨b,a,g,i,j,c,e⟩
 ·exact absurd rfl k
 ·refine⟨b,a,g,i,j,?_⟩
  cases ha:atG G ns with
  | none=>rw[ha]at c;cases c
  | some v=>rw[ha]at e;rw[e];rfl
theorem Zfi(w:World)(tb:Nat)(G:Gh)(I:LF)(C:IB)(h:PS w tb G I C)(D:GOk G)(ac:G.length<=10000)(aM:I.length<=10000)(av:FlOk G I)(p:By)(hp:p.size<=2000000):
  Calls Tryz.prog 127 #[.pointer (some ⟨tb,0,none⟩),.string p] w (QW w tb G I C p):=by
 obtain⟨B,V,E,J,h⟩:=h;have X:Hid (∀W,Below w.heap.size w W->rmE G p≠0->QW w tb G I C p (.returned (.int .i64 (rmE G p))) W):=fun W o j=>⟨rfl,Fr.of_below o,.inl ⟨j,B,V,E,J,h.below o (Nat.le_refl _)⟩⟩
 have aD:=Zeb w tb B V E J G I C h D ac p hp;have HH:=Db h;have aH:=Db av;clear av h;go_enter Tryz.func127,Tryz.ntmps127;go_wp2_with fail;refine aD.mono ?_;rintro e w1 ⟨aO,o⟩;clear aD;rcases aO with⟨j,rfl⟩|⟨he,aA,d,n,u,aC,rfl⟩
 ·have k:Hid (rmE G p=thE G p):=by show _=_;unfold rmE;rw[if_pos j]
  have aJ:=Db j;have aT:(thE G p != 0)=true:=by simpa using j
  clear j;unfold DD Dl;go_wp2;go_ret;have:=Da X _ (o.alloc o.size (.cells (DT none ⟨#[]⟩ false ⟨none,0⟩).toArray 262)) (by rw[Da k];exact Da aJ);rw[Da k]at this;exact this
 ·have aq:=Db aC;have al:=Db he;have aS:=Db aA;clear aC he aA;unfold Dl;go_upto_if 15 with fail;obtain⟨W,hW,q,hk,aU,ax⟩:=De w1 (DT d n true u) 262;have ae:Below w.heap.size w W:=o.trans (ax.mono o.size);rw[hW];clear hW hk;have Y:=q.cell 0;have Z:=q.cell 1;have a2:=q.cell 2;have a3:=q.cell 3;have a4:=q.cell 4;have aj:=fun W=>ZiN d n true u W
  unfold Dl at aj;have ap:=Db aj;clear aj;go_wp2_with fail;refine(Da ap _).mono ?_;rintro e w2 ⟨rfl,ad⟩;clear ap Y Z a2 a3 a4;have s:RowIs w2 w1.heap.size 262 _:=(ad.block _ q.lt).trans q;have F:Below w.heap.size w w2:=ae.trans (ad.mono ae.size);have Y:=s.cell 0;have Z:=s.cell 1;have a2:=s.cell 2;have a3:=s.cell 3;have a4:=s.cell 4;have g:=(Da HH).below F (Nat.le_refl _);have b:=Db g;clear o ax ae ad q g;by_cases j:Df p=[]
  ·have k:Hid (rmE G p=7):=by show _=_;unfold rmE;rw[if_neg (by rw[Da al];simp),if_pos j]
   obtain rfl:d=none:=by
    rcases Da aq with⟨_,M,_⟩|⟨f,a,M,_⟩
    ·exact M
    ·rw[j]at M;simp at M
   clear j;go_wp2;go_ret;have:=Da X w2 F (by rw[Da k];decide);rw[Da k]at this;exact this
  ·obtain⟨f,a,ai,v,rfl,N⟩:=(Da aq).in j;have P:=KT N;have az:(n,u)∈E a:=((Da b).d.en f a v n u).2 (by rw[<-ai];exact P);have k:Hid (rmE G p=if u.p.isSome=true/\0<G.countP (qIn (Df p)) then 7 else 0):=by show _=_;unfold rmE;rw[if_neg (by rw[Da al];simp),if_neg j,N]
   have aB:=(Da b).d.shp _ P;have ah:=ZhT w2 a n true u u (V a) (E a) ((Da b).d.row f a v) ((Da b).d.sl f a v) (Nat.le_trans ((Da b).d.le D v) ac) ((Da b).d.srt f a v) az;unfold Dl at ah;have U:=Db ah;have ao:=Db ai;have i:=Db v;have ak:=Db N;have an:=Db P;have aK:=Db aB;clear ah ai v N P aB az j;obtain⟨up,uf⟩:=u
   cases up with
   | none=>
    have m:Hid (rmE G p=0):=by show _=_;rw[Da k];simp
    obtain⟨r,af,aP,aQ⟩:=Da aH _ (Da an) rfl;simp only at af;have am:=Db af;clear af;go_wp2_with fail;refine(Da U).mono ?_;rintro e K ⟨rfl,v',aa,y,z,A,q4,Q,S,l⟩;have h3:TW K tb B (upd V a v') (upd E a aa) J (JZ G (Df p)) I C:=by
     have g:=Da b;exact TW.dirs g (g.d.row f a (Da i)) (g.d.sl f a (Da i)) l (g.d.del D (Da i) (n:=n) (fun x=>by rw[<-Da ao];exact Qy G _ x) y z A Q S l)
    have aI:Hid (Fr (DM tb w) w K):=Fr.prog F (Fr.progOne ((Da b).dlo (Da i)) ((Da b).d.row f a (Da i)) ((Da b).d.sl f a (Da i)) l);have aF:RowIs K w1.heap.size 262 _:=s.fr l (fun hX=>by
     rcases hX with e|e
     ·have:=(Da b).d.row f a (Da i);rw[<-e]at this;have:=this.type s;revert this;decide
     ·obtain⟨R,hR⟩:=((Da b).d.sl f a (Da i)).type e;have:=hR.type s;revert this;decide)
    clear Y Z a2 a3 a4 U y z A q4 Q S l;have b3:=aF.cell 3;have b4:=aF.cell 4;have aE:=Zfa K tb B (upd V a v') (upd E a aa) J (JZ G (Df p)) I C h3 aM uf r (Da am) aP aQ;have ar:=Db aE;clear aE h3;go_wp2_with fail;refine(Da ar).mono ?_;rintro e w4 ⟨rfl,⟨aR,I',y,z⟩,A⟩;have aG:Hid (QW w tb G I C p (.returned (.int .i64 0)) w4):=
     ⟨by rw[Da m],(Da aI).progTrans A,.inr ⟨Da m,⟨none,uf⟩,Da ak,.inr ⟨rfl,r,I',Da am,z,fun G' ab=>⟨B,_,_,aR,y.congrG (fun x=>(ab x).trans (Qy G _ x).symm)⟩⟩⟩⟩
    clear ar y z A;go_wp2;go_ret;exact Da aG
   | some au=>
    rcases Da aK with L|⟨t,aw⟩
    ·simp at L
    ·simp only[VS.mk.injEq,Option.some.injEq]at aw;obtain⟨rfl,rfl⟩:=aw;have O:IsDir G B (Df p) t := .inr (Da an);have ag:=lenS w2 t 0 (V t) (E t).length (Dn (E t)) (((Da b).d.row _ t O).cell 0) ((Da b).d.sl _ t O);have hc:=(Da b).d.len D O;rw[hc]at ag;have T:=Db ag;have aN:G.countP (qIn (Df p))<=10000:=Nat.le_trans List.countP_le_length ac;obtain⟨c,ay⟩:∃c,c=G.countP (qIn (Df p)):=⟨_,rfl⟩;rw[<-ay]at T k aN;clear ag hc ay O;by_cases L:0<c
     ·have m:Hid (rmE G p=7):=by show _=_;rw[Da k,if_pos ⟨rfl,L⟩]
      have aL:(0:Int)<(c:Int):=by omega
      go_wp2_with (first|(go_at_call 178;refine(Da T).mono ?_;rintro e w' ⟨rfl,H⟩;rw[H];clear H));go_ret;have:=Da X w2 F (by rw[Da m];decide);rw[Da m]at this;exact this
     ·have m:Hid (rmE G p=0):=by show _=_;rw[Da k,if_neg (fun h=>L h.2)]
      have aL:¬(0:Int)<(c:Int):=by omega
      go_wp2_with (first|(go_at_call 178;refine(Da T).mono ?_;rintro e w' ⟨rfl,H⟩;rw[H];clear H)|(go_at_call 196;refine(Da U).mono ?_;rintro e K ⟨rfl,v',aa,y,z,A,q4,Q,S,l⟩));go_ret;have g:=Da b;refine⟨by rw[Da m];rfl,Fr.prog F (Fr.progOne (g.dlo (Da i)) (g.d.row f a (Da i)) (g.d.sl f a (Da i)) l),.inr ⟨Da m,_,Da ak,.inl ⟨rfl,fun G' ab=>⟨B,_,_,J,TW.dirs g (g.d.row f a (Da i)) (g.d.sl f a (Da i)) l (g.d.del D (Da i) (n:=n) (fun x=>by rw[<-Da ao];exact ab x) y z A Q S l)⟩⟩⟩⟩
def K4(G:Gh)(ds:LY):Bool:=decide (G.countP (qIn ds)<20/\G.length<100)
def lnE(G:Gh)(p q:By):Int:=if DQ q=false then 1 else if DH G p true≠0 then DH G p true else if Jj G (Df q)≠0 then Jj G (Df q) else if K4 G (Df q).dropLast=false then 8 else 0
def QU(w:World)(tb:Nat)(G:Gh)(I:LF)(C:IB)(p q:By)(e:Ending)(w':World):Prop:=
 e = .returned (.int .i64 (lnE G p q))/\Fr (DM tb w) w w'/\((lnE G p q≠0/\PS w' tb G I C)\/(lnE G p q=0/\∃u r I',atG G (Df p)=some u/\u.p=none/\(u.f,r)∈I/\Jm I I' u.f ⟨r.a,r.l,r.c,r.f+1⟩/\PS w' tb (G++[(Df q,⟨none,u.f⟩)]) I' C))
theorem Zfp{p:By}(e:DQ p=true){d:LY}{n:By}(c:Df p=d++[n]):n.size<=2000000:=by
 cases hr:(p.toList==[47]) with
 | true=>have a:=Ui hr;rw[c]at a;simp at a
 | false=>
  have b:=(Uq e hr).2.1 n (by rw[c];simp);simp only[DP,Bool.and_eq_true,decide_eq_true_eq]at b;have:=b.1.2;omega
theorem FlOk.mono{G:Gh}{I:LF}(h:FlOk G I){u:VS}{ns:LY}(a:atG G ns=some u)(b:u.p=none):∃r,(u.f,r)∈I/\0<r.f/\r.f<=10000:=h _ (KT a) b
theorem Zjx(w:World)(tb g:Nat)(V:NV)(E:NS)(j:Value)(G:Gh)(I:LF)(C:IB)(h:TW w tb g V E j G I C)(i:GOk G)(k:G.length<=10000)(_hIl:I.length<=10000)(b:LY)(a:Nat)(c:IsDir G g b a)(n:By)(m:n.size<=2000000)(l:atG G (b++[n])=none)(f:Int):
  Calls Tryz.prog 183 #[Dl (some ⟨a,0,none⟩) n false ⟨none,0⟩,.agg #[.pointer none,.int .i64 f]] w fun e w'=>e = .returned (.tuple #[])/\∃V' E',TW w' tb g V' E' j (G++[(b++[n],⟨none,f⟩)]) I C/\Fr (DM tb w) w w':=by
 refine(Zh8 w a n m false ⟨none,0⟩ ⟨none,f⟩ (V a) (E a) (h.d.row b a c) (h.d.sl b a c) (Nat.le_trans (h.d.le i c) k) (h.d.srt b a c) (fun x o e=>by
  have:=(h.d.en b a c x.1 x.2).1 o;rw[e]at this;exact Ud l _ this)).mono ?_
 rintro e w' ⟨rfl,v',aa,p,q,r,q4,s,t,d⟩;exact⟨rfl,_,_,TW.dirs h (h.d.row b a c) (h.d.sl b a c) d (h.d.addFile i c p q r s t d),Fr.progOne (h.dlo c) (h.d.row b a c) (h.d.sl b a c) d⟩
theorem ZgT(w:World)(tb d:Nat)(V:NV)(E:NS)(g:Value)(G:Gh)(I:LF)(C:IB)(h:TW w tb d V E g G I C)(P:GOk G)(Q:G.length<=10000)(x:I.length<=10000)(b:LY)(l:Nat)(B:IsDir G d b l)(n:By)(hn:n.size<=2000000)(T:atG G (b++[n])=none)(f:Int)(r:VF)(F:(f,r)∈I)(am:0<=r.f)(an:r.f<=10000):
  Calls Tryz.prog 192 #[.pointer (some ⟨tb,0,none⟩),Dl (some ⟨l,0,none⟩) n false ⟨none,0⟩,.int .i64 f] w fun e w'=>(K4 G b=false/\e = .returned (.int .i64 8)/\Below w.heap.size w w')\/
   (K4 G b=true/\e = .returned (.int .i64 0)/\Fr (DM tb w) w w'/\∃u t c,TW w' tb d u t g (G++[(b++[n],⟨none,f⟩)]) c C/\Jm I c f ⟨r.a,r.l,r.c,r.f+1⟩):=by
 unfold Dl;obtain⟨W,R,o,hk,ao,p⟩:=De w (DT (some ⟨l,0,none⟩) n false ⟨none,0⟩) 262;have ab:=ZeE W tb d V E g G I C (h.below p (Nat.le_refl _)) P Q b l B;have N:Hid (∀X,Below w.heap.size w X->Calls Tryz.prog 175 #[.pointer (some ⟨tb,1,none⟩),.int .i64 f] X fun e w'=>e = .returned (.tuple #[.agg #[.slice r.a r.l r.c,.int .i64 r.f],.bool true])/\Below X.heap.size X w'):=fun X y=>KZ X tb d V E g G I C (h.below y (Nat.le_refl _)) x f r F
 have ag:Hid (∀X,Below w.heap.size w X->_):=fun X y=>Zge w tb d V E g G I C h x f r F (r.f+1) X y
 have af:Hid (∀(X:World) (c:LF),TW X tb d V E g G c C->_):=fun X c hX=>Zjx X tb d V E g G c C hX P Q
 have ae:=Db B;have ad:=Db T;have HI:=Db x;have O:=Db R;have al:=o.lt;clear R hk h B T F;go_enter Tryz.func192,Tryz.ntmps192;go_upto_region 1 with fail;rw[Da O];clear O;have k:=o.cell 0;go_wp2_with fail;refine ab.mono ?_;rintro e L ⟨rfl,z⟩;have H:RowIs L w.heap.size 262 _:=(z.block _ o.lt).trans o;have m:Below w.heap.size w L:=p.trans (z.mono p.size);clear ab k o al;rw[show decide (G.countP (qIn b)<20/\G.length<100)=K4 G b from rfl]
 cases hmb:K4 G b with
 | false=>
  go_wp2;go_ret;exact .inl ⟨hmb,rfl,m⟩
 | true=>
  have Z:=Da N L m;go_wp2_with fail;refine Z.mono ?_;rintro e i ⟨rfl,A⟩;have ac:RowIs i w.heap.size 262 _:=(A.block _ H.lt).trans H;have q:Below w.heap.size w i:=m.trans (A.mono m.size);clear Z N;obtain⟨W6,S,J,aa,ap,U⟩:=De i [.slice r.a r.l r.c,.int .i64 (r.f+1)] 217;have K:=aa _ _ _ ac;have ai:Below w.heap.size w W6:=q.trans (U.mono q.size);go_upto_region 5 with fail;try rw[S]
  have k:=J.cell 0;have v:=J.cell 1;have Y:=q.size;have ah:=Db K;have ak:=K.lt;clear S aa J ac H U A z m q p K
  go_region_held3 (fun W=>W.cell? ⟨i.heap.size,0,none⟩=some (.slice r.a r.l r.c)/\W.cell? ⟨i.heap.size,1,none⟩=some (.int .i64 (r.f+1))) (go_keep)
   (first|(go_at_call 228;refine(Da ag _ ai.drew).mono ?_;rintro e w7 ⟨rfl,⟨⟨c,q1,q2⟩,q3⟩,s⟩;have m0:=(World.cell?_of_block (a:=⟨i.heap.size,0,none⟩) (s _ (World.block_lt_of_cell? _ _ k) Y)).trans k;have m1:=(World.cell?_of_block (a:=⟨i.heap.size,1,none⟩) (s _ (World.block_lt_of_cell? _ _ v) Y)).trans v))
  all_goals
   have j:RowIs w7 w.heap.size 262 _:=(s _ ak (Nat.le_refl _)).trans (Da ah);have D:=Da af w7 c q1 (by rw[q2.1];exact Da HI) b l (Da ae) n hn (Da ad) f;unfold Dl at D;have b0:=j.cell 0;have b1:=j.cell 1;have b2:=j.cell 2;have b3:=j.cell 3;have b4:=j.cell 4;have M:=Db D;clear D k v m0 m1 s j;go_wp2_with fail;refine(Da M).mono ?_;rintro e w8 ⟨rfl,u,t,h8,aj⟩;clear M b0 b1 b2 b3 b4;go_wp2;go_ret;exact .inr ⟨hmb,rfl,q3.progTrans aj,u,t,c,h8,q2⟩
theorem Zj8(w:World)(tb:Nat)(G:Gh)(I:LF)(C:IB)(h:PS w tb G I C)(Z:GOk G)(aa:G.length<=10000)(aJ:I.length<=10000)(an:FlOk G I)(p q:By)(hp:p.size<=2000000)(hq:q.size<=2000000):
  Calls Tryz.prog 125 #[.pointer (some ⟨tb,0,none⟩),.string p,.string q] w (QU w tb G I C p q):=by
 obtain⟨H,V,E,J,h⟩:=h;have o:Hid (∀W,Below w.heap.size w W->lnE G p q≠0->QU w tb G I C p q (.returned (.int .i64 (lnE G p q))) W):=fun W l f=>⟨rfl,Fr.of_below l,.inl ⟨f,H,V,E,J,h.below l (Nat.le_refl _)⟩⟩
 have aw:=Zki w tb H V E J G I C h Z aa p q hp hq;have HH:=Db h;have aF:=Db an;clear an h;go_enter Tryz.func125,Tryz.ntmps125;go_wp2_with fail;refine aw.mono ?_;rintro e w1 ⟨ag,l⟩;clear aw;rcases ag with⟨hn,rfl⟩|⟨O,a,c,ab,⟨f,rfl⟩|⟨he,aP,d,n,t,u,ah,rfl⟩⟩
 ·have b:Hid (lnE G p q=1):=by show _=_;unfold lnE;rw[if_pos hn]
  clear hn;unfold DD Dl;go_wp2;go_ret;have:=Da o _ (l.alloc l.size (.cells (DT none ⟨#[]⟩ false ⟨none,0⟩).toArray 262)) (by rw[Da b];decide);rw[Da b]at this;exact this
 ·have b:Hid (lnE G p q=DJ G p true):=by
   show _=_;have:DH G p true=DJ G p true:=by unfold DH;rw[if_pos f]
   unfold lnE;rw[if_neg (by rw[O];simp),this,if_pos f]
  have Q:=Db f;have aO:(DJ G p true != 0)=true:=by simpa using f
  obtain⟨F,v⟩:∃F,F=(Df q).length:=⟨_,rfl⟩;rw[<-v];clear f O ab v;unfold DD Dl;go_wp2;go_ret;have:=Da o _ (l.alloc l.size (.cells (DT none ⟨#[]⟩ false ⟨none,0⟩).toArray 262)) (by rw[Da b];exact Da Q);rw[Da b]at this;exact this
 ·have aS:=Db ah;have P:=Db he;have K:=Db O;have aH:=Db ab;obtain⟨F,v⟩:∃F,F=(Df q).length:=⟨_,rfl⟩;have aG:=Db v;rw[<-v];have ax:=fun W=>ZdP d n t u W
  have aj:=Db ax;have aR:=ZhE ah;clear ah he O v ab ax aP;unfold Dl;obtain⟨W,hW,x,B,aU,ac⟩:=De w1 (DT d n t u) 262;have ar:Below w.heap.size w W:=l.trans (ac.mono l.size);have aC:=Db ac;have HW:=Db hW;clear hW B ac;go_upto_if 21 with fail;rw[Da HW];clear HW;have S:=x.cell 0;have T:=x.cell 1;have U:=x.cell 2;have X:=x.cell 3;have Y:=x.cell 4;go_wp2_with fail;refine(Da aj _).mono ?_;rintro e w2 ⟨rfl,aq⟩;have A:Below w.heap.size w w2:=ar.trans (aq.mono ar.size);have aI:Hid (Sl w2 9 1 (.slice a (Df q).length c) (Df q).length ((Df q).map .string)):=((Da aH).kept (fun k B _=>(Da aC).block k B)).kept (fun k B _=>aq.block k B);clear aj S T U X Y x;have ai:Hid (DH G p true≠0->lnE G p q=DH G p true):=fun f=>by unfold lnE;rw[if_neg (by rw[Da K];simp),if_pos f]
  rcases aR with⟨rfl,g,i⟩|⟨rfl,g,i⟩|⟨rfl,g,i,s⟩
  ·have j:DH G p true=3:=by unfold DH;rw[if_neg (by rw[Da P];simp),if_neg g,i]
   have b:Hid (lnE G p q=3):=by show _=_;rw[Da ai (by rw[j];decide),j]
   clear j g i;rw[if_pos rfl];go_wp2;go_ret;have:=Da o _ A (by rw[Da b];decide);rw[Da b]at this;exact this
  ·have j:DH G p true=5:=by
    unfold DH;rw[if_neg (by rw[Da P];simp)];rcases i with i|⟨i,s⟩
    ·rw[if_pos i]
    ·rw[if_neg i,s];simp[g]
   have b:Hid (lnE G p q=5):=by show _=_;rw[Da ai (by rw[j];decide),j]
   rw[if_neg (by simp),if_pos g];clear j g i;go_wp2;go_ret;have:=Da o _ A (by rw[Da b];decide);rw[Da b]at this;exact this
  ·have j:DH G p true=0:=by unfold DH;rw[if_neg (by rw[Da P];simp),if_neg i,s];simp[g]
   have b:Hid (lnE G p q=if Jj G (Df q)≠0 then Jj G (Df q) else if K4 G (Df q).dropLast=false then 8 else 0):=by show _=_;unfold lnE;rw[if_neg (by rw[Da K];simp),if_neg (by rw[j];simp)]
   rw[if_neg (by simp),if_neg (by rw[g];simp)];have aA:=Db s;have HU:=Db g;obtain⟨r,az,aT,aQ⟩:=FlOk.mono (Da aF) s g;have ak:=Db az;have ad:=ZjF w2 tb H V E J G I C ((Da HH).below A (Nat.le_refl _)) Z aa (Df q) (ZdK (Da K)) a c (Da aI);rw[<-Da aG]at ad;clear j g i s az;go_wp2_with fail;refine ad.mono ?_;rintro e w3 ⟨ag,aK⟩;have M:Below w.heap.size w w3:=A.trans (aK.mono A.size);clear ad;rcases ag with⟨f,rfl⟩|⟨ay,ds,m,db,af,au,ap,rfl⟩
   ·have y:Hid (lnE G p q=Jj G (Df q)):=by show _=_;rw[Da b,if_pos f]
    have Q:=Db f;have aO:(Jj G (Df q) != 0)=true:=by simpa using f
    clear f;unfold DD Dl;go_wp2;go_ret;have:=Da o _ (M.alloc M.size (.cells (DT none ⟨#[]⟩ false ⟨none,0⟩).toArray 262)) (by rw[Da y];exact Da Q);rw[Da y]at this;exact this
   ·have y:Hid (lnE G p q=if K4 G ds=false then 8 else 0):=by show _=_;rw[Da b,if_neg (by rw[ay];simp),af,List.dropLast_concat]
    have R:=Db af;have aD:=Db au;have aB:=Db ap;clear ay af au ap;unfold Dl;obtain⟨W3,ao,D,aN,aV,aM⟩:=De w3 (DT (some ⟨db,0,none⟩) m false ⟨none,0⟩) 262;have L:Below w.heap.size w W3:=M.trans (aM.mono M.size);have ae:=ZgT W3 tb H V E J G I C ((Da HH).below L (Nat.le_refl _)) Z aa aJ ds db (Da aD) m (Zfp (Da K) (Da R)) (by rw[<-Da R];exact Da aB) u.f r (Da ak) (by omega) aQ;unfold Dl at ae;have al:=Db ae;have am:=Db ao;clear ao aN ae;go_upto_if 38 with fail;rw[Da am];clear am;have S:=D.cell 0;have T:=D.cell 1;have U:=D.cell 2;have X:=D.cell 3;have Y:=D.cell 4;go_wp2_with fail;refine(Da al).mono ?_;rintro e w6 hq;clear al S T U X Y;rcases hq with⟨N,rfl,aL⟩|⟨N,rfl,av,V',E',I',q1,q2⟩
    ·have z:Hid (lnE G p q=8):=by show _=_;rw[Da y,N];rfl
     go_wp2;go_ret;have:=Da o w6 (L.trans (aL.mono L.size)) (by rw[Da z];decide);rw[Da z]at this;exact this
    ·have z:Hid (lnE G p q=0):=by show _=_;rw[Da y,N];rfl
     have aE:Hid (QU w tb G I C p q (.returned (.int .i64 0)) w6):=
      ⟨by rw[Da z],Fr.prog L av,.inr ⟨Da z,u,r,I',Da aA,Da HU,Da ak,q2,by rw[Da R];exact⟨H,V',E',J,q1⟩⟩⟩
     clear q1 q2 av N;go_wp2;go_ret;exact Da aE
theorem Dg(s:By):(Dc s).length=s.size:=by unfold Dc;rw[List.length_map];exact Array.length_toList
theorem Kc(s:By):∀u∈Dc s,u.oneCell'=true:=fun u a=>by
 unfold Dc at a;obtain⟨b,_,rfl⟩:=List.mem_map.1 a
 rfl
def RdB(w:World)(a:OA)(l c:Nat)(s:By):Prop:=l=s.size/\(a=none->c=0)/\∀j v,(Dc s)[j]?=some v->∃x,a=some x/\w.cell? (x.add j)=some v
theorem RdB.below{w w':World}{a:OA}{l c:Nat}{s:By}(h:RdB w a l c s)(d:Below w.heap.size w w'):RdB w' a l c s:=
 ⟨h.1,h.2.1,fun j v f=>by
  obtain⟨x,e,b⟩:=h.2.2 j v f;exact⟨x,e,(d.cell (p:=x.add j) (World.block_lt_of_cell? _ _ b)).trans b⟩⟩
theorem Sl.rdB{w:World}{a:OA}{l c:Nat}{s:By}(h:Sl w 5 1 (.slice a l c) l (Dc s)):RdB w a l c s:=by
 refine⟨by have:=h.1;rw[Dg]at this;omega,fun e=>?_,fun j v b=>?_⟩
 ·subst e;rcases h.2 with⟨e,_⟩|⟨g,f,L,e,_⟩
  ·cases e;rfl
  ·cases e
 ·rcases h.2 with⟨e,i⟩|⟨g,f,L,e,k,_,_,_,m⟩
  ·have d:=h.1;rw[i]at d;have:Dc s=[]:=List.eq_nil_of_length_eq_zero (by simpa using d);rw[this]at b;simp at b
  ·cases e
   refine⟨_,rfl,?_⟩;rw[Addr.add_lit,Nat.zero_add,k.cell];rw[<-m,List.getElem?_take]at b
   split at b
   ·exact b
   ·cases b
theorem QS:(Tryz.prog.info? 5).map (·.size)=some 1:=by kernel_rfl
theorem Zg3(w:World)(g n c:Nat):(Builtin.copy_ #[59,59] 3 #[.slice (some ⟨g,0,none⟩) n c,.slice none 0 0]).run Tryz.prog w = .ok (goInt 0) w:=by
 obtain⟨i0,a,aa,ab,ac⟩:=info_parts Ku;simp[Builtin.copy_,run_underlying Tryz.underlying59,Builtin.lenOf,sizeOf,typeInfo,a,Builtin.firstCells,storeCells]
theorem Ju(a b:By):Dc (a++b)=Dc a++Dc b:=by unfold Dc;rw[ByteArray.data_append,Array.toList_append,List.map_append]
theorem Jn(s:By)(i j:Nat):Dc (s.extract i j)=((Dc s).drop i).take (j-i):=by
 unfold Dc;rw[Lib.extract_data];simp[List.map_drop,List.map_take]
theorem Kr(n:Nat):Dc ⟨(List.replicate n 0).toArray⟩=List.replicate n (.int .u8 0):=by unfold Dc;simp
theorem ZcJ(w:World)(a:OA)(l c:Nat)(s:By)(h:RdB w a l c s)(_hs:s.size<=2000000)(n:Nat)(hn:n<=2000000):
  Calls Tryz.prog 176 #[.slice a l c,.int .i64 n] w fun e w'=>∃x,e = .returned (.slice (some ⟨x,0,none⟩) n n)/\w.heap.size<=x/\Sl w' 5 1 (.slice (some ⟨x,0,none⟩) n n) n (Dc (Di s n))/\Below w.heap.size w w':=by
 obtain⟨i0,N,X,Y,Z⟩:=info_parts Ku;have r:∀W:World,W.ownsRow 0 5 1 (.slice (some ⟨w.heap.size,0,none⟩) n n) n (madeCells (Value.int .u8 0).cells (n*1)).toList->w.grownBy W none->∃b k,(Builtin.copy_ #[59,59] 3 #[.slice (some ⟨w.heap.size,0,none⟩) n n,.slice a l c]).run Tryz.prog W = .ok (goInt k) b/\Hid (Sl b 5 1 (.slice (some ⟨w.heap.size,0,none⟩) n n) n (Dc (Di s n))/\Below w.heap.size w b):=by
  intro W H K;have i:=Sl.of_owns H;have f:=KJ K;have B:(madeCells (Value.int .u8 0).cells (n*1)).toList=List.replicate n (.int .u8 0):=by rw[Nat.mul_one];exact toList_madeCells_one (.int .u8 0) n
  rw[B]at i;have S:=h.below f
  cases a with
  | none=>
   have q:s.size=0:=by
    rcases Nat.eq_zero_or_pos s.size with e|e
    ·exact e
    ·obtain⟨x,U,_⟩:=h.2.2 0 ((Dc s)[0]'(by rw[Dg];exact e)) (List.getElem?_eq_getElem _)
     cases U
   have O:l=0:=by rw[h.1,q]
   have I:=h.2.1 rfl;subst O I;refine⟨W,0,Zg3 W _ _ _,?_,f⟩;have:Dc (Di s n)=List.replicate n (.int .u8 0):=by
    have T:s=⟨#[]⟩:=by
     apply WideShapes.bytes_inj;have:s.data.toList.length=0:=by rw[<-q];exact Array.length_toList
     rw[List.eq_nil_of_length_eq_zero this]
    unfold Di;by_cases t:n<=s.size
    ·rw[if_pos t];have:n=0:=by omega
     subst this;rw[Jn];simp
    ·rw[if_neg t,Ju,Kr,q,T];simp[Dc]
   rw[this];exact i
  | some x=>
   rcases i.2 with⟨e,_⟩|⟨g,aa,L,e,G,h1,C,D,E⟩
   ·cases e
   ·cases e
    have F:L=List.replicate n (.int .u8 0):=by
     rw[<-E,List.take_of_length_le (by omega)]
    have m:((Dc s).take (Nat.min l n)).length=Nat.min l n*1:=by
     rw[List.length_take,Dg,h.1,Nat.mul_one];exact Nat.min_eq_left (Nat.min_le_left _ _)
    obtain⟨b,q1,u,q3⟩:=JK (P:=Tryz.prog) W 59 59 3 5 1 w.heap.size 0 n n x l c L 5 ((Dc s).take (Nat.min l n)) Tryz.underlying59 QS G m
     (fun j v d=>by
      rw[List.getElem?_take]at d
      split at d
      ·obtain⟨y,e,V⟩:=S.2.2 j v d;cases e;exact V
      ·cases d) (by rw[m,D];have:Nat.min l n<=n:=Nat.min_le_right _ _;omega) (fun v d=>Kc s v (List.mem_of_mem_take d))
    refine⟨b,_,q1,?_,?_⟩
    ·have J:spl L 0 ((Dc s).take (Nat.min l n))=Dc (Di s n):=by
      unfold spl;rw[m,F,List.take_zero,List.nil_append,Nat.zero_add,Nat.mul_one,List.drop_replicate];unfold Di;by_cases p:n<=s.size
      ·have o:Nat.min l n=n:=by rw[h.1];exact Nat.min_eq_right p
       rw[if_pos p,Jn,o];simp
      ·have o:Nat.min l n=s.size:=by rw[h.1];exact Nat.min_eq_left (by omega)
       rw[if_neg p,Ju,Kr,o,List.take_of_length_le (by rw[Dg];exact Nat.le_refl _)]
     rw[J]at u;refine⟨by rw[Dg,Jc];omega,.inr ⟨w.heap.size,n,_,rfl,u,Nat.le_refl _,C,by rw[Dg,Jc];omega,by rw[List.take_of_length_le (by rw[Dg,Jc];omega)]⟩⟩
    ·exact f.grown q3 f.size (fun k e=>by cases e;exact Nat.le_refl _)
 have z:=Db r;clear r;go_enter Tryz.func176,Tryz.ntmps176;go_wp2_with (first|(at_make;refine wpList_make_full _ rfl _ _ 59 rfl 0 5 i0 (.int .u8 0) 1 Tryz.underlying59 N X Y _ _ _ _ n rfl rfl rfl rfl (by rw[Z];omega) (by unfold maxLen;omega) (Nat.zero_le _) ?_;intro w1 Q M;obtain⟨b,k,R,A⟩:=Da z w1 Q M)|(at_builtin;refine D6 _ rfl _ _ 59 59 rfl _ _ rfl rfl R ?_));go_ret;obtain⟨p1,p2⟩:=Da (Da A);exact⟨w.heap.size,rfl,Nat.le_refl _,p1,p2⟩
theorem Zgj(s:By)(n:Nat):Dc (Di s n)=(Dc s++List.replicate n (Value.int .u8 0)).take n:=by
 unfold Di;by_cases h:n<=s.size
 ·rw[if_pos h,Jn,List.take_append_of_le_length (by rw[Dg];exact h)];simp
 ·rw[if_neg h,Ju,Kr,List.take_append,List.take_of_length_le (by rw[Dg];omega),Dg,List.take_replicate,Nat.min_eq_left (by omega)]
theorem Zlb(s d:By)(i M:Nat)(hM:M=max s.size (i+d.size)):spl (Dc (Di s M)) i (Dc d)=Dc (wrR s i d):=by
 unfold spl wrR;rw[Ju,Ju,Zgj,Zgj,Dg];have c:((Dc s++List.replicate M (Value.int .u8 0)).take M).take i=(Dc s++List.replicate i (Value.int .u8 0)).take i:=by
  rw[List.take_take,Nat.min_eq_left (by omega)];rw[List.take_append,List.take_append,List.take_replicate,List.take_replicate]
  congr 2
  omega
 rw[c]
 congr 1
 by_cases b:i+d.size<s.size
 ·rw[if_pos b];have a:M=s.size:=by omega
  rw[a,List.take_append_of_le_length (by rw[Dg];exact Nat.le_refl _),List.take_of_length_le (by rw[Dg];exact Nat.le_refl _),Jn];rw[List.take_of_length_le (by rw[List.length_drop,Dg];exact Nat.le_refl _)]
 ·rw[if_neg b];have a:M=i+d.size:=by omega
  rw[a,List.drop_take];simp[Dc]
theorem ZkF(s:By)(m:Nat)(d:By):(wrR s m d).size=max (m+d.size) s.size:=Q4 s m d
theorem ZgP(w:World)(a:OA)(l c:Nat)(s:By)(h:RdB w a l c s)(hs:s.size<=1280)(i:Nat)(o:OA)(G p:Nat)(d:By)(Y:RdB w o G p d)(hi:i+d.size<=1280):
  Calls Tryz.prog 187 #[.slice a l c,.int .i64 i,.slice o G p] w fun e w'=>((d.size=0/\e = .returned (.slice a l c))\/(0<d.size/\∃x m,e = .returned (.slice (some ⟨x,0,none⟩) m m)/\w.heap.size<=x/\Sl w' 5 1 (.slice (some ⟨x,0,none⟩) m m) m (Dc (wrR s i d))))/\Below w.heap.size w w':=by
 obtain⟨aa,X,E⟩:=h;obtain⟨Z,V,q⟩:=Y;subst aa Z;have N:Hid (RdB w a s.size c s):=⟨rfl,X,E⟩;have K:Hid (RdB w o d.size p d):=⟨rfl,V,q⟩;clear E q;by_cases f:d.size=0
 ·have O:((d.size:Int)==0)=true:=by rw[f];rfl
  have t:=Db f;clear f;go_enter Tryz.func187,Tryz.ntmps187;go_wp2;go_ret;exact⟨.inl ⟨Da t,rfl⟩,Below.refl _ _⟩
 ·have O:((d.size:Int)==0)=false:=by simpa using f
  obtain⟨M,B⟩:∃M,M=max s.size (i+d.size):=⟨_,rfl⟩;have n:=Db B;have I:Hid (max (s.size:Int) ((i:Int)+(d.size:Int))=(M:Int)):=by show _=_;omega
  have D:=ZcJ w a s.size c s (Da N) (by omega) M (by omega);have A:=Db D;have ah:i<M:=by omega
  have ag:M<=2000000:=by omega
  clear D B;go_enter Tryz.func187,Tryz.ntmps187;go_wp2_with fail;rw[Da I];refine(Da A).mono ?_;rintro e w1 ⟨x,rfl,F,C,r⟩;have W:∃b k,(Builtin.copy_ #[59,59] 3 #[.slice (some ⟨x,i,none⟩) (M-i) (M-i),.slice o d.size p]).run Tryz.prog w1 = .ok (goInt k) b/\Hid (Sl b 5 1 (.slice (some ⟨x,0,none⟩) M M) M (Dc (wrR s i d))/\Below w.heap.size w b):=by
   have q:=(Da K).below r
   cases o with
   | none=>
    exfalso;have ac:0<d.size:=by omega
    obtain⟨y,hy,_⟩:=q.2.2 0 ((Dc d)[0]'(by rw[Dg];exact ac)) (List.getElem?_eq_getElem _)
    cases hy
   | some y=>
    rcases C.2 with⟨e,_⟩|⟨g,af,L,e,U,h1,Q,R,S⟩
    ·cases e
    ·cases e
     have T:L=Dc (Di s M):=by rw[<-S,List.take_of_length_le (by omega)]
     have ab:Nat.min d.size (M-i)=d.size:=Nat.min_eq_left (by have:=Da n;omega);obtain⟨b,q1,H,q3⟩:=JK (P:=Tryz.prog) w1 59 59 3 5 1 x i (M-i) (M-i) y d.size p L 5 (Dc d) Tryz.underlying59 QS U (by rw[Dg,ab,Nat.mul_one])
      (fun j v hv=>by obtain⟨z,e,hz⟩:=q.2.2 j v hv;cases e;exact hz) (by rw[Dg,R];have:=Da n;omega) (Kc d)
     refine⟨b,_,q1,?_,r.grown q3 r.size (fun k e=>by cases e;exact F)⟩;rw[T,Zlb s d i M (Da n)]at H;have u:(Dc (wrR s i d)).length=M:=by rw[Dg,ZkF,Da n];omega
     exact⟨by rw[u];omega,.inr ⟨x,M,_,rfl,H,Nat.le_refl _,Q,by rw[u];omega,by rw[List.take_of_length_le (by rw[u];omega)]⟩⟩
  obtain⟨b,k,ae,J⟩:=W;have t:=Db f;clear C r A n f;go_wp2_with (first|(at_builtin;refine D6 _ rfl _ _ 59 59 rfl _ _ rfl rfl ae ?_));go_ret;obtain⟨p1,p2⟩:=Da (Da J);exact⟨.inr ⟨Nat.pos_of_ne_zero (Da t),x,M,rfl,F,p1⟩,p2⟩
end Go.Proofs.YtaieidcohdhgpaaGreatDoor
