/- Dumps. -/
import Derived.Test.YtaieidcohdhgpaaGreatDoorZAE
import Derived.Deep.DeepCutAuto
import Derived.Deep.RegionHeld3
namespace Go.Proofs.YtaieidcohdhgpaaGreatDoor
set_option maxHeartbeats 40000000
set_option maxRecDepth 100000
open Go.RowKit
structure Fr(X:Nat->Prop)(w w':World):Prop where
 os:w'.os=w.os
 tape:w'.tape=w.tape
 output:w'.output=w.output
 size:w.heap.size<=w'.heap.size
 block:∀k,k<w.heap.size->¬X k->w'.heap[k]?=w.heap[k]?
theorem Fr.refl(X:Nat->Prop)(w:World):Fr X w w:=⟨rfl,rfl,rfl,Aa _,fun _ _ _=>rfl⟩
theorem Fr.of_below{X:Nat->Prop}{w w':World}(h:Bw w w'):Fr X w w':=⟨h.os,h.tape,h.output,h.size,fun k a _=>h.block k a⟩
theorem Fr.mono{X Y:Nat->Prop}{w w':World}(h:Fr X w w')(b:∀k,k<w.heap.size->X k->Y k):Fr Y w w':=⟨h.os,h.tape,h.output,h.size,fun k a c=>h.block k a (fun e=>c (b k a e))⟩
theorem Fr.trans{X:Nat->Prop}{a b c:World}(h:Fr X a b)(k:Fr X b c):Fr X a c:=
 ⟨k.os.trans h.os,k.tape.trans h.tape,k.output.trans h.output,Ae h.size k.size,fun i d e=>(k.block i (Ao d h.size) e).trans (h.block i d e)⟩
theorem Fr.of_grown{X:Nat->Prop}{w w':World}{row:Option Nat}(h:w.grownBy w' row)(a:∀k,row=some k->X k):Fr X w w':=
 ⟨h.os,h.tape,h.output,h.size,fun k b c=>h.block k b (fun e=>c (a k e.symm))⟩
theorem Fr.set{X:Nat->Prop}{w w':World}(h:Fr X w w')(a:Addr)(u:Value)(c:X a.block):Fr X w (w'.setCell a u):=
 ⟨h.os,h.tape,h.output,by simpa [World.setCell] using h.size,fun k d b=>by rw[AB _ _ _ _ (fun e=>b (by rw[e];exact c))];exact h.block k d b⟩
theorem FH.fr{X:Nat->Prop}{w w':World}{g:Nat}{e:TypeId}{L:LV}(h:FH w g e L)(b:Fr X w w')(a:¬X g):FH w' g e L:=by
 unfold FH;rw[b.block g h.lt a];exact h
theorem Sl.fr{X:Nat->Prop}{w w':World}{e:TypeId}{a:Nat}{v:Value}{n:Nat}{xs:LV}(h:Sl w e a v n xs)(c:Fr X w w')(b:∀g,v.ownBlock=some g->¬X g):Sl w' e a v n xs:=
 h.kept (fun k d e=>c.block k d (b k e))
structure FN(w:World)(rb:Nat)(vl vf:Value)(L:List (By×Int))(F:LY):Prop where
 hd:FH w rb 89 [vl,vf]
 sl:Sl w 103 2 vl L.length (Dr L)
 sf:Sl w 9 1 vf F.length (F.map .string)
 nl:L.length<=2000000
 nf:F.length<=2000000
 ok:∀x∈L,x.1.size<=2000000/\KL x.1
 okf:∀s∈F,s.size<=2000000
 sep:∀g,vl.ownBlock=some g->vf.ownBlock≠some g
theorem FN.c{w:World}{a:Nat}{c b:Value}{L:List (By×Int)}{F:LY}(h:FN w a c b L F):La w a c b L F:=
 ⟨(h.hd.cell 0).trans rfl,(h.hd.cell 1).trans rfl,h.sl,h.sf,h.nl,h.nf,h.ok,h.okf⟩
theorem Sl.type{w:World}{e:TypeId}{c:Nat}{v:Value}{n:Nat}{xs:LV}(h:Sl w e c v n xs){g:Nat}(a:v.ownBlock=some g):∃L,FH w g e L:=by
 rcases h.2 with⟨rfl,_⟩|⟨g',aa,L,rfl,b,_⟩
 ·simp[Value.ownBlock]at a
 ·simp[Value.ownBlock]at a;subst a;exact⟨L,b⟩
theorem FH.type{w:World}{g:Nat}{e b:TypeId}{L c:LV}(h:FH w g e L)(a:FH w g b c):e=b:=by
 unfold FH at h a;rw[h]at a;simp at a;exact a.2
theorem FN.nel{w:World}{a:Nat}{b d:Value}{L:List (By×Int)}{F:LY}(h:FN w a b d L F):b.ownBlock≠some a:=fun e=>by
 obtain⟨R,c⟩:=h.sl.type e;exact absurd (c.type h.hd) (by decide)
theorem FN.nef{w:World}{a:Nat}{d b:Value}{L:List (By×Int)}{F:LY}(h:FN w a d b L F):b.ownBlock≠some a:=fun e=>by
 obtain⟨R,c⟩:=h.sf.type e;exact absurd (c.type h.hd) (by decide)
def Jb(rb:Nat)(vl vf:Value)(k:Nat):Prop:=k=rb\/vl.ownBlock=some k\/vf.ownBlock=some k
theorem FN.fr{X:Nat->Prop}{w w':World}{a:Nat}{f e:Value}{L:List (By×Int)}{F:LY}(h:FN w a f e L F)(c:Fr X w w')(b:∀k,Jb a f e k->¬X k):FN w' a f e L F:=
 ⟨h.hd.fr c (b a (.inl rfl)),h.sl.fr c (fun g d=>b g (.inr (.inl d))),h.sf.fr c (fun g d=>b g (.inr (.inr d))),h.nl,h.nf,h.ok,h.okf,h.sep⟩
def FK(w:World)(rb:Nat)(vl vf:Value)(w':World)(L':List (By×Int))(F':LY):Prop:=
 ∃vl' vf',FN w' rb vl' vf' L' F'/\Fr (Jb rb vl vf) w w'/\(∀k,Jb rb vl' vf' k->Jb rb vl vf k\/w.heap.size<=k)
theorem FK.same{w:World}{d:Nat}{b a:Value}{L:List (By×Int)}{F:LY}{w':World}(h:FN w d b a L F)(c:Bw w w'):FK w d b a w' L F:=
 ⟨b,a,h.fr (X:=fun _=>False) (Fr.of_below c) (fun _ _=>id),Fr.of_below c,fun _ e => .inl e⟩
def J1(L:List (By×Int))(p:By):Int:=if Df p=true then JV L (Jl p (p.size-1) 1) else 1
theorem Ov(w:World)(d:Nat)(l q:Value)(L:List (By×Int))(F:LY)(h:FN w d l q L F)(p:By)(j:p.size<=2000000):
  Cl 100 #[.pointer (some ⟨d,0,none⟩),.string p] w fun e w'=>e = .returned (.int .i64 (J1 L p))/\Bw w w':=by
 have o:=Uy p w j;have i:∀w',Bw w w'->Cl 104 #[.pointer (some ⟨d,0,none⟩),.string p] w' fun e r=>e = .returned (.int .i64 (JV L (Jl p (p.size-1) 1)))/\r=w':=fun w' b=>by
  have f:=(h.fr (X:=fun _=>False) (Fr.of_below b) (fun _ _=>id)).c;exact Th w' d l L p f.c0 f.sl f.nl j
 have m:=Db i;have g:=Db (show J1 L p=if Df p=true then JV L (Jl p (p.size-1) 1) else 1 from rfl);clear i h;go_enter Tryz.func100,Tryz.ntmps100;go_wp2_with fail;refine o.mono ?_;rintro e w1 ⟨a,n,c,rfl,_,b⟩
 cases hok:Df p with
 | false=>
  go_wp2;go_ret;exact⟨by rw[Da g,hok];rfl,b⟩
 | true=>
  go_wp2_with (go_at_call 104;refine(Da m _ b).mono ?_;rintro e w' ⟨rfl,k⟩;rw[k];clear k);go_ret;exact⟨by rw[Da g,hok];rfl,b⟩
theorem Q9:(Tryz.prog.info? 103).map (fun i=>(i.zero,i.size,i.bytes))=some (some (.agg #[.string ⟨#[]⟩,.int .i64 0]),2,24):=by kernel_rfl
def DS(L:List (By×Int))(F:LY)(p:By):Int×List (By×Int):=
 if J1 L p≠0 then (J1 L p,L) else if (p.toList==[47])=true\/(FT L p).isSome=true then (6,L) else if JJ L F p 1=false then (8,L) else (0,L++[(p,-1)])
theorem LC(w W:World)(a:Nat)(o t:Value)(L:List (By×Int))(F:LY)(h:FN w a o t L F)(c:Bw w W)(C:L.length+1<=2000000)(p:By)(f:Int)(K:p.size<=2000000)(N:KL p)
  (y:Nat) (I:FH W y 103 (G3 (p,f))):
  ∃i m l b,(Builtin.append_ #[87,87] 87 #[o,.slice (some ⟨y,0,none⟩) 1 1]).run Tryz.prog W = .ok (.slice i m l) b/\b.cell? ⟨a,0,none⟩=some o/\b.frozen? ⟨a,0,none⟩=false/\
   Hid (FK w a o t (b.setCell ⟨a,0,none⟩ (.slice i m l)) (L++[(p,f)]) F):=by
 obtain⟨U,G,Q,S,T⟩:=Bn Q9;have s:FN W a o t L F:=h.fr (X:=fun _=>False) (Fr.of_below c) (fun _ _=>id);obtain⟨v',b,V,z,n,A⟩:=JZ (P:=Tryz.prog) W 87 87 103 U _ 2 24 Tryz.underlying87 G Q S T rfl (by decide) o L.length (Dr L) s.sl ⟨y,0,none⟩ 1 1 (G3 (p,f)) rfl
  (fun j u O=>by rw[AF,Au,I.cell];exact O) (Q0 [(p,f)]) (by unfold maxLen;omega) (by omega)
 obtain⟨i,m,l,rfl⟩:=z.shape;have M:b.heap[a]?=W.heap[a]? := n.block a s.hd.lt (fun e=>h.nel e.symm);have v:FH b a 89 [o,t]:=by unfold FH;rw[M];exact s.hd
 refine⟨i,m,l,b,V,(v.cell 0).trans rfl,v.frozen 0,.slice i m l,t,⟨?_,?_,?_,?_,h.nf,?_,h.okf,?_⟩,?_,?_⟩
 ·exact v.set 0 _
 ·have J:(Value.slice i m l).ownBlock≠some a:=fun e=>by
   obtain⟨R,D⟩:=z.type e;exact absurd (D.type v) (by decide)
  have:=z.setCell ⟨a,0,none⟩ (.slice i m l) J;rw[Ab,Wj];exact this
 ·refine(s.sf.kept (w':=b) (fun k d e=>n.block k d (fun B=>?_))).setCell ⟨a,0,none⟩ _ (fun e=>h.nef e);exact h.sep k B.symm e
 ·simpa using C
 ·intro x r;rcases As.1 r with r|r
  ·exact h.ok x r
  ·simp at r;subst r;exact⟨K,N⟩
 ·intro g E e;rcases A g E with q|q
  ·exact h.sep g q e
  ·have:=s.sf.lt e;omega
 ·refine Fr.set ⟨n.os.trans c.os,n.tape.trans c.tape,n.output.trans c.output,Ae c.size n.size,fun k d H=>?_⟩ _ _ (.inl rfl);rw[n.block k (Ao d c.size) (fun e=>H (.inr (.inl e.symm))),c.block k d]
 ·rintro k (rfl|d|d)
  ·exact .inl (.inl rfl)
  ·rcases A k d with q|q
   ·exact .inl (.inr (.inl q))
   ·exact .inr (Ae c.size q)
  ·exact .inl (.inr (.inr d))
theorem UF(p:By)(h:Df p=true):KL p:=by
 have b:p.data.toList[0]?=some 47:=by
  unfold Df at h;rw[ED]at h;rcases h with h|h
  ·have a:p.toList=[47]:=by simpa using h
   rw[BV]at a;rw[a];rfl
  ·simp only[A8]at h;simpa using h.1.1
 cases hl:JX p.data.toList with
 | none=>exact absurd b (PH hl 0)
 | some k=>exact⟨k,hl⟩
theorem RN{L:List (By×Int)}{p:By}(h:J1 L p=0):Df p=true:=by
 unfold J1 at h;by_cases e:Df p=true
 ·exact e
 ·rw[if_neg e]at h;omega
theorem ZT(w:World)(c:Nat)(i d:Value)(L:List (By×Int))(F:LY)(h:FN w c i d L F)(U:L.length+1<=2000000)(p:By)(z:p.size<=2000000):
  Cl 43 #[.pointer (some ⟨c,0,none⟩),.string p] w fun e w'=>e = .returned (.int .i64 (DS L F p).1)/\FK w c i d w' (DS L F p).2 F:=by
 have t:=Ov w c i d L F h p z;obtain⟨l,n⟩:=ex (J1 L p);obtain⟨R,b⟩:=ex (DS L F p);rw[<-n]at t;rw[<-b];unfold DS at b;rw[<-n]at b;have G:=h.c.c0;by_cases m:l≠0
 ·rw[if_pos m]at b;have aa:(l != 0)=true:=by rw[Eu];exact m
  have g:Hid (∀w',Bw w w'->FK w c i d w' R.2 F):=fun w' a=>by rw[b];exact FK.same h a
  have f:Hid (R.1=l):=by rw[b];exact rfl
  clear b h n m;go_enter Tryz.func43,Tryz.ntmps43;go_wp2_with (go_at_call 100;refine t.mono ?_;rintro e w1 ⟨rfl,a⟩);go_ret;exact⟨by rw[Da f];rfl,Da g _ a⟩
 ·rw[if_neg m]at b;obtain rfl:l=0:=by omega
  have J:=RN n.symm;have A:=UF p J;by_cases y:(p.toList==[47])=true
  ·rw[if_pos (.inl y)]at b;have g:Hid (∀w',Bw w w'->FK w c i d w' R.2 F):=fun w' a=>by rw[b];exact FK.same h a
   have f:Hid (R.1=6):=by rw[b];exact rfl
   clear b h n m;go_enter Tryz.func43,Tryz.ntmps43;go_wp2_with (go_at_call 100;refine t.mono ?_;rintro e w1 ⟨rfl,a⟩);go_ret;exact⟨by rw[Da f];rfl,Da g _ a⟩
  have T:(p.toList==[47])=false:=by simpa using y
  have I:∀w',Bw w w'->Cl 101 #[.pointer (some ⟨c,0,none⟩),.string p] w' fun e B=>∃r,(e = .returned (.int .i64 r)/\F7 L p r)/\B=w':=fun w' a=>by
   have q:=(h.fr (X:=fun _=>False) (Fr.of_below a) (fun _ _=>id)).c;exact O3 w' c i L p q.c0 q.sl q.nl
  have K:∀w',Bw w w'->Cl 102 #[.pointer (some ⟨c,0,none⟩),.string p,.int .i64 ((1:Nat):Int)] w' fun e B=>e = .returned (.bool (JJ L F p 1))/\B=w':=fun w' a=>by
   have q:=(h.fr (X:=fun _=>False) (Fr.of_below a) (fun _ _=>id)).c;exact Pa w' c i d L F q p z A 1 (Aa _)
  have E:∀w1,Bw w w1->_:=fun w1 a=>LC w (w1.alloc (.cells #[.string p,.int .i64 (-1)] 103)) c i d L F h (a.trans (((Ag _ _).alloc (Aa _) _).mono a.size)) U p (-1) z A w1.heap.size (Bs w1 _)
  have M:=fun w' (a:Bw w w')=>FK.same h a
  have H:∀w',Bw w w'->w'.cell? ⟨c,0,none⟩=some i:=fun w' a=>(a.cell (p:=⟨c,0,none⟩) h.hd.lt).trans G
  have W:=h.hd.lt;obtain⟨u,mv,v,rfl⟩:=h.sl.shape;have P:=Db I;have C:=Db K;have N:=Db E;have D:=Db M;have O:=Db H;clear h I K E M H n m J A y G;go_enter Tryz.func43,Tryz.ntmps43;go_wp2_with (go_at_call 100;refine t.mono ?_;rintro e w1 ⟨rfl,a⟩);refine(Da P _ a).mono ?_;rintro e w' ⟨r,⟨rfl,s⟩,k⟩;rw[k];clear k;have ab:=Da O _ a;have ac:c<w1.heap.size:=Ao W a.size;rcases K5 s with⟨rfl,o⟩|⟨j,x,rfl,V,Y,o⟩
  ·rw[if_neg (by simp[T,o])]at b
   cases hroom:JJ L F p 1 with
   | false=>
    rw[if_pos hroom]at b;have g:Hid (∀w',Bw w w'->FK w c (.slice u mv v) d w' R.2 F):=fun w' a=>by rw[b];exact Da D w' a
    have f:Hid (R.1=8):=by rw[b];exact rfl
    clear b o s;go_wp2_with (go_at_call 102;refine(Da C _ a).mono ?_;rintro e w' ⟨rfl,k⟩;rw[k];clear k);go_ret;exact⟨by rw[Da f];rfl,Da g _ a⟩
   | true=>
    rw[if_neg (by rw[hroom];simp)]at b;obtain⟨Q,Z,S,w2,r1,r2,r3,r4⟩:=Da N w1 a;have g:Hid (FK w c (.slice u mv v) d (w2.setCell ⟨c,0,none⟩ (.slice Q Z S)) R.2 F):=by rw[b];exact Da r4
    have f:Hid (R.1=0):=by rw[b];exact rfl
    clear b o s;go_wp2_with (first|(go_at_call 102;refine(Da C _ a).mono ?_;rintro e w' ⟨rfl,k⟩;rw[k];clear k)|(at_builtin;refine Aj _ rfl _ _ 87 87 rfl _ _ rfl rfl _ _ r1 ?_));go_ret;exact⟨by rw[Da f];rfl,Da g⟩
  ·rw[if_pos (.inr (by simp[o]))]at b;have g:Hid (∀w',Bw w w'->FK w c (.slice u mv v) d w' R.2 F):=fun w' a=>by rw[b];exact Da D w' a
   have f:Hid (R.1=6):=by rw[b];exact rfl
   clear b o s V Y;go_wp2;go_ret;exact⟨by rw[Da f];rfl,Da g _ a⟩
section
variable{w:World}{rb:Nat}{vl vf:Value}{L:List (By×Int)}{F:LY}
theorem FN.at(h:FN w rb vl vf L F){w':World}(a:Bw w w'):FN w' rb vl vf L F:=h.fr (X:=fun _=>False) (Fr.of_below a) (fun _ _=>id)
theorem FN.find(h:FN w rb vl vf L F)(p:By):Cl 101 #[.pointer (some ⟨rb,0,none⟩),.string p] w fun e a=>∃r,(e = .returned (.int .i64 r)/\F7 L p r)/\a=w:=O3 w rb vl L p h.c.c0 h.sl h.nl
theorem FN.ahead(h:FN w rb vl vf L F)(p:By)(a:p.size<=2000000):Cl 104 #[.pointer (some ⟨rb,0,none⟩),.string p] w fun e b=>e = .returned (.int .i64 (JV L (Jl p (p.size-1) 1)))/\b=w:=Th w rb vl L p h.c.c0 h.sl h.nl a
theorem FN.within(h:FN w rb vl vf L F)(d:By):Cl 149 #[.pointer (some ⟨rb,0,none⟩),.string d] w fun e w'=>e = .returned (.int .i64 (L.countP (Dx d):Nat))/\w'=w:=VE w rb vl L d h.c.c0 h.sl h.nl h.ok
end
theorem Zi4(b:List (By×Int))(i:Nat):(Dr b).take (i*2)=Dr (b.take i):=by
 induction b generalizing i with
 | nil=>simp[Dr]
 | cons a l ih=>
  cases i with
  | zero=>simp[Dr]
  | succ i=>
   have:=ih i;simp only[Dr,AW,ES]at this ⊢;rw[<-this,show(i+1)*2=(G3 a).length+i*2 by simp[G3];omega,Ca]
theorem Zi5(b:List (By×Int))(i:Nat):(Dr b).drop (i*2)=Dr (b.drop i):=by
 induction b generalizing i with
 | nil=>simp[Dr]
 | cons a l ih=>
  cases i with
  | zero=>simp[Dr]
  | succ i=>
   have:=ih i;simp only[Dr,AW,El]at this ⊢;rw[<-this,show(i+1)*2=(G3 a).length+i*2 by simp[G3];omega,Cd]
def DD(L:List (By×Int))(p:By):Int:=JV L (Jl p (p.size-1) 1)
def DL(L:List (By×Int))(F:LY)(a b:By):Int×List (By×Int):=
 if (Df a && Df b)=false then (1,L) else
 if DD L a≠0 then (DD L a,L) else
 if (a.toList==[47])=true then (5,L) else
 match FT L a with
 | none=>(3,L)
 | some f=>if f<0 then (5,L) else
  if DD L b≠0 then (DD L b,L) else
  if (b.toList==[47])=true\/(FT L b).isSome=true then (6,L) else
  if JJ L F b 0=false then (8,L) else (0,L++[(b,f)])
theorem F7.look{L:List (By×Int)}{p:By}{k:Nat}{x:By×Int}(b:L[k]?=some x)(e:x.1=p)(d:∀(j:Nat) y,j<k->L[j]?=some y->y.1≠p):FT L p=some x.2:=
 (K5 (.inr ⟨k,x,rfl,b,e,d⟩)).elim (fun h=>by have:=h.1;omega) (fun ⟨f,x2,h2,a,_,c⟩=>by
  have:f=k:=by omega
  subst this;rw[b]at a;cases a;exact c)
theorem YW(w:World)(l:Nat)(G q:Value)(L:List (By×Int))(F:LY)(h:FN w l G q L F)(hL:L.length+1<=2000000)(a b:By)(U:a.size<=2000000)(I:b.size<=2000000):
  Cl 44 #[.pointer (some ⟨l,0,none⟩),.string a,.string b] w fun e w'=>e = .returned (.int .i64 (DL L F a b).1)/\FK w l G q w' (DL L F a b).2 F:=by
 obtain⟨R,c⟩:=ex (DL L F a b);rw[<-c];unfold DL at c;have T:=Db h;have Q:Hid (∀p w1,Bw w w1->Cl 101 #[.pointer (some ⟨l,0,none⟩),.string p] w1 fun e H=>∃r,(e = .returned (.int .i64 r)/\F7 L p r)/\H=w1):=fun p w1 d=>(h.at d).find p
 have P:Hid (∀p w1,p.size<=2000000->Bw w w1->Cl 104 #[.pointer (some ⟨l,0,none⟩),.string p] w1 fun e H=>e = .returned (.int .i64 (DD L p))/\H=w1):=fun p w1 hp d=>(h.at d).ahead p hp
 have S:Hid (∀w1,Df b=true->Bw w w1->Cl 102 #[.pointer (some ⟨l,0,none⟩),.string b,.int .i64 ((0:Nat):Int)] w1 fun e H=>e = .returned (.bool (JJ L F b 0))/\H=w1):=fun w1 N d=>Pa w1 l G q L F (h.at d).c b I (UF b N) 0 (Aw _)
 have v:Hid (∀w',Bw w w'->FK w l G q w' L F):=fun w' d=>FK.same h d
 have ac:Hid (∀(W:World) (f:Int) (O:Nat),Df b=true->Bw w W->FH W O 103 (G3 (b,f))->_):=fun W f O N d hn=>LC w W l G q L F h d hL b f I (UF b N) O hn
 have ag:=h.hd.lt;obtain⟨E,s,rfl,ab⟩:=h.sl.rdL;have ad:=Db ab;clear h ab;go_enter Tryz.func44,Tryz.ntmps44;go_wp2_with fail;refine(Uy a _ U).mono ?_;rintro e w1 ⟨a1,n1,c1,rfl,_,V⟩;go_wp2_with fail;refine(Uy b _ I).mono ?_;rintro e o ⟨a2,n2,c2,rfl,_,ae⟩;have d:=V.trans (ae.mono V.size)
 cases hoa:Df a with
 | false=>
  have u:R=(1,L):=by rw[c,hoa];rfl
  have n:Hid (FK w l (.slice E L.length s) q o R.2 F):=by rw[u];exact Da v _ d
  have m:Hid (R.1=1):=by rw[u];exact rfl
  clear c u;go_wp2;go_ret;exact⟨by rw[Da m];rfl,Da n⟩
 | true=>
 cases hob:Df b with
 | false=>
  have u:R=(1,L):=by rw[c,hoa,hob];rfl
  have n:Hid (FK w l (.slice E L.length s) q o R.2 F):=by rw[u];exact Da v _ d
  have m:Hid (R.1=1):=by rw[u];exact rfl
  clear c u;go_wp2;go_ret;exact⟨by rw[Da m];rfl,Da n⟩
 | true=>
 rw[hoa,hob,if_neg (by simp)]at c;obtain⟨C,K⟩:=ex (DD L a);have z:=Da P a o U d;rw[<-K]at c z;by_cases t:C≠0
 ·rw[if_pos t]at c;have af:(C != 0)=true:=by rw[Eu];exact t
  have n:Hid (FK w l (.slice E L.length s) q o R.2 F):=by rw[c];exact Da v _ d
  have m:Hid (R.1=C):=by rw[c];exact rfl
  clear c t K;go_wp2_with (go_at_call 104;refine z.mono ?_;rintro e w' ⟨rfl,i⟩;rw[i];clear i);go_ret;exact⟨by rw[Da m];rfl,Da n⟩
 rw[if_neg t]at c;obtain rfl:C=0:=by omega
 go_wp2_with (go_at_call 104;refine z.mono ?_;rintro e w' ⟨rfl,i⟩;rw[i];clear i);refine(Da Q a _ d).mono ?_;rintro e w' ⟨r,⟨rfl,B⟩,i⟩;rw[i];clear i;have ah:=((Da T).at d).c.c0;have ak:l<o.heap.size:=Ao ag d.size;clear z K t
 cases h1:(a.toList==[47]) with
 | true=>
  rw[if_pos h1]at c;have n:Hid (FK w l (.slice E L.length s) q o R.2 F):=by rw[c];exact Da v _ d
  have m:Hid (R.1=5):=by rw[c];exact rfl
  clear c B;go_wp2;go_ret;exact⟨by rw[Da m];rfl,Da n⟩
 | false=>
 rw[if_neg (by rw[h1];simp)]at c;rcases B with⟨rfl,aa⟩|⟨k,x,rfl,J,hx,X⟩
 ·have A:FT L a=none:=(K5 (.inl ⟨rfl,aa⟩)).elim (fun h=>h.2) (fun ⟨_,_,h,_⟩=>by omega);rw[A]at c;have n:Hid (FK w l (.slice E L.length s) q o R.2 F):=by rw[c];exact Da v _ d
  have m:Hid (R.1=3):=by rw[c];exact rfl
  clear c A aa;go_wp2;go_ret;exact⟨by rw[Da m];rfl,Da n⟩
 rw[F7.look J hx X]at c;have aj:=(Ad.1 J).1;obtain⟨g,rfl,q0,q1⟩:=(Da ad) k x J;have Y:g<w.heap.size:=(Da T).sl.lt rfl;have ai:g<o.heap.size:=Ao Y d.size;have al:=(d.cell (p:=⟨g,k*2+1,none⟩) Y).trans q1;clear X hx J q0 q1;by_cases Z:x.2<0
 ·have u:R=(5,L):=by rw[c];simp[Z]
  have n:Hid (FK w l (.slice (some ⟨g,0,none⟩) L.length s) q o R.2 F):=by rw[u];exact Da v _ d
  have m:Hid (R.1=5):=by rw[u];exact rfl
  clear c u;go_wp2;go_ret;exact⟨by rw[Da m];rfl,Da n⟩
 simp only[if_neg Z]at c;obtain⟨D,M⟩:=ex (DD L b);have z:=Da P b o I d;rw[<-M]at c z;by_cases t:D≠0
 ·rw[if_pos t]at c;have af:(D != 0)=true:=by rw[Eu];exact t
  have n:Hid (FK w l (.slice (some ⟨g,0,none⟩) L.length s) q o R.2 F):=by rw[c];exact Da v _ d
  have m:Hid (R.1=D):=by rw[c];exact rfl
  clear c t M;go_wp2_with (go_at_call 104;refine z.mono ?_;rintro e w' ⟨rfl,i⟩;rw[i];clear i);go_ret;exact⟨by rw[Da m];rfl,Da n⟩
 rw[if_neg t]at c;obtain rfl:D=0:=by omega
 clear t M
 cases h2:(b.toList==[47]) with
 | true=>
  rw[if_pos (.inl h2)]at c;have n:Hid (FK w l (.slice (some ⟨g,0,none⟩) L.length s) q o R.2 F):=by rw[c];exact Da v _ d
  have m:Hid (R.1=6):=by rw[c];exact rfl
  clear c;go_wp2_with (go_at_call 104;refine z.mono ?_;rintro e w' ⟨rfl,i⟩;rw[i];clear i);go_ret;exact⟨by rw[Da m];rfl,Da n⟩
 | false=>
 go_wp2_with (go_at_call 104;refine z.mono ?_;rintro e w' ⟨rfl,i⟩;rw[i];clear i);refine(Da Q b _ d).mono ?_;rintro e w' ⟨r,⟨rfl,B⟩,i⟩;rw[i];clear i;rcases K5 B with⟨rfl,A⟩|⟨j,y,rfl,hj,hy,A⟩
 ·rw[if_neg (by simp[h2,A])]at c
  cases hroom:JJ L F b 0 with
  | false=>
   rw[if_pos hroom]at c;have n:Hid (FK w l (.slice (some ⟨g,0,none⟩) L.length s) q o R.2 F):=by rw[c];exact Da v _ d
   have m:Hid (R.1=8):=by rw[c];exact rfl
   clear c A B;go_wp2_with (go_at_call 102;refine(Da S _ hob d).mono ?_;rintro e w' ⟨rfl,i⟩;rw[i];clear i);go_ret;exact⟨by rw[Da m];rfl,Da n⟩
  | true=>
   rw[if_neg (by rw[hroom];simp)]at c;obtain⟨a',n',c',w3,r1,r2,r3,r4⟩:=Da ac (o.alloc (.cells #[.string b,.int .i64 x.2] 103)).drew x.2 o.heap.size hob (d.trans ((((Ag _ _).alloc (Aa _) _).drew).mono d.size)) (Bs o _);have n:Hid (FK w l (.slice (some ⟨g,0,none⟩) L.length s) q (w3.setCell ⟨l,0,none⟩ (.slice a' n' c')) R.2 F):=by rw[c];exact Da r4
   have m:Hid (R.1=0):=by rw[c];exact rfl
   clear c A B r4;go_wp2_with (go_at_call 102;refine(Da S _ hob d).mono ?_;rintro e w' ⟨rfl,i⟩;rw[i];clear i)
   go_region_law (refine JD rfl _ _ 87 87 rfl _ _ (by simp[Act.eval]) (by simp[Act.eval]) r1 ?_)
   all_goals (
    go_wp2;go_ret;exact⟨by rw[Da m];rfl,Da n⟩)
 ·rw[if_pos (.inr (by simp[A]))]at c;have n:Hid (FK w l (.slice (some ⟨g,0,none⟩) L.length s) q o R.2 F):=by rw[c];exact Da v _ d
  have m:Hid (R.1=6):=by rw[c];exact rfl
  clear c A B hj hy;go_wp2;go_ret;exact⟨by rw[Da m];rfl,Da n⟩
def WB(p q:By):Bool:=decide (q.size<p.size) && (p.extract 0 q.size).toList==q.toList && p.data.toList[q.size]? == some 47
def mv(a b:By)(x:By×Int):By×Int:=if (WB x.1 a || decide (x.1=a))=true then (b++x.1.extract a.size x.1.size,x.2) else x
theorem YO{α : Type}(l:List α)(m:Nat)(x : α)(h:l[m]?=some x):l.set m x=l:=by
 apply CR;intro j;rw[EG];by_cases e:m=j
 ·subst e;rw[if_pos rfl,h];simp[(Ad.1 h).1]
 ·rw[if_neg e]
theorem UC{w w':World}(h:w.grownBy w' none):Bw w w':=⟨h.os,h.tape,h.output,h.size,fun k a=>h.block k a (by simp)⟩
def Qp(s:By)(at_ n:Int):By:=s.extract (min at_.toNat s.size) (min at_.toNat s.size+min n.toNat (s.size-min at_.toNat s.size))
def Jw(L:List (By×Int))(F:LY)(p:By)(at_ n:Int):By×Int:=
 if Df p=false then (⟨#[]⟩,1) else
 if at_<0\/n<0 then (⟨#[]⟩,2) else
 if DD L p≠0 then (⟨#[]⟩,DD L p) else
 if (p.toList==[47])=true then (⟨#[]⟩,5) else
 match FT L p with
 | none=>(⟨#[]⟩,3)
 | some f=>if f<0 then (⟨#[]⟩,5) else (Qp (F[f.toNat]?.getD ⟨#[]⟩) at_ n,0)
theorem YI(w:World)(H:Nat)(vl vf:Value)(L:List (By×Int))(F:LY)(h:FN w H vl vf L F)(P:∀x∈L,x.2<F.length)(p:By)(V:p.size<=2000000)(m n:Int)(ha:m<=9223372036854775807)(hn:n<=9223372036854775807):
  Cl 112 #[.pointer (some ⟨H,0,none⟩),.string p,.int .i64 m,.int .i64 n] w fun e w'=>e = .returned (.tuple #[.string (Jw L F p m n).1,.int .i64 (Jw L F p m n).2])/\Bw w w':=by
 obtain⟨R,a⟩:=ex (Jw L F p m n);rw[<-a];unfold Jw at a;have o:=Db h;have aa:=Db P;obtain⟨av,cv,rfl,W⟩:=h.sl.rdL;obtain⟨af,cf,rfl,X⟩:=h.sf.rdF;have ab:=Db W;have ac:=Db X;clear h W X P;go_enter Tryz.func112,Tryz.ntmps112;go_wp2_with fail;refine(Uy p _ V).mono ?_;rintro e I ⟨a2,n2,J,rfl,_,d⟩
 cases hob:Df p with
 | false=>
  have b:R=(⟨#[]⟩,1):=by rw[a,hob];rfl
  have l:=Db b;clear a b;go_wp2
  go_ret2
  exact⟨by rw[Da l];rfl,d⟩
 | true=>
 rw[hob,if_neg (by simp)]at a;by_cases S:m<0
 ·have c:=a;have b:R=(⟨#[]⟩,2):=by rw[c,if_pos (.inl S)]
  have l:=Db b;clear a b;clear c;go_wp2
  go_ret2
  exact⟨by rw[Da l];rfl,d⟩
 by_cases T:n<0
 ·have c:=a;have b:R=(⟨#[]⟩,2):=by rw[c,if_pos (.inr T)]
  have l:=Db b;clear a b;clear c;go_wp2
  go_ret2
  exact⟨by rw[Da l];rfl,d⟩
 rw[if_neg (by omega)]at a;obtain⟨y,E⟩:=ex (DD L p);have B:Cl 104 #[.pointer (some ⟨H,0,none⟩),.string p] I fun e am=>e = .returned (.int .i64 (DD L p))/\am=I:=((Da o).at d).ahead p V
 rw[<-E]at a B;by_cases z:y≠0
 ·have an:(y != 0)=true:=by rw[Eu];exact z
  rw[if_pos z]at a;clear z E;have b:R=(⟨#[]⟩,y):=by rw[a]
  have l:=Db b;clear a b;go_wp2_with (go_at_call 104;refine B.mono ?_;rintro e w' ⟨rfl,t⟩;rw[t];clear t)
  go_ret2
  exact⟨by rw[Da l];rfl,d⟩
 rw[if_neg z]at a;obtain rfl:y=0:=by omega
 go_wp2_with (go_at_call 104;refine B.mono ?_;rintro e w' ⟨rfl,t⟩;rw[t];clear t);have M:=((Da o).at d).find p;refine M.mono ?_;rintro e w' ⟨r,⟨rfl,N⟩,t⟩;rw[t];clear t M;have ao:=((Da o).at d).c.c0;have ap:=((Da o).at d).c.c1;clear B E z
 cases h1:(p.toList==[47]) with
 | true=>
  have ae:(p.toList != [47])=false:=by simp only[bne,h1];rfl
  rw[if_pos h1]at a;clear N;have b:R=(⟨#[]⟩,5):=by rw[a]
  have l:=Db b;clear a b;go_wp2
  go_ret2
  exact⟨by rw[Da l];rfl,d⟩
 | false=>
 rw[if_neg (by rw[h1];simp)]at a;have ae:(p.toList != [47])=true:=by simp only[bne,h1];rfl
 rcases N with⟨rfl,U⟩|⟨k,x,rfl,A,Z,O⟩
 ·have Q:FT L p=none:=(K5 (.inl ⟨rfl,U⟩)).elim (fun h=>h.2) (fun ⟨_,_,h,_⟩=>by omega);rw[Q]at a;clear Q U;have b:R=(⟨#[]⟩,3):=by rw[a]
  have l:=Db b;clear a b;go_wp2
  go_ret2
  exact⟨by rw[Da l];rfl,d⟩
 rw[F7.look A Z O]at a;have aq:=(Ad.1 A).1;have ag:=Da aa x (An A);obtain⟨g,rfl,q0,q1⟩:=(Da ab) k x A;have hg:g<w.heap.size:=(Da o).sl.lt rfl;have ak:=(d.cell (p:=⟨g,k*2+1,none⟩) hg).trans q1;clear O Z A q0 q1;by_cases G:x.2<0
 ·have c:R=(⟨#[]⟩,5):=by rw[a];simp[G]
  have b:R=(⟨#[]⟩,5):=by exact c
  have l:=Db b;clear a b;clear c;go_wp2
  go_ret2
  exact⟨by rw[Da l];rfl,d⟩
 simp only[if_neg G]at a;obtain⟨f,K⟩:∃f:Nat,x.2=(f:Int):=⟨x.2.toNat,by omega⟩;rw[K]at a ak ag;have ah:f<F.length:=by omega
 have D:F[f]?=some F[f]:=Ac ah;obtain⟨gf,rfl,s0⟩:=(Da ac) f _ D;have ai:gf<w.heap.size:=(Da o).sf.lt rfl;have al:=(d.cell (p:=⟨gf,f,none⟩) ai).trans s0;have aj:F[f].size<=2000000:=(Da o).okf _ (Cq _);rw[BB,D]at a;have c:R=(Qp F[f] m n,0):=a;have ar:=(Da o).nf;clear D s0 a;obtain⟨s,Y⟩:=ex (F[f]);rw[<-Y]at c al aj;obtain⟨i,rfl⟩:∃i:Nat,m=i:=⟨m.toNat,by omega⟩;obtain⟨j,rfl⟩:∃j:Nat,n=j:=⟨n.toNat,by omega⟩;unfold Qp at c;rw[BB,BB]at c;have au:(0:Int)<=(f:Int):=by omega
 clear Y K G S T;have v:=Db c;clear c;have C:Bw w I.drew:=d.drew;by_cases c1:s.size<i
 ·have q:R=(ByteArray.empty,0):=by rw[Da v,EM (by omega),CO,Nat.min_zero,Ct];simp
  have u:=Db q;clear q v;by_cases J:0<j
  ·go_wp2_with fail
   go_region
   all_goals
    go_wp2
    go_ret2
    exact⟨by rw[Da u];rfl,C⟩
  ·obtain rfl:j=0:=by omega
   go_wp2_with fail
   go_region
   all_goals
    go_wp2
    go_ret2
    exact⟨by rw[Da u];rfl,C⟩
 ·by_cases J:s.size-i<j
  ·have q:R=(s.extract i (i+(s.size-i)),0):=by rw[Da v,Bu (by omega),EM (by omega)]
   have u:=Db q;have ad:(s.size:Int)-(i:Int)<(j:Int):=by omega
   clear q v;go_wp2_with fail
   go_region
   all_goals
    go_wp2
    go_ret2
    exact⟨by rw[Da u];rfl,C⟩
  ·have q:R=(s.extract i (i+j),0):=by rw[Da v,Bu (by omega),Bu (by omega)]
   have u:=Db q;have ad:¬(s.size:Int)-(i:Int)<(j:Int):=by omega
   clear q v;go_wp2_with fail
   go_region
   all_goals
    go_wp2
    go_ret2
    exact⟨by rw[Da u];rfl,C⟩
def Dt(s:By)(n:Nat):By:=if n<=s.size then s.extract 0 n else s++⟨(List.replicate (n-s.size) 0).toArray⟩
theorem Qc:(Tryz.prog.info? 5).map (fun i=>(i.zero,i.size,i.bytes))=some (some (.int .u8 0),1,1):=by kernel_rfl
theorem VU:∀(n:Nat) (r:By),(List.replicate n (0:Int)).foldl (fun r n=>r.push (UInt8.ofNat n.toNat)) r=r++⟨(List.replicate n (0:UInt8)).toArray⟩
 | 0,r=>by apply AY;simp[ByteArray.data_append]
 | n+1,r=>by
  rw[Fm,List.foldl_cons,VU n];apply AY;simp[ByteArray.data_append,ByteArray.data_push,List.replicate_succ]
theorem YZ(s:By)(n:Nat)(w:World)(hs:s.size<=2000000)(hn:n<=2000000):Cl 107 #[.string s,.int .i64 n] w fun e w'=>e = .returned (.string (Dt s n))/\Bw w w':=by
 obtain⟨r,a⟩:=ex (Dt s n);rw[<-a];unfold Dt at a;by_cases h:n<=s.size
 ·rw[if_pos h]at a;subst a;go_enter Tryz.func107,Tryz.ntmps107;go_wp2;go_ret;exact⟨rfl,Ag _ _⟩
 ·rw[if_neg h]at a;have c:=Db a;clear a;obtain⟨x,p,t,u,v⟩:=Bn Qc;obtain⟨m,i⟩:=ex (n-s.size);have j:(n:Int)-(s.size:Int)=(m:Int):=by omega
  rw[<-i]at c;have b:=Db j;have f:∀W:World,W.ownsRow 0 5 1 (.slice (some ⟨w.heap.size,0,none⟩) m m) m (madeCells (Value.int .u8 0).cells (m*1)).toList->(convert 59 9 (.slice (some ⟨w.heap.size,0,none⟩) m m)).run Tryz.prog W = .ok (.string ⟨(List.replicate m 0).toArray⟩) W:=fun W d=>by
   have l:(madeCells (Value.int .u8 0).cells (m*1)).toList=(List.replicate m (0:Int)).map (Value.int .u8):=by
    rw[Ci];exact(EI (.int .u8 0) m).trans (by simp)
   rw[l]at d;have g:=run_loadCells_list (P:=Tryz.prog) W ⟨w.heap.size,0,none⟩ ((List.replicate m (0:Int)).map (Value.int .u8)) (d.cells rfl);rw[A7,C5]at g;rw[run_convert_bytes_string W 59 9 5 _ _ _ Tryz.underlying59 Tryz.underlying5 Tryz.underlying9,run_bytesToString W _ m m _ g,VU]
   congr 2
  have k:=Db f;have ab:m<=2000000:=by omega
  clear f j i;go_enter Tryz.func107,Tryz.ntmps107;go_wp2_with (at_make;refine CY _ rfl _ _ 59 rfl 0 5 x (.int .u8 0) 1 Tryz.underlying59 p t u _ _ _ _ m rfl rfl (Da b) (Da b) (by rw[v];omega) (by unfold maxLen;omega) (Aw _) ?_;intro w1 q o;have aa:=Da k w1 q);go_ret;exact⟨by rw[Da c];rfl,UC o⟩
theorem RM(W:World)(t e:TypeId)(i:TypeInfo)(z:Value)(size bytes:Nat)(q:Tryz.prog.underlying t=some (.slice e))(p:Tryz.prog.info? e=some i)(F:i.zero=some z)
  (D:i.size=size) (A:i.bytes=bytes) (G:z.cells.size=size) (E:0<size) (v:Value) (n:Nat) (xs:LV) (f:Sl W e size v n xs) (w:∀u∈xs,u.oneCell'=true) (hn:n<=maxLen) (y:n*bytes<=140737488355328):
  ∃b d c w',(Builtin.append_ #[t,t] t #[.slice none 0 0,v]).run Tryz.prog W = .ok (.slice b d c) w'/\Sl w' e size (.slice b d c) n xs/\Bw W w'/\(∀g,(Value.slice b d c).ownBlock=some g->W.heap.size<=g):=by
 rcases f.2 with⟨rfl,rfl⟩|⟨g,s,L,rfl,hR,h3,h4,h5,h6⟩
 ·have m:xs=[]:=Ak (by simpa using f.1);subst m;obtain⟨l,w',o,j,a,r⟩:∃l w',(Builtin.append_ #[t,t] t #[.slice none 0 0,.slice none 0 0]).run Tryz.prog W = .ok l w'/\l = .slice none 0 0/\w'=W/\True:=by
   refine⟨.slice none 0 0,W,?_,rfl,rfl,trivial⟩;simp[Builtin.append_,run_underlying q,sizeOf,typeInfo,p,Builtin.lenOf,Builtin.firstCells]
  subst j;subst a;exact⟨none,0,0,w',o,⟨by simp,.inl ⟨rfl,rfl⟩⟩,Ag _ _,fun g h=>by simp[Value.ownBlock]at h⟩
 ·have B:=f.owns.cells (g:=g) rfl;obtain⟨l,w',o,j,a,r⟩:=JZ (P:=Tryz.prog) W t t e i z size bytes q p F D A G E (.slice none 0 0) 0 [] ⟨by simp,.inl ⟨rfl,rfl⟩⟩ ⟨g,0,none⟩ n s xs f.1 B w (by omega) (by rw[Au];exact y);obtain⟨b,d,c,rfl⟩:=j.shape;refine⟨b,d,c,w',o,by simpa using j,⟨a.os,a.tape,a.output,a.size,fun k C=>a.block k C (by simp[Value.ownBlock])⟩,fun x m=>(r x m).resolve_left (by simp[Value.ownBlock])⟩
theorem XM(w:World)(t:Nat)(P O:Value)(L:List (By×Int))(F:LY)(h:FN w t P O L F):
  Cl 106 #[.pointer (some ⟨t,0,none⟩)] w fun e w'=>e = .returned (.pointer (some ⟨w.heap.size,0,none⟩))/\∃vl' vf',FN w' w.heap.size vl' vf' L F/\Bw w w'/\∀k,Jb w.heap.size vl' vf' k->w.heap.size<=k:=by
 obtain⟨i0,T,Y,Z,aa⟩:=Bn Q9;obtain⟨i9,U,ab,ac,ad⟩:=Bn Q7;have ag:=h.nl;have af:=h.nf;obtain⟨c,m⟩:=ex ((w.alloc (.cells #[.slice none 0 0,.slice none 0 0] 89)).drew);have n:Bw w c:=by rw[m];exact((Ag _ _).alloc (Aa _) _).drew
 have C:FH c w.heap.size 89 [.slice none 0 0,.slice none 0 0]:=by rw[m];exact Bs w _
 have ai:w.heap.size+1<=c.heap.size:=by rw[m];show _<=(w.alloc _).heap.size;simp
 obtain⟨d,n1,f,w1,r1,D,E,G⟩:=RM c 87 103 i0 _ 2 24 Tryz.underlying87 T Y Z aa rfl (by decide) P L.length (Dr L) (h.at n).sl (Q0 L) (by unfold maxLen;omega) (by omega);have o:FH w1 w.heap.size 89 [.slice none 0 0,.slice none 0 0]:=C.fr (X:=fun _=>False) (Fr.of_below E) id;have z:Bw w w1:=n.trans (E.mono n.size);obtain⟨a,i⟩:=ex ((w1.setCell ⟨w.heap.size,0,none⟩ (.slice d n1 f)).drew);have b:Bw w a:=by rw[i];exact(z.setCell (p:=⟨w.heap.size,0,none⟩) (Aa _) _).drew
 have q:FH a w.heap.size 89 [.slice d n1 f,.slice none 0 0]:=by rw[i];exact o.set 0 _
 have B:(Value.slice d n1 f).ownBlock≠some w.heap.size:=fun e=>by have:=G _ e;omega
 have J:Sl a 103 2 (.slice d n1 f) L.length (Dr L):=by rw[i];exact(D.setCell ⟨w.heap.size,0,none⟩ _ B)
 obtain⟨j,s,l,H,s1,N,v,y⟩:=RM a 84 9 i9 _ 1 16 Tryz.underlying84 U ab ac ad rfl (by decide) O F.length (F.map .string) (h.at b).sf (by intro u W;obtain⟨x,_,rfl⟩:=A2.1 W;rfl) (by unfold maxLen;omega) (by omega);have r:FH H w.heap.size 89 [.slice d n1 f,.slice none 0 0]:=q.fr (X:=fun _=>False) (Fr.of_below v) id;have V:a.heap.size=w1.heap.size:=by rw[i];simp[World.setCell,World.drew]
 have K:(Value.slice j s l).ownBlock≠some w.heap.size:=fun e=>by have:=y _ e;have:=b.size;have:=q.lt;omega
 have I:∃vl' vf',FN (H.setCell ⟨w.heap.size,1,none⟩ (.slice j s l)) w.heap.size vl' vf' L F/\Bw w (H.setCell ⟨w.heap.size,1,none⟩ (.slice j s l))/\∀k,Jb w.heap.size vl' vf' k->w.heap.size<=k:=by
  refine⟨.slice d n1 f,.slice j s l,⟨r.set 1 _,?_,?_,h.nl,h.nf,h.ok,h.okf,?_⟩,?_,?_⟩
  ·exact(J.fr (X:=fun _=>False) (Fr.of_below v) (fun _ _=>id)).setCell ⟨w.heap.size,1,none⟩ _ B
  ·exact N.setCell ⟨w.heap.size,1,none⟩ _ K
  ·intro g S e;have:=y g e;have:=D.lt S;omega
  ·exact(b.trans (v.mono b.size)).setCell (p:=⟨w.heap.size,1,none⟩) (Aa _) _
  ·rintro k (rfl|A|A)
   ·exact Aa _
   ·have:=G k A;omega
   ·have:=y k A;have:=b.size;omega
 have Q:=Db I;have ae:=h.c.c0;have R:=h.c.c1;have M:=h.hd.lt;have y0:=C.cell 0;have y1:=o.cell 0;have aj:=o.frozen 0;have y2:=q.cell 1;have y3:=r.cell 1;have ak:=r.frozen 1;have t2:=(b.cell (p:=⟨t,1,none⟩) M).trans R;subst m;have ah:t<w1.heap.size:=Ao M z.size;subst i;clear I h n z b D E G N v y C o q r J B K V;go_enter Tryz.func106,Tryz.ntmps106;go_wp2
 go_region_law (refine JD rfl _ _ 87 87 rfl _ _ (by simp[Act.eval]) (by simp[Act.eval]) r1 ?_)
 all_goals
  go_wp2
  go_region_law (refine JD rfl _ _ 84 84 rfl _ _ (by simp[Act.eval]) (by simp[Act.eval]) s1 ?_)
  all_goals
   go_wp2;go_ret;exact⟨rfl,Da Q⟩
abbrev AE:=@AllReadyH.cons
abbrev AN:=@wp_region_held_drew
abbrev AS:=@wpAnyH_done
abbrev AX:=@AllReadyH.nil
abbrev A6:=@wpAnyH_ready
abbrev Bc:=@wpAnyH_take
abbrev Ea:=@yieldsIf_load_mid
abbrev Ef:=@all_oneCell_toArray
theorem Sl.setAt{w:World}{e:TypeId}{g n a:Nat}{xs:LV}(h:Sl w e 1 (.slice (some ⟨g,0,none⟩) n a) n xs)(f:Nat)(_hf:f<n)(u:Value):
  Sl (w.setCell ⟨g,f,none⟩ u) e 1 (.slice (some ⟨g,0,none⟩) n a) n (xs.set f u):=by
 rcases h.2 with⟨b,_⟩|⟨g',aa,R,b,k,c,d,i,j⟩
 ·cases b
 ·cases b
  refine⟨by rw[CV];exact h.1,.inr ⟨g,a,R.set f u,rfl,k.set f u,c,d,by simpa using i,?_⟩⟩;rw[<-j,List.take_set]
theorem FN.setF{w:World}{b:Nat}{c:Value}{g d:Nat}{L:List (By×Int)}{F:LY}(h:FN w b c (.slice (some ⟨g,0,none⟩) F.length d) L F)(f:Nat)(i:f<F.length)(s:By)(k:s.size<=2000000):
  FN (w.setCell ⟨g,f,none⟩ (.string s)) b c (.slice (some ⟨g,0,none⟩) F.length d) L (F.set f s):=by
 have j:b≠g:=fun e=>h.nef (by rw[e];rfl)
 have l:c.ownBlock≠some g:=fun e=>h.sep g e rfl
 refine⟨?_,h.sl.setCell _ _ l,?_,h.nl,by simpa using h.nf,h.ok,?_,h.sep⟩
 ·unfold FH;rw[AB _ _ _ _ (fun e=>j (by rw[e]))];exact h.hd
 ·rw[CV,List.map_set];exact h.sf.setAt f i _
 ·intro x a;rcases C9 a with a|rfl
  ·exact h.okf x a
  ·exact k
theorem Yp{w i:World}{a p:Nat}{o n d c:Value}{r L:List (By×Int)}{q F:LY}(h:FN w a o n r q)(j:Bw w i)(b:FN i p d c L F)(f:∀k,Jb p d c k->w.heap.size<=k):
  FK w a o n ((i.setCell ⟨a,0,none⟩ d).setCell ⟨a,1,none⟩ c) L F:=by
 have aa:=h.hd.lt;have m:d.ownBlock≠some a:=fun e=>by have:=f a (.inr (.inl e));omega
 have l:c.ownBlock≠some a:=fun e=>by have:=f a (.inr (.inr e));omega
 refine⟨d,c,⟨((h.at j).hd.set 0 _).set 1 _,(b.sl.setCell _ _ m).setCell _ _ m,(b.sf.setCell _ _ l).setCell _ _ l,b.nl,b.nf,b.ok,b.okf,b.sep⟩,?_,?_⟩
 ·exact Fr.set (Fr.set (Fr.of_below j) _ _ (.inl rfl)) _ _ (.inl rfl)
 ·rintro k (rfl|g|g)
  ·exact .inl (.inl rfl)
  ·exact .inr (f k (.inr (.inl g)))
  ·exact .inr (f k (.inr (.inr g)))
theorem J6(s:By)(n:Nat):(Dt s n).size=n:=by
 unfold Dt
 split
 ·rw[Am];omega
 ·rw[Ai];have:(ByteArray.mk (List.replicate (n-s.size) (0:UInt8)).toArray).size=n-s.size:=C5;omega
end Go.Proofs.YtaieidcohdhgpaaGreatDoor
