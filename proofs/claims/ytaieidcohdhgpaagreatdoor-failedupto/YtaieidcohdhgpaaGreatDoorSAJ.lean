/- Failed. -/
import Derived.Test.YtaieidcohdhgpaaGreatDoorSAI
namespace Go.Proofs.YtaieidcohdhgpaaGreatDoor
set_option maxHeartbeats 40000000
set_option maxRecDepth 100000
open Go.RowKit
theorem Zer(s:By)(w:World)(hs:s.size<=2000000):Calls Tryz.prog 223 #[.string s] w fun e w'=>e = .returned (.string s)/\Below w.heap.size w w':=by
 have b:=Tryz.stringslite_Clone s w (by omega);go_enter Tryz.func223,Tryz.ntmps223;go_wp2_with fail;refine b.mono ?_;rintro e w' ⟨rfl,a⟩;go_wp2;go_ret;exact⟨rfl,a⟩
theorem ZiN(d:OA)(n:By)(t:Bool)(u:VS)(w:World):Calls Tryz.prog 193 #[Dl d n t u] w fun e w'=>e = .returned (.bool d.isNone)/\Below w.heap.size w w':=by
 unfold Dl
 cases d with
 | none=>
  go_enter Tryz.func193,Tryz.ntmps193;go_wp2;go_ret;exact⟨rfl,(Below.refl _ _).alloc (Nat.le_refl _) _⟩
 | some a=>
  go_enter Tryz.func193,Tryz.ntmps193;go_wp2;go_ret;exact⟨rfl,(Below.refl _ _).alloc (Nat.le_refl _) _⟩
theorem ZiO(w:World)(b:Nat)(v:Value)(n:Nat)(xs:LVa)(g:RowIs w b 229 [v])(f:Sl w 310 3 v n xs):Calls Tryz.prog 231 #[.pointer (some ⟨b,0,none⟩)] w fun e w'=>e = .returned (.bool (decide (20<=n)))/\w'=w:=by
 have c:=lenS w b 0 v n xs (g.cell 0) f;go_enter Tryz.func231,Tryz.ntmps231;go_wp2_with fail;refine c.mono ?_;rintro e w' ⟨rfl,rfl⟩;have a:decide ((20:Int)<=(n:Int))=decide (20<=n):=by rw[decide_eq_decide];omega
 have d:=Db a;clear a c;go_wp2;go_ret;exact⟨by rw[<-Da d];rfl,rfl⟩
theorem Zh8(w:World)(c:Nat)(n:By)(hn:n.size<=2000000)(t:Bool)(Y u:VS)(v:Value)(es:LS)(o:RowIs w c 229 [v])(q:Sl w 310 3 v es.length (Dn es))(N:es.length<=10000)(P:SrtS es)(O:∀x∈es,x.1≠n):
  Calls Tryz.prog 183 #[Dl (some ⟨c,0,none⟩) n t Y,.agg #[.pointer u.p,.int .i64 u.f]] w fun e w'=>e = .returned (.tuple #[])/\∃d b,RowIs w' c 229 [d]/\Sl w' 310 3 d b.length (Dn b)/\
   SrtS b/\b.length=es.length+1/\(∀x,x∈b↔x=(n,u)\/x∈es)/\Dk w v d/\Fr (fun k=>k=c\/v.ownBlock=some k) w w':=by
 unfold Dl;go_enter Tryz.func183,Tryz.ntmps183;go_wp2;obtain⟨W1,G,Q,ab,ad,K⟩:=De w (DT (some ⟨c,0,none⟩) n t Y) 262;obtain⟨W2,H,r,M,ag,L⟩:=De W1 [.pointer u.p,.int .i64 u.f] 260;have z:=M _ _ _ Q;rw[ad]at r;have J:Below w.heap.size w W2:=K.trans (L.mono (by omega));rw[G,H];have a0:=z.cell 0;have a1:=z.cell 1;have c0:=r.cell 0;have c1:=r.cell 1;have Z:Hid (∀j,Below w.heap.size w j->Calls Tryz.prog 226 #[.pointer (some ⟨c,0,none⟩),.string n,.agg #[.pointer u.p,.int .i64 u.f]] j fun e w'=>e = .returned (.tuple #[])/\∃d b,RowIs w' c 229 [d]/\Sl w' 310 3 d b.length (Dn b)/\
   SrtS b/\b.length=es.length+1/\(∀x,x∈b↔x=(n,u)\/x∈es)/\Dk w v d/\Fr (fun k=>k=c\/v.ownBlock=some k) w w'/\∀k,k<j.heap.size->w.heap.size<=k->w'.heap[k]?=j.heap[k]?):=by
  intro j f;have y:RowIs j c 229 [v]:=(f.block _ o.lt).trans o;have aa:Sl j 310 3 v es.length (Dn es):=q.kept (fun k m _=>f.block k m);have ac:v.ownBlock≠some c:=fun e=>by obtain⟨R,hR⟩:=q.type e;have:=hR.type o;revert this;decide
  refine(Zob j c 0 v es n u (y.cell 0) (y.frozen 0) ac aa N P O).mono ?_;rintro e w' ⟨rfl,d,b,X,A,B,C,D,E,i⟩;refine⟨rfl,d,b,?_,A,B,C,D,fun g hg=>?_,?_,fun k m af=>i.block k m (fun e=>by have:=o.lt;omega) (fun e=>by have:=q.lt e;omega)⟩
  ·have h1:=i.head;have F:=y.set 0 d;unfold RowIs at F ⊢;rw[h1];simpa using F
  ·rcases E g hg with h|h
   ·exact .inl h
   ·exact .inr (Nat.le_trans f.size h)
  ·exact⟨i.os.trans f.os,i.tape.trans f.tape,i.output.trans f.output,Nat.le_trans f.size i.size,fun k m I=>(i.block k (Nat.lt_of_lt_of_le m f.size) (fun e=>I (.inl e)) (fun e=>I (.inr e))).trans (f.block k m)⟩
 clear G H Q ab M K L o q N P O z r
 go_region_held3 (fun W=>W.cell? ⟨w.heap.size,0,none⟩=some (.pointer (some ⟨c,0,none⟩))/\W.cell? ⟨w.heap.size,1,none⟩=some (.string n)/\W.cell? ⟨w.heap.size+1,0,none⟩=some (.pointer u.p)/\W.cell? ⟨w.heap.size+1,1,none⟩=some (.int .i64 u.f)) (go_keep)
  (first|(go_at_call 223;refine(Zer _ _ hn).mono ?_;rintro e w' ⟨rfl,l⟩;have ae:Below w.heap.size w w':=(J.drew).trans (l.mono (by have:=J.size;simp;omega));have S:=(l.cell (p:=⟨w.heap.size,0,none⟩) (by simp;omega)).trans a0;have T:=(l.cell (p:=⟨w.heap.size,1,none⟩) (by simp;omega)).trans a1;have U:=(l.cell (p:=⟨w.heap.size+1,0,none⟩) (by simp;omega)).trans c0;have V:=(l.cell (p:=⟨w.heap.size+1,1,none⟩) (by simp;omega)).trans c1;clear l)|(go_at_call 226;refine(Da Z _ (by assumption)).mono ?_;rintro e ah ⟨rfl,d,b,X,A,B,C,D,E,i,s⟩;have m0:=(World.cell?_of_block (a:=⟨w.heap.size,0,none⟩) (s _ (World.block_lt_of_cell? _ _ S) (Nat.le_refl _))).trans S;have m1:=(World.cell?_of_block (a:=⟨w.heap.size,1,none⟩) (s _ (World.block_lt_of_cell? _ _ T) (Nat.le_refl _))).trans T;have m2:=(World.cell?_of_block (a:=⟨w.heap.size+1,0,none⟩) (s _ (World.block_lt_of_cell? _ _ U) (Nat.le_succ _))).trans U;have m3:=(World.cell?_of_block (a:=⟨w.heap.size+1,1,none⟩) (s _ (World.block_lt_of_cell? _ _ V) (Nat.le_succ _))).trans V))
 all_goals
  go_wp2
  go_end0
  exact⟨rfl,d,b,X,A,B,C,D,E,i⟩
theorem ZhT(w:World)(c:Nat)(n:By)(t:Bool)(L u:VS)(v:Value)(es:LS)(m:RowIs w c 229 [v])(o:Sl w 310 3 v es.length (Dn es))(H:es.length<=10000)(I:SrtS es)(G:(n,u)∈es):
  Calls Tryz.prog 196 #[Dl (some ⟨c,0,none⟩) n t L] w fun e w'=>e = .returned (.tuple #[])/\∃d b,RowIs w' c 229 [d]/\Sl w' 310 3 d b.length (Dn b)/\
   SrtS b/\b.length+1=es.length/\(∀x,x∈b↔x∈es/\x.1≠n)/\Dk w v d/\Fr (fun k=>k=c\/v.ownBlock=some k) w w':=by
 unfold Dl;go_enter Tryz.func196,Tryz.ntmps196;go_wp2;obtain⟨W2,E,q,T,ab,Q⟩:=De w (DT (some ⟨c,0,none⟩) n t L) 262;rw[E];have B:=q.cell 0;have C:=q.cell 1;have M:Hid (∀j,Below w.heap.size w j->Calls Tryz.prog 233 #[.pointer (some ⟨c,0,none⟩),.string n] j fun e w'=>e = .returned (.tuple #[])/\∃d b,RowIs w' c 229 [d]/\Sl w' 310 3 d b.length (Dn b)/\
   SrtS b/\b.length+1=es.length/\(∀x,x∈b↔x∈es/\x.1≠n)/\Dk w v d/\Fr (fun k=>k=c\/v.ownBlock=some k) w w'/\∀k,k<j.heap.size->w.heap.size<=k->w'.heap[k]?=j.heap[k]?):=by
  intro j f;have p:RowIs j c 229 [v]:=(f.block _ m.lt).trans m;have P:Sl j 310 3 v es.length (Dn es):=o.kept (fun k l _=>f.block k l);have U:v.ownBlock≠some c:=fun e=>by obtain⟨R,O⟩:=o.type e;have:=O.type m;revert this;decide
  refine(dropS j c 0 v es n u (p.cell 0) (p.frozen 0) U P H I G).mono ?_;rintro e w' ⟨rfl,d,b,J,r,s,y,z,A,i⟩;refine⟨rfl,d,b,?_,r,s,y,z,fun g S=>?_,?_,fun k l aa=>i.block k l (fun e=>by have:=m.lt;omega) (fun e=>by have:=o.lt e;omega)⟩
  ·have N:=i.head;have D:=p.set 0 d;unfold RowIs at D ⊢;rw[N];simpa using D
  ·rcases A g S with h|h
   ·exact .inl h
   ·exact .inr (Nat.le_trans f.size h)
  ·exact⟨i.os.trans f.os,i.tape.trans f.tape,i.output.trans f.output,Nat.le_trans f.size i.size,fun k l F=>(i.block k (Nat.lt_of_lt_of_le l f.size) (fun e=>F (.inl e)) (fun e=>F (.inr e))).trans (f.block k l)⟩
 clear E T m o H I G q
 go_region_held3 (fun W=>W.cell? ⟨w.heap.size,0,none⟩=some (.pointer (some ⟨c,0,none⟩))/\W.cell? ⟨w.heap.size,1,none⟩=some (.string n)) (go_keep)
  (first|(go_at_call 233;refine(Da M _ Q.drew).mono ?_;rintro e ac ⟨rfl,d,b,J,r,s,y,z,A,i,K⟩;have m0:=(World.cell?_of_block (a:=⟨w.heap.size,0,none⟩) (K _ (World.block_lt_of_cell? _ _ B) (Nat.le_refl _))).trans B;have m1:=(World.cell?_of_block (a:=⟨w.heap.size,1,none⟩) (K _ (World.block_lt_of_cell? _ _ C) (Nat.le_refl _))).trans C))
 all_goals
  go_wp2
  go_end0
  exact⟨rfl,d,b,J,r,s,y,z,A,i⟩
theorem ZeE(w:World)(tb i:Nat)(V:NV)(E:NS)(t:Value)(G:Gh)(I:LF)(C:IB)(h:TW w tb i V E t G I C)(k:GOk G)(r:G.length<=10000)(d:LY)(a:Nat)(n:IsDir G i d a):
  Calls Tryz.prog 225 #[.pointer (some ⟨tb,0,none⟩),.pointer (some ⟨a,0,none⟩)] w fun e w'=>e = .returned (.bool (decide (G.countP (qIn d)<20/\G.length<100)))/\Below w.heap.size w w':=by
 have m:=Zgq G k r i V E 6 [] i w (by simp) (.inl ⟨rfl,rfl⟩) h.d;rw[ZoM k]at m;have g:=fun (W:World) (b:Below w.heap.size w W)=>ZiO W a (V a) (E a).length (Dn (E a)) ((h.d.below b (Nat.le_refl _)).row d a n) ((h.d.below b (Nat.le_refl _)).sl d a n)
 rw[h.d.len k n]at g;have s:=h.t.cell 0;obtain⟨c,l⟩:∃c,c=G.countP (qIn d):=⟨_,rfl⟩;have aa:c<=10000:=by rw[l];exact Nat.le_trans List.countP_le_length r
 rw[<-l]at g ⊢;have p:=Db g;clear g l;go_enter Tryz.func225,Tryz.ntmps225;go_wp2_with fail;refine m.mono ?_;rintro e w1 ⟨rfl,b⟩;clear m s;by_cases q:20<=c
 ·have j:Hid (decide (c<20/\G.length<100)=false):=decide_eq_false (fun h=>by omega);have o:decide (20<=c)=true:=decide_eq_true q;go_wp2_with (first|(go_at_call 231;refine(Da p _ b).mono ?_;rintro e w' ⟨rfl,f⟩;rw[f];clear f;rw[o]));go_ret;exact⟨by rw[Da j];rfl,b⟩
 ·have o:decide (20<=c)=false:=decide_eq_false q;have j:Hid (decide (c<20/\G.length<100)=decide ((G.length:Int)<100)):=by show _=_;rw[decide_eq_decide];omega
  go_wp2_with (first|(go_at_call 231;refine(Da p _ b).mono ?_;rintro e w' ⟨rfl,f⟩;rw[f];clear f;rw[o]));go_ret;exact⟨by rw[Da j];rfl,b⟩
theorem Zj4(w:World)(tb d:Nat)(V:NV)(E:NS)(j:Value)(G:Gh)(I:LF)(C:IB)(h:TW w tb d V E j G I C)(l:GOk G)(m:G.length<=10000)(aa:I.length<=10000):
  Calls Tryz.prog 81 #[.pointer (some ⟨tb,0,none⟩)] w fun e w'=>e = .returned (.int .i64 ((cD G []+I.length:Nat):Int))/\Below w.heap.size w w':=by
 have b:=Zgq G l m d V E 6 [] d w (by simp) (.inl ⟨rfl,rfl⟩) h.d;have g:=fun (W:World) (a:Below w.heap.size w W)=>lenI W tb 1 j I.length (Dr I) ((h.below a (Nat.le_refl _)).t.cell 1) (h.below a (Nat.le_refl _)).i
 have n:=h.t.cell 0;have o:=ZoN G [];obtain⟨cd,f⟩:∃c,c=cD G []:=⟨_,rfl⟩;rw[<-f]at b o ⊢;have k:=Db g;clear g f;go_enter Tryz.func81,Tryz.ntmps81;go_wp2_with fail;refine b.mono ?_;rintro e w1 ⟨rfl,a⟩;clear b n;go_wp2_with (first|(go_at_call 144;refine(Da k _ a).mono ?_;rintro e w' ⟨rfl,i⟩;rw[i];clear i));go_ret;exact⟨rfl,a⟩
theorem ZeD(w:World)(tb f:Nat)(V:NV)(E:NS)(m:Value)(G:Gh)(I:LF)(C:IB)(h:TW w tb f V E m G I C)(n:GOk G)(o:G.length<=10000)(s:I.length<=10000)(a:LY)(i:Nat)(u:IsDir G f a i):
  Calls Tryz.prog 182 #[.pointer (some ⟨tb,0,none⟩),.pointer (some ⟨i,0,none⟩)] w fun e w'=>e = .returned (.bool (decide ((G.countP (qIn a)<20/\G.length<100)/\cD G []+I.length<60)))/\Below w.heap.size w w':=by
 have p:=ZeE w tb f V E m G I C h n o a i u;have k:=fun (W:World) (b:Below w.heap.size w W)=>Zj4 W tb f V E m G I C (h.below b (Nat.le_refl _)) n o s
 obtain⟨l,q⟩:∃c,c=cD G []+I.length:=⟨_,rfl⟩;rw[<-q]at k ⊢;have r:=Db k;clear k q h;go_enter Tryz.func182,Tryz.ntmps182;go_wp2_with fail;refine p.mono ?_;rintro e w2 ⟨rfl,b⟩;clear p;by_cases j:G.countP (qIn a)<20/\G.length<100
 ·have d:decide (G.countP (qIn a)<20/\G.length<100)=true:=decide_eq_true j;rw[d];have g:Hid (decide ((G.countP (qIn a)<20/\G.length<100)/\l<60)=decide ((l:Int)<60)):=by show _=_;rw[decide_eq_decide];omega
  clear d;go_wp2_with (first|(go_at_call 81;refine(Da r _ b).mono ?_;rintro e w3 ⟨rfl,t⟩));go_ret;exact⟨by rw[Da g];rfl,b.trans (t.mono b.size)⟩
 ·have d:decide (G.countP (qIn a)<20/\G.length<100)=false:=decide_eq_false j;rw[d];have g:Hid (decide ((G.countP (qIn a)<20/\G.length<100)/\l<60)=false):=decide_eq_false (fun h=>j h.1);clear d;go_wp2;go_ret;exact⟨by rw[Da g];rfl,b⟩
def upd{α : Type}(f:Nat -> α)(b:Nat)(v : α):Nat -> α := fun k=>if k=b then v else f k
theorem JG{α : Type}(f:Nat -> α)(b:Nat)(v : α):upd f b v b=v:=by simp[upd]
theorem Jw{α : Type}(f:Nat -> α){b k:Nat}(v : α)(h:k≠b):upd f b v k=f k:=by simp[upd,h]
structure DirH(w:World)(rd:Nat)(B:Nat->Prop)(V:NV)(E:NS):Prop where
 row:∀b,B b->RowIs w b 229 [V b]
 sl:∀b,B b->Sl w 310 3 (V b) (E b).length (Dn (E b))
 srt:∀b,B b->SrtS (E b)
 own:∀b b' g,B b->B b'->(V b).ownBlock=some g->(V b').ownBlock=some g->b=b'
 lo:∀b,B b->rd<=b/\∀g,(V b).ownBlock=some g->rd<=g
theorem DirW.h{w:World}{G:Gh}{c:Nat}{V:NV}{E:NS}(h:DirW w G c V E):DirH w c (fun b=>∃ns,IsDir G c ns b) V E:=
 ⟨fun b ⟨ns,a⟩=>h.row ns b a,fun b ⟨ns,a⟩=>h.sl ns b a,fun b ⟨ns,a⟩=>h.srt ns b a,fun b d g ⟨ns,a⟩ ⟨f,e⟩=>h.own ns f b d g a e,fun b ⟨ns,a⟩=>h.lo ns b a⟩
theorem DirH.w{w:World}{d:Nat}{B:Nat->Prop}{V:NV}{E:NS}(h:DirH w d B V E){G:Gh}(c:∀ns b,IsDir G d ns b->B b)(l:∀x∈G,x.2.p=none\/∃b,x.2=⟨some ⟨b,0,none⟩,0⟩)
  (j:∀ns b,IsDir G d ns b->EnOk G ns (E b)) (k:∀ns e b,IsDir G d ns b->IsDir G d e b->ns=e):DirW w G d V E:=
 ⟨l,fun ns b a=>h.row b (c ns b a),fun ns b a=>h.sl b (c ns b a),fun ns b a=>h.srt b (c ns b a),j,k,fun ns e b f g a i=>h.own b f g (c ns b a) (c e f i),fun ns b a=>h.lo b (c ns b a)⟩
theorem DirH.upd{w w':World}{x:Nat}{B:Nat->Prop}{V:NV}{E:NS}(h:DirH w x B V E){a:Nat}(j:B a){p:Value}{o:LS}(z:RowIs w' a 229 [p])(y:Sl w' 310 3 p o.length (Dn o))(A:SrtS o)(s:Dk w (V a) p)
  (u:Fr (fun k=>k=a\/(V a).ownBlock=some k) w w'):DirH w' x B (upd V a p) (upd E a o):=by
 have v:=h.lo a j;have aa:=(h.row a j).lt;refine⟨fun b c=>?_,fun b c=>?_,fun b c=>?_,fun b n g c r d i=>?_,fun b c=>⟨(h.lo b c).1,fun g l=>?_⟩⟩
 ·by_cases e:b=a
  ·subst e;rw[JG];exact z
  ·rw[Jw _ _ e];exact(h.row b c).fr u (fun t=>t.elim e (fun d=>by obtain⟨R,q⟩:=(h.sl a j).type d;have:=q.type (h.row b c);revert this;decide))
 ·by_cases e:b=a
  ·subst e;rw[JG,JG];exact y
  ·rw[Jw _ _ e,Jw _ _ e];refine(h.sl b c).fr u (fun g l t=>?_);rcases t with rfl|d
   ·obtain⟨R,q⟩:=(h.sl b c).type l;have:=q.type (h.row g j);revert this;decide
   ·exact e (h.own b a g c j l d)
 ·by_cases e:b=a
  ·subst e;rw[JG];exact A
  ·rw[Jw _ _ e];exact h.srt b c
 ·by_cases e:b=a
  ·by_cases m:n=a
   ·rw[e,m]
   ·rw[e,JG]at d;rw[Jw _ _ m]at i;rcases s g d with f|f
    ·rw[e];exact h.own a n g j r f i
    ·have:=(h.sl n r).lt i;omega
  ·by_cases m:n=a
   ·rw[m,JG]at i;rw[Jw _ _ e]at d;rcases s g i with f|f
    ·rw[m];exact h.own b a g c j d f
    ·have:=(h.sl b c).lt d;omega
   ·rw[Jw _ _ e]at d;rw[Jw _ _ m]at i;exact h.own b n g c r d i
 ·by_cases e:b=a
  ·subst e;rw[JG]at l;rcases s g l with f|f
   ·exact v.2 g f
   ·have:=v.1;omega
  ·rw[Jw _ _ e]at l;exact(h.lo b c).2 g l
theorem DirH.new{w:World}{i:Nat}{B:Nat->Prop}{V:NV}{E:NS}(h:DirH w i B V E){nb:Nat}(n:i<=nb)(c:∀b,B b->b≠nb)(o:RowIs w nb 229 [.slice none 0 0]):DirH w i (fun b=>B b\/b=nb) (Go.Proofs.YtaieidcohdhgpaaGreatDoor.upd V nb (.slice none 0 0)) (Go.Proofs.YtaieidcohdhgpaaGreatDoor.upd E nb []):=by
 refine⟨fun b a=>?_,fun b a=>?_,fun b a=>?_,fun b l g a f d e=>?_,fun b a=>?_⟩
 ·rcases a with a|rfl
  ·rw[Jw _ _ (c b a)];exact h.row b a
  ·rw[JG];exact o
 ·rcases a with a|rfl
  ·rw[Jw _ _ (c b a),Jw _ _ (c b a)];exact h.sl b a
  ·rw[JG,JG];exact⟨rfl,.inl ⟨rfl,rfl⟩⟩
 ·rcases a with a|rfl
  ·rw[Jw _ _ (c b a)];exact h.srt b a
  ·rw[JG];intro j k x y _ p;simp at p
 ·rcases a with a|rfl
  ·rcases f with f|rfl
   ·rw[Jw _ _ (c b a)]at d;rw[Jw _ _ (c l f)]at e;exact h.own b l g a f d e
   ·rw[JG]at e;simp[Value.ownBlock]at e
  ·rw[JG]at d;simp[Value.ownBlock]at d
 ·rcases a with a|rfl
  ·rw[Jw _ _ (c b a)];exact h.lo b a
  ·rw[JG];exact⟨n,fun g m=>by simp[Value.ownBlock]at m⟩
theorem IsDir.func{G:Gh}(c:GOk G){e:Nat}{ns:LY}{b d:Nat}(h:IsDir G e ns b)(a:IsDir G e ns d):b=d:=by
 rcases h with⟨rfl,rfl⟩|h
 ·rcases a with⟨_,rfl⟩|a
  ·rfl
  ·exact absurd rfl (c.ne _ a)
 ·rcases a with⟨rfl,rfl⟩|a
  ·exact absurd rfl (c.ne _ h)
  ·have:=QJ c.nd h a
   simpa using this
theorem Qg{α : Type}{a b:List α}{x y : α}(h:a++[x]=b++[y]):a=b/\x=y:=by
 have:=List.append_inj' h rfl;exact⟨this.1,by simpa using this.2⟩
theorem DirW.addFile{w w':World}{G:Gh}{l:Nat}{V:NV}{E:NS}(h:DirW w G l V E)(y:GOk G){d:LY}{c:Nat}(s:IsDir G l d c){n:By}{f:Int}
  {p:Value} {i:LS} (D:RowIs w' c 229 [p]) (z:Sl w' 310 3 p i.length (Dn i)) (F:SrtS i) (B:∀x,x∈i↔x=(n,⟨none,f⟩)\/x∈E c) (C:Dk w (V c) p)
  (A:Fr (fun k=>k=c\/(V c).ownBlock=some k) w w'):DirW w' (G++[(d++[n],⟨none,f⟩)]) l (upd V c p) (upd E c i):=by
 have o:∀ns b,IsDir (G++[(d++[n],(⟨none,f⟩:VS))]) l ns b↔IsDir G l ns b:=by
  intro ns b;constructor
  ·rintro(e|a)
   ·exact .inl e
   ·rcases List.mem_append.1 a with a|a
    ·exact .inr a
    ·simp at a
  ·rintro(e|a)
   ·exact .inl e
   ·exact .inr (List.mem_append_left _ a)
 refine(h.h.upd ⟨d,s⟩ D z F C A).w (fun ns b r=>⟨ns,(o ns b).1 r⟩) (fun x a=>?_) (fun ns b r=>?_) (fun ns H b t v=>h.inj ns H b ((o _ _).1 t) ((o _ _).1 v))
 ·rcases List.mem_append.1 a with a|a
  ·exact h.shp x a
  ·obtain rfl:x=_:=by simpa using a
   exact .inl rfl
 ·have j:=(o ns b).1 r;intro m u;by_cases e:b=c
  ·subst e;obtain rfl:=h.inj ns d b j s;rw[JG,B,List.mem_append,h.en ns b j m u,List.mem_singleton];constructor
   ·rintro(e|e)
    ·right;obtain⟨rfl,rfl⟩:=Prod.mk.inj e;rfl
    ·exact .inl e
   ·rintro(e|e)
    ·exact .inr e
    ·left;obtain⟨g,q⟩:=Prod.mk.inj e;rw[(Qg g).2,q]
  ·rw[Jw _ _ e,h.en ns b j m u,List.mem_append,List.mem_singleton];constructor
   ·exact .inl
   ·rintro(g|g)
    ·exact g
    ·obtain⟨q,_⟩:=Prod.mk.inj g;rw[(Qg q).1]at j;exact absurd (j.func y s) e
theorem DirW.addDir{w w':World}{G:Gh}{g:Nat}{V:NV}{E:NS}(h:DirW w G g V E)(C:GOk G){d:LY}{c:Nat}(y:IsDir G g d c){n:By}(H:atG G (d++[n])=none){nb:Nat}(L:g<=nb)(r:∀ns b,IsDir G g ns b->b≠nb)(M:RowIs w' nb 229 [.slice none 0 0])
  {s:Value} {l:LS} (N:RowIs w' c 229 [s]) (F:Sl w' 310 3 s l.length (Dn l)) (O:SrtS l) (J:∀x,x∈l↔x=(n,⟨some ⟨nb,0,none⟩,0⟩)\/x∈E c) (K:Dk w (V c) s)
  (I:Fr (fun k=>k=c\/(V c).ownBlock=some k) w w'):DirW w' (G++[(d++[n],⟨some ⟨nb,0,none⟩,0⟩)]) g (upd (upd V c s) nb (.slice none 0 0)) (upd (upd E c l) nb []):=by
 have q:∀ns b,IsDir (G++[(d++[n],(⟨some ⟨nb,0,none⟩,0⟩:VS))]) g ns b->IsDir G g ns b\/(ns=d++[n]/\b=nb):=by
  intro ns b;rintro(e|a)
  ·exact .inl (.inl e)
  ·rcases List.mem_append.1 a with a|a
   ·exact .inl (.inr a)
   ·simp at a;exact .inr a
 refine((h.h.upd ⟨d,y⟩ N F O K I).new L (fun b ⟨ns,p⟩=>r ns b p) M).w (fun ns b p=>?_) (fun x a=>?_) (fun ns b p=>?_) (fun ns A b o B=>?_)
 ·rcases q ns b p with o|⟨_,o⟩
  ·exact .inl ⟨ns,o⟩
  ·exact .inr o
 ·rcases List.mem_append.1 a with a|a
  ·exact h.shp x a
  ·obtain rfl:x=_:=by simpa using a
   exact .inr ⟨nb,rfl⟩
 ·intro m u;rcases q ns b p with i|⟨rfl,rfl⟩
  ·rw[Jw _ _ (r ns b i)];by_cases e:b=c
   ·subst e;obtain rfl:=h.inj ns d b i y;rw[JG,J,List.mem_append,h.en ns b i m u,List.mem_singleton];constructor
    ·rintro(e|e)
     ·right;obtain⟨rfl,rfl⟩:=Prod.mk.inj e;rfl
     ·exact .inl e
    ·rintro(e|e)
     ·exact .inr e
     ·left;obtain⟨f,j⟩:=Prod.mk.inj e;rw[(Qg f).2,j]
   ·rw[Jw _ _ e,h.en ns b i m u,List.mem_append,List.mem_singleton];constructor
    ·exact .inl
    ·rintro(f|f)
     ·exact f
     ·obtain⟨j,_⟩:=Prod.mk.inj f;rw[(Qg j).1]at i;exact absurd (i.func C y) e
  ·rw[JG];constructor
   ·intro a;cases a
   ·intro a;exfalso;rcases List.mem_append.1 a with a|a
    ·rcases C.up _ _ _ a with e|⟨v,P,_⟩
     ·simp at e
     ·exact Ud H v P
    ·have e:=(Prod.mk.inj (List.mem_singleton.1 a)).1;have:=congrArg List.length e;simp at this
 ·rcases q ns b o with D|⟨f,j⟩
  ·rcases q A b B with z|⟨_,t⟩
   ·exact h.inj ns A b D z
   ·exact absurd t (r _ _ D)
  ·rcases q A b B with z|⟨t,_⟩
   ·exact absurd j (r _ _ z)
   ·rw[f,t]
theorem DirW.del{w w':World}{G G':Gh}{i:Nat}{V:NV}{E:NS}(h:DirW w G i V E)(v:GOk G){j:LY}{a:Nat}(r:IsDir G i j a){n:By}(l:∀x,x∈G'↔x∈G/\x.1≠j++[n])
  {p:Value} {d:LS} (C:RowIs w' a 229 [p]) (y:Sl w' 310 3 p d.length (Dn d)) (D:SrtS d) (A:∀x,x∈d↔x∈E a/\x.1≠n) (B:Dk w (V a) p)
  (z:Fr (fun k=>k=a\/(V a).ownBlock=some k) w w'):DirW w' G' i (upd V a p) (upd E a d):=by
 have o:∀ns b,IsDir G' i ns b->IsDir G i ns b:=by
  intro ns b;rintro(e|s)
  ·exact .inl e
  ·exact .inr ((l _).1 s).1
 refine(h.h.upd ⟨j,r⟩ C y D B z).w (fun ns b q=>⟨ns,o ns b q⟩) (fun x s=>h.shp x ((l x).1 s).1) (fun ns b q=>?_) (fun ns F b c f=>h.inj ns F b (o _ _ c) (o _ _ f));have g:=o ns b q;intro m u;by_cases e:b=a
 ·subst e;obtain rfl:=h.inj ns j b g r;rw[JG,A,l,h.en ns b g m u];constructor
  ·rintro⟨c,f⟩;exact⟨c,fun e=>f (Qg e).2⟩
  ·rintro⟨c,f⟩;exact⟨c,fun e=>f (by rw[show m=n from e])⟩
 ·rw[Jw _ _ e,h.en ns b g m u,l];constructor
  ·intro c;refine⟨c,fun t=>?_⟩;rw[(Qg t).1]at g;exact e (g.func v r)
  ·exact fun c=>c.1
def DM(tb:Nat)(w:World)(k:Nat):Prop:=(∃t R,RowIs w k t R/\(t=214\/t=229\/t=310\/t=293))/\tb<=k+1
def PS(w:World)(tb:Nat)(G:Gh)(I:LF)(C:IB):Prop:=∃rd V E vi,TW w tb rd V E vi G I C
theorem RowIs.back{B:Nat}{w w':World}(b:Below B w w'){k:Nat}(_hk:k<w.heap.size)(a:k<B){t:TypeId}{R:LVa}(h:RowIs w' k t R):RowIs w k t R:=(b.block k a).symm.trans h
theorem Fr.prog{tb:Nat}{w w1 w2:World}(a:Below w.heap.size w w1)(b:Fr (DM tb w1) w1 w2):Fr (DM tb w) w w2:=
 ⟨b.os.trans a.os,b.tape.trans a.tape,b.output.trans a.output,Nat.le_trans a.size b.size,fun k c e=>(b.block k (Nat.lt_of_lt_of_le c a.size) (fun ⟨⟨t,R,d,g⟩,f⟩=>e ⟨⟨t,R,d.back a c c,g⟩,f⟩)).trans (a.block k c)⟩
theorem Fr.progTrans{tb:Nat}{w w1 w2:World}(a:Fr (DM tb w) w w1)(b:Fr (DM tb w1) w1 w2):Fr (DM tb w) w w2:=
 ⟨b.os.trans a.os,b.tape.trans a.tape,b.output.trans a.output,Nat.le_trans a.size b.size,fun k f e=>by
  have c:=a.block k f e;refine(b.block k (Nat.lt_of_lt_of_le f a.size) (fun ⟨⟨t,R,d,h⟩,g⟩=>e ⟨⟨t,R,?_,h⟩,g⟩)).trans c;unfold RowIs at d ⊢;rw[<-c];exact d⟩
theorem Fr.progOne{tb:Nat}{w w':World}{b:Nat}{v:Value}(c:tb<=b+1/\∀g,v.ownBlock=some g->tb<=g+1)(h:RowIs w b 229 [v]){n:Nat}{xs:LVa}(e:Sl w 310 3 v n xs)(f:Fr (fun k=>k=b\/v.ownBlock=some k) w w'):Fr (DM tb w) w w':=
 f.mono (fun k _ a=>by
  rcases a with rfl|a
  ·exact⟨⟨229,_,h,.inr (.inl rfl)⟩,c.1⟩
  ·obtain⟨R,d⟩:=e.type a;exact⟨⟨310,R,d,.inr (.inr (.inl rfl))⟩,c.2 k a⟩)
theorem TW.dirs{w w':World}{tb m:Nat}{V:NV}{E:NS}{y:Value}{G:Gh}{I:LF}{C:IB}(h:TW w tb m V E y G I C){f:Nat}{v:Value}(r:RowIs w f 229 [v]){n:Nat}{xs:LVa}(q:Sl w 310 3 v n xs)(d:Fr (fun k=>k=f\/v.ownBlock=some k) w w')
  {G':Gh} {p:NV} {o:NS} (A:DirW w' G' m p o):TW w' tb m p o y G' I C:=by
 have j:∀k t R,(k=f\/v.ownBlock=some k)->RowIs w k t R->t=229\/t=310:=fun k t R c b=>by
  rcases c with rfl|c
  ·exact .inl (b.type r)
  ·obtain⟨z,i⟩:=q.type c;exact .inr (b.type i)
 refine⟨h.pk.fr d (fun e=>?_),h.t.fr d (fun e=>?_),A,h.i.fr d (fun g l e=>?_),h.si,fun x u=>(h.dat x u).fr d (fun g l e=>?_),h.lo⟩
 ·obtain⟨_,s⟩:=h.pk;rcases e with rfl|c
  ·have:=s _ _ r;revert this;decide
  ·obtain⟨z,i⟩:=q.type c;have:=s _ _ i;revert this;decide
 ·rcases j _ _ _ e h.t with a|a<;>(revert a;decide)
 ·obtain⟨R,b⟩:=h.i.type l;rcases j _ _ _ e b with a|a<;>(revert a;decide)
 ·obtain⟨R,b⟩:=(h.dat x u).type l;rcases j _ _ _ e b with a|a<;>(revert a;decide)
def JD(G:Gh)(I:LF)(ds:LY):Bool:=decide ((G.countP (qIn ds)<20/\G.length<100)/\cD G []+I.length<60)
def mkE(G:Gh)(I:LF)(p:By):Int:=if DQ p=false then 1 else if Jj G (Df p)≠0 then Jj G (Df p) else if JD G I (Df p).dropLast=false then 8 else 0
def QV(w:World)(tb:Nat)(G:Gh)(I:LF)(C:IB)(p:By)(e:Ending)(w':World):Prop:=
 e = .returned (.int .i64 (mkE G I p))/\Fr (DM tb w) w w'/\((mkE G I p≠0/\PS w' tb G I C)\/(mkE G I p=0/\∃nb,PS w' tb (G++[(Df p,⟨some ⟨nb,0,none⟩,0⟩)]) I C))
def lgE(G:Gh)(p:By):Int:=if DQ p=false then 1 else Jj G (Df p)
def ZnP(G:Gh)(rd:Nat)(p:By)(w:World)(e:Ending)(w':World):Prop:=
 ((lgE G p≠0/\e = .returned (.tuple #[DD,.int .i64 (lgE G p)]))\/
  (lgE G p=0/\DQ p=true/\∃ds n db,Df p=ds++[n]/\IsDir G rd ds db/\atG G (Df p)=none/\e = .returned (.tuple #[Dl (some ⟨db,0,none⟩) n false ⟨none,0⟩,.int .i64 0])))/\Below w.heap.size w w'
theorem Zfs(w:World)(tb u:Nat)(V:NV)(E:NS)(Q:Value)(G:Gh)(I:LF)(C:IB)(h:TW w tb u V E Q G I C)(hG:GOk G)(aa:G.length<=10000)(p:By)(hp:p.size<=2000000):
  Calls Tryz.prog 181 #[.pointer (some ⟨tb,0,none⟩),.string p] w (ZnP G u p w):=by
 obtain⟨m,M⟩:=h.pk.1;have h0:0<w.heap.size:=World.block_lt_of_cell? _ _ M;have x:∀o,Below w.heap.size w (w.alloc o):=fun o=>(Below.refl _ _).alloc (Nat.le_refl _) o
 have N:=fun o=>Zeh p m (w.alloc o) hp (((x o).cell (p:=⟨0,0,none⟩) h0).trans M)
 have P:=Jd w [.pointer none,.string ⟨#[]⟩,.bool false,.pointer none,.int .i64 0] 262;have U:=Db P;clear P;go_enter Tryz.func181,Tryz.ntmps181;go_wp2_with fail;refine(N _).mono ?_;rintro e w1 ⟨A,y⟩;have k:Below w.heap.size w w1:=(x _).trans (y.mono (by simp));have d:RowIs w1 w.heap.size 262 _:=(y.block _ (by simp)).trans (Da U);have R:=Db h;clear N x h;rcases A with⟨g,rfl⟩|⟨g,a,c,rfl,D⟩
 ·have i:Hid (lgE G p=1):=by show _=_;unfold lgE;rw[if_pos g]
  have g0:=d.frozen 0;have g1:=d.frozen 1;have g2:=d.frozen 2;have g3:=d.frozen 3;have g4:=d.frozen 4;have W:=d.cell 0;have X:=d.cell 1;have Y:=d.cell 2;have Z:=d.cell 3;have a4:=d.cell 4;clear g;go_wp2;have b:=Jq d (.pointer none) (.string ⟨#[]⟩) (.bool false) (.pointer none) (.int .i64 0);have l:=b.cell 0;have q:=b.cell 1;have r:=b.cell 2;have s:=b.cell 3;have t:=b.cell 4;exact bodyPost_ret (v := .tuple #[DD,.int .i64 1]) (by simp[results,Tryz.results181,go_sem,l,q,r,s,t,DD,Dl]) rfl
   ⟨.inl ⟨by rw[Da i];decide,by rw[Da i]⟩,Jy k (Nat.le_refl _) _ _ _ _ _⟩
 ·have i:Hid (lgE G p=Jj G (Df p)):=by show _=_;unfold lgE;rw[if_neg (by rw[g];simp)]
  have B:=(Da R).below k (Nat.le_refl _);have L:=ZjF w1 tb u V E Q G I C B hG aa (Df p) (ZdK g) a c D;have S:=Db g;clear g B;go_wp2_with fail;refine L.mono ?_;rintro e w2 ⟨A,z⟩;have f:RowIs w2 w.heap.size 262 _:=(z.block _ d.lt).trans d;have H:Below w.heap.size w w2:=k.trans (z.mono k.size);clear L d k z y D;have g0:=f.frozen 0;have g1:=f.frozen 1;have g2:=f.frozen 2;have g3:=f.frozen 3;have g4:=f.frozen 4;have W:=f.cell 0;have X:=f.cell 1;have Y:=f.cell 2;have Z:=f.cell 3;have a4:=f.cell 4;rcases A with⟨ab,rfl⟩|⟨K,ds,n,j,O,J,F,rfl⟩
  ·unfold DD Dl;go_wp2;have b:=Jq f (.pointer none) (.string ⟨#[]⟩) (.bool false) (.pointer none) (.int .i64 0);have l:=b.cell 0;have q:=b.cell 1;have r:=b.cell 2;have s:=b.cell 3;have t:=b.cell 4;exact bodyPost_ret (v := .tuple #[DD,.int .i64 (Jj G (Df p))]) (by simp[results,Tryz.results181,go_sem,l,q,r,s,t,DD,Dl]) rfl
    ⟨.inl ⟨by rw[Da i];exact ab,by rw[Da i]⟩,Jy H (Nat.le_refl _) _ _ _ _ _⟩
  ·have T:Hid (ZnP G u p w (.returned (.tuple #[Dl (some ⟨j,0,none⟩) n false ⟨none,0⟩,.int .i64 0])) (((((w2.setCell ⟨w.heap.size,0,none⟩ (.pointer (some ⟨j,0,none⟩))).setCell ⟨w.heap.size,1,none⟩ (.string n)).setCell ⟨w.heap.size,2,none⟩ (.bool false)).setCell ⟨w.heap.size,3,none⟩ (.pointer none)).setCell ⟨w.heap.size,4,none⟩ (.int .i64 0))):=
    ⟨.inr ⟨(Da i).trans K,Da S,ds,n,j,O,J,F,rfl⟩,Jy H (Nat.le_refl _) _ _ _ _ _⟩
   clear K O J F;unfold Dl;go_wp2;have b:=Jq f (.pointer (some ⟨j,0,none⟩)) (.string n) (.bool false) (.pointer none) (.int .i64 0);have l:=b.cell 0;have q:=b.cell 1;have r:=b.cell 2;have s:=b.cell 3;have t:=b.cell 4;exact bodyPost_ret (v := .tuple #[Dl (some ⟨j,0,none⟩) n false ⟨none,0⟩,.int .i64 0]) (by simp[results,Tryz.results181,go_sem,l,q,r,s,t,Dl]) rfl (Da T)
theorem Zj6(w:World)(tb:Nat)(G:Gh)(I:LF)(C:IB)(h:PS w tb G I C)(y:GOk G)(D:G.length<=10000)(an:I.length<=10000)(p:By)(hp:p.size<=2000000):
  Calls Tryz.prog 122 #[.pointer (some ⟨tb,0,none⟩),.string p] w (QV w tb G I C p):=by
 obtain⟨u,V,E,z,h⟩:=h;have N:Hid (∀W,Below w.heap.size w W->mkE G I p≠0->QV w tb G I C p (.returned (.int .i64 (mkE G I p))) W):=fun W g m=>⟨rfl,Fr.of_below g,.inl ⟨m,u,V,E,z,h.below g (Nat.le_refl _)⟩⟩
 have af:=Zfs w tb u V E z G I C h y D p hp;have v:=Db h;clear h;go_enter Tryz.func122,Tryz.ntmps122;go_wp2_with fail;refine af.mono ?_;rintro e w2 ⟨aq,g⟩;clear af;rcases aq with⟨m,rfl⟩|⟨o,k,c,n,f,J,a,ab,rfl⟩
 ·have j:Hid (mkE G I p=lgE G p):=by
   show _=_;unfold mkE lgE at *;by_cases k:DQ p=false
   ·rw[if_pos k,if_pos k]
   ·rw[if_neg k]at m;rw[if_neg k,if_neg k,if_pos m]
  have al:=Db m;have aw:(lgE G p != 0)=true:=by simpa using m
  clear m;unfold DD Dl;go_wp2;go_ret;have:=Da N _ (g.alloc g.size (.cells (DT none ⟨#[]⟩ false ⟨none,0⟩).toArray 262)) (by rw[Da j];exact Da al);rw[Da j]at this;exact this
 ·have o:Jj G (Df p)=0:=by unfold lgE at o;rw[if_neg (by rw[k];simp)]at o;exact o
  have B:=Db k;obtain⟨W,hW,i,hk,ax,ap⟩:=De w2 (DT (some ⟨f,0,none⟩) n false ⟨none,0⟩) 262;have F:Below w.heap.size w W:=g.trans (ap.mono g.size);have ag:=ZeD W tb u V E z G I C ((Da v).below F (Nat.le_refl _)) y D an c f a;have A:Hid (mkE G I p=if JD G I c=false then 8 else 0):=by
   show _=_;unfold mkE;rw[if_neg (by rw[Da B];simp),if_neg (by rw[o];simp),J,List.dropLast_concat]
  have q:=Db J;have L:=Db ab;have aj:=Db a;have O:=Db hW;clear o J ab a hk hW;unfold Dl;go_upto_if 20 with fail;rw[Da O];clear O;have Q:=i.cell 0;have S:=i.cell 1;have T:=i.cell 2;have U:=i.cell 3;have X:=i.cell 4;go_wp2_with fail;refine ag.mono ?_;rintro e l ⟨rfl,ac⟩;have s:RowIs l w2.heap.size 262 _:=(ac.block _ i.lt).trans i;have r:Below w.heap.size w l:=F.trans (ac.mono F.size);clear ag Q S T U X;change Hid (mkE G I p=if JD G I c=false then 8 else 0) at A;rw[show decide ((G.countP (qIn c)<20/\G.length<100)/\cD G []+I.length<60)=JD G I c from rfl]
  cases hmb:JD G I c with
  | false=>
   have j:Hid (mkE G I p=8):=by show _=_;rw[Da A,hmb];rfl
   go_wp2;go_ret;have:=Da N l r (by rw[Da j];decide);rw[Da j]at this;exact this
  | true=>
   have j:Hid (mkE G I p=0):=by show _=_;rw[Da A,hmb];rfl
   have Q:=s.cell 0;have S:=s.cell 1;have T:=s.cell 2;have U:=s.cell 3;have X:=s.cell 4;obtain⟨P,aa,ai,av,ay,ao⟩:=De l [.slice none 0 0] 229;have ad:Below w.heap.size w P:=r.trans (ao.mono r.size);have d:=(Da v).below ad (Nat.le_refl _);have a:=Da aj;have H:=Zh8 P f n (by
    have:=ZdK (Da B)
    cases hr:(p.toList==[47]) with
    | true=>have Y:=Ui hr;rw[Da q]at Y;simp at Y
    | false=>
     have Z:=(Uq (Da B) hr).2.1 n (by rw[Da q];simp);simp only[DP,Bool.and_eq_true,decide_eq_true_eq]at Z;have:=Z.1.2;omega) false ⟨none,0⟩ ⟨some ⟨l.heap.size,0,none⟩,0⟩ (V f) (E f) (d.d.row c f a) (d.d.sl c f a) (Nat.le_trans (d.d.le y a) D) (d.d.srt c f a) (fun x i e=>by
     have:=(d.d.en c f a x.1 x.2).1 i;rw[e]at this;exact Ud (by rw[<-Da q];exact Da L) _ this)
   unfold Dl at H;have M:=Db H;have H4:=Db d;have am:=Db aa;clear H d aa;go_wp2_with fail;rw[Da am];refine(Da M).mono ?_;rintro e w5 ⟨rfl,v',au,q1,q2,q3,q4,q5,q6,t⟩;have ak:Hid (QV w tb G I C p (.returned (.int .i64 0)) w5):=by
    have d:=Da H4;have ah:=d.d.row c f a;have K:=d.d.sl c f a;have ae:∀ns b,IsDir G u ns b->b≠l.heap.size:=fun ns b g e=>by
     have:=((Da v).d.row ns b g).lt;have:=r.size;omega
    have ar:RowIs w5 l.heap.size 229 [.slice none 0 0]:=by
     refine ai.fr t (fun e=>?_);rcases e with e|e
     ·exact ae c f a e.symm
     ·obtain⟨R,hR⟩:=K.type e;have:=hR.type ai;revert this;decide
    have hD:=d.d.addDir y a (by rw[<-Da q];exact Da L) (Nat.le_trans (Nat.le_of_lt ((Da v).d.row _ _ (.inl ⟨rfl,rfl⟩)).lt) r.size) ae ar q1 q2 q3 q5 q6 t;have hT:=TW.dirs d ah K t hD;rw[<-Da q]at hT;exact⟨by rw[Da j],Fr.prog ad (Fr.progOne (d.dlo a) ah K t),.inr ⟨Da j,l.heap.size,u,_,_,z,hT⟩⟩
   clear M q1 q2 q3 q4 q5 q6 t;go_wp2;go_ret;exact Da ak
end Go.Proofs.YtaieidcohdhgpaaGreatDoor
