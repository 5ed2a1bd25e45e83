/- Dumps. -/
import Derived.Test.YtaieidcohdhgpaaGreatDoorZAI
namespace Go.Proofs.YtaieidcohdhgpaaGreatDoor
set_option maxHeartbeats 40000000
set_option maxRecDepth 100000
open Go.RowKit
theorem Pr(s:By)(w:World)(hs:s.size<=2000000):Cl 223 #[.string s] w fun e w'=>e = .returned (.string s)/\Bw w w':=by
 have b:=Tryz.stringslite_Clone s w (by omega);go_enter Tryz.func223,Tryz.ntmps223;go_wp2_with fail;refine b.mono ?_;rintro e w' ⟨rfl,a⟩;go_wp2;go_ret;exact⟨rfl,a⟩
theorem ZiO(w:World)(b:Nat)(v:Value)(n:Nat)(xs:LV)(g:FH w b 229 [v])(f:Sl w 310 3 v n xs):Cl 231 #[.pointer (some ⟨b,0,none⟩)] w fun e w'=>e = .returned (.bool (decide (20<=n)))/\w'=w:=by
 have c:=IY w b 0 v n xs (g.cell 0) f;go_enter Tryz.func231,Tryz.ntmps231;go_wp2_with fail;refine c.mono ?_;rintro e w' ⟨rfl,rfl⟩;have a:decide ((20:Int)<=(n:Int))=decide (20<=n):=by rw[Eo];omega
 have d:=Db a;clear a c;go_wp2;go_ret;exact⟨by rw[<-Da d];rfl,rfl⟩
theorem T4(w:World)(c:Nat)(n:By)(hn:n.size<=2000000)(t:Bool)(Z u:VS)(v:Value)(d:LS)(q:FH w c 229 [v])(r:Sl w 310 3 v d.length (Di d))(O:d.length<=10000)(Q:FZ d)(P:∀x∈d,x.1≠n):
  Cl 183 #[Dn (some ⟨c,0,none⟩) n t Z,.agg #[.pointer u.p,.int .i64 u.f]] w fun e w'=>e = .returned (.tuple #[])/\∃f b,FH w' c 229 [f]/\Sl w' 310 3 f b.length (Di b)/\
   FZ b/\b.length=d.length+1/\(∀x,x∈b↔x=(n,u)\/x∈d)/\Dh w v f/\Fr (fun k=>k=c\/v.ownBlock=some k) w w':=by
 unfold Dn;go_enter Tryz.func183,Tryz.ntmps183;go_wp2;obtain⟨W1,H,S,ac,ae,L⟩:=De w (Ji (some ⟨c,0,none⟩) n t Z) 262;obtain⟨W2,I,s,N,ah,M⟩:=De W1 [.pointer u.p,.int .i64 u.f] 260;have A:=N _ _ _ S;rw[ae]at s;have K:Bw w W2:=L.trans (M.mono (by omega));rw[H,I];have a0:=A.cell 0;have a1:=A.cell 1;have c0:=s.cell 0;have c1:=s.cell 1;have aa:Hid (∀l,Bw w l->Cl 226 #[.pointer (some ⟨c,0,none⟩),.string n,.agg #[.pointer u.p,.int .i64 u.f]] l fun e w'=>e = .returned (.tuple #[])/\∃f b,FH w' c 229 [f]/\Sl w' 310 3 f b.length (Di b)/\
   FZ b/\b.length=d.length+1/\(∀x,x∈b↔x=(n,u)\/x∈d)/\Dh w v f/\Fr (fun k=>k=c\/v.ownBlock=some k) w w'/\∀k,k<l.heap.size->w.heap.size<=k->w'.heap[k]?=l.heap[k]?):=by
  intro l i;have z:FH l c 229 [v]:=(i.block _ q.lt).trans q;have ab:Sl l 310 3 v d.length (Di d):=r.kept (fun k o _=>i.block k o);have ad:v.ownBlock≠some c:=fun e=>by obtain⟨R,hR⟩:=r.type e;have:=hR.type q;revert this;decide
  refine(WM l c 0 v d n u (z.cell 0) (z.frozen 0) ad ab O Q P).mono ?_;rintro e w' ⟨rfl,f,b,Y,B,C,D,E,F,j⟩;refine⟨rfl,f,b,?_,B,C,D,E,fun g hg=>?_,?_,fun k o ag=>j.block k o (fun e=>by have:=q.lt;omega) (fun e=>by have:=r.lt e;omega)⟩
  ·have h1:=j.head;have G:=z.set 0 f;unfold FH at G ⊢;rw[h1];simpa using G
  ·rcases F g hg with h|h
   ·exact .inl h
   ·exact .inr (Ae i.size h)
  ·exact⟨j.os.trans i.os,j.tape.trans i.tape,j.output.trans i.output,Ae i.size j.size,fun k o J=>(j.block k (Ao o i.size) (fun e=>J (.inl e)) (fun e=>J (.inr e))).trans (i.block k o)⟩
 clear H I S ac N L M q r O Q P A s
 go_region_held3 (fun W=>W.cell? ⟨w.heap.size,0,none⟩=some (.pointer (some ⟨c,0,none⟩))/\W.cell? ⟨w.heap.size,1,none⟩=some (.string n)/\W.cell? ⟨w.heap.size+1,0,none⟩=some (.pointer u.p)/\W.cell? ⟨w.heap.size+1,1,none⟩=some (.int .i64 u.f)) (go_keep)
  (first|(go_at_call 223;refine(Pr _ _ hn).mono ?_;rintro e w' ⟨rfl,m⟩;have af:Bw w w':=(K.drew).trans (m.mono (by have:=K.size;simp;omega));have T:=(m.cell (p:=⟨w.heap.size,0,none⟩) (by simp;omega)).trans a0;have U:=(m.cell (p:=⟨w.heap.size,1,none⟩) (by simp;omega)).trans a1;have V:=(m.cell (p:=⟨w.heap.size+1,0,none⟩) (by simp;omega)).trans c0;have X:=(m.cell (p:=⟨w.heap.size+1,1,none⟩) (by simp;omega)).trans c1;clear m)|(go_at_call 226;refine(Da aa _ (by assumption)).mono ?_;rintro e ai ⟨rfl,f,b,Y,B,C,D,E,F,j,y⟩;have m0:=(Ax (a:=⟨w.heap.size,0,none⟩) (y _ (Al _ _ T) (Aa _))).trans T;have m1:=(Ax (a:=⟨w.heap.size,1,none⟩) (y _ (Al _ _ U) (Aa _))).trans U;have m2:=(Ax (a:=⟨w.heap.size+1,0,none⟩) (y _ (Al _ _ V) (EB _))).trans V;have m3:=(Ax (a:=⟨w.heap.size+1,1,none⟩) (y _ (Al _ _ X) (EB _))).trans X))
 all_goals
  go_wp2
  go_end0
  exact⟨rfl,f,b,Y,B,C,D,E,F,j⟩
theorem Z9(w:World)(c:Nat)(n:By)(t:Bool)(M u:VS)(v:Value)(d:LS)(o:FH w c 229 [v])(p:Sl w 310 3 v d.length (Di d))(I:d.length<=10000)(J:FZ d)(H:(n,u)∈d):
  Cl 196 #[Dn (some ⟨c,0,none⟩) n t M] w fun e w'=>e = .returned (.tuple #[])/\∃f b,FH w' c 229 [f]/\Sl w' 310 3 f b.length (Di b)/\
   FZ b/\b.length+1=d.length/\(∀x,x∈b↔x∈d/\x.1≠n)/\Dh w v f/\Fr (fun k=>k=c\/v.ownBlock=some k) w w':=by
 unfold Dn;go_enter Tryz.func196,Tryz.ntmps196;go_wp2;obtain⟨W2,F,r,U,ab,S⟩:=De w (Ji (some ⟨c,0,none⟩) n t M) 262;rw[F];have C:=r.cell 0;have D:=r.cell 1;have N:Hid (∀l,Bw w l->Cl 233 #[.pointer (some ⟨c,0,none⟩),.string n] l fun e w'=>e = .returned (.tuple #[])/\∃f b,FH w' c 229 [f]/\Sl w' 310 3 f b.length (Di b)/\
   FZ b/\b.length+1=d.length/\(∀x,x∈b↔x∈d/\x.1≠n)/\Dh w v f/\Fr (fun k=>k=c\/v.ownBlock=some k) w w'/\∀k,k<l.heap.size->w.heap.size<=k->w'.heap[k]?=l.heap[k]?):=by
  intro l i;have q:FH l c 229 [v]:=(i.block _ o.lt).trans o;have Q:Sl l 310 3 v d.length (Di d):=p.kept (fun k m _=>i.block k m);have V:v.ownBlock≠some c:=fun e=>by obtain⟨R,P⟩:=p.type e;have:=P.type o;revert this;decide
  refine(Mt l c 0 v d n u (q.cell 0) (q.frozen 0) V Q I J H).mono ?_;rintro e w' ⟨rfl,f,b,K,s,y,z,A,B,j⟩;refine⟨rfl,f,b,?_,s,y,z,A,fun g T=>?_,?_,fun k m aa=>j.block k m (fun e=>by have:=o.lt;omega) (fun e=>by have:=p.lt e;omega)⟩
  ·have O:=j.head;have E:=q.set 0 f;unfold FH at E ⊢;rw[O];simpa using E
  ·rcases B g T with h|h
   ·exact .inl h
   ·exact .inr (Ae i.size h)
  ·exact⟨j.os.trans i.os,j.tape.trans i.tape,j.output.trans i.output,Ae i.size j.size,fun k m G=>(j.block k (Ao m i.size) (fun e=>G (.inl e)) (fun e=>G (.inr e))).trans (i.block k m)⟩
 clear F U o p I J H r
 go_region_held3 (fun W=>W.cell? ⟨w.heap.size,0,none⟩=some (.pointer (some ⟨c,0,none⟩))/\W.cell? ⟨w.heap.size,1,none⟩=some (.string n)) (go_keep)
  (first|(go_at_call 233;refine(Da N _ S.drew).mono ?_;rintro e ac ⟨rfl,f,b,K,s,y,z,A,B,j,L⟩;have m0:=(Ax (a:=⟨w.heap.size,0,none⟩) (L _ (Al _ _ C) (Aa _))).trans C;have m1:=(Ax (a:=⟨w.heap.size,1,none⟩) (L _ (Al _ _ D) (Aa _))).trans D))
 all_goals
  go_wp2
  go_end0
  exact⟨rfl,f,b,K,s,y,z,A,B,j⟩
theorem VZ(w:World)(tb i:Nat)(V:NV)(E:NS)(t:Value)(G:Gh)(I:LF)(C:IB)(h:TW w tb i V E t G I C)(k:F0 G)(r:G.length<=10000)(d:LY)(a:Nat)(n:FI G i d a):
  Cl 225 #[.pointer (some ⟨tb,0,none⟩),.pointer (some ⟨a,0,none⟩)] w fun e w'=>e = .returned (.bool (decide (G.countP (GF d)<20/\G.length<100)))/\Bw w w':=by
 have m:=Ve G k r i V E 6 [] i w (by simp) (.inl ⟨rfl,rfl⟩) h.d;rw[WD k]at m;have g:=fun (W:World) (b:Bw w W)=>ZiO W a (V a) (E a).length (Di (E a)) ((h.d.below b (Aa _)).row d a n) ((h.d.below b (Aa _)).sl d a n)
 rw[h.d.len k n]at g;have s:=h.t.cell 0;obtain⟨c,l⟩:=ex (G.countP (GF d));have aa:c<=10000:=by rw[l];exact Ae Bj r
 rw[<-l]at g ⊢;have p:=Db g;clear g l;go_enter Tryz.func225,Tryz.ntmps225;go_wp2_with fail;refine m.mono ?_;rintro e w1 ⟨rfl,b⟩;clear m s;by_cases q:20<=c
 ·have j:Hid (decide (c<20/\G.length<100)=false):=BW (fun h=>by omega);have o:decide (20<=c)=true:=CN q;go_wp2_with (first|(go_at_call 231;refine(Da p _ b).mono ?_;rintro e w' ⟨rfl,f⟩;rw[f];clear f;rw[o]));go_ret;exact⟨by rw[Da j];rfl,b⟩
 ·have o:decide (20<=c)=false:=BW q;have j:Hid (decide (c<20/\G.length<100)=decide ((G.length:Int)<100)):=by show _=_;rw[Eo];omega
  go_wp2_with (first|(go_at_call 231;refine(Da p _ b).mono ?_;rintro e w' ⟨rfl,f⟩;rw[f];clear f;rw[o]));go_ret;exact⟨by rw[Da j];rfl,b⟩
theorem Zkn(w:World)(tb d:Nat)(V:NV)(E:NS)(j:Value)(G:Gh)(I:LF)(C:IB)(h:TW w tb d V E j G I C)(l:F0 G)(m:G.length<=10000)(aa:I.length<=10000):
  Cl 81 #[.pointer (some ⟨tb,0,none⟩)] w fun e w'=>e = .returned (.int .i64 ((cD G []+I.length:Nat):Int))/\Bw w w':=by
 have b:=Ve G l m d V E 6 [] d w (by simp) (.inl ⟨rfl,rfl⟩) h.d;have g:=fun (W:World) (a:Bw w W)=>NL W tb 1 j I.length (Dm I) ((h.below a (Aa _)).t.cell 1) (h.below a (Aa _)).i
 have n:=h.t.cell 0;have o:=NX G [];obtain⟨cd,f⟩:∃c,c=cD G []:=⟨_,rfl⟩;rw[<-f]at b o ⊢;have k:=Db g;clear g f;go_enter Tryz.func81,Tryz.ntmps81;go_wp2_with fail;refine b.mono ?_;rintro e w1 ⟨rfl,a⟩;clear b n;go_wp2_with (first|(go_at_call 144;refine(Da k _ a).mono ?_;rintro e w' ⟨rfl,i⟩;rw[i];clear i));go_ret;exact⟨rfl,a⟩
theorem V3(w:World)(tb f:Nat)(V:NV)(E:NS)(m:Value)(G:Gh)(I:LF)(C:IB)(h:TW w tb f V E m G I C)(n:F0 G)(o:G.length<=10000)(s:I.length<=10000)(a:LY)(i:Nat)(u:FI G f a i):
  Cl 182 #[.pointer (some ⟨tb,0,none⟩),.pointer (some ⟨i,0,none⟩)] w fun e w'=>e = .returned (.bool (decide ((G.countP (GF a)<20/\G.length<100)/\cD G []+I.length<60)))/\Bw w w':=by
 have p:=VZ w tb f V E m G I C h n o a i u;have k:=fun (W:World) (b:Bw w W)=>Zkn W tb f V E m G I C (h.below b (Aa _)) n o s
 obtain⟨l,q⟩:∃c,c=cD G []+I.length:=⟨_,rfl⟩;rw[<-q]at k ⊢;have r:=Db k;clear k q h;go_enter Tryz.func182,Tryz.ntmps182;go_wp2_with fail;refine p.mono ?_;rintro e w2 ⟨rfl,b⟩;clear p;by_cases j:G.countP (GF a)<20/\G.length<100
 ·have d:decide (G.countP (GF a)<20/\G.length<100)=true:=CN j;rw[d];have g:Hid (decide ((G.countP (GF a)<20/\G.length<100)/\l<60)=decide ((l:Int)<60)):=by show _=_;rw[Eo];omega
  clear d;go_wp2_with (first|(go_at_call 81;refine(Da r _ b).mono ?_;rintro e w3 ⟨rfl,t⟩));go_ret;exact⟨by rw[Da g];rfl,b.trans (t.mono b.size)⟩
 ·have d:decide (G.countP (GF a)<20/\G.length<100)=false:=BW j;rw[d];have g:Hid (decide ((G.countP (GF a)<20/\G.length<100)/\l<60)=false):=BW (fun h=>j h.1);clear d;go_wp2;go_ret;exact⟨by rw[Da g];rfl,b⟩
def Ie{α : Type}(f:Nat -> α)(b:Nat)(v : α):Nat -> α := fun k=>if k=b then v else f k
theorem JM{α : Type}(f:Nat -> α)(b:Nat)(v : α):Ie f b v b=v:=by simp[Ie]
theorem Jz{α : Type}(f:Nat -> α){b k:Nat}(v : α)(h:k≠b):Ie f b v k=f k:=by simp[Ie,h]
structure Hn(w:World)(rd:Nat)(B:Nat->Prop)(V:NV)(E:NS):Prop where
 row:∀b,B b->FH w b 229 [V b]
 sl:∀b,B b->Sl w 310 3 (V b) (E b).length (Di (E b))
 srt:∀b,B b->FZ (E b)
 own:∀b b' g,B b->B b'->(V b).ownBlock=some g->(V b').ownBlock=some g->b=b'
 lo:∀b,B b->rd<=b/\∀g,(V b).ownBlock=some g->rd<=g
theorem F3.h{w:World}{G:Gh}{c:Nat}{V:NV}{E:NS}(h:F3 w G c V E):Hn w c (fun b=>∃ns,FI G c ns b) V E:=
 ⟨fun b ⟨ns,a⟩=>h.row ns b a,fun b ⟨ns,a⟩=>h.sl ns b a,fun b ⟨ns,a⟩=>h.srt ns b a,fun b d g ⟨ns,a⟩ ⟨f,e⟩=>h.own ns f b d g a e,fun b ⟨ns,a⟩=>h.lo ns b a⟩
theorem Hn.w{w:World}{d:Nat}{B:Nat->Prop}{V:NV}{E:NS}(h:Hn w d B V E){G:Gh}(c:∀ns b,FI G d ns b->B b)(l:∀x∈G,x.2.p=none\/∃b,x.2=⟨some ⟨b,0,none⟩,0⟩)
  (j:∀ns b,FI G d ns b->GP G ns (E b)) (k:∀ns e b,FI G d ns b->FI G d e b->ns=e):F3 w G d V E:=
 ⟨l,fun ns b a=>h.row b (c ns b a),fun ns b a=>h.sl b (c ns b a),fun ns b a=>h.srt b (c ns b a),j,k,fun ns e b f g a i=>h.own b f g (c ns b a) (c e f i),fun ns b a=>h.lo b (c ns b a)⟩
theorem Hn.upd{w w':World}{x:Nat}{B:Nat->Prop}{V:NV}{E:NS}(h:Hn w x B V E){a:Nat}(j:B a){p:Value}{o:LS}(z:FH w' a 229 [p])(y:Sl w' 310 3 p o.length (Di o))(A:FZ o)(s:Dh w (V a) p)
  (u:Fr (fun k=>k=a\/(V a).ownBlock=some k) w w'):Hn w' x B (Ie V a p) (Ie E a o):=by
 have v:=h.lo a j;have aa:=(h.row a j).lt;refine⟨fun b c=>?_,fun b c=>?_,fun b c=>?_,fun b n g c r d i=>?_,fun b c=>⟨(h.lo b c).1,fun g l=>?_⟩⟩
 ·by_cases e:b=a
  ·subst e;rw[JM];exact z
  ·rw[Jz _ _ e];exact(h.row b c).fr u (fun t=>t.elim e (fun d=>by obtain⟨R,q⟩:=(h.sl a j).type d;have:=q.type (h.row b c);revert this;decide))
 ·by_cases e:b=a
  ·subst e;rw[JM,JM];exact y
  ·rw[Jz _ _ e,Jz _ _ e];refine(h.sl b c).fr u (fun g l t=>?_);rcases t with rfl|d
   ·obtain⟨R,q⟩:=(h.sl b c).type l;have:=q.type (h.row g j);revert this;decide
   ·exact e (h.own b a g c j l d)
 ·by_cases e:b=a
  ·subst e;rw[JM];exact A
  ·rw[Jz _ _ e];exact h.srt b c
 ·by_cases e:b=a
  ·by_cases m:n=a
   ·rw[e,m]
   ·rw[e,JM]at d;rw[Jz _ _ m]at i;rcases s g d with f|f
    ·rw[e];exact h.own a n g j r f i
    ·have:=(h.sl n r).lt i;omega
  ·by_cases m:n=a
   ·rw[m,JM]at i;rw[Jz _ _ e]at d;rcases s g i with f|f
    ·rw[m];exact h.own b a g c j d f
    ·have:=(h.sl b c).lt d;omega
   ·rw[Jz _ _ e]at d;rw[Jz _ _ m]at i;exact h.own b n g c r d i
 ·by_cases e:b=a
  ·subst e;rw[JM]at l;rcases s g l with f|f
   ·exact v.2 g f
   ·have:=v.1;omega
  ·rw[Jz _ _ e]at l;exact(h.lo b c).2 g l
theorem Hn.new{w:World}{l:Nat}{B:Nat->Prop}{V:NV}{E:NS}(h:Hn w l B V E){d:Nat}(o:l<=d)(c:∀b,B b->b≠d)(p:FH w d 229 [.slice none 0 0]):Hn w l (fun b=>B b\/b=d) (Go.Proofs.YtaieidcohdhgpaaGreatDoor.Ie V d (.slice none 0 0)) (Go.Proofs.YtaieidcohdhgpaaGreatDoor.Ie E d []):=by
 refine⟨fun b a=>?_,fun b a=>?_,fun b a=>?_,fun b m g a i e f=>?_,fun b a=>?_⟩
 ·rcases a with a|rfl
  ·rw[Jz _ _ (c b a)];exact h.row b a
  ·rw[JM];exact p
 ·rcases a with a|rfl
  ·rw[Jz _ _ (c b a),Jz _ _ (c b a)];exact h.sl b a
  ·rw[JM,JM];exact⟨rfl,.inl ⟨rfl,rfl⟩⟩
 ·rcases a with a|rfl
  ·rw[Jz _ _ (c b a)];exact h.srt b a
  ·rw[JM];intro j k x y _ q;simp at q
 ·rcases a with a|rfl
  ·rcases i with i|rfl
   ·rw[Jz _ _ (c b a)]at e;rw[Jz _ _ (c m i)]at f;exact h.own b m g a i e f
   ·rw[JM]at f;simp[Value.ownBlock]at f
  ·rw[JM]at e;simp[Value.ownBlock]at e
 ·rcases a with a|rfl
  ·rw[Jz _ _ (c b a)];exact h.lo b a
  ·rw[JM];exact⟨o,fun g n=>by simp[Value.ownBlock]at n⟩
theorem FI.func{G:Gh}(c:F0 G){e:Nat}{ns:LY}{b d:Nat}(h:FI G e ns b)(a:FI G e ns d):b=d:=by
 rcases h with⟨rfl,rfl⟩|h
 ·rcases a with⟨_,rfl⟩|a
  ·rfl
  ·exact absurd rfl (c.ne _ a)
 ·rcases a with⟨rfl,rfl⟩|a
  ·exact absurd rfl (c.ne _ h)
  ·have:=QS c.nd h a
   simpa using this
theorem Qw{α : Type}{a b:List α}{x y : α}(h:a++[x]=b++[y]):a=b/\x=y:=by
 have:=List.append_inj' h rfl;exact⟨this.1,by simpa using this.2⟩
theorem F3.addFile{w w':World}{G:Gh}{l:Nat}{V:NV}{E:NS}(h:F3 w G l V E)(y:F0 G){d:LY}{c:Nat}(s:FI G l d c){n:By}{f:Int}
  {p:Value} {i:LS} (D:FH w' c 229 [p]) (z:Sl w' 310 3 p i.length (Di i)) (F:FZ i) (B:∀x,x∈i↔x=(n,⟨none,f⟩)\/x∈E c) (C:Dh w (V c) p)
  (A:Fr (fun k=>k=c\/(V c).ownBlock=some k) w w'):F3 w' (G++[(d++[n],⟨none,f⟩)]) l (Ie V c p) (Ie E c i):=by
 have o:∀ns b,FI (G++[(d++[n],(⟨none,f⟩:VS))]) l ns b↔FI G l ns b:=by
  intro ns b;constructor
  ·rintro(e|a)
   ·exact .inl e
   ·rcases As.1 a with a|a
    ·exact .inr a
    ·simp at a
  ·rintro(e|a)
   ·exact .inl e
   ·exact .inr (BM _ a)
 refine(h.h.upd ⟨d,s⟩ D z F C A).w (fun ns b r=>⟨ns,(o ns b).1 r⟩) (fun x a=>?_) (fun ns b r=>?_) (fun ns H b t v=>h.inj ns H b ((o _ _).1 t) ((o _ _).1 v))
 ·rcases As.1 a with a|a
  ·exact h.shp x a
  ·obtain rfl:x=_:=by simpa using a
   exact .inl rfl
 ·have j:=(o ns b).1 r;intro m u;by_cases e:b=c
  ·subst e;obtain rfl:=h.inj ns d b j s;rw[JM,B,As,h.en ns b j m u,Av];constructor
   ·rintro(e|e)
    ·right;obtain⟨rfl,rfl⟩:=Eg e;rfl
    ·exact .inl e
   ·rintro(e|e)
    ·exact .inr e
    ·left;obtain⟨g,q⟩:=Eg e;rw[(Qw g).2,q]
  ·rw[Jz _ _ e,h.en ns b j m u,As,Av];constructor
   ·exact .inl
   ·rintro(g|g)
    ·exact g
    ·obtain⟨q,_⟩:=Eg g;rw[(Qw q).1]at j;exact absurd (j.func y s) e
theorem F3.addDir{w w':World}{G:Gh}{i:Nat}{V:NV}{E:NS}(h:F3 w G i V E)(D:F0 G){f:LY}{d:Nat}(z:FI G i f d){n:By}(I:FQ G (f++[n])=none){c:Nat}(M:i<=c)(s:∀ns b,FI G i ns b->b≠c)(N:FH w' c 229 [.slice none 0 0])
  {t:Value} {o:LS} (O:FH w' d 229 [t]) (H:Sl w' 310 3 t o.length (Di o)) (P:FZ o) (K:∀x,x∈o↔x=(n,⟨some ⟨c,0,none⟩,0⟩)\/x∈E d) (L:Dh w (V d) t)
  (J:Fr (fun k=>k=d\/(V d).ownBlock=some k) w w'):F3 w' (G++[(f++[n],⟨some ⟨c,0,none⟩,0⟩)]) i (Ie (Ie V d t) c (.slice none 0 0)) (Ie (Ie E d o) c []):=by
 have r:∀ns b,FI (G++[(f++[n],(⟨some ⟨c,0,none⟩,0⟩:VS))]) i ns b->FI G i ns b\/(ns=f++[n]/\b=c):=by
  intro ns b;rintro(e|a)
  ·exact .inl (.inl e)
  ·rcases As.1 a with a|a
   ·exact .inl (.inr a)
   ·simp at a;exact .inr a
 refine((h.h.upd ⟨f,z⟩ O H P L J).new M (fun b ⟨ns,q⟩=>s ns b q) N).w (fun ns b q=>?_) (fun x a=>?_) (fun ns b q=>?_) (fun ns B b p C=>?_)
 ·rcases r ns b q with p|⟨_,p⟩
  ·exact .inl ⟨ns,p⟩
  ·exact .inr p
 ·rcases As.1 a with a|a
  ·exact h.shp x a
  ·obtain rfl:x=_:=by simpa using a
   exact .inr ⟨c,rfl⟩
 ·intro m u;rcases r ns b q with j|⟨rfl,rfl⟩
  ·rw[Jz _ _ (s ns b j)];by_cases e:b=d
   ·subst e;obtain rfl:=h.inj ns f b j z;rw[JM,K,As,h.en ns b j m u,Av];constructor
    ·rintro(e|e)
     ·right;obtain⟨rfl,rfl⟩:=Eg e;rfl
     ·exact .inl e
    ·rintro(e|e)
     ·exact .inr e
     ·left;obtain⟨g,l⟩:=Eg e;rw[(Qw g).2,l]
   ·rw[Jz _ _ e,h.en ns b j m u,As,Av];constructor
    ·exact .inl
    ·rintro(g|g)
     ·exact g
     ·obtain⟨l,_⟩:=Eg g;rw[(Qw l).1]at j;exact absurd (j.func D z) e
  ·rw[JM];constructor
   ·intro a;cases a
   ·intro a;exfalso;rcases As.1 a with a|a
    ·rcases D.up _ _ _ a with e|⟨v,Q,_⟩
     ·simp at e
     ·exact Uq I v Q
    ·have e:=(Eg (Av.1 a)).1;have:=C1 List.length e;simp at this
 ·rcases r ns b p with F|⟨g,l⟩
  ·rcases r B b C with A|⟨_,y⟩
   ·exact h.inj ns B b F A
   ·exact absurd y (s _ _ F)
  ·rcases r B b C with A|⟨y,_⟩
   ·exact absurd l (s _ _ A)
   ·rw[g,y]
theorem F3.del{w w':World}{G G':Gh}{i:Nat}{V:NV}{E:NS}(h:F3 w G i V E)(v:F0 G){j:LY}{a:Nat}(r:FI G i j a){n:By}(l:∀x,x∈G'↔x∈G/\x.1≠j++[n])
  {p:Value} {d:LS} (C:FH w' a 229 [p]) (y:Sl w' 310 3 p d.length (Di d)) (D:FZ d) (A:∀x,x∈d↔x∈E a/\x.1≠n) (B:Dh w (V a) p)
  (z:Fr (fun k=>k=a\/(V a).ownBlock=some k) w w'):F3 w' G' i (Ie V a p) (Ie E a d):=by
 have o:∀ns b,FI G' i ns b->FI G i ns b:=by
  intro ns b;rintro(e|s)
  ·exact .inl e
  ·exact .inr ((l _).1 s).1
 refine(h.h.upd ⟨j,r⟩ C y D B z).w (fun ns b q=>⟨ns,o ns b q⟩) (fun x s=>h.shp x ((l x).1 s).1) (fun ns b q=>?_) (fun ns F b c f=>h.inj ns F b (o _ _ c) (o _ _ f));have g:=o ns b q;intro m u;by_cases e:b=a
 ·subst e;obtain rfl:=h.inj ns j b g r;rw[JM,A,l,h.en ns b g m u];constructor
  ·rintro⟨c,f⟩;exact⟨c,fun e=>f (Qw e).2⟩
  ·rintro⟨c,f⟩;exact⟨c,fun e=>f (by rw[show m=n from e])⟩
 ·rw[Jz _ _ e,h.en ns b g m u,l];constructor
  ·intro c;refine⟨c,fun t=>?_⟩;rw[(Qw t).1]at g;exact e (g.func v r)
  ·exact fun c=>c.1
def D7(tb:Nat)(w:World)(k:Nat):Prop:=(∃t R,FH w k t R/\(t=214\/t=229\/t=310\/t=293))/\tb<=k+1
def PS(w:World)(tb:Nat)(G:Gh)(I:LF)(C:IB):Prop:=∃rd V E vi,TW w tb rd V E vi G I C
theorem FH.back{B:Nat}{w w':World}(b:Below B w w'){k:Nat}(_hk:k<w.heap.size)(a:k<B){t:TypeId}{R:LV}(h:FH w' k t R):FH w k t R:=(b.block k a).symm.trans h
theorem Fr.prog{tb:Nat}{w w1 d:World}(a:Bw w w1)(b:Fr (D7 tb w1) w1 d):Fr (D7 tb w) w d:=
 ⟨b.os.trans a.os,b.tape.trans a.tape,b.output.trans a.output,Ae a.size b.size,fun k c f=>(b.block k (Ao c a.size) (fun ⟨⟨t,R,e,h⟩,g⟩=>f ⟨⟨t,R,e.back a c c,h⟩,g⟩)).trans (a.block k c)⟩
theorem Fr.progTrans{tb:Nat}{w w1 g:World}(a:Fr (D7 tb w) w w1)(b:Fr (D7 tb w1) w1 g):Fr (D7 tb w) w g:=
 ⟨b.os.trans a.os,b.tape.trans a.tape,b.output.trans a.output,Ae a.size b.size,fun k f e=>by
  have c:=a.block k f e;refine(b.block k (Ao f a.size) (fun ⟨⟨t,R,d,i⟩,h⟩=>e ⟨⟨t,R,?_,i⟩,h⟩)).trans c;unfold FH at d ⊢;rw[<-c];exact d⟩
theorem Fr.progOne{tb:Nat}{w w':World}{b:Nat}{v:Value}(c:tb<=b+1/\∀g,v.ownBlock=some g->tb<=g+1)(h:FH w b 229 [v]){n:Nat}{xs:LV}(e:Sl w 310 3 v n xs)(f:Fr (fun k=>k=b\/v.ownBlock=some k) w w'):Fr (D7 tb w) w w':=
 f.mono (fun k _ a=>by
  rcases a with rfl|a
  ·exact⟨⟨229,_,h,.inr (.inl rfl)⟩,c.1⟩
  ·obtain⟨R,d⟩:=e.type a;exact⟨⟨310,R,d,.inr (.inr (.inl rfl))⟩,c.2 k a⟩)
theorem TW.dirs{w w':World}{tb m:Nat}{V:NV}{E:NS}{y:Value}{G:Gh}{I:LF}{C:IB}(h:TW w tb m V E y G I C){f:Nat}{v:Value}(r:FH w f 229 [v]){n:Nat}{xs:LV}(q:Sl w 310 3 v n xs)(d:Fr (fun k=>k=f\/v.ownBlock=some k) w w')
  {G':Gh} {p:NV} {o:NS} (A:F3 w' G' m p o):TW w' tb m p o y G' I C:=by
 have j:∀k t R,(k=f\/v.ownBlock=some k)->FH w k t R->t=229\/t=310:=fun k t R c b=>by
  rcases c with rfl|c
  ·exact .inl (b.type r)
  ·obtain⟨z,i⟩:=q.type c;exact .inr (b.type i)
 refine⟨h.pk.fr d (fun e=>?_),h.t.fr d (fun e=>?_),A,h.i.fr d (fun g l e=>?_),h.si,fun x u=>(h.dat x u).fr d (fun g l e=>?_),h.lo⟩
 ·obtain⟨_,s⟩:=h.pk;rcases e with rfl|c
  ·have:=s _ _ r;revert this;decide
  ·obtain⟨z,i⟩:=q.type c;have:=s _ _ i;revert this;decide
 ·rcases j _ _ _ e h.t with a|a<;>(revert a;decide)
 ·obtain⟨R,b⟩:=h.i.type l;rcases j _ _ _ e b with a|a<;>(revert a;decide)
 ·obtain⟨R,b⟩:=(h.dat x u).type l;rcases j _ _ _ e b with a|a<;>(revert a;decide)
def Ja(G:Gh)(I:LF)(ds:LY):Bool:=decide ((G.countP (GF ds)<20/\G.length<100)/\cD G []+I.length<60)
def G2(G:Gh)(I:LF)(p:By):Int:=if Df p=false then 1 else if DU G (Dc p)≠0 then DU G (Dc p) else if Ja G I (Dc p).dropLast=false then 8 else 0
def N7(w:World)(tb:Nat)(G:Gh)(I:LF)(C:IB)(p:By)(e:Ending)(w':World):Prop:=
 e = .returned (.int .i64 (G2 G I p))/\Fr (D7 tb w) w w'/\((G2 G I p≠0/\PS w' tb G I C)\/(G2 G I p=0/\∃nb,PS w' tb (G++[(Dc p,⟨some ⟨nb,0,none⟩,0⟩)]) I C))
def Gz(G:Gh)(p:By):Int:=if Df p=false then 1 else DU G (Dc p)
def Rk(G:Gh)(rd:Nat)(p:By)(w:World)(e:Ending)(w':World):Prop:=
 ((Gz G p≠0/\e = .returned (.tuple #[DE,.int .i64 (Gz G p)]))\/
  (Gz G p=0/\Df p=true/\∃ds n db,Dc p=ds++[n]/\FI G rd ds db/\FQ G (Dc p)=none/\e = .returned (.tuple #[Dn (some ⟨db,0,none⟩) n false ⟨none,0⟩,.int .i64 0])))/\Bw w w'
theorem Nl(w:World)(tb u:Nat)(V:NV)(E:NS)(R:Value)(G:Gh)(I:LF)(C:IB)(h:TW w tb u V E R G I C)(hG:F0 G)(aa:G.length<=10000)(p:By)(hp:p.size<=2000000):
  Cl 181 #[.pointer (some ⟨tb,0,none⟩),.string p] w (Rk G u p w):=by
 obtain⟨m,N⟩:=h.pk.1;have h0:0<w.heap.size:=Al _ _ N;have x:∀o,Bw w (w.alloc o):=fun o=>(Ag _ _).alloc (Aa _) o
 have O:=fun o=>VN p m (w.alloc o) hp (((x o).cell (p:=⟨0,0,none⟩) h0).trans N)
 have Q:=Jj w [.pointer none,.string ⟨#[]⟩,.bool false,.pointer none,.int .i64 0] 262;have W:=Db Q;clear Q;go_enter Tryz.func181,Tryz.ntmps181;go_wp2_with fail;refine(O _).mono ?_;rintro e w1 ⟨A,y⟩;have k:Bw w w1:=(x _).trans (y.mono (by simp));have d:FH w1 w.heap.size 262 _:=(y.block _ (by simp)).trans (Da W);have S:=Db h;clear O x h;rcases A with⟨g,rfl⟩|⟨g,a,c,rfl,F⟩
 ·have i:Hid (Gz G p=1):=by show _=_;unfold Gz;rw[if_pos g]
  have g0:=d.frozen 0;have g1:=d.frozen 1;have g2:=d.frozen 2;have g3:=d.frozen 3;have g4:=d.frozen 4;have X:=d.cell 0;have Y:=d.cell 1;have Z:=d.cell 2;have a3:=d.cell 3;have a4:=d.cell 4;clear g;go_wp2;have b:=JN d (.pointer none) (.string ⟨#[]⟩) (.bool false) (.pointer none) (.int .i64 0);have l:=b.cell 0;have q:=b.cell 1;have r:=b.cell 2;have s:=b.cell 3;have t:=b.cell 4;exact Aq (v := .tuple #[DE,.int .i64 1]) (by simp[results,Tryz.results181,go_sem,l,q,r,s,t,DE,Dn]) rfl
   ⟨.inl ⟨by rw[Da i];decide,by rw[Da i]⟩,J0 k (Aa _) _ _ _ _ _⟩
 ·have i:Hid (Gz G p=DU G (Dc p)):=by show _=_;unfold Gz;rw[if_neg (by rw[g];simp)]
  have D:=(Da S).below k (Aa _);have M:=XW w1 tb u V E R G I C D hG aa (Dc p) (QB g) a c F;have T:=Db g;clear g D;go_wp2_with fail;refine M.mono ?_;rintro e B ⟨A,z⟩;have f:FH B w.heap.size 262 _:=(z.block _ d.lt).trans d;have J:Bw w B:=k.trans (z.mono k.size);clear M d k z y F;have g0:=f.frozen 0;have g1:=f.frozen 1;have g2:=f.frozen 2;have g3:=f.frozen 3;have g4:=f.frozen 4;have X:=f.cell 0;have Y:=f.cell 1;have Z:=f.cell 2;have a3:=f.cell 3;have a4:=f.cell 4;rcases A with⟨ab,rfl⟩|⟨L,ds,n,j,P,K,H,rfl⟩
  ·unfold DE Dn;go_wp2;have b:=JN f (.pointer none) (.string ⟨#[]⟩) (.bool false) (.pointer none) (.int .i64 0);have l:=b.cell 0;have q:=b.cell 1;have r:=b.cell 2;have s:=b.cell 3;have t:=b.cell 4;exact Aq (v := .tuple #[DE,.int .i64 (DU G (Dc p))]) (by simp[results,Tryz.results181,go_sem,l,q,r,s,t,DE,Dn]) rfl
    ⟨.inl ⟨by rw[Da i];exact ab,by rw[Da i]⟩,J0 J (Aa _) _ _ _ _ _⟩
  ·have U:Hid (Rk G u p w (.returned (.tuple #[Dn (some ⟨j,0,none⟩) n false ⟨none,0⟩,.int .i64 0])) (((((B.setCell ⟨w.heap.size,0,none⟩ (.pointer (some ⟨j,0,none⟩))).setCell ⟨w.heap.size,1,none⟩ (.string n)).setCell ⟨w.heap.size,2,none⟩ (.bool false)).setCell ⟨w.heap.size,3,none⟩ (.pointer none)).setCell ⟨w.heap.size,4,none⟩ (.int .i64 0))):=
    ⟨.inr ⟨(Da i).trans L,Da T,ds,n,j,P,K,H,rfl⟩,J0 J (Aa _) _ _ _ _ _⟩
   clear L P K H;unfold Dn;go_wp2;have b:=JN f (.pointer (some ⟨j,0,none⟩)) (.string n) (.bool false) (.pointer none) (.int .i64 0);have l:=b.cell 0;have q:=b.cell 1;have r:=b.cell 2;have s:=b.cell 3;have t:=b.cell 4;exact Aq (v := .tuple #[Dn (some ⟨j,0,none⟩) n false ⟨none,0⟩,.int .i64 0]) (by simp[results,Tryz.results181,go_sem,l,q,r,s,t,Dn]) rfl (Da U)
theorem Zkp(w:World)(tb:Nat)(G:Gh)(I:LF)(C:IB)(h:PS w tb G I C)(y:F0 G)(D:G.length<=10000)(an:I.length<=10000)(p:By)(hp:p.size<=2000000):
  Cl 122 #[.pointer (some ⟨tb,0,none⟩),.string p] w (N7 w tb G I C p):=by
 obtain⟨u,V,E,z,h⟩:=h;have N:Hid (∀W,Bw w W->G2 G I p≠0->N7 w tb G I C p (.returned (.int .i64 (G2 G I p))) W):=fun W g m=>⟨rfl,Fr.of_below g,.inl ⟨m,u,V,E,z,h.below g (Aa _)⟩⟩
 have af:=Nl w tb u V E z G I C h y D p hp;have v:=Db h;clear h;go_enter Tryz.func122,Tryz.ntmps122;go_wp2_with fail;refine af.mono ?_;rintro e w2 ⟨aq,g⟩;clear af;rcases aq with⟨m,rfl⟩|⟨o,k,c,n,f,J,a,ab,rfl⟩
 ·have j:Hid (G2 G I p=Gz G p):=by
   show _=_;unfold G2 Gz at *;by_cases k:Df p=false
   ·rw[if_pos k,if_pos k]
   ·rw[if_neg k]at m;rw[if_neg k,if_neg k,if_pos m]
  have al:=Db m;have aw:(Gz G p != 0)=true:=by simpa using m
  clear m;unfold DE Dn;go_wp2;go_ret;have:=Da N _ (g.alloc g.size (.cells (Ji none ⟨#[]⟩ false ⟨none,0⟩).toArray 262)) (by rw[Da j];exact Da al);rw[Da j]at this;exact this
 ·have o:DU G (Dc p)=0:=by unfold Gz at o;rw[if_neg (by rw[k];simp)]at o;exact o
  have B:=Db k;obtain⟨W,hW,i,hk,ax,ap⟩:=De w2 (Ji (some ⟨f,0,none⟩) n false ⟨none,0⟩) 262;have F:Bw w W:=g.trans (ap.mono g.size);have ag:=V3 W tb u V E z G I C ((Da v).below F (Aa _)) y D an c f a;have A:Hid (G2 G I p=if Ja G I c=false then 8 else 0):=by
   show _=_;unfold G2;rw[if_neg (by rw[Da B];simp),if_neg (by rw[o];simp),J,CJ]
  have q:=Db J;have L:=Db ab;have aj:=Db a;have O:=Db hW;clear o J ab a hk hW;unfold Dn;go_upto_if 20 with fail;rw[Da O];clear O;have Q:=i.cell 0;have S:=i.cell 1;have T:=i.cell 2;have U:=i.cell 3;have X:=i.cell 4;go_wp2_with fail;refine ag.mono ?_;rintro e l ⟨rfl,ac⟩;have s:FH l w2.heap.size 262 _:=(ac.block _ i.lt).trans i;have r:Bw w l:=F.trans (ac.mono F.size);clear ag Q S T U X;change Hid (G2 G I p=if Ja G I c=false then 8 else 0) at A;rw[show decide ((G.countP (GF c)<20/\G.length<100)/\cD G []+I.length<60)=Ja G I c from rfl]
  cases hmb:Ja G I c with
  | false=>
   have j:Hid (G2 G I p=8):=by show _=_;rw[Da A,hmb];rfl
   go_wp2;go_ret;have:=Da N l r (by rw[Da j];decide);rw[Da j]at this;exact this
  | true=>
   have j:Hid (G2 G I p=0):=by show _=_;rw[Da A,hmb];rfl
   have Q:=s.cell 0;have S:=s.cell 1;have T:=s.cell 2;have U:=s.cell 3;have X:=s.cell 4;obtain⟨P,aa,ai,av,ay,ao⟩:=De l [.slice none 0 0] 229;have ad:Bw w P:=r.trans (ao.mono r.size);have d:=(Da v).below ad (Aa _);have a:=Da aj;have H:=T4 P f n (by
    have:=QB (Da B)
    cases hr:(p.toList==[47]) with
    | true=>have Y:=Q3 hr;rw[Da q]at Y;simp at Y
    | false=>
     have Z:=(Qx (Da B) hr).2.1 n (by rw[Da q];simp);simp only[DC,A8,AM]at Z;have:=Z.1.2;omega) false ⟨none,0⟩ ⟨some ⟨l.heap.size,0,none⟩,0⟩ (V f) (E f) (d.d.row c f a) (d.d.sl c f a) (Ae (d.d.le y a) D) (d.d.srt c f a) (fun x i e=>by
     have:=(d.d.en c f a x.1 x.2).1 i;rw[e]at this;exact Uq (by rw[<-Da q];exact Da L) _ this)
   unfold Dn at H;have M:=Db H;have H4:=Db d;have am:=Db aa;clear H d aa;go_wp2_with fail;rw[Da am];refine(Da M).mono ?_;rintro e w5 ⟨rfl,v',au,q1,q2,q3,q4,q5,q6,t⟩;have ak:Hid (N7 w tb G I C p (.returned (.int .i64 0)) w5):=by
    have d:=Da H4;have ah:=d.d.row c f a;have K:=d.d.sl c f a;have ae:∀ns b,FI G u ns b->b≠l.heap.size:=fun ns b g e=>by
     have:=((Da v).d.row ns b g).lt;have:=r.size;omega
    have ar:FH w5 l.heap.size 229 [.slice none 0 0]:=by
     refine ai.fr t (fun e=>?_);rcases e with e|e
     ·exact ae c f a e.symm
     ·obtain⟨R,hR⟩:=K.type e;have:=hR.type ai;revert this;decide
    have hD:=d.d.addDir y a (by rw[<-Da q];exact Da L) (Ae (Cs ((Da v).d.row _ _ (.inl ⟨rfl,rfl⟩)).lt) r.size) ae ar q1 q2 q3 q5 q6 t;have hT:=TW.dirs d ah K t hD;rw[<-Da q]at hT;exact⟨by rw[Da j],Fr.prog ad (Fr.progOne (d.dlo a) ah K t),.inr ⟨Da j,l.heap.size,u,_,_,z,hT⟩⟩
   clear M q1 q2 q3 q4 q5 q6 t;go_wp2;go_ret;exact Da ak
theorem TW.setI{w w':World}{tb j:Nat}{V:NV}{E:NS}{d f:Value}{G:Gh}{I a:LF}{C l:IB}(h:TW w tb j V E d G I C)
  (y:FH w' tb 214 [.pointer (some ⟨j,0,none⟩),f]) (q:Sl w' 293 3 f a.length (Dm a)) (z:F5 a) (m:Fr (fun k=>k=tb\/d.ownBlock=some k) w w')
  (s:∀x∈a,Sl w' 5 1 (.slice x.2.a x.2.l x.2.c) x.2.l (Dd (l x.1))) (v:Dh w d f):TW w' tb j V E f G a l:=by
 have r:∀k t R,(k=tb\/d.ownBlock=some k)->FH w k t R->t=214\/t=293:=fun k t R b c=>by
  rcases b with rfl|b
  ·exact .inl (c.type h.t)
  ·obtain⟨o,i⟩:=h.i.type b;exact .inr (c.type i)
 refine⟨h.pk.fr m (fun e=>?_),y,h.d.fr m (fun k t R e c=>?_),q,z,s,h.lo.1,fun g u=>(v g u).elim (h.lo.2 g) (fun p=>Ae (Cs (h.d.row _ _ (.inl ⟨rfl,rfl⟩)).lt) p)⟩
 ·obtain⟨_,n⟩:=h.pk;rcases e with rfl|b
  ·have:=n _ _ h.t;revert this;decide
  ·obtain⟨o,i⟩:=h.i.type b;have:=n _ _ i;revert this;decide
 ·rcases r k t R e c with rfl|rfl<;>decide
theorem Fr.progI{w w':World}{tb e:Nat}{V:NV}{E:NS}{b:Value}{G:Gh}{I:LF}{C:IB}(h:TW w tb e V E b G I C)(d:Fr (fun k=>k=tb\/b.ownBlock=some k) w w'):Fr (D7 tb w) w w':=
 d.mono (fun k _ a=>by
  rcases a with rfl|a
  ·exact⟨⟨214,_,h.t,.inl rfl⟩,EB _⟩
  ·obtain⟨R,c⟩:=h.i.type a;exact⟨⟨293,R,c,.inr (.inr (.inr rfl))⟩,by have:=h.lo.1;have:=h.lo.2 k a;omega⟩)
theorem TW.ne{w:World}{tb c:Nat}{V:NV}{E:NS}{a:Value}{G:Gh}{I:LF}{C:IB}(h:TW w tb c V E a G I C):a.ownBlock≠some tb:=fun e=>by
 obtain⟨R,b⟩:=h.i.type e;have:=b.type h.t;revert this;decide
theorem RX{w w':World}{tb:Nat}{a b v c:Value}(h:FH w tb 214 [a,b])(f:Ii w w' tb 1 v c):FH w' tb 214 [a,c]:=by
 have e:=f.head;have d:=h.set 1 c;unfold FH at d ⊢;rw[e];simpa using d
theorem V4(w:World)(tb f:Nat)(V:NV)(E:NS)(a:Value)(G:Gh)(I:LF)(C:IB)(h:TW w tb f V E a G I C)(t:I.length<=10000)(n:Int)(q r:VF)(z:(n,q)∈I)(s:By)(y:Sl w 5 1 (.slice r.a r.l r.c) r.l (Dd s)):
  Cl 228 #[.pointer (some ⟨tb,1,none⟩),.int .i64 n,.agg #[.slice r.a r.l r.c,.int .i64 r.f]] w fun e w'=>e = .returned (.tuple #[])/\(∃b,TW w' tb f V E a G b (fun k=>if k=n then s else C k)/\b.length=I.length/\∀x,x∈b↔x=(n,r)\/x∈I/\x.1≠n)/\Fr (fun k=>k=tb\/a.ownBlock=some k) w w':=by
 refine(YD w tb 1 a I n q r (h.t.cell 1) h.ne h.i t h.si z).mono ?_;rintro e w' ⟨rfl,b,q1,H,J,K,o,p⟩;have c:Fr (fun k=>k=tb\/a.ownBlock=some k) w w':=Fr.of_grown p (fun k e => .inr e);have B:FH w' tb 214 [.pointer (some ⟨f,0,none⟩),a]:=(p.block tb h.t.lt (fun e=>h.ne e.symm)).trans h.t;have l:∀(v:Value) (m:Nat) (xs:LV),Sl w 5 1 v m xs->Sl w' 5 1 v m xs:=fun v m xs j=>j.fr c (fun g d e=>by
  obtain⟨R,i⟩:=j.type d;rcases e with rfl|e
  ·have:=i.type h.t;revert this;decide
  ·obtain⟨R',u⟩:=h.i.type e;have:=i.type u;revert this;decide)
 refine⟨rfl,⟨b,h.setI B H J c (fun x D=>?_) (fun g d => .inl d),K,o⟩,c⟩;rcases (o x).1 D with rfl|⟨F,A⟩
 ·simp only[EZ];exact l _ _ _ y
 ·rw[if_neg A];exact l _ _ _ (h.dat x F)
theorem Zx(w:World)(tb q:Nat)(V:NV)(E:NS)(c:Value)(G:Gh)(I:LF)(C:IB)(h:TW w tb q V E c G I C)(r:I.length<=10000)(n:Int)(p:VF)(u:(n,p)∈I):
  Cl 234 #[.pointer (some ⟨tb,1,none⟩),.int .i64 n] w fun e w'=>e = .returned (.tuple #[])/\(∃f b,TW w' tb q V E f G b C/\b.length+1=I.length/\∀x,x∈b↔x∈I/\x.1≠n)/\Fr (fun k=>k=tb\/c.ownBlock=some k) w w':=by
 refine(Mu w tb 1 c I n p (h.t.cell 1) (h.t.frozen 1) h.ne h.i r h.si u).mono ?_;rintro e w' ⟨rfl,f,b,q1,B,D,F,o,H,a⟩;have d:Fr (fun k=>k=tb\/c.ownBlock=some k) w w':=⟨a.os,a.tape,a.output,a.size,fun k y l=>a.block k y (fun e=>l (.inl e)) (fun e=>l (.inr e))⟩;have z:∀(v:Value) (m:Nat) (xs:LV),Sl w 5 1 v m xs->Sl w' 5 1 v m xs:=fun v m xs j=>j.fr d (fun g t e=>by
  obtain⟨R,i⟩:=j.type t;rcases e with rfl|e
  ·have:=i.type h.t;revert this;decide
  ·obtain⟨R',s⟩:=h.i.type e;have:=i.type s;revert this;decide)
 exact⟨rfl,⟨f,b,h.setI (RX h.t a) B D d (fun x A=>z _ _ _ (h.dat x ((o x).1 A).1)) H,F,o⟩,d⟩
theorem ZiI(w:World)(tb u:Nat)(V:NV)(E:NS)(c:Value)(G:Gh)(I:LF)(C:IB)(h:TW w tb u V E c G I C)(y:I.length<=10000)(n:Int)(r:VF)(p:∀x∈I,x.1≠n)(s:By)(A:Sl w 5 1 (.slice r.a r.l r.c) r.l (Dd s)):
  Cl 228 #[.pointer (some ⟨tb,1,none⟩),.int .i64 n,.agg #[.slice r.a r.l r.c,.int .i64 r.f]] w fun e w'=>e = .returned (.tuple #[])/\(∃f b,TW w' tb u V E f G b (fun k=>if k=n then s else C k)/\b.length=I.length+1/\∀x,x∈b↔x=(n,r)\/x∈I)/\Fr (fun k=>k=tb\/c.ownBlock=some k) w w':=by
 refine(WL w tb 1 c I n r (h.t.cell 1) (h.t.frozen 1) h.ne h.i y h.si p).mono ?_;rintro e w' ⟨rfl,f,b,q1,H,J,K,t,L,a⟩;have d:Fr (fun k=>k=tb\/c.ownBlock=some k) w w':=⟨a.os,a.tape,a.output,a.size,fun k D l=>a.block k D (fun e=>l (.inl e)) (fun e=>l (.inr e))⟩;have o:∀(v:Value) (m:Nat) (xs:LV),Sl w 5 1 v m xs->Sl w' 5 1 v m xs:=fun v m xs j=>j.fr d (fun g B e=>by
  obtain⟨R,i⟩:=j.type B;rcases e with rfl|e
  ·have:=i.type h.t;revert this;decide
  ·obtain⟨R',z⟩:=h.i.type e;have:=i.type z;revert this;decide)
 refine⟨rfl,⟨f,b,h.setI (RX h.t a) H J d (fun x F=>?_) L,K,t⟩,d⟩;rcases (t x).1 F with rfl|q
 ·simp only[EZ];exact o _ _ _ A
 ·rw[if_neg (p x q)];exact o _ _ _ (h.dat x q)
theorem QQ(w:World)(tb q:Nat)(V:NV)(E:NS)(c:Value)(G:Gh)(I:LF)(C:IB)(h:TW w tb q V E c G I C)(d:I.length<=10000)(n:Int)(r:VF)(a:(n,r)∈I):
  Cl 175 #[.pointer (some ⟨tb,1,none⟩),.int .i64 n] w fun e w'=>e = .returned (.tuple #[.agg #[.slice r.a r.l r.c,.int .i64 r.f],.bool true])/\Bw w w':=by
 refine(Lw w tb 1 c I n (h.t.cell 1) h.i d h.si).mono ?_;rintro e w' ⟨r',b,rfl,g,f⟩;rcases g with⟨rfl,m⟩|⟨rfl,_,p⟩
 ·have o:(I.map (·.1)).Nodup:=by
   unfold List.Nodup;rw[BQ];intro i j hi l k e;have aa:j<I.length:=by simpa using l
   rw[Er,Er]at e;have:=h.si i j I[i] I[j] k (Ac _) (Ac _);have:=Ba this;omega
  rw[QS o m a];exact⟨rfl,f⟩
 ·exact absurd rfl (p _ a)
def FX(I I':LF)(n:Int)(r:VF):Prop:=I'.length=I.length/\∀x,x∈I'↔x=(n,r)\/x∈I/\x.1≠n
def Lq(I I':LF)(n:Int):Prop:=I'.length+1=I.length/\∀x,x∈I'↔x∈I/\x.1≠n
theorem Ze(C:IB)(n:Int):(fun k=>if k=n then C n else C k)=C:=by
 funext k;split
 ·rename_i h;rw[h]
 ·rfl
theorem VV(w:World)(tb c:Nat)(V:NV)(E:NS)(d:Value)(G:Gh)(I:LF)(C:IB)(h:TW w tb c V E d G I C)(m:I.length<=10000)(n:Int)(r:VF)(i:(n,r)∈I)(f:Int)(W:World)(g:Bw w W):
  Cl 228 #[.pointer (some ⟨tb,1,none⟩),.int .i64 n,.agg #[.slice r.a r.l r.c,.int .i64 f]] W fun e w'=>e = .returned (.tuple #[])/\((∃a,TW w' tb c V E d G a C/\FX I a n ⟨r.a,r.l,r.c,f⟩)/\Fr (D7 tb w) w w')/\∀k,k<W.heap.size->w.heap.size<=k->w'.heap[k]?=W.heap[k]? := by
 have b:=h.below g (Aa _);refine(V4 W tb c V E d G I C b m n r ⟨r.a,r.l,r.c,f⟩ i (C n) (b.dat _ i)).mono ?_;rintro e w' ⟨rfl,⟨a,j,p,q⟩,l⟩;rw[Ze]at j;exact⟨rfl,⟨⟨a,j,p,q⟩,Fr.prog g (Fr.progI b l)⟩,fun k o aa=>l.block k o (fun e=>by
  rcases e with rfl|e
  ·have:=h.t.lt;omega
  ·have:=h.i.lt e;omega)⟩
theorem ZiA(w:World)(tb f:Nat)(V:NV)(E:NS)(g:Value)(G:Gh)(I:LF)(C:IB)(h:TW w tb f V E g G I C)(k:I.length<=10000)(n:Int)(r:VF)(l:(n,r)∈I)(aa:0<r.f)(ab:r.f<=10000):
  Cl 197 #[.pointer (some ⟨tb,0,none⟩),.int .i64 n] w fun e w'=>e = .returned (.tuple #[])/\(∃s b,TW w' tb f V E s G b C/\((r.f=1/\Lq I b n)\/(r.f≠1/\FX I b n ⟨r.a,r.l,r.c,r.f-1⟩)))/\Fr (D7 tb w) w w':=by
 have D:=QQ w tb f V E g G I C h k n r l;have J:Hid (∀W,Bw w W->_):=fun W c=>VV w tb f V E g G I C h k n r l (r.f-1) W c
 have t:=Db h;go_enter Tryz.func197,Tryz.ntmps197;go_wp2_with fail;refine D.mono ?_;rintro e w1 ⟨rfl,c⟩;clear D h;obtain⟨W,y,m,K,ac,z⟩:=De w1 [.slice r.a r.l r.c,.int .i64 (r.f-1)] 217;have i:Bw w W:=c.trans (z.mono c.size);have A:=c.size;have u:=Db y;clear y K c z;go_upto_region 2 with fail;rw[Da u];have v:=m.cell 0;have x:=m.cell 1;clear m u;by_cases d:r.f=1
 ·have M:(r.f-1==0)=true:=by rw[d];rfl
  have B:=Zx W tb f V E g G I C ((Da t).below i (Aa _)) k n r l;have H:=Db B;have j:=Db d;clear B d;go_wp2_with (first|(go_at_call 234;refine(Da H).mono ?_;rintro e O ⟨rfl,⟨s,b,o,p,q⟩,N⟩));refine Aq (CZ rfl _ _ _) rfl ?_;exact⟨rfl,⟨s,b,o,.inl ⟨Da j,p,q⟩⟩,Fr.prog i (Fr.progI ((Da t).below i (Aa _)) N)⟩
 ·have M:(r.f-1==0)=false:=by simp;omega
  have j:=Db d;clear d;go_upto_region 4 with fail
  go_region_held3 (fun W=>W.cell? ⟨w1.heap.size,0,none⟩=some (.slice r.a r.l r.c)/\W.cell? ⟨w1.heap.size,1,none⟩=some (.int .i64 (r.f-1))) (go_keep)
   (first|(go_at_call 228;refine(Da J _ i.drew).mono ?_;rintro e O ⟨rfl,L,F⟩;have m0:=(Ax (a:=⟨w1.heap.size,0,none⟩) (F _ (Al _ _ v) A)).trans v;have m1:=(Ax (a:=⟨w1.heap.size,1,none⟩) (F _ (Al _ _ x) A)).trans x))
  all_goals
   go_wp2
   go_end0
   obtain⟨⟨b,o,p⟩,q⟩:=L;exact⟨rfl,⟨g,b,o,.inr ⟨Da j,p⟩⟩,q⟩
def NO(G G':Gh)(ns:LY):Prop:=∀x,x∈G'↔x∈G/\x.1≠ns
def Hx(G:Gh)(I:LF):Prop:=∀x∈G,x.2.p=none->∃r,(x.2.f,r)∈I/\0<r.f/\r.f<=10000
theorem TW.congrG{w:World}{tb e:Nat}{V:NV}{E:NS}{l:Value}{G G':Gh}{I:LF}{C:IB}(h:TW w tb e V E l G I C)(j:∀x,x∈G'↔x∈G):TW w tb e V E l G' I C:=by
 have c:∀ns b,FI G' e ns b->FI G e ns b:=fun ns b d=>d.elim .inl (fun d => .inr ((j _).1 d))
 exact⟨h.pk,h.t,⟨fun x d=>h.d.shp x ((j x).1 d),fun ns b a=>h.d.row ns b (c ns b a),fun ns b a=>h.d.sl ns b (c ns b a),fun ns b a=>h.d.srt ns b (c ns b a),fun ns b a n u=>(h.d.en ns b (c ns b a) n u).trans (j _).symm,fun ns k b f i=>h.d.inj ns k b (c _ _ f) (c _ _ i),fun ns k b m g f i=>h.d.own ns k b m g (c _ _ f) (c _ _ i),fun ns b a=>h.d.lo ns b (c ns b a)⟩,h.i,h.si,h.dat,h.lo⟩
def Ik(G:Gh)(ns:LY):Gh:=G.filter (fun x=>decide (x.1≠ns))
theorem SU(G:Gh)(ns:LY):NO G (Ik G ns) ns:=fun x=>by unfold Ik;rw[List.mem_filter,AM]
theorem Gf.in{G:Gh}{f:Nat}{ns:LY}{d:OA}{n:By}{u:VS}(h:Gf G f ns d n true u)(k:ns≠[]):∃b a,ns=b++[n]/\FI G f b a/\d=some ⟨a,0,none⟩/\FQ G ns=some u:=by
 rcases h with⟨rfl,_⟩|⟨b,a,g,i,j,c,e⟩
 ·exact absurd rfl k
 ·refine⟨b,a,g,i,j,?_⟩
  cases ha:FQ G ns with
  | none=>rw[ha]at c;cases c
  | some v=>rw[ha]at e;rw[e];rfl
def JP(G:Gh)(ds:LY):Bool:=decide (G.countP (GF ds)<20/\G.length<100)
def LU(G:Gh)(p q:By):Int:=if Df q=false then 1 else if FR G p true≠0 then FR G p true else if DU G (Dc q)≠0 then DU G (Dc q) else if JP G (Dc q).dropLast=false then 8 else 0
theorem TS{p:By}(e:Df p=true){d:LY}{n:By}(c:Dc p=d++[n]):n.size<=2000000:=by
 cases hr:(p.toList==[47]) with
 | true=>have a:=Q3 hr;rw[c]at a;simp at a
 | false=>
  have b:=(Qx e hr).2.1 n (by rw[c];simp);simp only[DC,A8,AM]at b;have:=b.1.2;omega
theorem Hx.mono{G:Gh}{I:LF}(h:Hx G I){u:VS}{ns:LY}(a:FQ G ns=some u)(b:u.p=none):∃r,(u.f,r)∈I/\0<r.f/\r.f<=10000:=h _ (Ko a) b
theorem S2(w:World)(tb g:Nat)(V:NV)(E:NS)(j:Value)(G:Gh)(I:LF)(C:IB)(h:TW w tb g V E j G I C)(i:F0 G)(k:G.length<=10000)(_hIl:I.length<=10000)(b:LY)(a:Nat)(c:FI G g b a)(n:By)(m:n.size<=2000000)(l:FQ G (b++[n])=none)(f:Int):
  Cl 183 #[Dn (some ⟨a,0,none⟩) n false ⟨none,0⟩,.agg #[.pointer none,.int .i64 f]] w fun e w'=>e = .returned (.tuple #[])/\∃V' E',TW w' tb g V' E' j (G++[(b++[n],⟨none,f⟩)]) I C/\Fr (D7 tb w) w w':=by
 refine(T4 w a n m false ⟨none,0⟩ ⟨none,f⟩ (V a) (E a) (h.d.row b a c) (h.d.sl b a c) (Ae (h.d.le i c) k) (h.d.srt b a c) (fun x o e=>by
  have:=(h.d.en b a c x.1 x.2).1 o;rw[e]at this;exact Uq l _ this)).mono ?_
 rintro e w' ⟨rfl,v',aa,p,q,r,q4,s,t,d⟩;exact⟨rfl,_,_,TW.dirs h (h.d.row b a c) (h.d.sl b a c) d (h.d.addFile i c p q r s t d),Fr.progOne (h.dlo c) (h.d.row b a c) (h.d.sl b a c) d⟩
theorem ZgF(w:World)(tb d:Nat)(V:NV)(E:NS)(g:Value)(G:Gh)(I:LF)(C:IB)(h:TW w tb d V E g G I C)(P:F0 G)(Q:G.length<=10000)(x:I.length<=10000)(b:LY)(l:Nat)(B:FI G d b l)(n:By)(hn:n.size<=2000000)(T:FQ G (b++[n])=none)(f:Int)(r:VF)(F:(f,r)∈I)(am:0<=r.f)(an:r.f<=10000):
  Cl 192 #[.pointer (some ⟨tb,0,none⟩),Dn (some ⟨l,0,none⟩) n false ⟨none,0⟩,.int .i64 f] w fun e w'=>(JP G b=false/\e = .returned (.int .i64 8)/\Bw w w')\/
   (JP G b=true/\e = .returned (.int .i64 0)/\Fr (D7 tb w) w w'/\∃u t c,TW w' tb d u t g (G++[(b++[n],⟨none,f⟩)]) c C/\FX I c f ⟨r.a,r.l,r.c,r.f+1⟩):=by
 unfold Dn;obtain⟨W,R,o,hk,ao,p⟩:=De w (Ji (some ⟨l,0,none⟩) n false ⟨none,0⟩) 262;have ab:=VZ W tb d V E g G I C (h.below p (Aa _)) P Q b l B;have N:Hid (∀X,Bw w X->Cl 175 #[.pointer (some ⟨tb,1,none⟩),.int .i64 f] X fun e w'=>e = .returned (.tuple #[.agg #[.slice r.a r.l r.c,.int .i64 r.f],.bool true])/\Bw X w'):=fun X y=>QQ X tb d V E g G I C (h.below y (Aa _)) x f r F
 have ag:Hid (∀X,Bw w X->_):=fun X y=>VV w tb d V E g G I C h x f r F (r.f+1) X y
 have af:Hid (∀(X:World) (c:LF),TW X tb d V E g G c C->_):=fun X c hX=>S2 X tb d V E g G c C hX P Q
 have ae:=Db B;have ad:=Db T;have HI:=Db x;have O:=Db R;have al:=o.lt;clear R hk h B T F;go_enter Tryz.func192,Tryz.ntmps192;go_upto_region 1 with fail;rw[Da O];clear O;have k:=o.cell 0;go_wp2_with fail;refine ab.mono ?_;rintro e L ⟨rfl,z⟩;have H:FH L w.heap.size 262 _:=(z.block _ o.lt).trans o;have m:Bw w L:=p.trans (z.mono p.size);clear ab k o al;rw[show decide (G.countP (GF b)<20/\G.length<100)=JP G b from rfl]
 cases hmb:JP G b with
 | false=>
  go_wp2;go_ret;exact .inl ⟨hmb,rfl,m⟩
 | true=>
  have Z:=Da N L m;go_wp2_with fail;refine Z.mono ?_;rintro e i ⟨rfl,A⟩;have ac:FH i w.heap.size 262 _:=(A.block _ H.lt).trans H;have q:Bw w i:=m.trans (A.mono m.size);clear Z N;obtain⟨W6,S,J,aa,ap,U⟩:=De i [.slice r.a r.l r.c,.int .i64 (r.f+1)] 217;have K:=aa _ _ _ ac;have ai:Bw w W6:=q.trans (U.mono q.size);go_upto_region 5 with fail;try rw[S]
  have k:=J.cell 0;have v:=J.cell 1;have Y:=q.size;have ah:=Db K;have ak:=K.lt;clear S aa J ac H U A z m q p K
  go_region_held3 (fun W=>W.cell? ⟨i.heap.size,0,none⟩=some (.slice r.a r.l r.c)/\W.cell? ⟨i.heap.size,1,none⟩=some (.int .i64 (r.f+1))) (go_keep)
   (first|(go_at_call 228;refine(Da ag _ ai.drew).mono ?_;rintro e w7 ⟨rfl,⟨⟨c,q1,q2⟩,q3⟩,s⟩;have m0:=(Ax (a:=⟨i.heap.size,0,none⟩) (s _ (Al _ _ k) Y)).trans k;have m1:=(Ax (a:=⟨i.heap.size,1,none⟩) (s _ (Al _ _ v) Y)).trans v))
  all_goals
   have j:FH w7 w.heap.size 262 _:=(s _ ak (Aa _)).trans (Da ah);have D:=Da af w7 c q1 (by rw[q2.1];exact Da HI) b l (Da ae) n hn (Da ad) f;unfold Dn at D;have b0:=j.cell 0;have b1:=j.cell 1;have b2:=j.cell 2;have b3:=j.cell 3;have b4:=j.cell 4;have M:=Db D;clear D k v m0 m1 s j;go_wp2_with fail;refine(Da M).mono ?_;rintro e w8 ⟨rfl,u,t,h8,aj⟩;clear M b0 b1 b2 b3 b4;go_wp2;go_ret;exact .inr ⟨hmb,rfl,q3.progTrans aj,u,t,c,h8,q2⟩
theorem Dj(s:By):(Dd s).length=s.size:=by unfold Dd;rw[A7];exact Az
theorem Qi(s:By):∀u∈Dd s,u.oneCell'=true:=fun u a=>by
 unfold Dd at a;obtain⟨b,_,rfl⟩:=A2.1 a
 rfl
def Ge(w:World)(a:OA)(l c:Nat)(s:By):Prop:=l=s.size/\(a=none->c=0)/\∀j v,(Dd s)[j]?=some v->∃x,a=some x/\w.cell? (x.add j)=some v
theorem Ge.below{w w':World}{a:OA}{l c:Nat}{s:By}(h:Ge w a l c s)(d:Bw w w'):Ge w' a l c s:=
 ⟨h.1,h.2.1,fun j v f=>by
  obtain⟨x,e,b⟩:=h.2.2 j v f;exact⟨x,e,(d.cell (p:=x.add j) (Al _ _ b)).trans b⟩⟩
theorem Sl.rdB{w:World}{a:OA}{l c:Nat}{s:By}(h:Sl w 5 1 (.slice a l c) l (Dd s)):Ge w a l c s:=by
 refine⟨by have:=h.1;rw[Dj]at this;omega,fun e=>?_,fun j v b=>?_⟩
 ·subst e;rcases h.2 with⟨e,_⟩|⟨g,f,L,e,_⟩
  ·cases e;rfl
  ·cases e
 ·rcases h.2 with⟨e,i⟩|⟨g,f,L,e,k,_,_,_,m⟩
  ·have d:=h.1;rw[i]at d;have:Dd s=[]:=Ak (by simpa using d);rw[this]at b;simp at b
  ·cases e
   refine⟨_,rfl,?_⟩;rw[AF,Au,k.cell];rw[<-m,Ap]at b
   split at b
   ·exact b
   ·cases b
theorem NZ:(Tryz.prog.info? 5).map (·.size)=some 1:=by kernel_rfl
theorem SQ(w:World)(g n c:Nat):(Builtin.copy_ #[59,59] 3 #[.slice (some ⟨g,0,none⟩) n c,.slice none 0 0]).run Tryz.prog w = .ok (goInt 0) w:=by
 obtain⟨i0,a,aa,ab,ac⟩:=Bn Qc;simp[Builtin.copy_,run_underlying Tryz.underlying59,Builtin.lenOf,sizeOf,typeInfo,a,Builtin.firstCells,storeCells]
theorem KF(a b:By):Dd (a++b)=Dd a++Dd b:=by unfold Dd;rw[C6,Em,Bo]
theorem KD(s:By)(i j:Nat):Dd (s.extract i j)=((Dd s).drop i).take (j-i):=by
 unfold Dd;rw[BO];simp[List.map_drop,List.map_take]
theorem QX(n:Nat):Dd ⟨(List.replicate n 0).toArray⟩=List.replicate n (.int .u8 0):=by unfold Dd;simp
theorem ZhA(w:World)(a:OA)(l c:Nat)(s:By)(h:Ge w a l c s)(_hs:s.size<=2000000)(n:Nat)(hn:n<=2000000):
  Cl 176 #[.slice a l c,.int .i64 n] w fun e w'=>∃x,e = .returned (.slice (some ⟨x,0,none⟩) n n)/\w.heap.size<=x/\Sl w' 5 1 (.slice (some ⟨x,0,none⟩) n n) n (Dd (Dt s n))/\Bw w w':=by
 obtain⟨i0,N,X,Y,Z⟩:=Bn Qc;have r:∀W:World,W.ownsRow 0 5 1 (.slice (some ⟨w.heap.size,0,none⟩) n n) n (madeCells (Value.int .u8 0).cells (n*1)).toList->w.grownBy W none->∃b k,(Builtin.copy_ #[59,59] 3 #[.slice (some ⟨w.heap.size,0,none⟩) n n,.slice a l c]).run Tryz.prog W = .ok (goInt k) b/\Hid (Sl b 5 1 (.slice (some ⟨w.heap.size,0,none⟩) n n) n (Dd (Dt s n))/\Bw w b):=by
  intro W H K;have i:=Sl.of_owns H;have f:=UC K;have B:(madeCells (Value.int .u8 0).cells (n*1)).toList=List.replicate n (.int .u8 0):=by rw[Ci];exact EI (.int .u8 0) n
  rw[B]at i;have S:=h.below f
  cases a with
  | none=>
   have q:s.size=0:=by
    rcases E4 s.size with e|e
    ·exact e
    ·obtain⟨x,U,_⟩:=h.2.2 0 ((Dd s)[0]'(by rw[Dj];exact e)) (Ac _)
     cases U
   have O:l=0:=by rw[h.1,q]
   have I:=h.2.1 rfl;subst O I;refine⟨W,0,SQ W _ _ _,?_,f⟩;have:Dd (Dt s n)=List.replicate n (.int .u8 0):=by
    have T:s=⟨#[]⟩:=by
     apply AY;have:s.data.toList.length=0:=by rw[<-q];exact Az
     rw[Ak this]
    unfold Dt;by_cases t:n<=s.size
    ·rw[if_pos t];have:n=0:=by omega
     subst this;rw[KD];simp
    ·rw[if_neg t,KF,QX,q,T];simp[Dd]
   rw[this];exact i
  | some x=>
   rcases i.2 with⟨e,_⟩|⟨g,aa,L,e,G,h1,C,D,E⟩
   ·cases e
   ·cases e
    have F:L=List.replicate n (.int .u8 0):=by
     rw[<-E,AI (by omega)]
    have m:((Dd s).take (Nat.min l n)).length=Nat.min l n*1:=by
     rw[Ar,Dj,h.1,Ci];exact Bu (Nat.min_le_left _ _)
    obtain⟨b,q1,u,q3⟩:=J5 (P:=Tryz.prog) W 59 59 3 5 1 w.heap.size 0 n n x l c L 5 ((Dd s).take (Nat.min l n)) Tryz.underlying59 NZ G m
     (fun j v d=>by
      rw[Ap]at d
      split at d
      ·obtain⟨y,e,V⟩:=S.2.2 j v d;cases e;exact V
      ·cases d) (by rw[m,D];have:Nat.min l n<=n:=Nat.min_le_right _ _;omega) (fun v d=>Qi s v (Bm d))
    refine⟨b,_,q1,?_,?_⟩
    ·have J:FM L 0 ((Dd s).take (Nat.min l n))=Dd (Dt s n):=by
      unfold FM;rw[m,F,Co,AJ,Au,Ci,EV];unfold Dt;by_cases p:n<=s.size
      ·have o:Nat.min l n=n:=by rw[h.1];exact EM p
       rw[if_pos p,KD,o];simp
      ·have o:Nat.min l n=s.size:=by rw[h.1];exact Bu (by omega)
       rw[if_neg p,KF,QX,o,AI (by rw[Dj];exact Aa _)]
     rw[J]at u;refine⟨by rw[Dj,J6];omega,.inr ⟨w.heap.size,n,_,rfl,u,Aa _,C,by rw[Dj,J6];omega,by rw[AI (by rw[Dj,J6];omega)]⟩⟩
    ·exact f.grown q3 f.size (fun k e=>by cases e;exact Aa _)
 have z:=Db r;clear r;go_enter Tryz.func176,Tryz.ntmps176;go_wp2_with (first|(at_make;refine CY _ rfl _ _ 59 rfl 0 5 i0 (.int .u8 0) 1 Tryz.underlying59 N X Y _ _ _ _ n rfl rfl rfl rfl (by rw[Z];omega) (by unfold maxLen;omega) (Aw _) ?_;intro w1 Q M;obtain⟨b,k,R,A⟩:=Da z w1 Q M)|(at_builtin;refine Qm _ rfl _ _ 59 59 rfl _ _ rfl rfl R ?_));go_ret;obtain⟨p1,p2⟩:=Da (Da A);exact⟨w.heap.size,rfl,Aa _,p1,p2⟩

end Go.Proofs.YtaieidcohdhgpaaGreatDoor
