/- Told. -/
import Derived.Test.YtaieidcohdhgpaaGreatDoorYAG
import Derived.Deep.WholeRow
namespace Go.Proofs.YtaieidcohdhgpaaGreatDoor
set_option maxHeartbeats 40000000
set_option maxRecDepth 100000
open Tryz
open Go.RowKit
theorem YF(L xs a:F0)(i n:Nat)(hL:(n+1)*2<=L.length)(d:L.take (n*2)=xs)(hi:i<n)(b:a.length=2):
  (F2 (F2 L ((i+1)*2) (xs.drop (i*2))) (i*2) a).take ((n+1)*2)=xs.take (i*2)++a++xs.drop (i*2):=by
 have c:xs.length=n*2:=by rw[<-d,An];omega
 have g:(xs.drop (i*2)).length=(n-i)*2:=by rw[Az,c];omega
 have e:(F2 L ((i+1)*2) (xs.drop (i*2))).take (i*2)=xs.take (i*2):=by
  unfold F2;rw[Ax,A3 (by rw[An];omega),B3,BB (by omega),<-d,B3,BB (by omega)]
 have f:(F2 L ((i+1)*2) (xs.drop (i*2))).drop (i*2+a.length)=xs.drop (i*2)++L.drop ((i+1)*2+(xs.drop (i*2)).length):=by
  unfold F2;rw[Ax,b,show i*2+2=(L.take ((i+1)*2)).length by rw[An];omega,EG]
 rw[F2,e,f,<-Ax];exact BY (by simp only[Ab,An,g,b,c];omega)
theorem ZS(Z xs a:F0)(i n:Nat)(f:xs.length=n*2)(hi:i<n)(_hZ:(n+1)*2<=(xs.take (i*2)++Z).length)(c:a.length=2):
  (F2 (F2 (xs.take (i*2)++Z) (i*2) a) ((i+1)*2) (xs.drop (i*2))).take ((n+1)*2)=xs.take (i*2)++a++xs.drop (i*2):=by
 have e:(xs.drop (i*2)).length=(n-i)*2:=by rw[Az,f];omega
 have b:(xs.take (i*2)).length=i*2:=by rw[An];omega
 have d:(F2 (xs.take (i*2)++Z) (i*2) a).take ((i+1)*2)=xs.take (i*2)++a:=by
  unfold F2;rw[BY b];exact BY (by simp only[Ab,b,c];omega)
 rw[F2,d];exact BY (by simp only[Ab,b,e,c];omega)
theorem Yl{w w2:World}{b ho:Nat}{v c:Value}{e:TypeId}{n:Nat}{xs:F0}(f:w.cell? ⟨b,ho,none⟩=some v)(i:v.ownBlock≠some b)(m:Sl w2 e 2 c n xs)(r:Dk w v c)(s:w2.os=w.os)(x:w2.tape=w.tape)(t:w2.output=w.output)(u:w.heap.size<=w2.heap.size)(d:∀k,k<w.heap.size->v.ownBlock≠some k->w2.heap[k]?=w.heap[k]?):
  (w2.setCell ⟨b,ho,none⟩ c).cell? ⟨b,ho,none⟩=some c/\Sl (w2.setCell ⟨b,ho,none⟩ c) e 2 c n xs/\I0 w (w2.setCell ⟨b,ho,none⟩ c) b ho v c:=by
 have q:b<w.heap.size:=Am _ _ f;have g:w2.heap[b]?=w.heap[b]? := d b q i;have o:w2.cell? ⟨b,ho,none⟩=some v:=(Ay (w:=w) (a:=⟨b,ho,none⟩) g).trans f;refine⟨Ck _ _ _ o,m.setCell _ _ (λe=>?_),s,x,t,by simpa [World.setCell] using u,λk p j l=>?_,?_⟩
 ·rcases r b e with h|h
  ·exact i h
  ·omega
 ·rw[Aw _ _ _ _ j];exact d k p l
 ·simp only[World.setCell,Fq,if_true];rw[g]
theorem Nh(w:World)(v:Value)(es:LI)(i:Nat)(x:Int×Int)(d:Nat)(A:Sl w 350 2 v es.length (Dr es))(hi:i<=es.length)(t:es.length<=10000)(y:FX w d 350 (Hm x))(H:v.ownBlock≠some d):
  Cl 274 #[v,.int .i64 i,.slice (some ⟨d,0,none⟩) 1 1] w λe w'=>∃l,e=.returned l/\Sl w' 350 2 l (es.length+1) (Dr (es.take i++x::es.drop i))/\w.grownBy w' v.ownBlock/\Dk w v l:=by
 have o:∀u∈Hm x,u.oneCell'=true:=λu J=>Rz [x] u (by simpa [Dr] using J)
 have f:Dr (es.take i++x::es.drop i)=(Dr es).take (i*2)++Hm x++(Dr es).drop (i*2):=by
  rw[Zjk,Zjl,Zhb,Ax];rfl
 have j:=Zha es;rcases Bh i es.length with n|aa
 ·rcases A.2 with⟨rfl,h0⟩|⟨g,m,L,rfl,z,E,B,c,s⟩
  ·omega
  ·have I:d≠g:=λe=>H (by simp[Value.ownBlock,e])
   have C:((Dr es).take (i*2)++Hm x++(Dr es).drop (i*2)).length=(es.length+1)*2:=by
    simp only[Ab,An,Az,j];simp[Hm];omega
   rcases Bh m (es.length+1) with F|D
   ·refine(ZnO w g es.length m (Dr es) L i d (Hm x) z c s n E F t y rfl (Rz es) o).mono ?_;rintro e w'⟨G,Z,rfl,p,q,a,r,b⟩;refine⟨_,rfl,⟨by rw[f];exact C,.inr ⟨_,G,_,rfl,r,p,q,?_,?_⟩⟩,⟨b.os,b.tape,b.output,b.size,λk h _=>b.block k h (by simp;omega)⟩,λk h => .inr (by simp[Value.ownBlock]at h;omega)⟩
    ·rw[DX,DX,a]
     ·rw[a];simp[Hm];omega
     ·rw[DX (by rw[a];simp[Hm];omega),a,Az,j];omega
    ·rw[f];exact ZS Z (Dr es) (Hm x) i es.length j n (by rw[a];omega) rfl
   ·refine(YV w g es.length m (Dr es) L i d (Hm x) z c s n D B t y rfl (Rz es) o I).mono ?_;rintro e w'⟨rfl,r,b⟩;refine⟨_,rfl,⟨by rw[f];exact C,.inr ⟨_,m,_,rfl,r,D,B,?_,?_⟩⟩,b,λk h => .inl h⟩
    ·rw[DX,DX,c]
     ·rw[Az,j,c];omega
     ·rw[DX (by rw[Az,j,c];omega),c];simp[Hm];omega
    ·rw[f];exact YF L (Dr es) (Hm x) i es.length (by rw[c];omega) s n rfl
 ·obtain rfl:i=es.length:=by omega
  refine(YU w v es.length (Dr es) d (Hm x) A t y rfl o).mono ?_;rintro e w'⟨l,rfl,p,q,a⟩;refine⟨l,rfl,?_,q,a⟩;rw[f,Ag (by omega),B8 (by omega),Cf];exact p
theorem Mb(w:World)(a ho:Nat)(v:Value)(es:LI)(c:Int)(hc:w.cell? ⟨a,ho,none⟩=some v)(f:Sl w 350 2 v es.length (Dr es))(g:es.length<=10000)(h:Gy es):
  Cl 273 #[.pointer (some ⟨a,ho,none⟩),.int .u64 c] w λe w'=>∃(i:Nat) (b:Bool),e=.returned (.tuple #[.int .i64 i,.bool b])/\LZ es c i b/\Bw w w':=by
 have k:=MY v es c w f g h;clear f g h;go_enter func273,ntmps273;go_wp2_with fail;refine k.mono ?_;rintro e w'⟨i,b,rfl,d,a⟩;have j:=Db d;clear d;go_wp2
 go_ret2
 exact⟨i,b,rfl,Da j,a⟩
def MI(es:LI)(key:Int)(r:Int)(b:Bool):Prop:=(b=true/\(key,r)∈es)\/(b=false/\r=0/\∀x∈es,x.1≠key)
theorem LZ.here{es:LI}{a:Int}{i:Nat}(h:LZ es a i true):∃r,es[i]?=some (a,r):=by
 obtain⟨x,b,c⟩:=h.2.2.2.1 rfl;exact⟨x.2,by rw[b,<-c]⟩
theorem LZ.not{es:LI}{j:Int}{i:Nat}(l:Gy es)(h:LZ es j i false):∀x∈es,x.1≠j:=by
 intro x m e;obtain⟨k,a⟩:=BU m;rcases Bh k i with g|g
 ·have:=h.2.1 k x g a;rw[e,Qb]at this;cases this
 ·rcases Bh i k with b|b
  ·have f:i<es.length:=by have:=(Ae.1 a).1;omega
   have c:=l i k _ x b (Ac f) a;have d:=h.2.2.1 i _ (Aa _) (Ac f);rw[e]at c;rw[c]at d;cases d
  ·obtain rfl:k=i:=by omega
   have:=h.2.2.2.2 ⟨x,a,e⟩
   cases this
theorem OV(w:World)(a ho:Nat)(v:Value)(es:LI)(n:Int)(k:w.cell? ⟨a,ho,none⟩=some v)(h:Sl w 350 2 v es.length (Dr es))(C:es.length<=10000)(x:Gy es):
  Cl 300 #[.pointer (some ⟨a,ho,none⟩),.int .u64 n] w λe w'=>∃(r:Int) (b:Bool),e=.returned (.tuple #[.int .i64 r,.bool b])/\MI es n r b/\Bw w w':=by
 have B:a<w.heap.size:=Am _ _ k;have t:=Mb w a ho v es n k h C x;go_enter func300,ntmps300;go_wp2_with fail;refine t.mono ?_;rintro e w1⟨i,b,rfl,d,f⟩;clear t
 cases b with
 |false=>
  have z:=Db (LZ.not x d);clear d h;go_wp2
  go_ret2
  exact⟨0,false,rfl,.inr ⟨rfl,rfl,Da z⟩,f⟩
 |true=>
  obtain⟨r,c⟩:=d.here;rcases h.2 with⟨rfl,h0⟩|⟨g,aa,L,rfl,m,ab,ac,A,o⟩
  ·have:=(Ae.1 c).1;omega
  ·have s:∀j u,(Dr es)[j]?=some u->w1.cell? ⟨g,j,none⟩=some u:=λj u l=>by
    rw[f.cell (p:=⟨g,j,none⟩) m.lt,m.cell];rw[<-o,Ao]at l
    split at l
    ·exact l
    ·cases l
   have q:=Ob es i _ c;have q0:=(f.cell (p:=⟨a,ho,none⟩) B).trans k;have q1:=s _ _ q.2;have hi:i<es.length:=(Ae.1 c).1;have y:=Db (Ar c);clear q s m A o h d c k;go_wp2
   go_ret2
   exact⟨r,true,rfl,.inl ⟨rfl,Da y⟩,f⟩
theorem Zl8{es:LI}{d:Int}{i:Nat}(e:Int)(g:Gy es)(h:LZ es d i false):
  Gy (es.take i++(d,e)::es.drop i)/\(es.take i++(d,e)::es.drop i).length=es.length+1/\∀x,x∈es.take i++(d,e)::es.drop i↔x=(d,e)\/x∈es:=by
 have hi:=h.1;have u:=LZ.not g h;have q:∀k x,i<=k->es[k]?=some x->GK d x.1=true:=λk x s b=>by
  have a:=h.2.2.1 k x s b;have f:=u x (Ar b);exact Wj a f
 have t:(es.take i).length=i:=by rw[An];omega
 have p:∀k,(es.take i++(d,e)::es.drop i)[k]?=if k<i then es[k]? else if k=i then some (d,e) else es[k-1]? := λk=>by
  by_cases a:k<i
  ·rw[if_pos a,AW (by omega),Ao,if_pos a]
  ·rw[if_neg a,AS (by omega),t];by_cases f:k=i
   ·rw[if_pos f];simp[f]
   ·rw[if_neg f,show k-i=(k-i-1)+1 by omega,CX,Bf]
    congr 1;omega
 refine⟨λj k x y r b c=>?_,?_,λx=>?_⟩
 ·rw[p]at b c;by_cases n:j<i
  ·rw[if_pos n]at b;by_cases l:k<i
   ·rw[if_pos l]at c;exact g j k x y r b c
   ·rw[if_neg l]at c;by_cases m:k=i
    ·rw[if_pos m]at c;cases c;exact h.2.1 j x n b
    ·rw[if_neg m]at c;exact g j (k-1) x y (by omega) b c
  ·rw[if_neg n]at b;have l:¬k<i:=by omega
   have m:¬k=i:=by omega
   rw[if_neg l,if_neg m]at c;by_cases o:j=i
   ·rw[if_pos o]at b;cases b;exact q (k-1) y (by omega) c
   ·rw[if_neg o]at b;exact g (j-1) (k-1) x y (by omega) b c
 ·simp;omega
 ·have:es=es.take i++es.drop i:=(Co i es).symm;constructor
  ·intro b;simp only[Aq,AC]at b;rcases b with a|a|a
   ·exact .inr (Bv a)
   ·exact .inl a
   ·exact .inr (BG a)
  ·intro b;simp only[Aq,AC];rcases b with a|a
   ·exact .inr (.inl a)
   ·rw[this,Aq]at a;rcases a with a|a
    ·exact .inl a
    ·exact .inr (.inr a)
theorem PN(w:World)(c ho:Nat)(v:Value)(es:LI)(f:Int)(r:Int)(n:w.cell? ⟨c,ho,none⟩=some v)(hf:w.frozen? ⟨c,ho,none⟩=false)(C:v.ownBlock≠some c)(u:Sl w 350 2 v es.length (Dr es))(O:es.length<=10000)(D:Gy es)(Q:∀x∈es,x.1≠f):
  Cl 243 #[.pointer (some ⟨c,ho,none⟩),.int .u64 f,.int .i64 r] w λe w'=>e=.returned (.tuple #[])/\∃d es',w'.cell? ⟨c,ho,none⟩=some d/\Sl w' 350 2 d es'.length (Dr es')/\
   Gy es'/\es'.length=es.length+1/\(∀x,x∈es'↔x=(f,r)\/x∈es)/\Dk w v d/\I0 w w' c ho v d:=by
 have A:c<w.heap.size:=Am _ _ n;have L:=Mb w c ho v es f n u O D;go_enter func243,ntmps243;go_wp2_with fail;refine L.mono ?_;rintro e w1⟨i,b,rfl,s,j⟩;have aa:b=false:=by
  cases b with
  |false=>rfl
  |true=>obtain⟨r',ae⟩:=s.here;exact absurd rfl (Q _ (Ar ae))
 subst aa;have q0:w1.cell? ⟨c,ho,none⟩=some v:=(j.cell (p:=⟨c,ho,none⟩) A).trans n;have ah:w.heap.size<=w1.heap.size:=j.size;have y:Sl w1 350 2 v es.length (Dr es):=u.kept (λk B _=>j.block k B);have M:∀W:World,W.heap=(w1.alloc (.cells #[.int .u64 f,.int .i64 r] 350)).heap->W.os=w1.os->W.tape=w1.tape->W.output=w1.output->Cl 274 #[v,.int .i64 i,.slice (some ⟨w1.heap.size,0,none⟩) 1 1] W λe w'=>∃l q m d,e=.returned (.slice l q m)/\d=.slice l q m/\
   (w'.cell? ⟨c,ho,none⟩=some v/\w'.frozen? ⟨c,ho,none⟩=false)/\Hid ((w'.setCell ⟨c,ho,none⟩ d).cell? ⟨c,ho,none⟩=some d/\Sl (w'.setCell ⟨c,ho,none⟩ d) 350 2 d (es.length+1) (Dr (es.take i++(f,r)::es.drop i))/\I0 w (w'.setCell ⟨c,ho,none⟩ d) c ho v d/\Dk w v d):=λW t T U V=>by
  have Y:Sl W 350 2 v es.length (Dr es):=(Sl.of_owns (y.owns.alloc _)).heap t;have X:FX W w1.heap.size 350 (Hm (f,r)):=by unfold FX;rw[t];exact CQ w1 _
  refine(Nh W v es i (f,r) w1.heap.size Y s.1 O X (λe=>by have:=y.lt e;omega)).mono ?_;rintro e w'⟨d,rfl,K,o,ad⟩;have Z:w.heap.size<=W.heap.size:=by rw[t];simp;omega
  have z:∀k,k<w.heap.size->v.ownBlock≠some k->w'.heap[k]?=w.heap[k]? := λk B ac=>by
   rw[o.block k (by omega) (λe=>ac e.symm),t,BH _ _ _ (by omega),j.block k B]
  have P:Dk w v d:=λg ab=>(ad g ab).imp id (λh=>by omega)
  obtain⟨F,G,H⟩:=Yl (ho:=ho) n C K P (o.os.trans (T.trans j.os)) (o.tape.trans (U.trans j.tape)) (o.output.trans (V.trans j.output)) (Af Z o.size) z;obtain⟨l,q,m,J⟩:=K.shape;exact⟨l,q,m,d,by rw[J],J,⟨(Ay (w:=w) (a:=⟨c,ho,none⟩) (z c A C)).trans n,(C8 (w:=w) (a:=⟨c,ho,none⟩) (z c A C)).trans hf⟩,F,G,H,P⟩
 have E:=Db (Zl8 r D s);have N:(es.take i++(f,r)::es.drop i).length=es.length+1:=(Da E).2.1;have I:=Db N;have S:=Db M;clear N s u y D Q L j M;go_wp2_with(go_at_call 274;refine(Da S _ (by exact rfl) (by exact rfl) (by exact rfl) (by exact rfl)).mono ?_;rintro e w2⟨l,q,m,d,rfl,rfl,⟨af,ag⟩,R⟩)
 all_goals (
  go_end0
  obtain⟨F,G,H,m4⟩:=Da R;exact⟨rfl,_,_,F,by rw[Da I];exact G,(Da E).1,Da I,(Da E).2.2,m4,H⟩)
section
open Go.RowKit Go.Shelf
attribute [local go_sem] Oper.semAt_some
theorem Nx(F:Fence)(n:Nat)(L:F.fn 270)(P:F.round=none)(hn:1<=n)(l s f z ho g C:Nat){α : Type}(a : α -> Int×Int)(es:List α)(ab:es.length<=10000)(A:g<f)(J w:List α -> World->Prop)(W:World)(E:AbidesFrom W.heap.size J)(K:∀pre x W,J pre W->pre.length<es.length->YieldAt F (n-1) prog l #[.int .u64 (a x).1,.int .i64 (a x).2] W λe b=>
   (e=.returned (.bool true)/\J (pre++[x]) b/\Below f W b)\/(e=.returned (.bool false)/\w (pre++[x]) b))(aa:W.cell? ⟨s,0,none⟩=some (.pointer (some ⟨z,ho,none⟩)))(hc:W.cell? ⟨z,ho,none⟩=some (.slice (some ⟨g,0,none⟩) es.length C))(m:∀j u,(Dr (es.map a))[j]?=some u->W.cell? ⟨g,j,none⟩=some u)(O:f<=W.heap.size)(D:J [] W):
  CallsIn F n prog 270 #[.func (.yield l) #[] #[],.pointer (some ⟨s,0,none⟩)] W λe b=>(∃v,e=.returned v)/\
   ((∃ys,ys=es/\J ys b)\/(∃pre,pre <+: es/\w pre b)):=by
 refine CH func270 rfl L ?_ P;simp only[ntmps270,AM,Al,AK,Nat.reduceAdd,Nat.reduceSub,AQ,AP,AZ,AT,AD,AN]
 gi_wp2
 gi_loopw [10] (λi wr=>∃k:Nat,k<=es.length/\i=.int .i64 k/\J (es.take k) wr/\Below f W wr)
  (λi _=>es.length-(intOf i).toNat)
 case atStart=>exact⟨0,Au _,rfl,D,Ak _ _⟩
 case round=>
  obtain⟨k,hk,rfl,h,c⟩:=hrel;by_cases N:k<es.length
  ·obtain⟨x,d⟩:∃x,es[k]?=some x:=⟨_,Ac N⟩;have t:Hid (es.take (k+1)=es.take k++[x]):=by show _=_;rw[BK,d];rfl
   have q:=Ob (es.map a) k (a x) (by rw[Bc,d];rfl);have q0:=(c.cell (p:=⟨g,k*2,none⟩) A).trans (m _ _ q.1);have q1:=(c.cell (p:=⟨g,k*2+1,none⟩) A).trans (m _ _ q.2);have B:(es.take k).length<es.length:=by rw[An];omega
   have y:∀o,J (es.take k) (wr.alloc o):=λo=>E _ _ _ none h (Om wr o) (λr e=>by cases e)
   obtain⟨fn,tmps,assign,body,hy,I⟩:=K _ x (wr.alloc (.cells #[.int .u64 (a x).1,.int .i64 (a x).2] 350)) (y _) B;have HX:=Db d;clear q d B y m
   gi_wp2
   refine I.mono ?_;rintro e W3 (⟨rfl,G,M⟩|⟨rfl,H⟩)
   ·gi_wp2
    go_roundw
    case rel=>exact⟨k+1,by omega,by go_num,by rw[Da t];exact G,(c.alloc (Af O c.size) _).trans M⟩
    case measure=>simp[intOf];omega
   ·gi_wp2
    refine Ap (Eb rfl _ _ _) rfl ?_;exact⟨⟨_,rfl⟩,.inr ⟨_,by rw[<-Da t];exact Fu _ _,H⟩⟩
  ·obtain rfl:k=es.length:=by omega
   gi_wp2
   go_end0
   exact⟨⟨_,rfl⟩,.inl ⟨_,rfl,by rw[Cy]at h;exact h⟩⟩
theorem ZmU(F:Fence)(n:Nat)(g:F.fn 270)(h:F.round=none)(l a b ho:Nat){α : Type}(J:List α -> World->Prop)(W:World)(aa:W.cell? ⟨a,0,none⟩=some (.pointer (some ⟨b,ho,none⟩)))(hc:W.cell? ⟨b,ho,none⟩=some (.slice none 0 0))(d:J [] W):
  CallsIn F n prog 270 #[.func (.yield l) #[] #[],.pointer (some ⟨a,0,none⟩)] W λe c=>(∃v,e=.returned v)/\J [] c:=by
 refine CH func270 rfl g ?_ h;simp only[ntmps270,AM,Al,AK,Nat.reduceAdd,Nat.reduceSub,AQ,AP,AZ,AT,AD,AN]
 gi_wp2
 gi_loopw [10] (λi wr=>i=.int .i64 0/\J [] wr) (λ_ _=>0)
 case atStart=>exact⟨rfl,d⟩
 case round=>
  obtain⟨rfl,f⟩:=hrel
  gi_wp2
  go_end0
  exact⟨⟨_,rfl⟩,f⟩
theorem Zb(F:Fence)(n:Nat)(b:F.fn 235)(c:F.round=none)(a:OA)(w:World):
  CallsIn F n prog 235 #[.pointer a] w λe w'=>e=.returned (.func (.func 270) #[] #[.pointer (some ⟨w.heap.size,0,none⟩)])/\w'=w.alloc (.cells #[.pointer a] 294):=by
 refine CH func235 rfl b ?_ c;simp only[ntmps235,AM,Al,AK,Nat.reduceAdd,Nat.reduceSub,AQ,AP,AZ,AT,AD,AN]
 gi_wp2
 go_ret;exact⟨rfl,rfl⟩
theorem ZkU(F:Fence)(n:Nat)(r:F.fn 270)(s:F.round=none)(L:1<=n)(a f b ho:Nat)(v:Value){α : Type}(h : α -> Int×Int)(es:List α)(I:es.length<=10000)(w:World)(A:a<w.heap.size)(G:b<w.heap.size)(M:f<=w.heap.size)(z:w.cell? ⟨a,0,none⟩=some (.pointer (some ⟨b,ho,none⟩)))(H:w.cell? ⟨b,ho,none⟩=some v)(C:Sl w 350 2 v es.length (Dr (es.map h)))(N:∀g,v.ownBlock=some g->g<f):
  SeqStopsK F n prog 270 #[.pointer (some ⟨a,0,none⟩)] (λx : α => #[.int .u64 (h x).1,.int .i64 (h x).2]) (Below f) (λP=>P=es) (λO=>O <+: es) es.length w:=λl J t W c B _ E k=>by
 have m:=(c.cell (p:=⟨a,0,none⟩) A).trans z;have q:=(c.cell (p:=⟨b,ho,none⟩) G).trans H;rcases C.2 with⟨rfl,i⟩|⟨g,y,R,rfl,o,_,_,_,D⟩
 ·obtain rfl:es=[]:=AA i;exact(ZmU F n r s l a b ho J W m q k).mono λe W' ⟨i,K⟩=>⟨i,.inl ⟨_,rfl,K⟩⟩
 ·exact Nx F n r s L l a f b ho g y h es I (N g rfl) J t W B E m q (λj u d=>by
   rw[c.cell (p:=⟨g,j,none⟩) o.lt,o.cell];rw[<-D,Ao]at d
   split at d
   ·exact d
   ·cases d) (Af M c.size) k
end
theorem T9(s:By)(k:Nat)(h:k<s.size):(Dc s)[k]?=some (.int .u8 (s.data[k].toNat:Int)):=by
 unfold Dc;rw[Bc,Ac (by simpa using h)];simp
def Nk(y:Int)(b:UInt8):Int:=IntKind.u64.wrap (bits BinOp.xor IntKind.u64 y (IntKind.u64.wrap b.toNat)*1099511628211)
def Kz(l:List UInt8):Int:=l.foldl Nk 14695981039346656037
theorem Vs(l:List UInt8)(b:UInt8):Kz (l++[b])=Nk (Kz l) b:=by unfold Kz;rw[List.foldl_append];rfl
theorem V9(s:By)(k:Nat)(h:k<s.size):s.data.toList.take (k+1)=s.data.toList.take k++[s.data[k]]:=by
 rw[CL (by simpa using h)];simp
theorem Vj(w:World)(a:OA)(l c:Nat)(s:By)(h:Gp w a l c s)(hs:s.size<=2000000):
  Cl 215 #[.slice a l c] w λe w'=>e=.returned (.int .u64 (Kz s.data.toList))/\w'=w:=by
 obtain⟨q,_,f⟩:=h;subst q;have m:=Db f;clear f;obtain⟨r,b⟩:=ex (Kz s.data.toList);rw[<-b];have n:=Db b;clear b;go_enter func215,ntmps215;go_wp2
 go_loop [3,8] (λx i=>∃(k:Nat) (y:Int),k<=s.size/\i=.int .i64 k/\x=.int .u64 y/\Hid (y=Kz (s.data.toList.take k))) (λ_ i=>s.size-(intOf i).toNat)
 case atStart=>exact⟨0,_,Au _,rfl,rfl,rfl⟩
 case round=>
  obtain⟨k,y,hk,rfl,rfl,j⟩:=hrel;by_cases d:k<s.size
  ·obtain⟨g,rfl,q0⟩:=Da m k _ (T9 s k d);go_wp2
   go_round
   case rel=>exact⟨k+1,_,by omega,by go_num,rfl,by show _=_;rw[V9 s k d,Vs,<-Da j];rfl⟩
   case measure=>simp[intOf];omega
  ·obtain rfl:k=s.size:=by omega
   go_wp2;go_ret;have o:s.data.toList.take s.size=s.data.toList:=Ag (Ee AG);have p:y=r:=by rw[Da n,Da j,o]
   exact⟨by rw[p]<;>rfl,rfl⟩
def F9(b:Nat)(w:World)(v:Value)(s:By):Prop:=Sl w 5 1 v s.size (Dc s)/\∀g,v.ownBlock=some g->b<=g
theorem F9.nil(b:Nat)(w:World):F9 b w (.slice none 0 0) ⟨#[]⟩:=⟨⟨rfl,.inl ⟨rfl,rfl⟩⟩,λg h=>by simp[Value.ownBlock]at h⟩
theorem F9.below{b:Nat}{w w':World}{v:Value}{s:By}(h:F9 b w v s)(a:Bw w w'):F9 b w' v s:=⟨h.1.kept (λk c _=>a.block k c),h.2⟩
theorem F9.rdB{b:Nat}{w:World}{a:OA}{l c:Nat}{s:By}(h:F9 b w (.slice a l c) s):Gp w a l c s:=by
 have f:l=s.size:=by
  rcases h.1.2 with⟨e,d⟩|⟨g,aa,L,e,_⟩
  ·cases e;exact d.symm
  ·cases e;rfl
 subst f;exact h.1.rdB
def Own(v:Value)(k:Nat):Prop:=v.ownBlock=some k
theorem Fr.then{X Y:Nat->Prop}{w w1 w2:World}(h:Fr X w w1)(a:Fr Y w1 w2)(d:∀k,k<w.heap.size->Y k->X k):Fr X w w2:=
 ⟨a.os.trans h.os,a.tape.trans h.tape,a.output.trans h.output,Af h.size a.size,λk b c=>(a.block k (AY b h.size) (λe=>c (d k b e))).trans (h.block k b c)⟩
theorem F9.frBelow{b:Nat}{w w':World}{v:Value}{s:By}(h:F9 b w v s)(hb:b<=w.heap.size)(a:Fr (Own v) w w'):Below b w w':=
 ⟨a.os,a.tape,a.output,a.size,λk hk=>a.block k (by omega) (λe=>by have:=h.2 k e;omega)⟩
theorem JX(w:World)(b:Nat)(hb:b<=w.heap.size)(v:Value)(s:By)(h:F9 b w v s)(a:Addr)(m c:Nat)(t:By)(z:t.size=m)(A:∀j u,(Dc t)[j]?=some u->w.cell? (a.add j)=some u)(hl:s.size+m<=4000000):
  ∃d i f w',(Builtin.append_ #[59,59] 59 #[v,.slice (some a) m c]).run prog w=.ok (.slice d i f) w'/\F9 b w' (.slice d i f) (s++t)/\Fr (Own v) w w'/\Dk w v (.slice d i f):=by
 obtain⟨E,x,B,C,D⟩:=BT KG;obtain⟨v',w2,F,o,l,p⟩:=Qa (P:=prog) w 59 59 5 E _ 1 1 underlying59 x B C D rfl (by decide) v s.size (Dc s) h.1 a m c (Dc t) (by rw[Dg];omega)
  A (Ko t) (by unfold maxLen;omega) (by omega)
 obtain⟨d,i,f,rfl⟩:=o.shape;refine⟨d,i,f,w2,F,⟨?_,λg r=>?_⟩,⟨l.os,l.tape,l.output,l.size,λk y q=>l.block k y (λe=>q e.symm)⟩,p⟩
 ·rw[Jz,show(s++t).size=s.size+m by rw[Ai,z]];exact o
 ·rcases p g r with n|n
  ·exact h.2 g n
  ·omega
def DD:Nat->Nat->List UInt8
 |_,0=>[]
 |x,m+1=>UInt8.ofNat x::DD (x/256) m
theorem Jd:∀(m x:Nat),(DD x m).length=m
 |0,_=>rfl
 |m+1,x=>by simp[DD,Jd m]
theorem Kv(s:By):s++⟨#[]⟩=s:=by
 apply A8;simp
theorem PD(s:By)(l:List UInt8)(b:UInt8):s++⟨l.toArray⟩++⟨#[b]⟩=s++⟨(l++[b]).toArray⟩:=by
 apply A8;simp
theorem VO{x y m k:Nat}(b:k<m)(h:DD y (m-k)=(DD x m).drop k):(DD x m).take (k+1)=(DD x m).take k++[UInt8.ofNat y]/\DD (y/256) (m-(k+1))=(DD x m).drop (k+1):=by
 have e:m-k=(m-(k+1))+1:=by omega
 rw[e]at h;have a:k<(DD x m).length:=by rw[Jd];exact b
 rw[BN a]at h;simp only[DD,FI]at h;exact⟨by rw[CL a,h.1],h.2⟩
theorem J6(y:Nat):IntKind.u8.wrap (y:Int)=((UInt8.ofNat y).toNat:Int):=by
 simp[IntKind.wrap,IntKind.bits,IntKind.signed]
theorem UD(w:World)(b:Nat)(hb:b<=w.heap.size)(a:OA)(l c:Nat)(s:By)(h:F9 b w (.slice a l c) s)(x:Nat)(U:x<18446744073709551616)(m:Nat)(hm:m<=8)(hs:s.size<=2000000):
  Cl 212 #[.slice a l c,.int .u64 x,.int .i64 m] w λe w'=>∃d o f,e=.returned (.slice d o f)/\F9 b w' (.slice d o f) (s++⟨(DD x m).toArray⟩)/\Fr (Own (.slice a l c)) w w'/\Dk w (.slice a l c) (.slice d o f):=by
 have H:=Db h;clear h;go_enter func212,ntmps212;go_wp2
 go_loopw [0,1,8] (λv y i wr=>∃(k y':Nat) (d:OA) (o f:Nat),k<=m/\i=.int .i64 k/\y=.int .u64 y'/\v=.slice d o f/\y'<18446744073709551616/\Hid (F9 b wr v (s++⟨((DD x m).take k).toArray⟩))/\Hid (DD y' (m-k)=(DD x m).drop k)/\Hid (Fr (Own (.slice a l c)) w wr/\Dk w (.slice a l c) v)) (λ_ _ i _=>m-(intOf i).toNat)
 case atStart=>exact⟨0,x,a,l,c,Au _,rfl,rfl,rfl,U,by show F9 _ _ _ _;rw[Cs,Kv];exact Da H,rfl,Fr.refl _ _,λg r => .inl r⟩
 case round=>
  obtain⟨k,y,d,o,f,P,rfl,rfl,rfl,hy,t,L,p⟩:=hrel;by_cases R:k<m
  ·have G:IntKind.u8.wrap (y:Int)=((UInt8.ofNat y).toNat:Int):=J6 y;have aa:=(Da p).1.size;obtain⟨W,E,I,Q,S,q⟩:=De wr [.int .u8 (IntKind.u8.wrap (y:Int))] 5;obtain⟨z,J,A,w2,F,D,B,C⟩:=JX W b (by omega) _ _ ((Da t).below q) ⟨wr.heap.size,0,none⟩ 1 1 ⟨#[UInt8.ofNat y]⟩ rfl (λj u T=>by rw[AI,Av,I.cell,G];exact T) (by rw[Ai];show s.size+(List.toArray _).size+1<=_;simp;omega);have M:=Db D;have K:Hid (Fr (Own (.slice a l c)) w w2/\Dk w (.slice a l c) (.slice z J A)):=by
    refine⟨((Da p).1.then (Fr.of_below (X:=Own (.slice a l c)) q) (λk _ h=>h)).then B (λk P e=>((Da p).2 k e).elim id (λh=>by omega)),λg r=>?_⟩;rcases C g r with n|n
    ·exact(Da p).2 g n
    ·exact .inr (by omega)
   have N:=Db E;clear D B C I Q S q E G;rw[<-Da N]at F;go_wp2_with(at_builtin;refine A0 _ rfl _ _ 59 59 rfl _ _ rfl rfl _ _ F ?_)
   go_roundw
   case rel=>
    obtain⟨n,O⟩:=VO R (Da L);exact⟨k+1,y/256,z,J,A,by omega,by go_num,by go_num,rfl,by omega,by show F9 _ _ _ _;rw[n,<-PD];exact Da M,O,K⟩
   case measure=>simp[intOf];omega
  ·obtain rfl:k=m:=by omega
   go_wp2;go_ret;have n:=Da t;rw[Ag (by rw[Jd];exact Aa _)]at n;exact⟨d,o,f,rfl,n,Da p⟩
abbrev Et:=@zero_of_info
def Dn(n:Nat):By:=⟨(List.replicate n 0).toArray⟩
def DA(s:By):Value:=.agg (Dc s).toArray
theorem JN{P:Program}{b:Array Oper}{c:List Oper}{o:Oper}{a:Act}{w:World}{Q:Exit->Act->World->Prop}(e:o.guard=none)(t:TypeId)(ho:o.op=.alloc t){zs:Array Value}(f:∀w,(zeroValue t).run P w=.ok (.agg zs) w)(h:wpList P b Q c (a.put o.dst (.pointer (some ⟨w.heap.size,0,none⟩))) (w.alloc (.cells zs t))):wpList P b Q (o::c) a w:=by
 refine E5 e λK d=>?_
 unfold Oper.wp execOp;simp only[ho,Instr.alloc,Cn,f,Cg];simp[newVar,newRow,go_sem,Value.cells];exact d _ _ h
theorem SO:(prog.info? 188).map (λi=>(i.zero,i.size))=some (some (DA (Dn 64)),64):=by kernel_rfl
theorem Kx:∀w,(zeroValue 188).run prog w=.ok (DA (Dn 64)) w:=(Et SO).1
theorem Jf:(prog.info? 188).map (·.size)=some 64:=(Et SO).2
theorem Kf:prog.underlying 188=some (.array 64 5):=by kernel_rfl
theorem WT{P:Program}{b:Array Oper}{c:List Oper}{o:Oper}{a:Act}{w:World}{Q:Exit->Act->World->Prop}(e:o.guard=none)(x:Operand)(ho:o.op=.move x)(h:wpList P b Q c (a.put o.dst (a.eval x)) w):wpList P b Q (o::c) a w:=by
 refine E5 e λK d=>?_
 unfold Oper.wp execOp;simp only[ho];exact d _ _ h
theorem RW{P:Program}{d:Array Oper}{f:List Oper}{o:Oper}{a:Act}{w:World}{Q:Exit->Act->World->Prop}(g:o.guard=none)(t:TypeId)(i:Nat)(x:Operand)(ho:o.op=.build t #[(i,x)])(u:Value)(j:a.eval x=u){b:Array Value}(c:P.built t [(i,u)]=some b)(h:wpList P d Q f (a.put o.dst (.agg b)) w):wpList P d Q (o::f) a w:=by
 have e:((#[(i,x)]:Array (Nat×Operand)).map λ(i,x)=>(i,a.eval x)).toList=[(i,u)]:=by simp[j]
 refine wpList_build g t _ ho ?_ ?_
 ·rw[e,c];rfl
 ·rw[e,c];exact h
theorem Zm(x:Int):prog.built 188 [(0,.int .u8 x)]=some (Value.int .u8 x::List.replicate 63 (.int .u8 0)).toArray:=by kernel_rfl
theorem Ok(k:UInt8)(s:By):Dc (⟨#[k]⟩++s)=.int .u8 (k.toNat:Int)::Dc s:=by rw[Jz];rfl
theorem KV(s:By):(Dc s).toArray.all (·.oneCell')=true:=C4 (Ko s)
theorem Jr(n:Nat):(Dn n).size=n:=by show(List.toArray _).size=n;simp
theorem QZ(n:Nat):Dc (Dn n)=List.replicate n (.int .u8 0):=Ky n
theorem Zio(w:World)(x:Addr)(n c:Nat):(Builtin.copy_ #[59,59] 3 #[.slice (some x) n c,.slice none 0 0]).run prog w=.ok (goInt 0) w:=by
 obtain⟨i0,a,aa,ab,ac⟩:=BT KG;simp[Builtin.copy_,run_underlying underlying59,Builtin.lenOf,sizeOf,typeInfo,a,Builtin.firstCells,storeCells]
theorem NR(w:World)(g:Nat)(t:TypeId)(L:F0)(f:FX w g t L)(o n d:Nat)(a:OA)(l c:Nat)(s:By)(h:Gp w a l c s)(u:s.size<=n)(hn:o+n<=L.length):
  ∃w',(Builtin.copy_ #[59,59] 3 #[.slice (some ⟨g,o,none⟩) n d,.slice a l c]).run prog w=.ok (goInt s.size) w'/\FX w' g t (F2 L o (Dc s))/\w.grownBy w' (some g):=by
 cases a with
 |none=>
  have b:s.size=0:=by
   rcases Cj s.size with e|e
   ·exact e
   ·obtain⟨x,A,_⟩:=h.2.2 0 ((Dc s)[0]'(by rw[Dg];exact e)) (Ac _)
    cases A
  have r:l=0:=by rw[h.1,b]
  have q:=h.2.1 rfl;subst r q;have p:Dc s=[]:=AA (by rw[Dg,b]);refine⟨w,by rw[b];exact Zio w _ _ _,by rw[p];simpa [F2] using f,⟨rfl,rfl,rfl,Aa _,λ_ _ _=>rfl⟩⟩
 |some x=>
  have i:Nat.min l n=s.size:=by rw[h.1];exact BB u
  obtain⟨m,k,C,D⟩:=JS (P:=prog) w 59 59 3 5 1 g o n d x l c L t (Dc s) underlying59 Q3 f (by rw[i,Dg,BS])
   (λj v z=>by obtain⟨y,e,B⟩:=h.2.2 j v z;cases e;exact B) (by rw[Dg];omega) (Ko s)
  exact⟨m,by rw[i]at k;exact k,C,D⟩
theorem Zy(k:UInt8)(s:By)(hs:s.size<=63):F2 (Dc (⟨#[k]⟩++Dn 63)) 1 (Dc s)=Dc (⟨#[k]⟩++Di s 63):=by
 rw[Ok,Ok,QZ];unfold F2 Di;rw[Dg];have b:(Value.int .u8 (k.toNat:Int)::List.replicate 63 (Value.int .u8 0)).drop (1+s.size)=List.replicate (63-s.size) (.int .u8 0):=by
  rw[Fa,C6,CP]
 rw[b];by_cases a:63<=s.size
 ·have c:(Dc s).take (63-0)=Dc s:=Ag (by rw[Dg];omega);rw[if_pos a,show 63-s.size=0 by omega,Jp,BV,c];simp
 ·rw[if_neg a,Jz,Ky];simp
theorem NP(k:UInt8)(s:By):(Dc (⟨#[k]⟩++Di s 63)).toArray.size=64:=by
 rw[Ok];simp[Dg,Jc]
theorem Xj(w:World)(a:OA)(l c:Nat)(s:By)(h:Gp w a l c s)(D:s.size<=63)(k:UInt8):
  Cl 213 #[.int .u8 (k.toNat:Int),.slice a l c] w λe w'=>e=.returned (DA (⟨#[k]⟩++Di s 63))/\Bw w w':=by
 have G:=Db h;clear h;go_enter func213,ntmps213;go_upto_region 0 with fail;refine AX ?_;refine JN rfl 188 rfl Kx ?_;refine El ?_;obtain⟨W,x,o,K,E,A⟩:=De w (Dc (Dn 64)) 188;rw[x];clear x;go_upto_region 1 with fail;refine AX ?_;refine WT rfl _ rfl ?_;refine RW rfl 188 0 _ rfl (.int .u8 (k.toNat:Int)) rfl ((Zm _).trans (Cu some (show _=(Dc (⟨#[k]⟩++Dn 63)).toArray by rw[Ok,QZ]))) ?_;refine JN rfl 188 rfl Kx ?_;obtain⟨b,y,p,C,M,B⟩:=De W (Dc (Dn 64)) 188;rw[y];clear y;refine BX rfl 188 _ _ rfl W.heap.size (Dc (⟨#[k]⟩++Dn 63)).toArray rfl rfl 188 _ p ?_ ?_ (KV _) ?_
 ·rw[Jf];rfl
 ·rfl
 refine El ?_;have q:FX (b.setRow W.heap.size (Dc (⟨#[k]⟩++Dn 63)).toArray) W.heap.size 188 (Dc (⟨#[k]⟩++Dn 63)):=BW b _ _ _ 188 _ p;have f:Bw W (b.setRow W.heap.size (Dc (⟨#[k]⟩++Dn 63)).toArray):=B.trans ⟨rfl,rfl,rfl,by simp,λj J=>BD b _ j _ (by omega)⟩;have N:=C _ _ _ o;obtain⟨m,z⟩:∃X,X=b.setRow W.heap.size (Dc (⟨#[k]⟩++Dn 63)).toArray:=⟨_,rfl⟩;rw[<-z]at q f ⊢;have g:Bw w m:=A.trans (f.mono (by omega));have r:FX m w.heap.size 188 (Dc (Dn 64)):=(f.block _ (by omega)).trans o;obtain⟨d,L,t,n⟩:=NR m W.heap.size 188 _ q 1 63 63 a l c s ((Da G).below g) D (by rw[Dg];exact Aa 64);have F:FX d w.heap.size 188 (Dc (Dn 64)):=(n.block _ r.lt (λe=>by simp at e;omega)).trans r;have i:=Zy k s D;rw[i]at t;have H:=Db t;have u:=Db F;have I:Bw w d:=g.grown n g.size (λk e=>by cases e;omega);have aa:=Db E;clear t F r q p N o K C z A B f g n i E M;go_upto_region 3 with(at_builtin;refine D4 _ rfl _ _ 59 59 rfl _ _ rfl rfl L ?_);refine AX ?_;refine wpList_load_row rfl 188 _ rfl W.heap.size rfl 188 _ (0,0) _ (Da H) Kf rfl ?_ ?_
 ·rw[Jf,NP]
 refine BX rfl 188 _ _ rfl w.heap.size (Dc (⟨#[k]⟩++Di s 63)).toArray rfl rfl 188 _ (Da u) ?_ ?_ (KV _) ?_
 ·rw[Jf,NP]
 ·rw[NP];rfl
 refine El ?_;go_wp2;have i:FX (d.setRow w.heap.size (Dc (⟨#[k]⟩++Di s 63)).toArray) w.heap.size 188 (Dc (⟨#[k]⟩++Di s 63)):=BW d _ _ _ 188 _ (Da u);refine Ap (v:=DA ((⟨#[k]⟩:By)++Di s 63)) (Fs rfl _ _ w.heap.size 188 _ (0,0) _ rfl i Kf rfl ?_) rfl ⟨rfl,?_⟩
 ·rw[Jf,NP]
 ·exact I.trans ⟨rfl,rfl,rfl,by simp,λj J=>BD d _ j _ (by omega)⟩
theorem IR(x:Nat)(h:x<18446744073709551616):IntKind.u64.wrap (x:Int)=x:=by
 simp[IntKind.wrap,IntKind.bits,IntKind.signed];omega
theorem PE(x i b:Nat)(c:b<2 ^ i)(h:2 ^ i*x+b<18446744073709551616):bits BinOp.or IntKind.u64 ((2 ^ i*x:Nat):Int) (b:Int)=((2 ^ i*x+b:Nat):Int):=by
 show IntKind.u64.wrap (((BitVec.ofInt 64 ((2 ^ i*x:Nat):Int) ||| BitVec.ofInt 64 (b:Int):BitVec 64).toNat:Nat):Int)=_;simp only[BitVec.ofInt_natCast,BitVec.toNat_or,BitVec.toNat_ofNat];rw[EV (a:=2 ^ i*x) (by show _<18446744073709551616;omega),EV (a:=b) (by show _<18446744073709551616;omega),<-Nat.two_pow_add_eq_or_of_lt c,IR _ h]
theorem YC(k n t:Nat)(hk:k<256)(hn:n<65536)(d:t<65536):bits BinOp.or IntKind.u64 (bits BinOp.or IntKind.u64 ((k:Int)*4294967296) ((n:Int)*65536)) (t:Int)=((k*4294967296+n*65536+t:Nat):Int):=by
 have a:((k:Int)*4294967296)=((2 ^ 32*k:Nat):Int):=by omega
 have b:((n:Int)*65536)=((n*65536:Nat):Int):=by omega
 rw[a,b,PE k 32 (n*65536) (by show _<4294967296;omega) (by show 4294967296*k+_<_;omega)];have c:2 ^ 32*k+n*65536=2 ^ 16*(k*65536+n):=by show 4294967296*k+_=65536*_;omega
 rw[c,PE _ 16 t d (by show 65536*_+_<_;omega)]
 congr 1;show 65536*_+_=_;omega
theorem UB(w:World)(k n t:Nat)(b:k<256)(c:n<65536)(d:t<65536):
  Cl 244 #[.int .u8 k,.int .i64 n,.int .i64 t] w λe w'=>e=.returned (.int .u64 ((k*4294967296+n*65536+t:Nat):Int))/\w'=w:=by
 have a:=Db (YC k n t b c d);go_enter func244,ntmps244;go_wp2;go_ret;exact⟨Cu (λz=>Ending.returned (.int .u64 z)) (Da a),rfl⟩
def DI(p x:Nat):By:=⟨(DD p 2++DD x 8).toArray⟩
theorem ZL(s:By)(p x:Nat):s++⟨(DD p 2).toArray⟩++⟨(DD x 8).toArray⟩=s++DI p x:=by
 apply A8;simp[DI]
theorem Own.lt{b:Nat}{w:World}{v:Value}{s:By}(h:F9 b w v s){g:Nat}(a:Own v g):g<w.heap.size:=by
 rcases h.1.2 with⟨e,_⟩|⟨g',aa,L,e,c,_⟩
 ·rw[e]at a;simp[Own,Value.ownBlock]at a
 ·rw[e]at a;simp[Own,Value.ownBlock]at a;subst a;exact c.lt
theorem VN(x m:Nat):(⟨(DD x m).toArray⟩:By).size=m:=by show(List.toArray _).size=m;simp[Jd]
theorem R4(w:World)(b:Nat)(L:b<=w.heap.size)(a:OA)(l c:Nat)(s:By)(h:F9 b w (.slice a l c) s)(p x:Nat)(hp:p<65536)(V:x<18446744073709551616)(hs:s.size<=1000000):
  Cl 214 #[.agg #[.int .i64 p,.int .u64 x],.slice a l c] w λe w'=>∃d i f,e=.returned (.slice d i f)/\F9 b w' (.slice d i f) (s++DI p x)/\Fr (Own (.slice a l c)) w w'/\Dk w (.slice a l c) (.slice d i f):=by
 obtain⟨W,K,t,P,E,v⟩:=De w [.int .i64 p,.int .u64 x] 175;have z:¬Own (.slice a l c) w.heap.size:=λe=>by have:=Own.lt h e;omega
 have G:Hid (∀X,Bw W X->Cl 212 #[.slice a l c,.int .u64 (IntKind.u64.wrap (p:Int)),.int .i64 2] X λe w'=>∃d i f,e=.returned (.slice d i f)/\Hid (F9 b w' (.slice d i f) (s++⟨(DD p 2).toArray⟩)/\Fr (Own (.slice a l c)) W w'/\Dk W (.slice a l c) (.slice d i f))/\FX w' w.heap.size 175 [.int .i64 p,.int .u64 x]):=λX r=>by
  rw[IR p (by omega)];have U:Bw w X:=v.trans (r.mono (by omega));have T:=r.size;refine(UD X b (by omega) a l c s (h.below U) p (by omega) 2 (by omega) (by omega)).mono ?_;rintro e w'⟨d,i,f,rfl,u,o,q⟩;refine⟨d,i,f,rfl,⟨u,(Fr.of_below r).then o (λ_ _ e=>e),λg y=>(q g y).elim .inl (λh => .inr (by omega))⟩,?_⟩;exact(show FX X w.heap.size 175 _ from(r.block _ (by omega)).trans t).fr o z
 have H:Hid (∀X j n m,Hid (F9 b X (.slice j n m) (s++⟨(DD p 2).toArray⟩)/\Fr (Own (.slice a l c)) W X/\Dk W (.slice a l c) (.slice j n m))->FX X w.heap.size 175 [.int .i64 p,.int .u64 x]->Cl 212 #[.slice j n m,.int .u64 x,.int .i64 8] X λe w'=>∃d i f,e=.returned (.slice d i f)/\Hid (F9 b w' (.slice d i f) (s++DI p x)/\Fr (Own (.slice a l c)) w w'/\Dk w (.slice a l c) (.slice d i f))/\FX w' w.heap.size 175 [.int .i64 p,.int .u64 x]):=λX j n m O S=>by
  obtain⟨u,o,q⟩:=Da O;have T:=o.size;refine(UD X b (by omega) j n m _ u x V 8 (by omega) (by rw[Ai,VN];omega)).mono ?_;rintro e w'⟨d,i,f,rfl,Z,F,q3⟩;refine⟨d,i,f,rfl,⟨by rw[<-ZL];exact Z,((Fr.of_below v).then o (λ_ _ e=>e)).then F (λk hk e=>(q k e).elim id (λh=>by omega)),λg y=>?_⟩,?_⟩
  ·rcases q3 g y with B|B
   ·exact(q g B).elim .inl (λh => .inr (by omega))
   ·exact .inr (by omega)
  ·exact S.fr F (λe=>(q _ e).elim z (λh=>by omega))
 have ab:=t.cell 0;have ac:=t.cell 1;clear h z P t v L;have N:Bw W W:=Ak _ _;have M:Bw W W.drew:=N.drew;have aa:=Db E;clear E;go_enter func214,ntmps214;go_upto_region 1 with fail;clear K
 go_region_held3 (λW=>W.cell? ⟨w.heap.size,0,none⟩=some (.int .i64 p)/\W.cell? ⟨w.heap.size,1,none⟩=some (.int .u64 x)) (go_keep)
  (first|(have R:=C;clear R;go_at_call 212;refine(Da H _ j n m C A).mono ?_;rintro e w4⟨I,Y,J,rfl,Q,D⟩;have n0:=D.cell 0;have n1:=D.cell 1)|(go_at_call 212;refine(Da G _ M).mono ?_;rintro e w3⟨j,n,m,rfl,C,A⟩;have m0:=A.cell 0;have m1:=A.cell 1))
 all_goals
  go_wp2;go_ret;exact⟨I,Y,J,rfl,Da Q⟩
def JH(D:LY):F0:=D.flatMap Dc
theorem RT:∀{D:LY},(∀s∈D,s.size=64)->(JH D).length=D.length*64
 |[],_=>rfl
 |s::D,h=>by
  have a:=RT (D:=D) (λx b=>h x (AF _ b));have h2:=h s Ba;unfold JH at a ⊢;simp only[A1,Ab,Dg,Al];omega
theorem Rs:∀{D:LY},(∀s∈D,s.size=64)->∀(i j:Nat) (s:By),D[i]?=some s->j<64->(JH D)[i*64+j]?=(Dc s)[j]?
 |[],_,i,j,s,hi,_=>by simp at hi
 |x::D,h,0,j,s,hi,hj=>by
  simp at hi;subst hi;have a:=h x Ba;unfold JH;rw[A1,FQ,Av,AW (by rw[Dg];omega)]
 |x::D,h,i+1,j,s,hi,hj=>by
  have a:=h x Ba;have:=Rs (D:=D) (λy b=>h y (AF _ b)) i j s (by simpa using hi) hj;unfold JH at this ⊢;rw[A1,AS (by rw[Dg];omega),Dg,<-this]
  congr 1;omega
def Hd(w:World)(v:Value)(D:LY):Prop:=Sl w 188 64 v D.length (JH D)/\∀s∈D,s.size=64
theorem Hd.range{w:World}{a:OA}{l c:Nat}{D:LY}(h:Hd w (.slice a l c) D)(i:Nat)(s:By)(b:D[i]?=some s):∃g,a=some ⟨g,0,none⟩/\l=D.length/\w.rangeAt g (i*64) (Dc s):=by
 have ab:=(Ae.1 b).1;rcases h.1.2 with⟨e,h0⟩|⟨g,aa,L,e,k,h1,h2,h3,f⟩
 ·omega
 ·simp only[Bu]at e;obtain⟨rfl,rfl,rfl⟩:=e;refine⟨g,rfl,rfl,λj v d=>?_⟩;have hs:=h.2 s (Ar b);have m:j<64:=by have:=(Ae.1 d).1;rw[Dg]at this;omega
  have:=Rs h.2 i j s b m;rw[d,<-f,Ao]at this
  split at this
  ·rw[k.cell];exact this
  ·cases this
def DU(w:World)(db:Nat)(vf vn vw ve:Value)(D:LY):Prop:=FX w db 204 [vf,vn,vw,ve]/\Hd w vn D/\D.length=1536
theorem PC(w:World)(m:Nat)(G vw F:Value)(a:OA)(l c:Nat)(D:LY)(h:DU w m G (.slice a l c) vw F D)(i:Nat)(s:By)(d:D[i]?=some s):
  Cl 239 #[.pointer (some ⟨m,0,none⟩),.int .i64 i] w λe w'=>e=.returned (DA s)/\Bw w w':=by
 obtain⟨g,rfl,rfl,q⟩:=h.2.1.range i s d;have ac:i<D.length:=(Ae.1 d).1;have u:=h.2.1.2 s (Ar d);obtain⟨W,n,z,o,y,f⟩:=De w (Dc (Dn 64)) 188;have t:=o _ _ _ h.1;have ab:=t.cell 1;have r:W.rangeAt g (i*64) (Dc s):=λj v E=>by
  have:=q j v E;exact(f.cell (p:=⟨g,i*64+j,none⟩) (Am _ _ this)).trans this
 have x:(Dc s).length=64:=by rw[Dg,u]
 have B:=Db r;have k:=Db z;have aa:=Db y;have A:=Db f;have b:=Db x;have hD:=h.2.2;clear h q d u t o z y f r x;go_enter func239,ntmps239;go_upto_region 0 with fail;refine AX ?_;refine JN rfl 188 rfl Kx ?_;refine El ?_;rw[show w.alloc (.cells (Dc (Dn 64)).toArray 188)=W from n];clear n;go_wp2_with(first|(refine FA rfl 188 _ rfl g (i*64) rfl (Dc s) _ (Da B) Kf rfl (by rw[Jf,Da b]) ?_)|(refine BX rfl 188 _ _ rfl w.heap.size (Dc s).toArray rfl rfl 188 _ (Da k) (by rw[Jf];simp[Da b]) (by simp[Da b,Dg,Jr]) (KV _) ?_));have C:FX (W.setRow w.heap.size (Dc s).toArray) w.heap.size 188 (Dc s):=BW W _ _ _ 188 _ (Da k);refine Ap (v:=DA s) (Fs rfl _ _ w.heap.size 188 _ (0,0) _ rfl C Kf rfl ?_) rfl ⟨rfl,?_⟩
 ·rw[Jf];simp[Da b]
 ·exact(Da A).trans ⟨rfl,rfl,rfl,by simp,λj hj=>BD W _ j _ (by omega)⟩
def DP(nd:Nat->Int):Nat->Nat->Nat
 |0,h=>h
 |f+1,h=>if h%16=0/\0<nd (h/16%96) then DP nd f (h+16) else h
theorem OC{a:Nat->Int}{h:Nat}(b:¬(h%16=0/\0<a (h/16%96))):∀f,DP a f h=h
 |0=>rfl
 |f+1=>by unfold DP;rw[if_neg b]
theorem TU{a:Nat->Int}{h f:Nat}(b:h%16=0/\0<a (h/16%96)):DP a (f+1) h=DP a f (h+16):=by
 conv=>lhs;unfold DP
 rw[if_pos b]
def UL(w:World)(a:Addr):Nat:=match w.cell? a with|some (.int _ x)=>x.toNat|_=>0
theorem TO{w:World}{a:Addr}{k:IntKind}{x:Nat}(h:w.cell? a=some (.int k x)):UL w a=x:=by unfold UL;rw[h];rfl
theorem Fr.drewN{X:Nat->Prop}{w w1:World}(h:Fr X w w1)(n:Nat):Fr X w (w1.drewN n):=⟨h.os,h.tape,h.output,h.size,h.block⟩
def Tt(w:World)(pb:Nat)(L:F0)(nd:Nat->Int)(hd:Nat)(e:Ending)(w':World):Prop:=
 ∃p,p=DP nd 96 hd%1536/\FX w' pb 184 (L.set 99 (.int .i64 ((p+1:Nat):Int)))/\e=.returned (.int .i64 (p:Nat))/\w'.cell? ⟨pb,99,none⟩=some (.int .i64 ((p+1:Nat):Int))/\Fr (λk=>k=pb) w w'/\(∀j,j≠99->w'.cell? ⟨pb,j,none⟩=w.cell? ⟨pb,j,none⟩)
theorem ZlM(w:World)(pb:Nat)(L:F0)(z:FX w pb 184 L)(b:Nat->Int)(a:Nat)(hh:a<=1536)(N:∀j,j<96->w.cell? ⟨pb,2+j,none⟩=some (.int .i64 (b j)))(J:w.cell? ⟨pb,99,none⟩=some (.int .i64 a))(Z:w.frozen? ⟨pb,99,none⟩=false)(Q:∃k,k<96/\b ((a/16+k)%96)<=0):
  Cl 302 #[.pointer (some ⟨pb,0,none⟩)] w (Tt w pb L b a):=by
 have S:=Db z;have V:=Db N;have X:=Db Q;have H:L.set 99 (.int .i64 (a:Int))=L:=by
  have c:L[99]?=some (.int .i64 (a:Int)):=by rw[<-z.cell 99];exact J
  obtain⟨i,G⟩:=Ae.1 c;rw[<-G];exact List.set_getElem_self i
 have T:=Db H;clear N Q z H;go_enter func302,ntmps302;go_wp2_with fail
 go_loopw [4] (λ_ wr=>∃k h:Nat,k<=96/\h=a+16*k/\Hid (DP b (96-k) h=DP b 96 a/\∀j,j<k->0<b ((a/16+j)%96))/\wr.cell? ⟨pb,99,none⟩=some (.int .i64 h)/\wr.frozen? ⟨pb,99,none⟩=false/\Hid (Fr (λk=>k=pb) w wr/\(∀j,j≠99->wr.cell? ⟨pb,j,none⟩=w.cell? ⟨pb,j,none⟩)/\FX wr pb 184 (L.set 99 (.int .i64 (h:Int))))) (λ_ wr=>a+1600-UL wr ⟨pb,99,none⟩)
 case atStart=>exact⟨0,a,by omega,by omega,⟨rfl,λj g=>absurd g (by omega)⟩,J,Z,Fr.refl _ _,λ_ _=>rfl,by rw[Da T];exact Da S⟩
 case round=>
  obtain⟨k,h,hk,A,s,q,aa,d⟩:=hrel;have l:=TO q;have U:=Db l;clear l;have ag:h<=3072:=by omega
  have r:=Db A;clear A;have o:(h:Int).tmod 16=((h%16:Nat):Int):=by rw[Cc (by omega)];omega
  have F:(IntKind.i64.wrap ((h:Int)/16)).tmod 96=((h/16%96:Nat):Int):=by rw[AV,Cc (by omega)];omega
  obtain⟨x,D⟩:=ex (h/16%96);have P:x<96:=by omega
  rw[<-D]at F;have ab:(x:Int)<96:=by omega
  have ac:¬(96:Int)<=(x:Int):=by omega
  have K:wr.cell? ⟨pb,2+x,none⟩=some (.int .i64 (b x)):=((Da d).2.1 _ (by omega)).trans (Da V _ P);obtain⟨v,C⟩:=ex (b x);rw[<-C]at K;have y:=Db D;have u:=Db C;clear D C;have Y:(h:Int).tmod 1536=((h%1536:Nat):Int):=by rw[Cc (by omega)];omega
  obtain⟨p,B⟩:=ex (h%1536);have ai:p<1536:=by omega
  rw[<-B]at Y;have W:=Db B;clear B;have E:Hid (¬(h%16=0/\0<b (h/16%96))->∀nq,Tt w pb L b a (.returned (.int .i64 p)) ((wr.drewN nq).setCell ⟨pb,99,none⟩ (.int .i64 ((p:Int)+1)))):=λf nq=>by
   refine⟨p,?_,?_,rfl,Ck _ _ _ q,?_,λj g=>?_⟩
   ·rw[<-(Da s).1,OC f];exact Da W
   ·have:=FX.set (show FX (wr.drewN nq) pb 184 _ from(Da d).2.2) 99 (.int .i64 ((p:Int)+1));rw[List.set_set]at this;exact this
   ·exact Fr.set ((Da d).1.drewN nq) ⟨pb,99,none⟩ _ rfl
   ·exact(CR _ _ _ _ (by simp)).trans ((Da d).2.1 j g)
  by_cases e:h%16=0
  ·have ae:((h:Int).tmod 16==0)=true:=by rw[o,e];rfl
   have R:=Db e;clear e o;by_cases n:0<v
   ·have O:Hid (k<96/\DP b (96-(k+1)) (h+16)=DP b 96 a/\∀j,j<k+1->0<b ((a/16+j)%96)):=by
     have A:=Da r;have e:=Da R;have ad:(a/16+k)%96=x:=by rw[Da y];omega
     have I:∀j,j<k+1->0<b ((a/16+j)%96):=λj g=>by
      rcases Bh j k with c|c
      ·exact(Da s).2 j c
      ·obtain rfl:j=k:=by omega
       rw[ad,<-Da u];exact n
     obtain⟨kk,af,ah⟩:=Da X;have M:k<96:=by
      rcases Bh kk (k+1) with c|c
      ·have:=I kk c;omega
      ·omega
     refine⟨M,?_,I⟩;rw[<-(Da s).1,show 96-k=(96-(k+1))+1 by omega,TU ⟨e,by rw[<-Da y,<-Da u];exact n⟩]
    have M:=(Da O).1;go_upto_region 1 with fail
    go_quiet (fail)
    go_wp2
    go_roundw
    case rel=>
     refine⟨k+1,h+16,by omega,by rw[Da r];omega,(Da O).2,?_,?_,?_,λj g=>?_,?_⟩
     ·exact(Ck _ _ _ q).trans (by go_num)
     ·simpa using aa
     ·exact Fr.set ((Da d).1.drewN nq) ⟨pb,99,none⟩ _ rfl
     ·exact(CR _ _ _ _ (by simp)).trans ((Da d).2.1 j g)
     ·have:=FX.set (show FX (wr.drewN nq) pb 184 _ from(Da d).2.2) 99 (.int .i64 ((h:Int)+16));rw[List.set_set]at this;exact this
    case measure=>
     have c:UL ((wr.drewN nq).setCell ⟨pb,99,none⟩ (.int .i64 ((h:Int)+16))) ⟨pb,99,none⟩=h+16:=TO (k:=.i64) (x:=h+16) (Ck _ _ _ q);have i:=Da U;have G:=Da r;omega
   ·have f:¬(h%16=0/\0<b (h/16%96)):=λ⟨_,i⟩=>by rw[<-Da y,<-Da u]at i;exact n i
    have t:=Db f;have aj:decide (0<v)=false:=Cm n;clear f n;go_upto_region 1 with fail
    go_quiet (fail)
    go_wp2;go_ret;exact Da E (Da t) _
  ·have f:¬(h%16=0/\0<b (h/16%96)):=λ⟨c,_⟩=>e c
   have t:=Db f;obtain⟨m,l⟩:∃m:Nat,h%16=m+1:=⟨h%16-1,by omega⟩;have e4:(h:Int).tmod 16=(m:Int)+1:=by rw[o,l];omega
   have e5:decide ((m:Int)+1=0)=false:=Cm (by omega);have e6:((m:Int)+1==0)=false:=by rw[Bm];omega
   clear f e o F K ab ac P l;go_upto_region 1 with fail
   go_quiet (fail)
   go_wp2;go_ret;exact Da E (Da t) _
theorem ZgY(w:World)(pb h so:Nat)(b:Nat->Int)(a i:Nat)(hi:i<1536)(aa:a<1536)(c:∀j,j<96->w.cell? ⟨pb,2+j,none⟩=some (.int .i64 (b j)))(hc:w.cell? ⟨pb,1,none⟩=some (.pointer (some ⟨h,so,none⟩)))(ht:w.cell? ⟨h,so+1,none⟩=some (.int .i64 a)):
  Cl 301 #[.pointer (some ⟨pb,0,none⟩),.int .i64 i] w λe w'=>e=.returned (.bool (decide (i/16≠a/16/\b (i/16)<=8)))/\w'=w:=by
 obtain⟨x,f⟩:=ex (i/16);obtain⟨y,g⟩:=ex (a/16);have e1:(IntKind.i64.wrap ((i:Int)/16))=(x:Int):=by rw[AV];omega
 have e2:(IntKind.i64.wrap ((a:Int)/16))=(y:Int):=by rw[AV];omega
 have k:=c x (by omega);obtain⟨v,d⟩:=ex (b x);rw[<-f,<-g];rw[<-d]at k ⊢;have ab:(x:Int)<96:=by omega
 have ac:¬(96:Int)<=(x:Int):=by omega
 clear c f g d;by_cases l:x=y
 ·subst l;go_enter func301,ntmps301;go_wp2;go_ret;exact⟨rfl,rfl⟩
 ·have ad:((x:Int) != (y:Int))=true:=by simp;omega
  go_enter func301,ntmps301;go_wp2;go_ret;exact⟨rfl,rfl⟩
theorem Zkk{P:Program}{p:Array Oper}{o:Oper}{a:Act}{w:World}{K:Act->World->Prop}{Q:Exit->Act->World->Prop}{E:Prop}(k:o.guard=none)(d x:Operand)(c e:TypeId)(l:o.op=Op.call { callee:=Callee.builtin Builtin.append,args:=#[d,x],argTypes:=#[c,e] })(v u:Value)(j:a.eval d=v)(n:a.eval x=u){f:Value->World->Prop}(m:∃b w',(Builtin.append_ #[c,e] o.type #[v,u]).run P w=.ok b w'/\f b w')(i:∀b w',f b w'->K (a.put o.dst b) w'):
  if Region.wanted o (yielded p a.tmps)=true then Oper.wp P o a w K Q else E:=by
 obtain⟨b,w',g,h⟩:=m;exact JV k d x c e l v u j n g (i b w' h)
theorem O3(w:World)(v:Value)(es:List Int)(i:Sl w 3 1 v es.length (es.map (.int .i64)))(nb:Nat)(x:Int)(o:FX w nb 3 [.int .i64 x])(hl:es.length<=1000000000):
  ∃g w',(Builtin.append_ #[53,53] 53 #[v,.slice (some ⟨nb,0,none⟩) 1 1]).run prog w=.ok g w'/\∃a c b,g=.slice a c b/\Sl w' 3 1 (.slice a c b) (es.length+1) ((es++[x]).map (.int .i64))/\Fr (Own v) w w'/\Dk w v (.slice a c b):=by
 obtain⟨s,m,p,q,r⟩:=BT (P:=prog) (e:=3) (z:=.int .i64 0) (size:=1) (bytes:=8) (by kernel_rfl);obtain⟨g,w2,t,h,d,y⟩:=Qa (P:=prog) w 53 53 3 s _ 1 8 (by kernel_rfl) m p q r rfl (by decide) v es.length (es.map (.int .i64)) i ⟨nb,0,none⟩ 1 1 [.int .i64 x] rfl
  (λj u f=>by rw[AI,Av,o.cell];exact f) (λu f=>by rw[Ad.1 f];rfl) (by unfold maxLen;omega) (by omega)
 obtain⟨a,c,b,rfl⟩:=h.shape;exact⟨_,w2,t,a,c,b,rfl,by rw[Bq];exact h,⟨d.os,d.tape,d.output,d.size,λk n l=>d.block k n (λe=>l e.symm)⟩,y⟩
def Rq(w:World)(db:Nat)(vf vn vw ve:Value)(es:List Int)(m:Int)(e:Ending)(w':World):Prop:=
 e=.returned (.tuple #[])/\∃ve',FX w' db 204 [vf,vn,vw,ve']/\Sl w' 3 1 ve' (es.length+1) ((es++[m]).map (.int .i64))/\Fr (λk=>k=db\/Own ve k) w w'/\Dk w ve ve'
theorem RF(w:World)(b:Nat)(p q s:Value)(a:OA)(l c:Nat)(h:FX w b 204 [p,q,.slice a l c,s])(es:List Int)(u:Sl w 3 1 s es.length (es.map (.int .i64)))(v:¬Own s b)(G:es.length<=1000000000):
  Cl 200 #[.pointer (some ⟨b,0,none⟩)] w (Rq w b p q (.slice a l c) s es l):=by
 obtain⟨m,o,n,rfl⟩:=u.shape;have C:Hid (∀j,Bw w j->∀nb,FX j nb 3 [.int .i64 l]->∃x w',(Builtin.append_ #[53,53] 53 #[.slice m o n,.slice (some ⟨nb,0,none⟩) 1 1]).run prog j=.ok x w'/\∃d i f,x=.slice d i f/\FX w' b 204 [p,q,.slice a l c,.slice m o n]/\Hid (Rq w b p q (.slice a l c) (.slice m o n) es l (.returned (.tuple #[])) (w'.setCell ⟨b,3,none⟩ (.slice d i f)))):=λj r nb H=>by
  obtain⟨x,w',I,d,i,f,rfl,J,A,B⟩:=O3 j _ es (u.kept (λk F _=>r.block k F)) nb l H G;have z:FX w' b 204 [p,q,.slice a l c,.slice m o n]:=FX.fr (show FX j b 204 _ from(r.block _ h.lt).trans h) A v;have ad:=r.size;refine⟨_,w',I,d,i,f,rfl,z,rfl,.slice d i f,by simpa using z.set 3 (.slice d i f),?_,?_,λg E=>(B g E).imp id (λh=>by omega)⟩
  ·refine J.setCell _ _ (λe=>?_);rcases B _ e with t|t
   ·exact v t
   ·have:=h.lt;simp only at t;omega
  ·exact((Fr.of_below r).then A (λk _ e => .inr e)).set ⟨b,3,none⟩ _ (.inl rfl)
 have c2:w.cell? ⟨b,2,none⟩=some (.slice a l c):=(h.cell 2).trans rfl;have c3:w.cell? ⟨b,3,none⟩=some (.slice m o n):=(h.cell 3).trans rfl;have aa:=h.lt;have ab:¬b=w.heap.size:=by omega
 have ac:¬w.heap.size=b:=by omega
 clear h u v;go_enter func200,ntmps200;go_wp2_with fail
 go_region_law (refine Zkk rfl _ _ 53 53 rfl _ _ (by simp[Act.eval]) (by simp[Act.eval]) (Da C _ (by first|exact((Ak _ w).drew.alloc (by simp) _)|exact((Ak _ w).alloc (by simp) _)) _ (Je _ _ _)) ?_;rintro v2 w2⟨d,i,f,rfl,y,D⟩;have d3:=y.cell 3;have f3:=y.frozen 3)
 all_goals
  go_wp2
  go_end0
  exact Da D
section
open Go.RowKit Go.Shelf
attribute [local go_sem] Oper.semAt_some
theorem SP:(prog.info? 181).map (λi=>(i.zero,i.size))=some (some (.agg (List.replicate 96 (.int .i64 0)).toArray),96):=by kernel_rfl
theorem Tu:∀w,(zeroValue 181).run prog w=.ok (.agg (List.replicate 96 (.int .i64 0)).toArray) w:=(Et SP).1
theorem U8:(prog.info? 181).map (·.size)=some 96:=(Et SP).2
theorem Pw:prog.underlying 181=some (.array 96 3):=by kernel_rfl
theorem Zn:prog.built 181 [(0,.int .i64 2)]=some (Value.int .i64 2::List.replicate 95 (.int .i64 0)).toArray:=by kernel_rfl
def GI(f:Nat->Int):F0:=(List.range 96).map (λj => .int .i64 (f j))
theorem Jq(f:Nat->Int):(GI f).length=96:=by simp[GI]
theorem Ti(f:Nat->Int):∀u∈GI f,u.oneCell'=true:=λu a=>by
 obtain⟨j,_,e⟩:=As.1 a;rw[<-e];rfl
theorem Qz(f:Nat->Int)(j:Nat)(h:j<96):(GI f)[j]?=some (.int .i64 (f j)):=by
 simp[GI,h]
theorem ZlP{f g:Nat->Int}(h:∀j,j<96->f j=g j):GI f=GI g:=by
 unfold GI;exact Cq (λj a=>by rw[h j (by simpa using a)])
def Dh(es:LI)(j:Nat):Int:=(if j=0 then 2 else 0)+(es.countP (λx=>x.2.toNat/16==j):Nat)
theorem Ra(j:Nat):Dh [] j=if j=0 then 2 else 0:=by simp[Dh]
theorem Rm(es:LI)(y:Int×Int)(j:Nat):Dh (es++[y]) j=Dh es j+if y.2.toNat/16=j then 1 else 0:=by
 unfold Dh;rw[CS,CE];by_cases h:y.2.toNat/16=j
 ·simp[h];omega
 ·simp[h]
theorem Tj(es:LI)(j:Nat):Dh es j<=2+es.length:=by
 have:=B2 (p:=λx:Int×Int=>x.2.toNat/16==j) (l:=es);unfold Dh;split<;>omega
theorem Oo(es:LI)(j:Nat):0<=Dh es j:=by
 unfold Dh;split<;>omega
theorem Ym(es:LI)(y:Int×Int)(x:Nat)(c:y.2.toNat/16=x)(a:x<96):(GI (Dh es)).set x (.int .i64 (Dh es x+1))=GI (Dh (es++[y])):=by
 apply Ep;intro j;rw[Fl];by_cases e:x=j
 ·subst e;rw[if_pos rfl,if_pos (by rw[Jq];exact a),Qz _ _ a,Rm,if_pos c]
 ·rw[if_neg e];by_cases b:j<96
  ·rw[Qz _ _ b,Qz _ _ b,Rm,if_neg (λh=>e (c.symm.trans h)),Int.add_zero]
  ·rw[BA (by rw[Jq];omega),BA (by rw[Jq];omega)]
theorem ZnH:(Value.int .i64 2::List.replicate 95 (.int .i64 0))=GI (Dh []):=by
 have:GI (Dh [])=GI (λj=>if j=0 then 2 else 0):=ZlP (λj _=>Ra j);rw[this];rfl
def Up(es:LI):Prop:=es.length<=10000/\Gy es/\∀x∈es,∃p:Nat,x.2=p/\p<1536
theorem WM(w:World)(a so:Nat)(v:Value)(es:LI)(G:w.cell? ⟨a,so,none⟩=some v)(E:Sl w 350 2 v es.length (Dr es))(aF:Up es):
  Cl 198 #[.pointer (some ⟨a,so,none⟩)] w λe w'=>e=.returned (.agg (GI (Dh es)).toArray)/\Bw w w':=by
 obtain⟨hn,_,hp⟩:=aF;refine(A2 (n:=3)).1 ?_;refine Br func198 rfl trivial ?_ rfl;simp only[ntmps198,AM,Al,AK,Nat.reduceAdd,Nat.reduceSub,AQ,AP,AZ,AT,AD,AN]
 gi_step
 gi_step
 refine BE.2 (AX ?_);refine JN rfl 181 rfl Tu ?_;refine El ?_;obtain⟨W,Q,aj,aA,m,aa⟩:=De w (List.replicate 96 (.int .i64 0)) 181;rw[show w.alloc (.cells (List.replicate 96 (Value.int .i64 0)).toArray 181)=W from Q];clear Q;rename_i d;refine d _ _ ?_;clear d
 gi_step
 refine BE.2 (AX ?_);refine RW rfl 181 0 _ rfl (.int .i64 2) rfl (Zn.trans (Cu some (Cu List.toArray ZnH))) ?_;refine JN rfl 181 rfl Tu ?_;obtain⟨o,R,L,aB,ai,ab⟩:=De W (List.replicate 96 (.int .i64 0)) 181;rw[show W.alloc (.cells (List.replicate 96 (Value.int .i64 0)).toArray 181)=o from R];clear R;refine BX rfl 181 _ _ rfl W.heap.size (GI (Dh [])).toArray rfl rfl 181 _ L ?_ ?_ (C4 (Ti _)) ?_
 ·rw[U8];simp[Jq]
 ·simp[Jq]
 refine El ?_;have M:FX (o.setRow W.heap.size (GI (Dh [])).toArray) W.heap.size 181 (GI (Dh [])):=BW o _ _ _ 181 _ L;have u:Bw W (o.setRow W.heap.size (GI (Dh [])).toArray):=ab.trans ⟨rfl,rfl,rfl,by simp,λj hj=>BD o _ j _ (by omega)⟩;have ag:(o.setRow W.heap.size (GI (Dh [])).toArray).heap.size=W.heap.size+1:=by simp[World.setRow,ai]
 obtain⟨q,S⟩:∃X,X=o.setRow W.heap.size (GI (Dh [])).toArray:=⟨_,rfl⟩;rw[<-S]at M u ag ⊢;have F:Bw w q:=aa.trans (u.mono (by omega));have ak:FX q w.heap.size 181 (List.replicate 96 (.int .i64 0)):=(u.block _ (by omega)).trans aj;have ah:a<w.heap.size:=Am _ _ G;have ay:q.cell? ⟨a,so,none⟩=some v:=(F.cell (p:=⟨a,so,none⟩) ah).trans G;have au:Sl q 350 2 v es.length (Dr es):=E.kept (λk H _=>F.block k H);rename_i d;refine d _ _ ?_;clear d L aB S aA aj;have N:=Db M;have O:=Db ak;have B:=Db m;clear M ak m
 gi_wp2_with (refine⟨trivial,?_⟩;gi_at_call 235;refine(Zb _ _ trivial rfl _ _).mono ?_;rintro e w'⟨rfl,rfl⟩)
 rename_i K0 aq;obtain⟨f,T,al,I,aJ,aw⟩:=De q [.pointer (some ⟨a,so,none⟩)] 294;rw[show q.alloc (.cells #[Value.pointer (some ⟨a,so,none⟩)] 294)=f from T];clear T;have m:=Da B;have hA:FX f W.heap.size 181 (GI (Dh [])):=I _ _ _ (Da N);have hR:FX f w.heap.size 181 (List.replicate 96 (.int .i64 0)):=I _ _ _ (Da O);have C:Bw w f:=F.trans (aw.mono (by omega));have ar:Sl f 350 2 v es.length (Dr es):=E.kept (λk H _=>C.block k H);have ax:f.cell? ⟨a,so,none⟩=some v:=(C.cell (p:=⟨a,so,none⟩) ah).trans G;have ap:f.cell? ⟨W.heap.size+1,0,none⟩=some (.pointer (some ⟨a,so,none⟩)):=by rw[<-ag];exact(al.cell 0).trans rfl
 have V:es.attach.map (λx=>x.1)=es:=C7 es;clear N O al I ay au u aa ab ai;refine CO (α:={ x // x∈es }) rfl (by omega) (gf:=270) (lb:=#[.pointer (some ⟨W.heap.size+1,0,none⟩)]) rfl trivial (EB func270 (by kernel_rfl) rfl)
  (ZkU Fence.wide 2 trivial rfl (by omega) (W.heap.size+1) w.heap.size a so v (λx=>x.1) es.attach (by simpa using hn) f (by omega) (by omega) (by omega) ap ax (by rw[V];simpa using ar) (λg hg=>E.lt hg))
  belowK_t (Fc (by omega)) (Ak _ _) (λ_=>rfl)
  (λb X=>FX X W.heap.size 181 (GI (Dh (b.map (·.1))))/\FX X w.heap.size 181 (List.replicate 96 (.int .i64 0))/\Bw w X)
  (λ_ _ _=>False)
  (EK (Own.from (Uy _ _ (λb:List { x // x∈es }=>GI (Dh (b.map (·.1))))) _) (EK (Own.from (Uy _ _ (λ_:List { x // x∈es }=>List.replicate 96 (.int .i64 0))) _) (Fx (Aa _) (by omega))))
  (λ_ _ _ _ _ hs _ _=>hs)
  ⟨hA,hR,C⟩
  (λx=>{ tmps:=#[.pointer (some ⟨a,so,none⟩),undef,.pointer (some ⟨w.heap.size,0,none⟩),.pointer (some ⟨W.heap.size,0,none⟩),undef,.int .i64 x.1.2,.agg (GI (Dh [])).toArray,.pointer (some ⟨a,so,none⟩),.pointer (some ⟨a,so,none⟩),.pointer (some ⟨a,so,none⟩),.func (.func 270) #[] #[.pointer (some ⟨W.heap.size+1,0,none⟩)],.int .u64 x.1.1,.int .i64 x.1.2,undef,undef,undef,undef,undef,undef,undef],defers:=[] })
  ?assign ?body ?done ?stop
 case assign=>
  intro l x X K d;clear m
  gi_wp2
  exact d
 case body=>
  rintro l b x X⟨i,r,s⟩ ae;obtain⟨p,am,aH⟩:=hp x.1 x.2;obtain⟨y,hy⟩:=ex (p/16);have an:y<96:=by omega
  have af:x.1.2.toNat/16=y:=by rw[am,Bp,hy]
  have e1:(IntKind.i64.wrap ((p:Int)/16))=(y:Int):=by rw[AV];omega
  have J:=Ym (b.map (·.1)) x.1 y af an;have ac:=Tj (b.map (·.1)) y;have aE:=Oo (b.map (·.1)) y;rw[AL]at ac;have aI:b.length<es.length:=by simpa using ae
  have aC:Dh (b.map (·.1)) y<=10002:=by omega
  have az:=(i.cell y).trans (Qz (Dh (b.map (·.1))) y an);have aG:=i.frozen y;obtain⟨z,hz⟩:=ex (Dh (b.map (·.1)) y);rw[<-hz]at az aC aE J;have HI:=Db i;have ao:=Db J;have aK:(y:Int)<96:=by omega
  have aL:¬(96:Int)<=(y:Int):=by omega
  clear i J ac hy af hz ae m;rw[am]
  gi_wp2
  have m:=Da B;have A:FX (X.setCell ⟨W.heap.size,y,none⟩ (.int .i64 (z+1))) W.heap.size 181 (GI (Dh ((b++[x]).map (·.1)))):=by
   have:=(Da HI).set y (.int .i64 (z+1));rw[Da ao]at this;rw[Bq];exact this
  have ad:w.heap.size<=W.heap.size:=by omega
  have aD:w.heap.size≠W.heap.size:=by omega
  exact⟨CA _ _ _,(Ak w.heap.size X).setCell (p:=⟨W.heap.size,y,none⟩) ad _,A,(Aw _ _ _ _ aD).trans r,s.setCell (p:=⟨W.heap.size,y,none⟩) ad _⟩
 case done=>
  rintro D ys X hD rfl⟨i,r,s⟩ d;show K0 _ _;refine aq _ _ ?_
  gi_step
  refine BE.2 (AX ?_);rw[V]at i;refine wpList_load_row rfl 181 _ rfl W.heap.size rfl 181 _ (0,0) _ i Pw rfl ?_ ?_
  ·rw[U8];simp[Jq]
  refine BX rfl 181 _ _ rfl w.heap.size (GI (Dh es)).toArray rfl rfl 181 _ r ?_ ?_ (C4 (Ti _)) ?_
  ·rw[U8];simp[Jq]
  ·simp[Jq]
  refine El ?_;have A:FX (X.setRow w.heap.size (GI (Dh es)).toArray) w.heap.size 181 (GI (Dh es)):=BW X _ _ _ 181 _ r;have Z:Bw w (X.setRow w.heap.size (GI (Dh es)).toArray):=s.trans ⟨rfl,rfl,rfl,by simp,λj hj=>BD X _ j _ (by omega)⟩;have t:(X.setRow w.heap.size (GI (Dh es)).toArray).heap[D]?=some (.deferred (some [])):=(BD X _ D _ (by omega)).trans d;obtain⟨P,U⟩:∃Y,Y=X.setRow w.heap.size (GI (Dh es)).toArray:=⟨_,rfl⟩;rw[<-U]at A Z t ⊢;clear U i r s d m
  gi_wp2
  have m:=Da B;refine⟨by simp,.inl ⟨_,_,rfl,BP t,?_⟩⟩;have av:=Fc (w:=w) (Aa _) P D _ (.deferred none) (by omega) t rfl rfl;refine⟨_,Fs rfl _ _ w.heap.size 181 _ (0,0) _ rfl ?_ Pw rfl ?_,rfl,Z.trans av⟩
  ·exact((Fc (w:=W) (Aa _) P D _ (.deferred none) (by omega) t rfl rfl).block w.heap.size (by omega)).trans A
  ·rw[U8];simp[Jq]
 case stop=>
  rintro D c b X _ _ h _;exact h.elim
theorem ZnP(w:World)(L:F0)(k:Nat)(z:Int)(b:k<96)(a:L[k]?=some (.int .i64 z)):(Instr.index 181 (.agg L.toArray) (.int .i64 k)).run prog w=.ok (.int .i64 z) w:=by
 have h1:(k:Int)<96:=by omega
 simp[Instr.index,run_underlying Pw,go_sem];rw[if_pos b,a]
 rfl
def DY(f:Nat->Int):Nat->Nat
 |0=>0
 |k+1=>DY f k+if f k=0 then 16 else 0
theorem NT(f:Nat->Int):∀k,DY f k<=16*k
 |0=>by simp[DY]
 |k+1=>by have:=NT f k;unfold DY;split<;>omega
theorem Xl(w:World)(h so:Nat)(v:Value)(es:LI)(p:w.cell? ⟨h,so,none⟩=some v)(o:Sl w 350 2 v es.length (Dr es))(d:Up es):
  Cl 132 #[.pointer (some ⟨h,so,none⟩)] w λe w'=>e=.returned (.int .i64 (DY (Dh es) 96:Nat))/\Bw w w':=by
 have a:=WM w h so v es p o d;have B:∀j,Dh es j<=10002/\0<=Dh es j:=λj=>⟨by have:=Tj es j;have:=d.1;omega,Oo es j⟩
 obtain⟨f,r⟩:=ex (Dh es);rw[<-r]at a B ⊢;clear r p o d;have l:Hid (∀j,j<96->(GI f)[j]?=some (.int .i64 (f j))):=λj C=>Qz f j C
 have m:Hid ((GI f).length=96):=Jq f;obtain⟨L,n⟩:=ex (GI f);rw[<-n]at a l m;clear n;have u:=Db a;clear a;go_enter func132,ntmps132;go_wp2_with(go_at_call 198;refine(Da u).mono ?_;rintro e w1⟨rfl,A⟩)
 go_loop [3,8] (λx i=>∃(k y:Nat),k<=96/\i=.int .i64 k/\x=.int .i64 y/\Hid (y=DY f k)) (λ_ i=>96-(intOf i).toNat)
 case atStart=>exact⟨0,0,Au _,rfl,rfl,rfl⟩
 case round=>
  obtain⟨k,y,hk,rfl,rfl,b⟩:=hrel;have ad:y<=1536:=by have:=NT f k;rw[<-Da b]at this;omega
  by_cases s:k<96
  ·have q:=Da l k s;have ac:=Da m;have ab:(k:Int)<96:=by omega
   obtain⟨z,g⟩:=ex (f k);rw[<-g]at q;have aa:=ZnP w1 L k z s q;have t:Hid (DY f (k+1)=DY f k+if z=0 then 16 else 0):=by show _=_;rw[g];rfl
   clear g;by_cases c:z=0
   ·subst c;go_wp2
    go_round
    case rel=>exact⟨k+1,y+16,by omega,by go_num,by go_num,by show _=_;rw[Da t,<-Da b];simp⟩
    case measure=>simp[intOf];omega
   ·have ae:(z==0)=false:=by rw[Bm];exact c
    go_wp2
    go_round
    case rel=>exact⟨k+1,y,by omega,by go_num,by go_num,by show _=_;rw[Da t,<-Da b];simp[c]⟩
    case measure=>simp[intOf];omega
  ·obtain rfl:k=96:=by omega
   go_wp2;go_ret;exact⟨by rw[<-Da b]<;>rfl,A⟩
end
end Go.Proofs.YtaieidcohdhgpaaGreatDoor
