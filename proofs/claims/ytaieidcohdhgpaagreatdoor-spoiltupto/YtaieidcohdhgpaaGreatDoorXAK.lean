/- Spoilt. -/
import Derived.Test.YtaieidcohdhgpaaGreatDoorXAJ
import Derived.Deep.WholeRow
namespace Go.Proofs.YtaieidcohdhgpaaGreatDoor
set_option maxHeartbeats 40000000
set_option maxRecDepth 100000
open Go.RowKit
theorem YS(L xs a:F6)(i n:Nat)(hL:(n+1)*2<=L.length)(d:L.take (n*2)=xs)(hi:i<n)(b:a.length=2):
  (F8 (F8 L ((i+1)*2) (xs.drop (i*2))) (i*2) a).take ((n+1)*2)=xs.take (i*2)++a++xs.drop (i*2):=by
 have c:xs.length=n*2:=by rw[<-d,Am];omega
 have g:(xs.drop (i*2)).length=(n-i)*2:=by rw[Az,c];omega
 have e:(F8 L ((i+1)*2) (xs.drop (i*2))).take (i*2)=xs.take (i*2):=by
  unfold F8;rw[Ar,A4 (by rw[Am];omega),B9,BB (by omega),<-d,B9,BB (by omega)]
 have f:(F8 L ((i+1)*2) (xs.drop (i*2))).drop (i*2+a.length)=xs.drop (i*2)++L.drop ((i+1)*2+(xs.drop (i*2)).length):=by
  unfold F8;rw[Ar,b,show i*2+2=(L.take ((i+1)*2)).length by rw[Am];omega,Fi]
 rw[F8,e,f,<-Ar];exact BP (by simp only[Ad,Am,g,b,c];omega)
theorem ZB(Z xs a:F6)(i n:Nat)(f:xs.length=n*2)(hi:i<n)(_hZ:(n+1)*2<=(xs.take (i*2)++Z).length)(c:a.length=2):
  (F8 (F8 (xs.take (i*2)++Z) (i*2) a) ((i+1)*2) (xs.drop (i*2))).take ((n+1)*2)=xs.take (i*2)++a++xs.drop (i*2):=by
 have e:(xs.drop (i*2)).length=(n-i)*2:=by rw[Az,f];omega
 have b:(xs.take (i*2)).length=i*2:=by rw[Am];omega
 have d:(F8 (xs.take (i*2)++Z) (i*2) a).take ((i+1)*2)=xs.take (i*2)++a:=by
  unfold F8;rw[BP b];exact BP (by simp only[Ad,b,c];omega)
 rw[F8,d];exact BP (by simp only[Ad,b,e,c];omega)
theorem Ya{w w2:World}{b ho:Nat}{v c:Value}{e:TypeId}{n:Nat}{xs:F6}(f:w.cell? ⟨b,ho,none⟩=some v)(i:v.ownBlock≠some b)(m:Sl w2 e 2 c n xs)(r:Dm w v c)
  (s:w2.os=w.os) (x:w2.tape=w.tape) (t:w2.output=w.output) (u:w.heap.size<=w2.heap.size) (d:∀k,k<w.heap.size->v.ownBlock≠some k->w2.heap[k]?=w.heap[k]?):
  (w2.setCell ⟨b,ho,none⟩ c).cell? ⟨b,ho,none⟩=some c/\Sl (w2.setCell ⟨b,ho,none⟩ c) e 2 c n xs/\IK w (w2.setCell ⟨b,ho,none⟩ c) b ho v c:=by
 have q:b<w.heap.size:=Aj _ _ f;have g:w2.heap[b]?=w.heap[b]? := d b q i;have o:w2.cell? ⟨b,ho,none⟩=some v:=(AC (w:=w) (a:=⟨b,ho,none⟩) g).trans f;refine⟨Ck _ _ _ o,m.setCell _ _ (fun e=>?_),s,x,t,by simpa [World.setCell] using u,fun k p j l=>?_,?_⟩
 ·rcases r b e with h|h
  ·exact i h
  ·omega
 ·rw[AB _ _ _ _ j];exact d k p l
 ·simp only[World.setCell,Fm,if_true];rw[g]
theorem M4(w:World)(v:Value)(es:LI)(i:Nat)(x:Int×Int)(d:Nat)(A:Sl w 350 2 v es.length (Ds es))(hi:i<=es.length)(t:es.length<=10000)
  (y:F0 w d 350 (Hj x)) (H:v.ownBlock≠some d):
  Cl 274 #[v,.int .i64 i,.slice (some ⟨d,0,none⟩) 1 1] w fun e w'=>∃l,e = .returned l/\Sl w' 350 2 l (es.length+1) (Ds (es.take i++x::es.drop i))/\w.grownBy w' v.ownBlock/\Dm w v l:=by
 have o:∀u∈Hj x,u.oneCell'=true:=fun u J=>Rz [x] u (by simpa [Ds] using J)
 have f:Ds (es.take i++x::es.drop i)=(Ds es).take (i*2)++Hj x++(Ds es).drop (i*2):=by
  rw[Zje,Zjf,Zhv,Ar];rfl
 have j:=Xo es;rcases AO i es.length with n|aa
 ·rcases A.2 with⟨rfl,h0⟩|⟨g,m,L,rfl,z,E,B,c,s⟩
  ·omega
  ·have I:d≠g:=fun e=>H (by simp[Value.ownBlock,e])
   have C:((Ds es).take (i*2)++Hj x++(Ds es).drop (i*2)).length=(es.length+1)*2:=by
    simp only[Ad,Am,Az,j];simp[Hj];omega
   rcases AO m (es.length+1) with F|D
   ·refine(ZY w g es.length m (Ds es) L i d (Hj x) z c s n E F t y rfl (Rz es) o).mono ?_;rintro e w' ⟨G,Z,rfl,p,q,a,r,b⟩;refine⟨_,rfl,⟨by rw[f];exact C,.inr ⟨_,G,_,rfl,r,p,q,?_,?_⟩⟩,⟨b.os,b.tape,b.output,b.size,fun k h _=>b.block k h (by simp;omega)⟩,fun k h => .inr (by simp[Value.ownBlock]at h;omega)⟩
    ·rw[D3,D3,a]
     ·rw[a];simp[Hj];omega
     ·rw[D3 (by rw[a];simp[Hj];omega),a,Az,j];omega
    ·rw[f];exact ZB Z (Ds es) (Hj x) i es.length j n (by rw[a];omega) rfl
   ·refine(XQ w g es.length m (Ds es) L i d (Hj x) z c s n D B t y rfl (Rz es) o I).mono ?_;rintro e w' ⟨rfl,r,b⟩;refine⟨_,rfl,⟨by rw[f];exact C,.inr ⟨_,m,_,rfl,r,D,B,?_,?_⟩⟩,b,fun k h => .inl h⟩
    ·rw[D3,D3,c]
     ·rw[Az,j,c];omega
     ·rw[D3 (by rw[Az,j,c];omega),c];simp[Hj];omega
    ·rw[f];exact YS L (Ds es) (Hj x) i es.length (by rw[c];omega) s n rfl
 ·obtain rfl:i=es.length:=by omega
  refine(XP w v es.length (Ds es) d (Hj x) A t y rfl o).mono ?_;rintro e w' ⟨l,rfl,p,q,a⟩;refine⟨l,rfl,?_,q,a⟩;rw[f,Ah (by omega),Cr (by omega),CG];exact p
theorem O1(w:World)(a ho:Nat)(v:Value)(es:LI)(c:Int)(hc:w.cell? ⟨a,ho,none⟩=some v)(f:Sl w 350 2 v es.length (Ds es))(g:es.length<=10000)(h:Gz es):
  Cl 273 #[.pointer (some ⟨a,ho,none⟩),.int .u64 c] w fun e w'=>∃(i:Nat) (b:Bool),e = .returned (.tuple #[.int .i64 i,.bool b])/\Ln es c i b/\Bw w w':=by
 have k:=MO v es c w f g h;clear f g h;go_enter Tryz.func273,Tryz.ntmps273;go_wp2_with fail;refine k.mono ?_;rintro e w' ⟨i,b,rfl,d,a⟩;have j:=Db d;clear d;go_wp2
 go_ret2
 exact⟨i,b,rfl,Da j,a⟩
def Mz(es:LI)(key:Int)(r:Int)(b:Bool):Prop:=(b=true/\(key,r)∈es)\/(b=false/\r=0/\∀x∈es,x.1≠key)
theorem Ln.here{es:LI}{a:Int}{i:Nat}(h:Ln es a i true):∃r,es[i]?=some (a,r):=by
 obtain⟨x,b,c⟩:=h.2.2.2.1 rfl;exact⟨x.2,by rw[b,<-c]⟩
theorem Ln.not{es:LI}{j:Int}{i:Nat}(l:Gz es)(h:Ln es j i false):∀x∈es,x.1≠j:=by
 intro x m e;obtain⟨k,a⟩:=BF m;rcases AO k i with g|g
 ·have:=h.2.1 k x g a;rw[e,Kq]at this;cases this
 ·rcases AO i k with b|b
  ·have f:i<es.length:=by have:=(Ae.1 a).1;omega
   have c:=l i k _ x b (Ac f) a;have d:=h.2.2.1 i _ (Aa _) (Ac f);rw[e]at c;rw[c]at d;cases d
  ·obtain rfl:k=i:=by omega
   have:=h.2.2.2.2 ⟨x,a,e⟩
   cases this
theorem OL(w:World)(a ho:Nat)(v:Value)(es:LI)(n:Int)(k:w.cell? ⟨a,ho,none⟩=some v)(h:Sl w 350 2 v es.length (Ds es))(C:es.length<=10000)(x:Gz es):
  Cl 300 #[.pointer (some ⟨a,ho,none⟩),.int .u64 n] w fun e w'=>∃(r:Int) (b:Bool),e = .returned (.tuple #[.int .i64 r,.bool b])/\Mz es n r b/\Bw w w':=by
 have B:a<w.heap.size:=Aj _ _ k;have t:=O1 w a ho v es n k h C x;go_enter Tryz.func300,Tryz.ntmps300;go_wp2_with fail;refine t.mono ?_;rintro e w1 ⟨i,b,rfl,d,f⟩;clear t
 cases b with
 | false=>
  have z:=Db (Ln.not x d);clear d h;go_wp2
  go_ret2
  exact⟨0,false,rfl,.inr ⟨rfl,rfl,Da z⟩,f⟩
 | true=>
  obtain⟨r,c⟩:=d.here;rcases h.2 with⟨rfl,h0⟩|⟨g,aa,L,rfl,m,ab,ac,A,o⟩
  ·have:=(Ae.1 c).1;omega
  ·have s:∀j u,(Ds es)[j]?=some u->w1.cell? ⟨g,j,none⟩=some u:=fun j u l=>by
    rw[f.cell (p:=⟨g,j,none⟩) m.lt,m.cell];rw[<-o,Ao]at l
    split at l
    ·exact l
    ·cases l
   have q:=UD es i _ c;have q0:=(f.cell (p:=⟨a,ho,none⟩) B).trans k;have q1:=s _ _ q.2;have hi:i<es.length:=(Ae.1 c).1;have y:=Db (An c);clear q s m A o h d c k;go_wp2
   go_ret2
   exact⟨r,true,rfl,.inl ⟨rfl,Da y⟩,f⟩
theorem Zl0{es:LI}{d:Int}{i:Nat}(e:Int)(g:Gz es)(h:Ln es d i false):
  Gz (es.take i++(d,e)::es.drop i)/\(es.take i++(d,e)::es.drop i).length=es.length+1/\∀x,x∈es.take i++(d,e)::es.drop i↔x=(d,e)\/x∈es:=by
 have hi:=h.1;have u:=Ln.not g h;have q:∀k x,i<=k->es[k]?=some x->GU d x.1=true:=fun k x s b=>by
  have a:=h.2.2.1 k x s b;have f:=u x (An b);exact Vv a f
 have t:(es.take i).length=i:=by rw[Am];omega
 have p:∀k,(es.take i++(d,e)::es.drop i)[k]?=if k<i then es[k]? else if k=i then some (d,e) else es[k-1]? := fun k=>by
  by_cases a:k<i
  ·rw[if_pos a,AP (by omega),Ao,if_pos a]
  ·rw[if_neg a,AH (by omega),t];by_cases f:k=i
   ·rw[if_pos f];simp[f]
   ·rw[if_neg f,show k-i=(k-i-1)+1 by omega,CZ,Bc]
    congr 1;omega
 refine⟨fun j k x y r b c=>?_,?_,fun x=>?_⟩
 ·rw[p]at b c;by_cases n:j<i
  ·rw[if_pos n]at b;by_cases l:k<i
   ·rw[if_pos l]at c;exact g j k x y r b c
   ·rw[if_neg l]at c;by_cases m:k=i
    ·rw[if_pos m]at c;cases c;exact h.2.1 j x n b
    ·rw[if_neg m]at c;exact g j (k-1) x y (by omega) b c
  ·rw[if_neg n]at b;have l:¬k<i:=by omega
   have m:¬k=i:=by omega
   rw[if_neg l,if_neg m]at c;by_cases o:j=i
   ·rw[if_pos o]at b;cases b;exact q (k-1) y (by omega) c
   ·rw[if_neg o]at b;exact g (j-1) (k-1) x y (by omega) b c
 ·simp;omega
 ·have:es=es.take i++es.drop i:=(B8 i es).symm;constructor
  ·intro b;simp only[Ap,AE]at b;rcases b with a|a|a
   ·exact .inr (BE a)
   ·exact .inl a
   ·exact .inr (BX a)
  ·intro b;simp only[Ap,AE];rcases b with a|a
   ·exact .inr (.inl a)
   ·rw[this,Ap]at a;rcases a with a|a
    ·exact .inl a
    ·exact .inr (.inr a)
theorem Zlo{es:LI}{c:Int}{i:Nat}(d:Int)(m:Gz es)(h:Ln es c i true):
  Gz (es.set i (c,d))/\(es.set i (c,d)).length=es.length/\∀x,x∈es.set i (c,d)↔x=(c,d)\/x∈es/\x.1≠c:=by
 obtain⟨r,g⟩:=h.here;have t:i<es.length:=(Ae.1 g).1;have l:∀k,(es.set i (c,d))[k]?=if k=i then some (c,d) else es[k]? := fun k=>by
  rw[Fe];by_cases e:i=k
  ·subst e;simp[t]
  ·rw[if_neg e,if_neg (fun h=>e h.symm)]
 have o:∀(k:Nat) (x:Int×Int),(es.set i (c,d))[k]?=some x->∃y:Int×Int,es[k]?=some y/\y.1=x.1:=fun k x b=>by
  rw[l]at b;by_cases e:k=i
  ·rw[if_pos e]at b;cases b;exact⟨(c,r),by rw[e];exact g,rfl⟩
  ·rw[if_neg e]at b;exact⟨x,b,rfl⟩
 refine⟨fun j k x y u b w=>?_,by simp,fun x=>?_⟩
 ·obtain⟨z,f,p⟩:=o j x b;obtain⟨A,q,s⟩:=o k y w;rw[<-p,<-s];exact m j k z A u f q
 ·constructor
  ·intro b;obtain⟨k,a⟩:=BF b;rw[l]at a;by_cases e:k=i
   ·rw[if_pos e]at a;cases a;exact .inl rfl
   ·rw[if_neg e]at a;refine .inr ⟨An a,fun n=>?_⟩;rcases Nat.lt_or_gt_of_ne e with f|f
    ·have:=m k i x _ f a g;rw[n,Kq]at this;cases this
    ·have:=m i k _ x f g a;rw[n,Kq]at this;cases this
  ·rintro(rfl|⟨b,v⟩)
   ·exact An (i:=i) (by rw[l,if_pos rfl])
   ·obtain⟨k,a⟩:=BF b;refine An (i:=k) ?_;rw[l,if_neg (fun e=>?_)]
    ·exact a
    ·subst e;rw[g]at a;cases a;exact v rfl
theorem PD(w:World)(c ho:Nat)(v:Value)(es:LI)(f:Int)(r:Int)(n:w.cell? ⟨c,ho,none⟩=some v)(hf:w.frozen? ⟨c,ho,none⟩=false)(C:v.ownBlock≠some c)(u:Sl w 350 2 v es.length (Ds es))(O:es.length<=10000)(D:Gz es)(Q:∀x∈es,x.1≠f):
  Cl 243 #[.pointer (some ⟨c,ho,none⟩),.int .u64 f,.int .i64 r] w fun e w'=>e = .returned (.tuple #[])/\∃d es',w'.cell? ⟨c,ho,none⟩=some d/\Sl w' 350 2 d es'.length (Ds es')/\
   Gz es'/\es'.length=es.length+1/\(∀x,x∈es'↔x=(f,r)\/x∈es)/\Dm w v d/\IK w w' c ho v d:=by
 have A:c<w.heap.size:=Aj _ _ n;have L:=O1 w c ho v es f n u O D;go_enter Tryz.func243,Tryz.ntmps243;go_wp2_with fail;refine L.mono ?_;rintro e w1 ⟨i,b,rfl,s,j⟩;have aa:b=false:=by
  cases b with
  | false=>rfl
  | true=>obtain⟨r',ae⟩:=s.here;exact absurd rfl (Q _ (An ae))
 subst aa;have q0:w1.cell? ⟨c,ho,none⟩=some v:=(j.cell (p:=⟨c,ho,none⟩) A).trans n;have ah:w.heap.size<=w1.heap.size:=j.size;have y:Sl w1 350 2 v es.length (Ds es):=u.kept (fun k B _=>j.block k B);have M:∀W:World,W.heap=(w1.alloc (.cells #[.int .u64 f,.int .i64 r] 350)).heap->W.os=w1.os->W.tape=w1.tape->W.output=w1.output->Cl 274 #[v,.int .i64 i,.slice (some ⟨w1.heap.size,0,none⟩) 1 1] W fun e w'=>∃l q m d,e = .returned (.slice l q m)/\d = .slice l q m/\
   (w'.cell? ⟨c,ho,none⟩=some v/\w'.frozen? ⟨c,ho,none⟩=false)/\Hid ((w'.setCell ⟨c,ho,none⟩ d).cell? ⟨c,ho,none⟩=some d/\Sl (w'.setCell ⟨c,ho,none⟩ d) 350 2 d (es.length+1) (Ds (es.take i++(f,r)::es.drop i))/\IK w (w'.setCell ⟨c,ho,none⟩ d) c ho v d/\Dm w v d):=fun W t T U V=>by
  have Y:Sl W 350 2 v es.length (Ds es):=(Sl.of_owns (y.owns.alloc _)).heap t;have X:F0 W w1.heap.size 350 (Hj (f,r)):=by unfold F0;rw[t];exact CN w1 _
  refine(M4 W v es i (f,r) w1.heap.size Y s.1 O X (fun e=>by have:=y.lt e;omega)).mono ?_;rintro e w' ⟨d,rfl,K,o,ad⟩;have Z:w.heap.size<=W.heap.size:=by rw[t];simp;omega
  have z:∀k,k<w.heap.size->v.ownBlock≠some k->w'.heap[k]?=w.heap[k]? := fun k B ac=>by
   rw[o.block k (by omega) (fun e=>ac e.symm),t,BO _ _ _ (by omega),j.block k B]
  have P:Dm w v d:=fun g ab=>(ad g ab).imp id (fun h=>by omega)
  obtain⟨F,G,H⟩:=Ya (ho:=ho) n C K P (o.os.trans (T.trans j.os)) (o.tape.trans (U.trans j.tape)) (o.output.trans (V.trans j.output)) (Ag Z o.size) z;obtain⟨l,q,m,J⟩:=K.shape;exact⟨l,q,m,d,by rw[J],J,⟨(AC (w:=w) (a:=⟨c,ho,none⟩) (z c A C)).trans n,(Ee (w:=w) (a:=⟨c,ho,none⟩) (z c A C)).trans hf⟩,F,G,H,P⟩
 have E:=Db (Zl0 r D s);have N:(es.take i++(f,r)::es.drop i).length=es.length+1:=(Da E).2.1;have I:=Db N;have S:=Db M;clear N s u y D Q L j M;go_wp2_with (go_at_call 274;refine(Da S _ (by exact rfl) (by exact rfl) (by exact rfl) (by exact rfl)).mono ?_;rintro e w2 ⟨l,q,m,d,rfl,rfl,⟨af,ag⟩,R⟩)
 all_goals (
  go_end0
  obtain⟨F,G,H,m4⟩:=Da R;exact⟨rfl,_,_,F,by rw[Da I];exact G,(Da E).1,Da I,(Da E).2.2,m4,H⟩)
section
open Go.RowKit Go.Shelf
attribute [local go_sem] Oper.semAt_some
theorem Nk(F:Fence)(n:Nat)(L:F.fn 270)(P:F.round=none)(hn:1<=n)(l s f z ho g C:Nat){α : Type}(a : α -> Int×Int)(es:List α)(ab:es.length<=10000)(A:g<f)(J w:List α -> World->Prop)
  (W:World) (E:AbidesFrom W.heap.size J)
  (K:∀pre x W,J pre W->pre.length<es.length->YieldAt F (n-1) Tryz.prog l #[.int .u64 (a x).1,.int .i64 (a x).2] W fun e b=>
   (e = .returned (.bool true)/\J (pre++[x]) b/\Below f W b)\/(e = .returned (.bool false)/\w (pre++[x]) b))
  (aa:W.cell? ⟨s,0,none⟩=some (.pointer (some ⟨z,ho,none⟩))) (hc:W.cell? ⟨z,ho,none⟩=some (.slice (some ⟨g,0,none⟩) es.length C))
  (m:∀j u,(Ds (es.map a))[j]?=some u->W.cell? ⟨g,j,none⟩=some u) (O:f<=W.heap.size) (D:J [] W):
  CallsIn F n Tryz.prog 270 #[.func (.yield l) #[] #[],.pointer (some ⟨s,0,none⟩)] W fun e b=>(∃v,e = .returned v)/\
   ((∃ys,ys=es/\J ys b)\/(∃pre,pre <+: es/\w pre b)):=by
 refine CD Tryz.func270 rfl L ?_ P;simp only[Tryz.ntmps270,AR,Aq,AS,Nat.reduceAdd,Nat.reduceSub,AV,AU,A3,AY,AA,AI]
 gi_wp2
 gi_loopw [10] (fun i wr=>∃k:Nat,k<=es.length/\i = .int .i64 k/\J (es.take k) wr/\Below f W wr)
  (fun i _=>es.length-(intOf i).toNat)
 case atStart=>exact⟨0,Aw _,rfl,D,Al _ _⟩
 case round=>
  obtain⟨k,hk,rfl,h,c⟩:=hrel;by_cases N:k<es.length
  ·obtain⟨x,d⟩:∃x,es[k]?=some x:=⟨_,Ac N⟩;have t:Hid (es.take (k+1)=es.take k++[x]):=by show _=_;rw[BZ,d];rfl
   have q:=UD (es.map a) k (a x) (by rw[Bv,d];rfl);have q0:=(c.cell (p:=⟨g,k*2,none⟩) A).trans (m _ _ q.1);have q1:=(c.cell (p:=⟨g,k*2+1,none⟩) A).trans (m _ _ q.2);have B:(es.take k).length<es.length:=by rw[Am];omega
   have y:∀o,J (es.take k) (wr.alloc o):=fun o=>E _ _ _ none h (Oj wr o) (fun r e=>by cases e)
   obtain⟨fn,tmps,assign,body,hy,I⟩:=K _ x (wr.alloc (.cells #[.int .u64 (a x).1,.int .i64 (a x).2] 350)) (y _) B;have HX:=Db d;clear q d B y m
   gi_wp2
   refine I.mono ?_;rintro e W3 (⟨rfl,G,M⟩|⟨rfl,H⟩)
   ·gi_wp2
    go_roundw
    case rel=>exact⟨k+1,by omega,by go_num,by rw[Da t];exact G,(c.alloc (Ag O c.size) _).trans M⟩
    case measure=>simp[intOf];omega
   ·gi_wp2
    refine Ax (Ei rfl _ _ _) rfl ?_;exact⟨⟨_,rfl⟩,.inr ⟨_,by rw[<-Da t];exact Fs _ _,H⟩⟩
  ·obtain rfl:k=es.length:=by omega
   gi_wp2
   go_end0
   exact⟨⟨_,rfl⟩,.inl ⟨_,rfl,by rw[CT]at h;exact h⟩⟩
theorem ZmR(F:Fence)(n:Nat)(g:F.fn 270)(h:F.round=none)(l a b ho:Nat){α : Type}(J:List α -> World->Prop)(W:World)
  (aa:W.cell? ⟨a,0,none⟩=some (.pointer (some ⟨b,ho,none⟩))) (hc:W.cell? ⟨b,ho,none⟩=some (.slice none 0 0)) (d:J [] W):
  CallsIn F n Tryz.prog 270 #[.func (.yield l) #[] #[],.pointer (some ⟨a,0,none⟩)] W fun e c=>(∃v,e = .returned v)/\J [] c:=by
 refine CD Tryz.func270 rfl g ?_ h;simp only[Tryz.ntmps270,AR,Aq,AS,Nat.reduceAdd,Nat.reduceSub,AV,AU,A3,AY,AA,AI]
 gi_wp2
 gi_loopw [10] (fun i wr=>i = .int .i64 0/\J [] wr) (fun _ _=>0)
 case atStart=>exact⟨rfl,d⟩
 case round=>
  obtain⟨rfl,f⟩:=hrel
  gi_wp2
  go_end0
  exact⟨⟨_,rfl⟩,f⟩
theorem Yu(F:Fence)(n:Nat)(b:F.fn 235)(c:F.round=none)(a:OA)(w:World):
  CallsIn F n Tryz.prog 235 #[.pointer a] w fun e w'=>e = .returned (.func (.func 270) #[] #[.pointer (some ⟨w.heap.size,0,none⟩)])/\w'=w.alloc (.cells #[.pointer a] 294):=by
 refine CD Tryz.func235 rfl b ?_ c;simp only[Tryz.ntmps235,AR,Aq,AS,Nat.reduceAdd,Nat.reduceSub,AV,AU,A3,AY,AA,AI]
 gi_wp2
 go_ret;exact⟨rfl,rfl⟩
theorem ZkN(F:Fence)(n:Nat)(r:F.fn 270)(s:F.round=none)(L:1<=n)(a f b ho:Nat)(v:Value){α : Type}(h : α -> Int×Int)(es:List α)(I:es.length<=10000)(w:World)(A:a<w.heap.size)(G:b<w.heap.size)(M:f<=w.heap.size)
  (z:w.cell? ⟨a,0,none⟩=some (.pointer (some ⟨b,ho,none⟩))) (H:w.cell? ⟨b,ho,none⟩=some v) (C:Sl w 350 2 v es.length (Ds (es.map h))) (N:∀g,v.ownBlock=some g->g<f):
  SeqStopsK F n Tryz.prog 270 #[.pointer (some ⟨a,0,none⟩)] (fun x : α => #[.int .u64 (h x).1,.int .i64 (h x).2]) (Below f) (fun P=>P=es) (fun O=>O <+: es) es.length w:=fun l J t W c B _ E k=>by
 have m:=(c.cell (p:=⟨a,0,none⟩) A).trans z;have q:=(c.cell (p:=⟨b,ho,none⟩) G).trans H;rcases C.2 with⟨rfl,i⟩|⟨g,y,R,rfl,o,_,_,_,D⟩
 ·obtain rfl:es=[]:=Ay i;exact(ZmR F n r s l a b ho J W m q k).mono fun e W' ⟨i,K⟩=>⟨i,.inl ⟨_,rfl,K⟩⟩
 ·exact Nk F n r s L l a f b ho g y h es I (N g rfl) J t W B E m q (fun j u d=>by
   rw[c.cell (p:=⟨g,j,none⟩) o.lt,o.cell];rw[<-D,Ao]at d
   split at d
   ·exact d
   ·cases d) (Ag M c.size) k
end
theorem U3(s:By)(k:Nat)(h:k<s.size):(Dc s)[k]?=some (.int .u8 (s.data[k].toNat:Int)):=by
 unfold Dc;rw[Bv,Ac (by simpa using h)];simp
def IP(y:Int)(b:UInt8):Int:=IntKind.u64.wrap (bits BinOp.xor IntKind.u64 y (IntKind.u64.wrap b.toNat)*1099511628211)
def Jz(l:List UInt8):Int:=l.foldl IP 14695981039346656037
theorem QM(l:List UInt8)(b:UInt8):Jz (l++[b])=IP (Jz l) b:=by unfold Jz;rw[List.foldl_append];rfl
theorem VG(s:By)(k:Nat)(h:k<s.size):s.data.toList.take (k+1)=s.data.toList.take k++[s.data[k]]:=by
 rw[CH (by simpa using h)];simp
theorem NQ(w:World)(a:OA)(l c:Nat)(s:By)(h:Gy w a l c s)(hs:s.size<=2000000):
  Cl 215 #[.slice a l c] w fun e w'=>e = .returned (.int .u64 (Jz s.data.toList))/\w'=w:=by
 obtain⟨q,_,f⟩:=h;subst q;have m:=Db f;clear f;obtain⟨r,b⟩:=ex (Jz s.data.toList);rw[<-b];have n:=Db b;clear b;go_enter Tryz.func215,Tryz.ntmps215;go_wp2
 go_loop [3,8] (fun x i=>∃(k:Nat) (y:Int),k<=s.size/\i = .int .i64 k/\x = .int .u64 y/\Hid (y=Jz (s.data.toList.take k))) (fun _ i=>s.size-(intOf i).toNat)
 case atStart=>exact⟨0,_,Aw _,rfl,rfl,rfl⟩
 case round=>
  obtain⟨k,y,hk,rfl,rfl,j⟩:=hrel;by_cases d:k<s.size
  ·obtain⟨g,rfl,q0⟩:=Da m k _ (U3 s k d);go_wp2
   go_round
   case rel=>exact⟨k+1,_,by omega,by go_num,rfl,by show _=_;rw[VG s k d,QM,<-Da j];rfl⟩
   case measure=>simp[intOf];omega
  ·obtain rfl:k=s.size:=by omega
   go_wp2;go_ret;have o:s.data.toList.take s.size=s.data.toList:=Ah (Ej AG);have p:y=r:=by rw[Da n,Da j,o]
   exact⟨by rw[p]<;>rfl,rfl⟩
def Gp(b:Nat)(w:World)(v:Value)(s:By):Prop:=Sl w 5 1 v s.size (Dc s)/\∀g,v.ownBlock=some g->b<=g
theorem Gp.nil(b:Nat)(w:World):Gp b w (.slice none 0 0) ⟨#[]⟩:=⟨⟨rfl,.inl ⟨rfl,rfl⟩⟩,fun g h=>by simp[Value.ownBlock]at h⟩
theorem Gp.below{b:Nat}{w w':World}{v:Value}{s:By}(h:Gp b w v s)(a:Bw w w'):Gp b w' v s:=⟨h.1.kept (fun k c _=>a.block k c),h.2⟩
theorem Gp.rdB{b:Nat}{w:World}{a:OA}{l c:Nat}{s:By}(h:Gp b w (.slice a l c) s):Gy w a l c s:=by
 have f:l=s.size:=by
  rcases h.1.2 with⟨e,d⟩|⟨g,aa,L,e,_⟩
  ·cases e;exact d.symm
  ·cases e;rfl
 subst f;exact h.1.rdB
def F2(v:Value)(k:Nat):Prop:=v.ownBlock=some k
theorem Fr.then{X Y:Nat->Prop}{w w1 w2:World}(h:Fr X w w1)(a:Fr Y w1 w2)(d:∀k,k<w.heap.size->Y k->X k):Fr X w w2:=
 ⟨a.os.trans h.os,a.tape.trans h.tape,a.output.trans h.output,Ag h.size a.size,fun k b c=>(a.block k (Be b h.size) (fun e=>c (d k b e))).trans (h.block k b c)⟩
theorem Gp.frBelow{b:Nat}{w w':World}{v:Value}{s:By}(h:Gp b w v s)(hb:b<=w.heap.size)(a:Fr (F2 v) w w'):Below b w w':=
 ⟨a.os,a.tape,a.output,a.size,fun k hk=>a.block k (by omega) (fun e=>by have:=h.2 k e;omega)⟩
theorem J2(w:World)(b:Nat)(hb:b<=w.heap.size)(v:Value)(s:By)(h:Gp b w v s)(a:Addr)(m c:Nat)(t:By)(z:t.size=m)(A:∀j u,(Dc t)[j]?=some u->w.cell? (a.add j)=some u)(hl:s.size+m<=4000000):
  ∃d i f w',(Builtin.append_ #[59,59] 59 #[v,.slice (some a) m c]).run Tryz.prog w = .ok (.slice d i f) w'/\Gp b w' (.slice d i f) (s++t)/\Fr (F2 v) w w'/\Dm w v (.slice d i f):=by
 obtain⟨E,x,B,C,D⟩:=BU KB;obtain⟨v',w2,F,o,l,p⟩:=KQ (P:=Tryz.prog) w 59 59 5 E _ 1 1 Tryz.underlying59 x B C D rfl (by decide) v s.size (Dc s) h.1 a m c (Dc t) (by rw[Dh];omega)
  A (Ko t) (by unfold maxLen;omega) (by omega)
 obtain⟨d,i,f,rfl⟩:=o.shape;refine⟨d,i,f,w2,F,⟨?_,fun g r=>?_⟩,⟨l.os,l.tape,l.output,l.size,fun k y q=>l.block k y (fun e=>q e.symm)⟩,p⟩
 ·rw[JE,show(s++t).size=s.size+m by rw[Ai,z]];exact o
 ·rcases p g r with n|n
  ·exact h.2 g n
  ·omega
def DC:Nat->Nat->List UInt8
 | _,0=>[]
 | x,m+1=>UInt8.ofNat x::DC (x/256) m
theorem D4:∀(m x:Nat),(DC x m).length=m
 | 0,_=>rfl
 | m+1,x=>by simp[DC,D4 m]
theorem KC(s:By):s++⟨#[]⟩=s:=by
 apply A7;simp
theorem Pv(s:By)(l:List UInt8)(b:UInt8):s++⟨l.toArray⟩++⟨#[b]⟩=s++⟨(l++[b]).toArray⟩:=by
 apply A7;simp
theorem VR{x y m k:Nat}(b:k<m)(h:DC y (m-k)=(DC x m).drop k):(DC x m).take (k+1)=(DC x m).take k++[UInt8.ofNat y]/\DC (y/256) (m-(k+1))=(DC x m).drop (k+1):=by
 have e:m-k=(m-(k+1))+1:=by omega
 rw[e]at h;have a:k<(DC x m).length:=by rw[D4];exact b
 rw[CO a]at h;simp only[DC,FK]at h;exact⟨by rw[CH a,h.1],h.2⟩
theorem J7(y:Nat):IntKind.u8.wrap (y:Int)=((UInt8.ofNat y).toNat:Int):=by
 simp[IntKind.wrap,IntKind.bits,IntKind.signed]
theorem UL(w:World)(b:Nat)(hb:b<=w.heap.size)(a:OA)(l c:Nat)(s:By)(h:Gp b w (.slice a l c) s)(x:Nat)(U:x<18446744073709551616)(m:Nat)(hm:m<=8)(hs:s.size<=2000000):
  Cl 212 #[.slice a l c,.int .u64 x,.int .i64 m] w fun e w'=>∃d o f,e = .returned (.slice d o f)/\Gp b w' (.slice d o f) (s++⟨(DC x m).toArray⟩)/\Fr (F2 (.slice a l c)) w w'/\Dm w (.slice a l c) (.slice d o f):=by
 have H:=Db h;clear h;go_enter Tryz.func212,Tryz.ntmps212;go_wp2
 go_loopw [0,1,8] (fun v y i wr=>∃(k y':Nat) (d:OA) (o f:Nat),k<=m/\i = .int .i64 k/\y = .int .u64 y'/\v = .slice d o f/\y'<18446744073709551616/\Hid (Gp b wr v (s++⟨((DC x m).take k).toArray⟩))/\Hid (DC y' (m-k)=(DC x m).drop k)/\Hid (Fr (F2 (.slice a l c)) w wr/\Dm w (.slice a l c) v)) (fun _ _ i _=>m-(intOf i).toNat)
 case atStart=>exact⟨0,x,a,l,c,Aw _,rfl,rfl,rfl,U,by show Gp _ _ _ _;rw[Ct,KC];exact Da H,rfl,Fr.refl _ _,fun g r => .inl r⟩
 case round=>
  obtain⟨k,y,d,o,f,P,rfl,rfl,rfl,hy,t,L,p⟩:=hrel;by_cases R:k<m
  ·have G:IntKind.u8.wrap (y:Int)=((UInt8.ofNat y).toNat:Int):=J7 y;have aa:=(Da p).1.size;obtain⟨W,E,I,Q,S,q⟩:=De wr [.int .u8 (IntKind.u8.wrap (y:Int))] 5;obtain⟨z,J,A,w2,F,D,B,C⟩:=J2 W b (by omega) _ _ ((Da t).below q) ⟨wr.heap.size,0,none⟩ 1 1 ⟨#[UInt8.ofNat y]⟩ rfl (fun j u T=>by rw[AL,Av,I.cell,G];exact T) (by rw[Ai];show s.size+(List.toArray _).size+1<=_;simp;omega);have M:=Db D;have K:Hid (Fr (F2 (.slice a l c)) w w2/\Dm w (.slice a l c) (.slice z J A)):=by
    refine⟨((Da p).1.then (Fr.of_below (X:=F2 (.slice a l c)) q) (fun k _ h=>h)).then B (fun k P e=>((Da p).2 k e).elim id (fun h=>by omega)),fun g r=>?_⟩;rcases C g r with n|n
    ·exact(Da p).2 g n
    ·exact .inr (by omega)
   have N:=Db E;clear D B C I Q S q E G;rw[<-Da N]at F;go_wp2_with (at_builtin;refine AZ _ rfl _ _ 59 59 rfl _ _ rfl rfl _ _ F ?_)
   go_roundw
   case rel=>
    obtain⟨n,O⟩:=VR R (Da L);exact⟨k+1,y/256,z,J,A,by omega,by go_num,by go_num,rfl,by omega,by show Gp _ _ _ _;rw[n,<-Pv];exact Da M,O,K⟩
   case measure=>simp[intOf];omega
  ·obtain rfl:k=m:=by omega
   go_wp2;go_ret;have n:=Da t;rw[Ah (by rw[D4];exact Aa _)]at n;exact⟨d,o,f,rfl,n,Da p⟩
abbrev EX:=@zero_of_info
def Di(n:Nat):By:=⟨(List.replicate n 0).toArray⟩
def DB(s:By):Value := .agg (Dc s).toArray
theorem Ju{P:Program}{b:Array Oper}{c:List Oper}{o:Oper}{a:Act}{w:World}{Q:Exit->Act->World->Prop}(f:o.guard=none)(t:TypeId)(ho:o.op = .alloc t){d:Array Value}(g:∀w,(zeroValue t).run P w = .ok (.agg d) w)
  (h:wpList P b Q c (a.put o.dst (.pointer (some ⟨w.heap.size,0,none⟩))) (w.alloc (.cells d t))):wpList P b Q (o::c) a w:=by
 refine EE f fun K e=>?_
 unfold Oper.wp execOp;simp only[ho,Instr.alloc,Cj,g,Ch];simp[newVar,newRow,go_sem,Value.cells];exact e _ _ h
theorem Tn:(Tryz.prog.info? 188).map (fun i=>(i.zero,i.size))=some (some (DB (Di 64)),64):=by kernel_rfl
theorem JU:∀w,(zeroValue 188).run Tryz.prog w = .ok (DB (Di 64)) w:=(EX Tn).1
theorem D7:(Tryz.prog.info? 188).map (·.size)=some 64:=(EX Tn).2
theorem Kg:Tryz.prog.underlying 188=some (.array 64 5):=by kernel_rfl
theorem WH{P:Program}{b:Array Oper}{c:List Oper}{o:Oper}{a:Act}{w:World}{Q:Exit->Act->World->Prop}(e:o.guard=none)(x:Operand)(ho:o.op = .move x)
  (h:wpList P b Q c (a.put o.dst (a.eval x)) w):wpList P b Q (o::c) a w:=by
 refine EE e fun K d=>?_
 unfold Oper.wp execOp;simp only[ho];exact d _ _ h
theorem RS{P:Program}{d:Array Oper}{f:List Oper}{o:Oper}{a:Act}{w:World}{Q:Exit->Act->World->Prop}(g:o.guard=none)(t:TypeId)(i:Nat)(x:Operand)(ho:o.op = .build t #[(i,x)])(u:Value)(j:a.eval x=u){b:Array Value}(c:P.built t [(i,u)]=some b)
  (h:wpList P d Q f (a.put o.dst (.agg b)) w):wpList P d Q (o::f) a w:=by
 have e:((#[(i,x)]:Array (Nat×Operand)).map fun (i,x)=>(i,a.eval x)).toList=[(i,u)]:=by simp[j]
 refine wpList_build g t _ ho ?_ ?_
 ·rw[e,c];rfl
 ·rw[e,c];exact h
theorem Z6(x:Int):Tryz.prog.built 188 [(0,.int .u8 x)]=some (Value.int .u8 x::List.replicate 63 (.int .u8 0)).toArray:=by kernel_rfl
theorem Oi(k:UInt8)(s:By):Dc (⟨#[k]⟩++s) = .int .u8 (k.toNat:Int)::Dc s:=by rw[JE];rfl
theorem J8(s:By):(Dc s).toArray.all (·.oneCell')=true:=C6 (Ko s)
theorem Jd(n:Nat):(Di n).size=n:=by show(List.toArray _).size=n;simp
theorem QS(n:Nat):Dc (Di n)=List.replicate n (.int .u8 0):=Kw n
theorem Zir(w:World)(x:Addr)(n c:Nat):(Builtin.copy_ #[59,59] 3 #[.slice (some x) n c,.slice none 0 0]).run Tryz.prog w = .ok (goInt 0) w:=by
 obtain⟨i0,a,aa,ab,ac⟩:=BU KB;simp[Builtin.copy_,run_underlying Tryz.underlying59,Builtin.lenOf,sizeOf,typeInfo,a,Builtin.firstCells,storeCells]
theorem NJ(w:World)(g:Nat)(t:TypeId)(L:F6)(f:F0 w g t L)(o n d:Nat)(a:OA)(l c:Nat)(s:By)(h:Gy w a l c s)(u:s.size<=n)(hn:o+n<=L.length):
  ∃w',(Builtin.copy_ #[59,59] 3 #[.slice (some ⟨g,o,none⟩) n d,.slice a l c]).run Tryz.prog w = .ok (goInt s.size) w'/\F0 w' g t (F8 L o (Dc s))/\w.grownBy w' (some g):=by
 cases a with
 | none=>
  have b:s.size=0:=by
   rcases BC s.size with e|e
   ·exact e
   ·obtain⟨x,A,_⟩:=h.2.2 0 ((Dc s)[0]'(by rw[Dh];exact e)) (Ac _)
    cases A
  have r:l=0:=by rw[h.1,b]
  have q:=h.2.1 rfl;subst r q;have p:Dc s=[]:=Ay (by rw[Dh,b]);refine⟨w,by rw[b];exact Zir w _ _ _,by rw[p];simpa [F8] using f,⟨rfl,rfl,rfl,Aa _,fun _ _ _=>rfl⟩⟩
 | some x=>
  have i:Nat.min l n=s.size:=by rw[h.1];exact BB u
  obtain⟨m,k,C,D⟩:=JP (P:=Tryz.prog) w 59 59 3 5 1 g o n d x l c L t (Dc s) Tryz.underlying59 Q2 f (by rw[i,Dh,BW])
   (fun j v z=>by obtain⟨y,e,B⟩:=h.2.2 j v z;cases e;exact B) (by rw[Dh];omega) (Ko s)
  exact⟨m,by rw[i]at k;exact k,C,D⟩
theorem YU(k:UInt8)(s:By)(hs:s.size<=63):F8 (Dc (⟨#[k]⟩++Di 63)) 1 (Dc s)=Dc (⟨#[k]⟩++Dg s 63):=by
 rw[Oi,Oi,QS];unfold F8 Dg;rw[Dh];have b:(Value.int .u8 (k.toNat:Int)::List.replicate 63 (Value.int .u8 0)).drop (1+s.size)=List.replicate (63-s.size) (.int .u8 0):=by
  rw[E3,CK,CL]
 rw[b];by_cases a:63<=s.size
 ·have c:(Dc s).take (63-0)=Dc s:=Ah (by rw[Dh];omega);rw[if_pos a,show 63-s.size=0 by omega,Jt,BY,c];simp
 ·rw[if_neg a,JE,Kw];simp
theorem NF(k:UInt8)(s:By):(Dc (⟨#[k]⟩++Dg s 63)).toArray.size=64:=by
 rw[Oi];simp[Dh,Jc]
theorem Xe(w:World)(a:OA)(l c:Nat)(s:By)(h:Gy w a l c s)(D:s.size<=63)(k:UInt8):
  Cl 213 #[.int .u8 (k.toNat:Int),.slice a l c] w fun e w'=>e = .returned (DB (⟨#[k]⟩++Dg s 63))/\Bw w w':=by
 have G:=Db h;clear h;go_enter Tryz.func213,Tryz.ntmps213;go_upto_region 0 with fail;refine A1 ?_;refine Ju rfl 188 rfl JU ?_;refine EL ?_;obtain⟨W,x,o,K,E,A⟩:=De w (Dc (Di 64)) 188;rw[x];clear x;go_upto_region 1 with fail;refine A1 ?_;refine WH rfl _ rfl ?_;refine RS rfl 188 0 _ rfl (.int .u8 (k.toNat:Int)) rfl ((Z6 _).trans (Ca some (show _=(Dc (⟨#[k]⟩++Di 63)).toArray by rw[Oi,QS]))) ?_;refine Ju rfl 188 rfl JU ?_;obtain⟨b,y,p,C,M,B⟩:=De W (Dc (Di 64)) 188;rw[y];clear y;refine Bs rfl 188 _ _ rfl W.heap.size (Dc (⟨#[k]⟩++Di 63)).toArray rfl rfl 188 _ p ?_ ?_ (J8 _) ?_
 ·rw[D7];rfl
 ·rfl
 refine EL ?_;have q:F0 (b.setRow W.heap.size (Dc (⟨#[k]⟩++Di 63)).toArray) W.heap.size 188 (Dc (⟨#[k]⟩++Di 63)):=BQ b _ _ _ 188 _ p;have f:Bw W (b.setRow W.heap.size (Dc (⟨#[k]⟩++Di 63)).toArray):=B.trans ⟨rfl,rfl,rfl,by simp,fun j J=>Bn b _ j _ (by omega)⟩;have N:=C _ _ _ o;obtain⟨m,z⟩:∃X,X=b.setRow W.heap.size (Dc (⟨#[k]⟩++Di 63)).toArray:=⟨_,rfl⟩;rw[<-z]at q f ⊢;have g:Bw w m:=A.trans (f.mono (by omega));have r:F0 m w.heap.size 188 (Dc (Di 64)):=(f.block _ (by omega)).trans o;obtain⟨d,L,t,n⟩:=NJ m W.heap.size 188 _ q 1 63 63 a l c s ((Da G).below g) D (by rw[Dh];exact Aa 64);have F:F0 d w.heap.size 188 (Dc (Di 64)):=(n.block _ r.lt (fun e=>by simp at e;omega)).trans r;have i:=YU k s D;rw[i]at t;have H:=Db t;have u:=Db F;have I:Bw w d:=g.grown n g.size (fun k e=>by cases e;omega);have aa:=Db E;clear t F r q p N o K C z A B f g n i E M;go_upto_region 3 with(at_builtin;refine D9 _ rfl _ _ 59 59 rfl _ _ rfl rfl L ?_);refine A1 ?_;refine wpList_load_row rfl 188 _ rfl W.heap.size rfl 188 _ (0,0) _ (Da H) Kg rfl ?_ ?_
 ·rw[D7,NF]
 refine Bs rfl 188 _ _ rfl w.heap.size (Dc (⟨#[k]⟩++Dg s 63)).toArray rfl rfl 188 _ (Da u) ?_ ?_ (J8 _) ?_
 ·rw[D7,NF]
 ·rw[NF];rfl
 refine EL ?_;go_wp2;have i:F0 (d.setRow w.heap.size (Dc (⟨#[k]⟩++Dg s 63)).toArray) w.heap.size 188 (Dc (⟨#[k]⟩++Dg s 63)):=BQ d _ _ _ 188 _ (Da u);refine Ax (v:=DB ((⟨#[k]⟩:By)++Dg s 63)) (Fo rfl _ _ w.heap.size 188 _ (0,0) _ rfl i Kg rfl ?_) rfl ⟨rfl,?_⟩
 ·rw[D7,NF]
 ·exact I.trans ⟨rfl,rfl,rfl,by simp,fun j J=>Bn d _ j _ (by omega)⟩
theorem Po(x:Nat)(h:x<18446744073709551616):IntKind.u64.wrap (x:Int)=x:=by
 simp[IntKind.wrap,IntKind.bits,IntKind.signed];omega
theorem Pw(x i b:Nat)(c:b<2 ^ i)(h:2 ^ i*x+b<18446744073709551616):bits BinOp.or IntKind.u64 ((2 ^ i*x:Nat):Int) (b:Int)=((2 ^ i*x+b:Nat):Int):=by
 show IntKind.u64.wrap (((BitVec.ofInt 64 ((2 ^ i*x:Nat):Int) ||| BitVec.ofInt 64 (b:Int):BitVec 64).toNat:Nat):Int)=_;simp only[Fx,BitVec.toNat_or,FV];rw[Eg (a:=2 ^ i*x) (by show _<18446744073709551616;omega),Eg (a:=b) (by show _<18446744073709551616;omega),<-Nat.two_pow_add_eq_or_of_lt c,Po _ h]
theorem Zc(k n t:Nat)(hk:k<256)(hn:n<65536)(d:t<65536):bits BinOp.or IntKind.u64 (bits BinOp.or IntKind.u64 ((k:Int)*4294967296) ((n:Int)*65536)) (t:Int)=((k*4294967296+n*65536+t:Nat):Int):=by
 have a:((k:Int)*4294967296)=((2 ^ 32*k:Nat):Int):=by omega
 have b:((n:Int)*65536)=((n*65536:Nat):Int):=by omega
 rw[a,b,Pw k 32 (n*65536) (by show _<4294967296;omega) (by show 4294967296*k+_<_;omega)];have c:2 ^ 32*k+n*65536=2 ^ 16*(k*65536+n):=by show 4294967296*k+_=65536*_;omega
 rw[c,Pw _ 16 t d (by show 65536*_+_<_;omega)]
 congr 1;show 65536*_+_=_;omega
theorem UH(w:World)(k n t:Nat)(b:k<256)(c:n<65536)(d:t<65536):
  Cl 244 #[.int .u8 k,.int .i64 n,.int .i64 t] w fun e w'=>e = .returned (.int .u64 ((k*4294967296+n*65536+t:Nat):Int))/\w'=w:=by
 have a:=Db (Zc k n t b c d);go_enter Tryz.func244,Tryz.ntmps244;go_wp2;go_ret;exact⟨Ca (fun z=>Ending.returned (.int .u64 z)) (Da a),rfl⟩
def DI(p x:Nat):By:=⟨(DC p 2++DC x 8).toArray⟩
theorem Zt(s:By)(p x:Nat):s++⟨(DC p 2).toArray⟩++⟨(DC x 8).toArray⟩=s++DI p x:=by
 apply A7;simp[DI]
theorem F2.lt{b:Nat}{w:World}{v:Value}{s:By}(h:Gp b w v s){g:Nat}(a:F2 v g):g<w.heap.size:=by
 rcases h.1.2 with⟨e,_⟩|⟨g',aa,L,e,c,_⟩
 ·rw[e]at a;simp[F2,Value.ownBlock]at a
 ·rw[e]at a;simp[F2,Value.ownBlock]at a;subst a;exact c.lt
theorem VQ(x m:Nat):(⟨(DC x m).toArray⟩:By).size=m:=by show(List.toArray _).size=m;simp[D4]
theorem RQ(w:World)(b:Nat)(L:b<=w.heap.size)(a:OA)(l c:Nat)(s:By)(h:Gp b w (.slice a l c) s)(p x:Nat)(hp:p<65536)(V:x<18446744073709551616)(hs:s.size<=1000000):
  Cl 214 #[.agg #[.int .i64 p,.int .u64 x],.slice a l c] w fun e w'=>∃d i f,e = .returned (.slice d i f)/\Gp b w' (.slice d i f) (s++DI p x)/\Fr (F2 (.slice a l c)) w w'/\Dm w (.slice a l c) (.slice d i f):=by
 obtain⟨W,K,t,P,E,v⟩:=De w [.int .i64 p,.int .u64 x] 175;have z:¬F2 (.slice a l c) w.heap.size:=fun e=>by have:=F2.lt h e;omega
 have G:Hid (∀X,Bw W X->Cl 212 #[.slice a l c,.int .u64 (IntKind.u64.wrap (p:Int)),.int .i64 2] X fun e w'=>∃d i f,e = .returned (.slice d i f)/\Hid (Gp b w' (.slice d i f) (s++⟨(DC p 2).toArray⟩)/\Fr (F2 (.slice a l c)) W w'/\Dm W (.slice a l c) (.slice d i f))/\F0 w' w.heap.size 175 [.int .i64 p,.int .u64 x]):=fun X r=>by
  rw[Po p (by omega)];have U:Bw w X:=v.trans (r.mono (by omega));have T:=r.size;refine(UL X b (by omega) a l c s (h.below U) p (by omega) 2 (by omega) (by omega)).mono ?_;rintro e w' ⟨d,i,f,rfl,u,o,q⟩;refine⟨d,i,f,rfl,⟨u,(Fr.of_below r).then o (fun _ _ e=>e),fun g y=>(q g y).elim .inl (fun h => .inr (by omega))⟩,?_⟩;exact(show F0 X w.heap.size 175 _ from (r.block _ (by omega)).trans t).fr o z
 have H:Hid (∀X j n m,Hid (Gp b X (.slice j n m) (s++⟨(DC p 2).toArray⟩)/\Fr (F2 (.slice a l c)) W X/\Dm W (.slice a l c) (.slice j n m))->F0 X w.heap.size 175 [.int .i64 p,.int .u64 x]->Cl 212 #[.slice j n m,.int .u64 x,.int .i64 8] X fun e w'=>∃d i f,e = .returned (.slice d i f)/\Hid (Gp b w' (.slice d i f) (s++DI p x)/\Fr (F2 (.slice a l c)) w w'/\Dm w (.slice a l c) (.slice d i f))/\F0 w' w.heap.size 175 [.int .i64 p,.int .u64 x]):=fun X j n m O S=>by
  obtain⟨u,o,q⟩:=Da O;have T:=o.size;refine(UL X b (by omega) j n m _ u x V 8 (by omega) (by rw[Ai,VQ];omega)).mono ?_;rintro e w' ⟨d,i,f,rfl,Z,F,q3⟩;refine⟨d,i,f,rfl,⟨by rw[<-Zt];exact Z,((Fr.of_below v).then o (fun _ _ e=>e)).then F (fun k hk e=>(q k e).elim id (fun h=>by omega)),fun g y=>?_⟩,?_⟩
  ·rcases q3 g y with B|B
   ·exact(q g B).elim .inl (fun h => .inr (by omega))
   ·exact .inr (by omega)
  ·exact S.fr F (fun e=>(q _ e).elim z (fun h=>by omega))
 have ab:=t.cell 0;have ac:=t.cell 1;clear h z P t v L;have N:Bw W W:=Al _ _;have M:Bw W W.drew:=N.drew;have aa:=Db E;clear E;go_enter Tryz.func214,Tryz.ntmps214;go_upto_region 1 with fail;clear K
 go_region_held3 (fun W=>W.cell? ⟨w.heap.size,0,none⟩=some (.int .i64 p)/\W.cell? ⟨w.heap.size,1,none⟩=some (.int .u64 x)) (go_keep)
  (first|(have R:=C;clear R;go_at_call 212;refine(Da H _ j n m C A).mono ?_;rintro e w4 ⟨I,Y,J,rfl,Q,D⟩;have n0:=D.cell 0;have n1:=D.cell 1)|(go_at_call 212;refine(Da G _ M).mono ?_;rintro e w3 ⟨j,n,m,rfl,C,A⟩;have m0:=A.cell 0;have m1:=A.cell 1))
 all_goals
  go_wp2;go_ret;exact⟨I,Y,J,rfl,Da Q⟩
def Jg(D:LY):F6:=D.flatMap Dc
theorem Qk:∀{D:LY},(∀s∈D,s.size=64)->(Jg D).length=D.length*64
 | [],_=>rfl
 | s::D,h=>by
  have a:=Qk (D:=D) (fun x b=>h x (AF _ b));have h2:=h s A5;unfold Jg at a ⊢;simp only[A9,Ad,Dh,Aq];omega
theorem Qo:∀{D:LY},(∀s∈D,s.size=64)->∀(i j:Nat) (s:By),D[i]?=some s->j<64->(Jg D)[i*64+j]?=(Dc s)[j]?
 | [],_,i,j,s,hi,_=>by simp at hi
 | x::D,h,0,j,s,hi,hj=>by
  simp at hi;subst hi;have a:=h x A5;unfold Jg;rw[A9,Fj,Av,AP (by rw[Dh];omega)]
 | x::D,h,i+1,j,s,hi,hj=>by
  have a:=h x A5;have:=Qo (D:=D) (fun y b=>h y (AF _ b)) i j s (by simpa using hi) hj;unfold Jg at this ⊢;rw[A9,AH (by rw[Dh];omega),Dh,<-this]
  congr 1;omega
def Hp(w:World)(v:Value)(D:LY):Prop:=Sl w 188 64 v D.length (Jg D)/\∀s∈D,s.size=64
theorem Hp.range{w:World}{a:OA}{l c:Nat}{D:LY}(h:Hp w (.slice a l c) D)(i:Nat)(s:By)(b:D[i]?=some s):∃g,a=some ⟨g,0,none⟩/\l=D.length/\w.rangeAt g (i*64) (Dc s):=by
 have ab:=(Ae.1 b).1;rcases h.1.2 with⟨e,h0⟩|⟨g,aa,L,e,k,h1,h2,h3,f⟩
 ·omega
 ·simp only[Bl]at e;obtain⟨rfl,rfl,rfl⟩:=e;refine⟨g,rfl,rfl,fun j v d=>?_⟩;have hs:=h.2 s (An b);have m:j<64:=by have:=(Ae.1 d).1;rw[Dh]at this;omega
  have:=Qo h.2 i j s b m;rw[d,<-f,Ao]at this
  split at this
  ·rw[k.cell];exact this
  ·cases this
def DV(w:World)(db:Nat)(vf vn vw ve:Value)(D:LY):Prop:=F0 w db 204 [vf,vn,vw,ve]/\Hp w vn D/\D.length=1536
theorem Pu(w:World)(m:Nat)(G vw F:Value)(a:OA)(l c:Nat)(D:LY)(h:DV w m G (.slice a l c) vw F D)(i:Nat)(s:By)(d:D[i]?=some s):
  Cl 239 #[.pointer (some ⟨m,0,none⟩),.int .i64 i] w fun e w'=>e = .returned (DB s)/\Bw w w':=by
 obtain⟨g,rfl,rfl,q⟩:=h.2.1.range i s d;have ac:i<D.length:=(Ae.1 d).1;have u:=h.2.1.2 s (An d);obtain⟨W,n,z,o,y,f⟩:=De w (Dc (Di 64)) 188;have t:=o _ _ _ h.1;have ab:=t.cell 1;have r:W.rangeAt g (i*64) (Dc s):=fun j v E=>by
  have:=q j v E;exact(f.cell (p:=⟨g,i*64+j,none⟩) (Aj _ _ this)).trans this
 have x:(Dc s).length=64:=by rw[Dh,u]
 have B:=Db r;have k:=Db z;have aa:=Db y;have A:=Db f;have b:=Db x;have hD:=h.2.2;clear h q d u t o z y f r x;go_enter Tryz.func239,Tryz.ntmps239;go_upto_region 0 with fail;refine A1 ?_;refine Ju rfl 188 rfl JU ?_;refine EL ?_;rw[show w.alloc (.cells (Dc (Di 64)).toArray 188)=W from n];clear n;go_wp2_with (first|(refine FC rfl 188 _ rfl g (i*64) rfl (Dc s) _ (Da B) Kg rfl (by rw[D7,Da b]) ?_)|(refine Bs rfl 188 _ _ rfl w.heap.size (Dc s).toArray rfl rfl 188 _ (Da k) (by rw[D7];simp[Da b]) (by simp[Da b,Dh,Jd]) (J8 _) ?_));have C:F0 (W.setRow w.heap.size (Dc s).toArray) w.heap.size 188 (Dc s):=BQ W _ _ _ 188 _ (Da k);refine Ax (v:=DB s) (Fo rfl _ _ w.heap.size 188 _ (0,0) _ rfl C Kg rfl ?_) rfl ⟨rfl,?_⟩
 ·rw[D7];simp[Da b]
 ·exact(Da A).trans ⟨rfl,rfl,rfl,by simp,fun j hj=>Bn W _ j _ (by omega)⟩
def DH(nd:Nat->Int):Nat->Nat->Nat
 | 0,h=>h
 | f+1,h=>if h%16=0/\0<nd (h/16%96) then DH nd f (h+16) else h
theorem Uy{a:Nat->Int}{h:Nat}(b:¬(h%16=0/\0<a (h/16%96))):∀f,DH a f h=h
 | 0=>rfl
 | f+1=>by unfold DH;rw[if_neg b]
theorem Ty{a:Nat->Int}{h f:Nat}(b:h%16=0/\0<a (h/16%96)):DH a (f+1) h=DH a f (h+16):=by
 conv=>lhs;unfold DH
 rw[if_pos b]
def UP(w:World)(a:Addr):Nat:=match w.cell? a with|some (.int _ x)=>x.toNat|_=>0
theorem TX{w:World}{a:Addr}{k:IntKind}{x:Nat}(h:w.cell? a=some (.int k x)):UP w a=x:=by unfold UP;rw[h];rfl
theorem Fr.drewN{X:Nat->Prop}{w w1:World}(h:Fr X w w1)(n:Nat):Fr X w (w1.drewN n):=⟨h.os,h.tape,h.output,h.size,h.block⟩
def T4(w:World)(pb:Nat)(L:F6)(nd:Nat->Int)(hd:Nat)(e:Ending)(w':World):Prop:=
 ∃p,p=DH nd 96 hd%1536/\F0 w' pb 184 (L.set 99 (.int .i64 ((p+1:Nat):Int)))/\e = .returned (.int .i64 (p:Nat))/\w'.cell? ⟨pb,99,none⟩=some (.int .i64 ((p+1:Nat):Int))/\Fr (fun k=>k=pb) w w'/\(∀j,j≠99->w'.cell? ⟨pb,j,none⟩=w.cell? ⟨pb,j,none⟩)
theorem ZlG(w:World)(pb:Nat)(L:F6)(z:F0 w pb 184 L)(b:Nat->Int)(a:Nat)(hh:a<=1536)(N:∀j,j<96->w.cell? ⟨pb,2+j,none⟩=some (.int .i64 (b j)))(J:w.cell? ⟨pb,99,none⟩=some (.int .i64 a))(Z:w.frozen? ⟨pb,99,none⟩=false)
  (Q:∃k,k<96/\b ((a/16+k)%96)<=0):
  Cl 302 #[.pointer (some ⟨pb,0,none⟩)] w (T4 w pb L b a):=by
 have S:=Db z;have V:=Db N;have X:=Db Q;have H:L.set 99 (.int .i64 (a:Int))=L:=by
  have c:L[99]?=some (.int .i64 (a:Int)):=by rw[<-z.cell 99];exact J
  obtain⟨i,G⟩:=Ae.1 c;rw[<-G];exact List.set_getElem_self i
 have T:=Db H;clear N Q z H;go_enter Tryz.func302,Tryz.ntmps302;go_wp2_with fail
 go_loopw [4] (fun _ wr=>∃k h:Nat,k<=96/\h=a+16*k/\Hid (DH b (96-k) h=DH b 96 a/\∀j,j<k->0<b ((a/16+j)%96))/\wr.cell? ⟨pb,99,none⟩=some (.int .i64 h)/\wr.frozen? ⟨pb,99,none⟩=false/\Hid (Fr (fun k=>k=pb) w wr/\(∀j,j≠99->wr.cell? ⟨pb,j,none⟩=w.cell? ⟨pb,j,none⟩)/\F0 wr pb 184 (L.set 99 (.int .i64 (h:Int))))) (fun _ wr=>a+1600-UP wr ⟨pb,99,none⟩)
 case atStart=>exact⟨0,a,by omega,by omega,⟨rfl,fun j g=>absurd g (by omega)⟩,J,Z,Fr.refl _ _,fun _ _=>rfl,by rw[Da T];exact Da S⟩
 case round=>
  obtain⟨k,h,hk,A,s,q,aa,d⟩:=hrel;have l:=TX q;have U:=Db l;clear l;have ag:h<=3072:=by omega
  have r:=Db A;clear A;have o:(h:Int).tmod 16=((h%16:Nat):Int):=by rw[Co (by omega)];omega
  have F:(IntKind.i64.wrap ((h:Int)/16)).tmod 96=((h/16%96:Nat):Int):=by rw[AX,Co (by omega)];omega
  obtain⟨x,D⟩:=ex (h/16%96);have P:x<96:=by omega
  rw[<-D]at F;have ab:(x:Int)<96:=by omega
  have ac:¬(96:Int)<=(x:Int):=by omega
  have K:wr.cell? ⟨pb,2+x,none⟩=some (.int .i64 (b x)):=((Da d).2.1 _ (by omega)).trans (Da V _ P);obtain⟨v,C⟩:=ex (b x);rw[<-C]at K;have y:=Db D;have u:=Db C;clear D C;have Y:(h:Int).tmod 1536=((h%1536:Nat):Int):=by rw[Co (by omega)];omega
  obtain⟨p,B⟩:=ex (h%1536);have ai:p<1536:=by omega
  rw[<-B]at Y;have W:=Db B;clear B;have E:Hid (¬(h%16=0/\0<b (h/16%96))->∀nq,T4 w pb L b a (.returned (.int .i64 p)) ((wr.drewN nq).setCell ⟨pb,99,none⟩ (.int .i64 ((p:Int)+1)))):=fun f nq=>by
   refine⟨p,?_,?_,rfl,Ck _ _ _ q,?_,fun j g=>?_⟩
   ·rw[<-(Da s).1,Uy f];exact Da W
   ·have:=F0.set (show F0 (wr.drewN nq) pb 184 _ from (Da d).2.2) 99 (.int .i64 ((p:Int)+1));rw[List.set_set]at this;exact this
   ·exact Fr.set ((Da d).1.drewN nq) ⟨pb,99,none⟩ _ rfl
   ·exact(BR _ _ _ _ (by simp)).trans ((Da d).2.1 j g)
  by_cases e:h%16=0
  ·have ae:((h:Int).tmod 16==0)=true:=by rw[o,e];rfl
   have R:=Db e;clear e o;by_cases n:0<v
   ·have O:Hid (k<96/\DH b (96-(k+1)) (h+16)=DH b 96 a/\∀j,j<k+1->0<b ((a/16+j)%96)):=by
     have A:=Da r;have e:=Da R;have ad:(a/16+k)%96=x:=by rw[Da y];omega
     have I:∀j,j<k+1->0<b ((a/16+j)%96):=fun j g=>by
      rcases AO j k with c|c
      ·exact(Da s).2 j c
      ·obtain rfl:j=k:=by omega
       rw[ad,<-Da u];exact n
     obtain⟨kk,af,ah⟩:=Da X;have M:k<96:=by
      rcases AO kk (k+1) with c|c
      ·have:=I kk c;omega
      ·omega
     refine⟨M,?_,I⟩;rw[<-(Da s).1,show 96-k=(96-(k+1))+1 by omega,Ty ⟨e,by rw[<-Da y,<-Da u];exact n⟩]
    have M:=(Da O).1;go_upto_region 1 with fail
    go_quiet (fail)
    go_wp2
    go_roundw
    case rel=>
     refine⟨k+1,h+16,by omega,by rw[Da r];omega,(Da O).2,?_,?_,?_,fun j g=>?_,?_⟩
     ·exact(Ck _ _ _ q).trans (by go_num)
     ·simpa using aa
     ·exact Fr.set ((Da d).1.drewN nq) ⟨pb,99,none⟩ _ rfl
     ·exact(BR _ _ _ _ (by simp)).trans ((Da d).2.1 j g)
     ·have:=F0.set (show F0 (wr.drewN nq) pb 184 _ from (Da d).2.2) 99 (.int .i64 ((h:Int)+16));rw[List.set_set]at this;exact this
    case measure=>
     have c:UP ((wr.drewN nq).setCell ⟨pb,99,none⟩ (.int .i64 ((h:Int)+16))) ⟨pb,99,none⟩=h+16:=TX (k := .i64) (x:=h+16) (Ck _ _ _ q);have i:=Da U;have G:=Da r;omega
   ·have f:¬(h%16=0/\0<b (h/16%96)):=fun ⟨_,i⟩=>by rw[<-Da y,<-Da u]at i;exact n i
    have t:=Db f;have aj:decide (0<v)=false:=B2 n;clear f n;go_upto_region 1 with fail
    go_quiet (fail)
    go_wp2;go_ret;exact Da E (Da t) _
  ·have f:¬(h%16=0/\0<b (h/16%96)):=fun ⟨c,_⟩=>e c
   have t:=Db f;obtain⟨m,l⟩:∃m:Nat,h%16=m+1:=⟨h%16-1,by omega⟩;have e4:(h:Int).tmod 16=(m:Int)+1:=by rw[o,l];omega
   have e5:decide ((m:Int)+1=0)=false:=B2 (by omega);have e6:((m:Int)+1==0)=false:=by rw[BK];omega
   clear f e o F K ab ac P l;go_upto_region 1 with fail
   go_quiet (fail)
   go_wp2;go_ret;exact Da E (Da t) _
theorem Zhh(w:World)(pb h so:Nat)(b:Nat->Int)(a i:Nat)(hi:i<1536)(aa:a<1536)(c:∀j,j<96->w.cell? ⟨pb,2+j,none⟩=some (.int .i64 (b j)))(hc:w.cell? ⟨pb,1,none⟩=some (.pointer (some ⟨h,so,none⟩)))(ht:w.cell? ⟨h,so+1,none⟩=some (.int .i64 a)):
  Cl 301 #[.pointer (some ⟨pb,0,none⟩),.int .i64 i] w fun e w'=>e = .returned (.bool (decide (i/16≠a/16/\b (i/16)<=8)))/\w'=w:=by
 obtain⟨x,f⟩:=ex (i/16);obtain⟨y,g⟩:=ex (a/16);have e1:(IntKind.i64.wrap ((i:Int)/16))=(x:Int):=by rw[AX];omega
 have e2:(IntKind.i64.wrap ((a:Int)/16))=(y:Int):=by rw[AX];omega
 have k:=c x (by omega);obtain⟨v,d⟩:=ex (b x);rw[<-f,<-g];rw[<-d]at k ⊢;have ab:(x:Int)<96:=by omega
 have ac:¬(96:Int)<=(x:Int):=by omega
 clear c f g d;by_cases l:x=y
 ·subst l;go_enter Tryz.func301,Tryz.ntmps301;go_wp2;go_ret;exact⟨rfl,rfl⟩
 ·have ad:((x:Int) != (y:Int))=true:=by simp;omega
  go_enter Tryz.func301,Tryz.ntmps301;go_wp2;go_ret;exact⟨rfl,rfl⟩
theorem Zkf{P:Program}{p:Array Oper}{o:Oper}{a:Act}{w:World}{K:Act->World->Prop}{Q:Exit->Act->World->Prop}{E:Prop}
  (k:o.guard=none) (d x:Operand) (c e:TypeId) (l:o.op=Op.call { callee:=Callee.builtin Builtin.append,args := #[d,x],argTypes := #[c,e] })
  (v u:Value) (j:a.eval d=v) (n:a.eval x=u) {f:Value->World->Prop} (m:∃b w',(Builtin.append_ #[c,e] o.type #[v,u]).run P w = .ok b w'/\f b w') (i:∀b w',f b w'->K (a.put o.dst b) w'):
  if Region.wanted o (yielded p a.tmps)=true then Oper.wp P o a w K Q else E:=by
 obtain⟨b,w',g,h⟩:=m;exact JO k d x c e l v u j n g (i b w' h)
theorem OT(w:World)(v:Value)(es:List Int)(i:Sl w 3 1 v es.length (es.map (.int .i64)))(nb:Nat)(x:Int)(o:F0 w nb 3 [.int .i64 x])(hl:es.length<=1000000000):
  ∃g w',(Builtin.append_ #[53,53] 53 #[v,.slice (some ⟨nb,0,none⟩) 1 1]).run Tryz.prog w = .ok g w'/\∃a c b,g = .slice a c b/\Sl w' 3 1 (.slice a c b) (es.length+1) ((es++[x]).map (.int .i64))/\Fr (F2 v) w w'/\Dm w v (.slice a c b):=by
 obtain⟨s,m,p,q,r⟩:=BU (P:=Tryz.prog) (e:=3) (z := .int .i64 0) (size:=1) (bytes:=8) (by kernel_rfl);obtain⟨g,w2,t,h,d,y⟩:=KQ (P:=Tryz.prog) w 53 53 3 s _ 1 8 (by kernel_rfl) m p q r rfl (by decide) v es.length (es.map (.int .i64)) i ⟨nb,0,none⟩ 1 1 [.int .i64 x] rfl
  (fun j u f=>by rw[AL,Av,o.cell];exact f) (fun u f=>by rw[Ab.1 f];rfl) (by unfold maxLen;omega) (by omega)
 obtain⟨a,c,b,rfl⟩:=h.shape;exact⟨_,w2,t,a,c,b,rfl,by rw[Bp];exact h,⟨d.os,d.tape,d.output,d.size,fun k n l=>d.block k n (fun e=>l e.symm)⟩,y⟩
def Rk(w:World)(db:Nat)(vf vn vw ve:Value)(es:List Int)(m:Int)(e:Ending)(w':World):Prop:=
 e = .returned (.tuple #[])/\∃ve',F0 w' db 204 [vf,vn,vw,ve']/\Sl w' 3 1 ve' (es.length+1) ((es++[m]).map (.int .i64))/\Fr (fun k=>k=db\/F2 ve k) w w'/\Dm w ve ve'
theorem RG(w:World)(b:Nat)(p q s:Value)(a:OA)(l c:Nat)(h:F0 w b 204 [p,q,.slice a l c,s])(es:List Int)(u:Sl w 3 1 s es.length (es.map (.int .i64)))(v:¬F2 s b)(G:es.length<=1000000000):
  Cl 200 #[.pointer (some ⟨b,0,none⟩)] w (Rk w b p q (.slice a l c) s es l):=by
 obtain⟨m,o,n,rfl⟩:=u.shape;have C:Hid (∀j,Bw w j->∀nb,F0 j nb 3 [.int .i64 l]->∃x w',(Builtin.append_ #[53,53] 53 #[.slice m o n,.slice (some ⟨nb,0,none⟩) 1 1]).run Tryz.prog j = .ok x w'/\∃d i f,x = .slice d i f/\F0 w' b 204 [p,q,.slice a l c,.slice m o n]/\Hid (Rk w b p q (.slice a l c) (.slice m o n) es l (.returned (.tuple #[])) (w'.setCell ⟨b,3,none⟩ (.slice d i f)))):=fun j r nb H=>by
  obtain⟨x,w',I,d,i,f,rfl,J,A,B⟩:=OT j _ es (u.kept (fun k F _=>r.block k F)) nb l H G;have z:F0 w' b 204 [p,q,.slice a l c,.slice m o n]:=F0.fr (show F0 j b 204 _ from (r.block _ h.lt).trans h) A v;have ad:=r.size;refine⟨_,w',I,d,i,f,rfl,z,rfl,.slice d i f,by simpa using z.set 3 (.slice d i f),?_,?_,fun g E=>(B g E).imp id (fun h=>by omega)⟩
  ·refine J.setCell _ _ (fun e=>?_);rcases B _ e with t|t
   ·exact v t
   ·have:=h.lt;simp only at t;omega
  ·exact((Fr.of_below r).then A (fun k _ e => .inr e)).set ⟨b,3,none⟩ _ (.inl rfl)
 have c2:w.cell? ⟨b,2,none⟩=some (.slice a l c):=(h.cell 2).trans rfl;have c3:w.cell? ⟨b,3,none⟩=some (.slice m o n):=(h.cell 3).trans rfl;have aa:=h.lt;have ab:¬b=w.heap.size:=by omega
 have ac:¬w.heap.size=b:=by omega
 clear h u v;go_enter Tryz.func200,Tryz.ntmps200;go_wp2_with fail
 go_region_law (refine Zkf rfl _ _ 53 53 rfl _ _ (by simp[Act.eval]) (by simp[Act.eval]) (Da C _ (by first|exact((Al _ w).drew.alloc (by simp) _)|exact((Al _ w).alloc (by simp) _)) _ (Jh _ _ _)) ?_;rintro v2 w2 ⟨d,i,f,rfl,y,D⟩;have d3:=y.cell 3;have f3:=y.frozen 3)
 all_goals
  go_wp2
  go_end0
  exact Da D
end Go.Proofs.YtaieidcohdhgpaaGreatDoor
