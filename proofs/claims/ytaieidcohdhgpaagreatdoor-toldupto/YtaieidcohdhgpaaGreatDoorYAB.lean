/- Told. -/
import Derived.Test.YtaieidcohdhgpaaGreatDoorYAA
namespace Go.Proofs.YtaieidcohdhgpaaGreatDoor
set_option maxHeartbeats 40000000
set_option maxRecDepth 100000
open Tryz
open Go.RowKit
theorem Sj(L xs a:F0)(i n:Nat)(hL:(n+1)*3<=L.length)(d:L.take (n*3)=xs)(hi:i<n)(b:a.length=3):
  (F2 (F2 L ((i+1)*3) (xs.drop (i*3))) (i*3) a).take ((n+1)*3)=xs.take (i*3)++a++xs.drop (i*3):=by
 have c:xs.length=n*3:=by rw[<-d,An];omega
 have g:(xs.drop (i*3)).length=(n-i)*3:=by rw[Az,c];omega
 have e:(F2 L ((i+1)*3) (xs.drop (i*3))).take (i*3)=xs.take (i*3):=by
  unfold F2;rw[Ax,A3 (by rw[An];omega),B3,BB (by omega),<-d,B3,BB (by omega)]
 have f:(F2 L ((i+1)*3) (xs.drop (i*3))).drop (i*3+a.length)=xs.drop (i*3)++L.drop ((i+1)*3+(xs.drop (i*3)).length):=by
  unfold F2;rw[Ax,b,show i*3+3=(L.take ((i+1)*3)).length by rw[An];omega,EG]
 rw[F2,e,f,<-Ax];exact BY (by simp only[Ab,An,g,b,c];omega)
theorem S9(Z xs a:F0)(i n:Nat)(f:xs.length=n*3)(hi:i<n)(_hZ:(n+1)*3<=(xs.take (i*3)++Z).length)(c:a.length=3):
  (F2 (F2 (xs.take (i*3)++Z) (i*3) a) ((i+1)*3) (xs.drop (i*3))).take ((n+1)*3)=xs.take (i*3)++a++xs.drop (i*3):=by
 have e:(xs.drop (i*3)).length=(n-i)*3:=by rw[Az,f];omega
 have b:(xs.take (i*3)).length=i*3:=by rw[An];omega
 have d:(F2 (xs.take (i*3)++Z) (i*3) a).take ((i+1)*3)=xs.take (i*3)++a:=by
  unfold F2;rw[BY b];exact BY (by simp only[Ab,b,c];omega)
 rw[F2,d];exact BY (by simp only[Ab,b,e,c];omega)
theorem Si(L xs z:F0)(i n:Nat)(hL:n*3<=L.length)(c:L.take (n*3)=xs)(hi:i<n):
  (F2 (F2 L (i*3) (xs.drop ((i+1)*3))) ((n-1)*3) z).take ((n-1)*3)=xs.take (i*3)++xs.drop ((i+1)*3):=by
 have f:xs.length=n*3:=by rw[<-c,An];omega
 have a:(xs.drop ((i+1)*3)).length=(n-1-i)*3:=by rw[Az,f];omega
 have d:L.take (i*3)=xs.take (i*3):=by rw[<-c,B3,BB (by omega)]
 have b:(xs.take (i*3)).length=i*3:=by rw[An];omega
 have e:(F2 L (i*3) (xs.drop ((i+1)*3))).take ((n-1)*3)=xs.take (i*3)++xs.drop ((i+1)*3):=by
  unfold F2;rw[d];exact BY (by simp only[Ab,b,a];omega)
 rw[F2,Ax,e];exact BY (by simp only[Ab,b,a];omega)
theorem LH(w1:World)(b:Nat)(x y g c:Value)(e:w1.cell? ⟨b,0,none⟩=some g)(f:w1.cell? ⟨b,1,none⟩=some c):
  (w1.setCell ⟨b,0,none⟩ x).cell? ⟨b,0,none⟩=some x/\((w1.setCell ⟨b,0,none⟩ x).setCell ⟨b,1,none⟩ y).cell? ⟨b,0,none⟩=some x/\((w1.setCell ⟨b,0,none⟩ x).setCell ⟨b,1,none⟩ y).cell? ⟨b,1,none⟩=some y:=by
 have a:(w1.setCell ⟨b,0,none⟩ x).cell? ⟨b,0,none⟩=some x:=Ck _ _ _ e;have d:(w1.setCell ⟨b,0,none⟩ x).cell? ⟨b,1,none⟩=some c:=(CR _ _ _ _ (by simp)).trans f;exact⟨a,(CR _ _ _ _ (by simp)).trans a,Ck _ _ _ d⟩
theorem OE(w:World)(o:Obj)(p:Addr)(h:p.block<w.heap.size):(w.alloc o).cell? p=w.cell? p:=(Below.cell (B:=w.heap.size) ((Ak _ _).alloc (Aa _) o) h)
structure I0(w w':World)(hb ho:Nat)(v v':Value):Prop where
 os:w'.os=w.os
 tape:w'.tape=w.tape
 output:w'.output=w.output
 size:w.heap.size<=w'.heap.size
 block:∀k,k<w.heap.size->k≠hb->v.ownBlock≠some k->w'.heap[k]?=w.heap[k]?
 head:w'.heap[hb]?=(w.setCell ⟨hb,ho,none⟩ v').heap[hb]?
theorem Sl.setCell{w:World}{e:TypeId}{b:Nat}{v:Value}{n:Nat}{xs:F0}(h:Sl w e b v n xs)(a:Addr)(u:Value)(i:v.ownBlock≠some a.block):Sl (w.setCell a u) e b v n xs:=by
 refine⟨h.1,?_⟩;rcases h.2 with d|⟨g,c,L,rfl,j,f⟩
 ·exact .inl d
 ·refine .inr ⟨g,c,L,rfl,?_,f⟩;unfold FX;rw[Aw _ _ _ _ (λe=>i (by simp[Value.ownBlock,e]))];exact j
theorem Sl.heap{w w':World}{e:TypeId}{a:Nat}{v:Value}{n:Nat}{xs:F0}(h:Sl w e a v n xs)(b:w'.heap=w.heap):Sl w' e a v n xs:=by
 unfold Sl FX at h ⊢;rw[b];exact h
theorem Sl.kept{w w':World}{e:TypeId}{b:Nat}{v:Value}{n:Nat}{xs:F0}(h:Sl w e b v n xs)(i:∀k,k<w.heap.size->v.ownBlock=some k->w'.heap[k]?=w.heap[k]?):Sl w' e b v n xs:=by
 refine⟨h.1,?_⟩;rcases h.2 with d|⟨g,c,L,rfl,a,f⟩
 ·exact .inl d
 ·refine .inr ⟨g,c,L,rfl,?_,f⟩;unfold FX;rw[i g a.lt rfl];exact a
theorem Sl.lt{w:World}{e:TypeId}{c:Nat}{v:Value}{n:Nat}{xs:F0}(h:Sl w e c v n xs){g:Nat}(a:v.ownBlock=some g):g<w.heap.size:=by
 rcases h.2 with⟨rfl,_⟩|⟨g',aa,L,rfl,b,_⟩
 ·simp[Value.ownBlock]at a
 ·simp[Value.ownBlock]at a;subst a;exact b.lt
theorem Sl.shape{w:World}{e:TypeId}{b:Nat}{v:Value}{n:Nat}{xs:F0}(h:Sl w e b v n xs):∃a m c,v=.slice a m c:=by
 rcases h.2 with⟨rfl,_⟩|⟨g',aa,L,rfl,hr,_⟩
 ·exact⟨_,_,_,rfl⟩
 ·exact⟨_,_,_,rfl⟩
theorem UP{w w2:World}{b ho:Nat}{v c:Value}{e:TypeId}{n:Nat}{xs:F0}(f:w.cell? ⟨b,ho,none⟩=some v)(i:v.ownBlock≠some b)(m:Sl w2 e 3 c n xs)(r:Dk w v c)(s:w2.os=w.os)(x:w2.tape=w.tape)(t:w2.output=w.output)(u:w.heap.size<=w2.heap.size)(d:∀k,k<w.heap.size->v.ownBlock≠some k->w2.heap[k]?=w.heap[k]?):
  (w2.setCell ⟨b,ho,none⟩ c).cell? ⟨b,ho,none⟩=some c/\Sl (w2.setCell ⟨b,ho,none⟩ c) e 3 c n xs/\I0 w (w2.setCell ⟨b,ho,none⟩ c) b ho v c:=by
 have q:b<w.heap.size:=Am _ _ f;have g:w2.heap[b]?=w.heap[b]? := d b q i;have o:w2.cell? ⟨b,ho,none⟩=some v:=(Ay (w:=w) (a:=⟨b,ho,none⟩) g).trans f;refine⟨Ck _ _ _ o,m.setCell _ _ (λe=>?_),s,x,t,by simpa [World.setCell] using u,λk p j l=>?_,?_⟩
 ·rcases r b e with h|h
  ·exact i h
  ·omega
 ·rw[Aw _ _ _ _ j];exact d k p l
 ·simp only[World.setCell,Fq,if_true];rw[g]
theorem Ng(w:World)(v:Value)(es:LS)(i:Nat)(x:By×VS)(d:Nat)(A:Sl w 310 3 v es.length (Dm es))(hi:i<=es.length)(t:es.length<=10000)(y:FX w d 310 (Hl x))(H:v.ownBlock≠some d):
  Cl 265 #[v,.int .i64 i,.slice (some ⟨d,0,none⟩) 1 1] w λe w'=>∃l,e=.returned l/\Sl w' 310 3 l (es.length+1) (Dm (es.take i++x::es.drop i))/\w.grownBy w' v.ownBlock/\Dk w v l:=by
 have o:∀u∈Hl x,u.oneCell'=true:=λu J=>N8 [x] u (by simpa [Dm] using J)
 have f:Dm (es.take i++x::es.drop i)=(Dm es).take (i*3)++Hl x++(Dm es).drop (i*3):=by
  rw[W0,WZ,XB,Ax];rfl
 have j:=XC es;rcases Bh i es.length with n|aa
 ·rcases A.2 with⟨rfl,h0⟩|⟨g,m,L,rfl,z,E,B,c,s⟩
  ·omega
  ·have I:d≠g:=λe=>H (by simp[Value.ownBlock,e])
   have C:((Dm es).take (i*3)++Hl x++(Dm es).drop (i*3)).length=(es.length+1)*3:=by
    simp only[Ab,An,Az,j];simp[Hl];omega
   rcases Bh m (es.length+1) with F|D
   ·refine(ZkA w g es.length m (Dm es) L i d (Hl x) z c s n E F t y rfl (N8 es) o).mono ?_;rintro e w'⟨G,Z,rfl,p,q,a,r,b⟩;refine⟨_,rfl,⟨by rw[f];exact C,.inr ⟨_,G,_,rfl,r,p,q,?_,?_⟩⟩,⟨b.os,b.tape,b.output,b.size,λk h _=>b.block k h (by simp;omega)⟩,λk h => .inr (by simp[Value.ownBlock]at h;omega)⟩
    ·rw[DX,DX,a]
     ·rw[a];simp[Hl];omega
     ·rw[DX (by rw[a];simp[Hl];omega),a,Az,j];omega
    ·rw[f];exact S9 Z (Dm es) (Hl x) i es.length j n (by rw[a];omega) rfl
   ·refine(Zl9 w g es.length m (Dm es) L i d (Hl x) z c s n D B t y rfl (N8 es) o I).mono ?_;rintro e w'⟨rfl,r,b⟩;refine⟨_,rfl,⟨by rw[f];exact C,.inr ⟨_,m,_,rfl,r,D,B,?_,?_⟩⟩,b,λk h => .inl h⟩
    ·rw[DX,DX,c]
     ·rw[Az,j,c];omega
     ·rw[DX (by rw[Az,j,c];omega),c];simp[Hl];omega
    ·rw[f];exact Sj L (Dm es) (Hl x) i es.length (by rw[c];omega) s n rfl
 ·obtain rfl:i=es.length:=by omega
  refine(Zmc w v es.length (Dm es) d (Hl x) A t y rfl o).mono ?_;rintro e w'⟨l,rfl,p,q,a⟩;refine⟨l,rfl,?_,q,a⟩;rw[f,Ag (by omega),B8 (by omega),Cf];exact p
theorem Np(w:World)(v:Value)(es:LS)(i:Nat)(o:Sl w 310 3 v es.length (Dm es))(j:i<es.length)(r:es.length<=10000):
  Cl 268 #[v,.int .i64 i,.int .i64 ((i:Int)+1)] w λe w'=>∃v',e=.returned v'/\Sl w' 310 3 v' (es.length-1) (Dm (es.take i++es.drop (i+1)))/\w.grownBy w' v.ownBlock/\Dk w v v':=by
 have f:Dm (es.take i++es.drop (i+1))=(Dm es).take (i*3)++(Dm es).drop ((i+1)*3):=by
  rw[W0,WZ,XB]
 have b:=XC es;rcases o.2 with⟨rfl,h0⟩|⟨g,c,L,rfl,n,p,h,a,d⟩
 ·omega
 ·refine(Mu w g es.length c (Dm es) L i n a d j p h r (N8 es)).mono ?_;rintro e w'⟨rfl,l,m⟩;refine⟨_,rfl,⟨?_,.inr ⟨_,c,_,rfl,l,by omega,h,?_,?_⟩⟩,m,λk q => .inl q⟩
  ·rw[f];simp only[Ab,An,Az,b];omega
  ·rw[DX,DX,a]
   ·rw[Az,b,a];omega
   ·rw[DX (by rw[Az,b,a];omega),a];simp;omega
  ·rw[f];exact Si L (Dm es) _ i es.length (by rw[a];omega) d j
theorem Pa(w:World)(a ho:Nat)(v:Value)(es:LS)(c:By)(hc:w.cell? ⟨a,ho,none⟩=some v)(f:Sl w 310 3 v es.length (Dm es))(g:es.length<=10000)(h:Ge es):
  Cl 264 #[.pointer (some ⟨a,ho,none⟩),.string c] w λe w'=>∃(i:Nat) (b:Bool),e=.returned (.tuple #[.int .i64 i,.bool b])/\LC es c i b/\Bw w w':=by
 have k:=MX v es c w f g h;clear f g h;go_enter func264,ntmps264;go_wp2_with fail;refine k.mono ?_;rintro e w'⟨i,b,rfl,d,a⟩;have j:=Db d;clear d;go_wp2
 go_ret2
 exact⟨i,b,rfl,Da j,a⟩
def Sr(es:LS)(key:By)(r:VS)(b:Bool):Prop:=(b=true/\(key,r)∈es)\/(b=false/\r=⟨none,0⟩/\∀x∈es,x.1≠key)
theorem LC.here{es:LS}{a:By}{i:Nat}(h:LC es a i true):∃r,es[i]?=some (a,r):=by
 obtain⟨x,b,c⟩:=h.2.2.2.1 rfl;exact⟨x.2,by rw[b,<-c]⟩
theorem LC.not{es:LS}{j:By}{i:Nat}(l:Ge es)(h:LC es j i false):∀x∈es,x.1≠j:=by
 intro x m e;obtain⟨k,a⟩:=BU m;rcases Bh k i with g|g
 ·have:=h.2.1 k x g a;rw[e,KM]at this;cases this
 ·rcases Bh i k with b|b
  ·have f:i<es.length:=by have:=(Ae.1 a).1;omega
   have c:=l i k _ x b (Ac f) a;have d:=h.2.2.1 i _ (Aa _) (Ac f);rw[e]at c;rw[c]at d;cases d
  ·obtain rfl:k=i:=by omega
   have:=h.2.2.2.2 ⟨x,a,e⟩
   cases this
theorem OU(w:World)(a ho:Nat)(v:Value)(es:LS)(y:By)(n:w.cell? ⟨a,ho,none⟩=some v)(l:Sl w 310 3 v es.length (Dm es))(P:es.length<=10000)(H:Ge es):
  Cl 266 #[.pointer (some ⟨a,ho,none⟩),.string y] w λe w'=>∃(r:VS) (b:Bool),e=.returned (.tuple #[.agg #[.pointer r.p,.int .i64 r.f],.bool b])/\Sr es y r b/\Bw w w':=by
 have E:a<w.heap.size:=Am _ _ n;have m:∀o,Bw w (w.alloc o):=λo=>(Ak _ _).alloc (Aa _) o
 have F:=λo=>Pa (w.alloc o) a ho v es y (((m o).cell (p:=⟨a,ho,none⟩) E).trans n) (Sl.of_owns (l.owns.alloc o)) P H
 go_enter func266,ntmps266;go_wp2_with fail;refine(F _).mono ?_;rintro e w1⟨i,b,rfl,k,C⟩;have c:Below (w.heap.size+1) (w.alloc (.cells #[.pointer none,.int .i64 0] 260)) w1:=by simpa[Bw]using C
 have h:∀p:Addr,p.block<w.heap.size->w1.cell? p=w.cell? p:=λp Q=>(c.cell (p:=p) (by omega)).trans ((m _).cell Q)
 have z:∀j,w1.cell? ⟨w.heap.size,j,none⟩=(#[.pointer none,.int .i64 0]:Array Value)[j]? := λj=>(c.cell (p:=⟨w.heap.size,j,none⟩) (by simp)).trans (CT _ _ _ _ rfl)
 have J:w1.cell? ⟨w.heap.size,0,none⟩=some (.pointer none):=z 0;have K:w1.cell? ⟨w.heap.size,1,none⟩=some (.int .i64 0):=z 1;have f:∀j,w1.frozen? ⟨w.heap.size,j,none⟩=false:=λj=>(c.frozen (p:=⟨w.heap.size,j,none⟩) (by simp)).trans (World.frozen?_alloc_at _ _ _ _ rfl)
 have f0:=f 0;have f1:=f 1;have G:Bw w w1:=(m _).trans (c.mono (by omega));have I:w.heap.size<w1.heap.size:=by have:=c.size;simp at this;omega
 clear z f F m C
 cases b with
 |false=>
  have N:=Db (LC.not H k);clear k l h;obtain⟨R,A,B⟩:=LH w1 w.heap.size (.pointer none) (.int .i64 0) _ _ J K;have S:=λo=>(OE ((w1.setCell ⟨w.heap.size,0,none⟩ (.pointer none)).setCell ⟨w.heap.size,1,none⟩ (.int .i64 0)) o ⟨w.heap.size,0,none⟩ (by simpa using I)).trans A
  have T:=λo=>(OE ((w1.setCell ⟨w.heap.size,0,none⟩ (.pointer none)).setCell ⟨w.heap.size,1,none⟩ (.int .i64 0)) o ⟨w.heap.size,1,none⟩ (by simpa using I)).trans B
  go_wp2;exact Ap (v:=.tuple #[.agg #[.pointer none,.int .i64 0],.bool false]) (by simp[results,results266,go_sem,S,T]) rfl
   ⟨⟨none,0⟩,false,rfl,.inr ⟨rfl,rfl,Da N⟩,((G.setCell (p:=⟨w.heap.size,0,none⟩) (Aa _) _).setCell (p:=⟨w.heap.size,1,none⟩) (Aa _) _).alloc (by simp;omega) _⟩
 |true=>
  obtain⟨r,d⟩:=k.here;rcases l.2 with⟨rfl,h0⟩|⟨g,aa,L,rfl,t,ab,ac,O,D⟩
  ·have:=(Ae.1 d).1;omega
  ·have x:∀j u,(Dm es)[j]?=some u->w1.cell? ⟨g,j,none⟩=some u:=λj u s=>by
    rw[h _ t.lt,t.cell];rw[<-D,Ao]at s
    split at s
    ·exact s
    ·cases s
   have q:=QN es i _ d;have q0:=(h ⟨a,ho,none⟩ E).trans n;have q1:=x _ _ q.2.1;have q2:=x _ _ q.2.2;have hi:i<es.length:=(Ae.1 d).1;have M:=Db (Ar d);clear q x t O D l k d h n;obtain⟨R,A,B⟩:=LH w1 w.heap.size (.pointer r.p) (.int .i64 r.f) _ _ J K;go_wp2;exact Ap (v:=.tuple #[.agg #[.pointer r.p,.int .i64 r.f],.bool true]) (by simp[results,results266,go_sem,A,B]) rfl
    ⟨r,true,rfl,.inl ⟨rfl,Da M⟩,(G.setCell (p:=⟨w.heap.size,0,none⟩) (Aa _) _).setCell (p:=⟨w.heap.size,1,none⟩) (Aa _) _⟩
theorem Zl7{es:LS}{d:By}{i:Nat}(e:VS)(g:Ge es)(h:LC es d i false):
  Ge (es.take i++(d,e)::es.drop i)/\(es.take i++(d,e)::es.drop i).length=es.length+1/\∀x,x∈es.take i++(d,e)::es.drop i↔x=(d,e)\/x∈es:=by
 have hi:=h.1;have u:=LC.not g h;have q:∀k x,i<=k->es[k]?=some x->Hf d x.1=true:=λk x s b=>by
  have a:=h.2.2.1 k x s b;have f:=u x (Ar b);exact ZlR a f
 have t:(es.take i).length=i:=by rw[An];omega
 have p:∀k,(es.take i++(d,e)::es.drop i)[k]?=if k<i then es[k]? else if k=i then some (d,e) else es[k-1]? := λk=>by
  by_cases a:k<i
  ·rw[if_pos a,AW (by omega),Ao,if_pos a]
  ·rw[if_neg a,AS (by omega),t];by_cases f:k=i
   ·rw[if_pos f];simp[f]
   ·rw[if_neg f,show k-i=(k-i-1)+1 by omega,CX,Bf]
    congr 1;omega
 refine⟨λj k x y r b c=>?_,?_,λx=>?_⟩
 ·rw[p]at b c;by_cases n:j<i
  ·rw[if_pos n]at b;by_cases l:k<i
   ·rw[if_pos l]at c;exact g j k x y r b c
   ·rw[if_neg l]at c;by_cases m:k=i
    ·rw[if_pos m]at c;cases c;exact h.2.1 j x n b
    ·rw[if_neg m]at c;exact g j (k-1) x y (by omega) b c
  ·rw[if_neg n]at b;have l:¬k<i:=by omega
   have m:¬k=i:=by omega
   rw[if_neg l,if_neg m]at c;by_cases o:j=i
   ·rw[if_pos o]at b;cases b;exact q (k-1) y (by omega) c
   ·rw[if_neg o]at b;exact g (j-1) (k-1) x y (by omega) b c
 ·simp;omega
 ·have:es=es.take i++es.drop i:=(Co i es).symm;constructor
  ·intro b;simp only[Aq,AC]at b;rcases b with a|a|a
   ·exact .inr (Bv a)
   ·exact .inl a
   ·exact .inr (BG a)
  ·intro b;simp only[Aq,AC];rcases b with a|a
   ·exact .inr (.inl a)
   ·rw[this,Aq]at a;rcases a with a|a
    ·exact .inl a
    ·exact .inr (.inr a)
theorem Yu(w:World)(c ho:Nat)(v:Value)(es:LS)(f:By)(r:VS)(q:w.cell? ⟨c,ho,none⟩=some v)(hf:w.frozen? ⟨c,ho,none⟩=false)(H:v.ownBlock≠some c)(C:Sl w 310 3 v es.length (Dm es))(U:es.length<=10000)(I:Ge es)(X:∀x∈es,x.1≠f):
  Cl 226 #[.pointer (some ⟨c,ho,none⟩),.string f,.agg #[.pointer r.p,.int .i64 r.f]] w λe w'=>e=.returned (.tuple #[])/\∃d es',w'.cell? ⟨c,ho,none⟩=some d/\Sl w' 310 3 d es'.length (Dm es')/\
   Ge es'/\es'.length=es.length+1/\(∀x,x∈es'↔x=(f,r)\/x∈es)/\Dk w v d/\I0 w w' c ho v d:=by
 have B:c<w.heap.size:=Am _ _ q;have E:∀o,Bw w (w.alloc o):=λo=>(Ak _ _).alloc (Aa _) o
 have R:=λo=>Pa (w.alloc o) c ho v es f (((E o).cell (p:=⟨c,ho,none⟩) B).trans q) (Sl.of_owns (C.owns.alloc o)) U I
 go_enter func226,ntmps226;go_wp2_with fail;refine(R _).mono ?_;rintro e w1⟨i,b,rfl,u,P⟩;have ac:b=false:=by
  cases b with
  |false=>rfl
  |true=>obtain⟨r',ag⟩:=u.here;exact absurd rfl (X _ (Ar ag))
 subst ac;have y:Below (w.heap.size+1) (w.alloc (.cells #[.pointer r.p,.int .i64 r.f] 260)) w1:=by simpa[Bw]using P
 have l:Bw w w1:=(E _).trans (y.mono (by omega));have q0:w1.cell? ⟨c,ho,none⟩=some v:=(l.cell (p:=⟨c,ho,none⟩) B).trans q;have z:∀j,w1.cell? ⟨w.heap.size,j,none⟩=(#[.pointer r.p,.int .i64 r.f]:Array Value)[j]? := λj=>(y.cell (p:=⟨w.heap.size,j,none⟩) (by simp)).trans (CT _ _ _ _ rfl)
 have z0:w1.cell? ⟨w.heap.size,0,none⟩=some (.pointer r.p):=z 0;have z1:w1.cell? ⟨w.heap.size,1,none⟩=some (.int .i64 r.f):=z 1;have ak:w.heap.size<w1.heap.size:=by have:=y.size;simp at this;omega
 have D:Sl w1 310 3 v es.length (Dm es):=C.kept (λk G _=>l.block k G);have S:∀W:World,W.heap=(w1.alloc (.cells #[.string f,.pointer r.p,.int .i64 r.f] 310)).heap->W.os=w1.os->W.tape=w1.tape->W.output=w1.output->Cl 265 #[v,.int .i64 i,.slice (some ⟨w1.heap.size,0,none⟩) 1 1] W λe w'=>∃m t n d,e=.returned (.slice m t n)/\d=.slice m t n/\
   (w'.cell? ⟨c,ho,none⟩=some v/\w'.frozen? ⟨c,ho,none⟩=false)/\Hid ((w'.setCell ⟨c,ho,none⟩ d).cell? ⟨c,ho,none⟩=some d/\Sl (w'.setCell ⟨c,ho,none⟩ d) 310 3 d (es.length+1) (Dm (es.take i++(f,r)::es.drop i))/\I0 w (w'.setCell ⟨c,ho,none⟩ d) c ho v d/\Dk w v d):=λW A h1 h2 h3=>by
  have aa:Sl W 310 3 v es.length (Dm es):=(Sl.of_owns (D.owns.alloc _)).heap A;have hR:FX W w1.heap.size 310 (Hl (f,r)):=by unfold FX;rw[A];exact CQ w1 _
  refine(Ng W v es i (f,r) w1.heap.size aa u.1 U hR (λe=>by have:=D.lt e;omega)).mono ?_;rintro e w'⟨d,rfl,Q,s,af⟩;have ab:w.heap.size<=W.heap.size:=by rw[A];simp;omega
  have F:∀k,k<w.heap.size->v.ownBlock≠some k->w'.heap[k]?=w.heap[k]? := λk G ae=>by
   rw[s.block k (by omega) (λe=>ae e.symm),A,BH _ _ _ (by omega),l.block k G]
  have V:Dk w v d:=λg ad=>(af g ad).imp id (λh=>by omega)
  obtain⟨K,L,M⟩:=UP (ho:=ho) q H Q V (s.os.trans (h1.trans l.os)) (s.tape.trans (h2.trans l.tape)) (s.output.trans (h3.trans l.output)) (Af ab s.size) F;obtain⟨m,t,n,O⟩:=Q.shape;exact⟨m,t,n,d,by rw[O],O,⟨(Ay (w:=w) (a:=⟨c,ho,none⟩) (F c B H)).trans q,(C8 (w:=w) (a:=⟨c,ho,none⟩) (F c B H)).trans hf⟩,K,L,M,V⟩
 have J:=Db (Zl7 r I u);have T:(es.take i++(f,r)::es.drop i).length=es.length+1:=(Da J).2.1;have N:=Db T;have ah:c<w1.heap.size:=by omega
 have Z:=Db S;clear T z P u C D I X R E y l S;go_wp2
 go_region_with (go_at_call 265;refine(Da Z _ (by exact rfl) (by exact rfl) (by exact rfl) (by exact rfl)).mono ?_;rintro e w2⟨m,t,n,d,rfl,rfl,⟨ai,aj⟩,Y⟩)
 all_goals (
  go_end0
  obtain⟨K,L,M,m4⟩:=Da Y;exact⟨rfl,_,_,K,by rw[Da N];exact L,(Da J).1,Da N,(Da J).2.2,m4,M⟩)
theorem Ni(w:World)(v:Value)(es:LF)(i:Nat)(x:Int×VF)(d:Nat)(A:Sl w 293 3 v es.length (Dq es))(hi:i<=es.length)(t:es.length<=10000)(y:FX w d 293 (G9 x))(H:v.ownBlock≠some d):
  Cl 267 #[v,.int .i64 i,.slice (some ⟨d,0,none⟩) 1 1] w λe w'=>∃l,e=.returned l/\Sl w' 293 3 l (es.length+1) (Dq (es.take i++x::es.drop i))/\w.grownBy w' v.ownBlock/\Dk w v l:=by
 have o:∀u∈G9 x,u.oneCell'=true:=λu J=>N7 [x] u (by simpa [Dq] using J)
 have f:Dq (es.take i++x::es.drop i)=(Dq es).take (i*3)++G9 x++(Dq es).drop (i*3):=by
  rw[WY,WX,XA,Ax];rfl
 have j:=RU es;rcases Bh i es.length with n|aa
 ·rcases A.2 with⟨rfl,h0⟩|⟨g,m,L,rfl,z,E,B,c,s⟩
  ·omega
  ·have I:d≠g:=λe=>H (by simp[Value.ownBlock,e])
   have C:((Dq es).take (i*3)++G9 x++(Dq es).drop (i*3)).length=(es.length+1)*3:=by
    simp only[Ab,An,Az,j];simp[G9];omega
   rcases Bh m (es.length+1) with F|D
   ·refine(ZkB w g es.length m (Dq es) L i d (G9 x) z c s n E F t y rfl (N7 es) o).mono ?_;rintro e w'⟨G,Z,rfl,p,q,a,r,b⟩;refine⟨_,rfl,⟨by rw[f];exact C,.inr ⟨_,G,_,rfl,r,p,q,?_,?_⟩⟩,⟨b.os,b.tape,b.output,b.size,λk h _=>b.block k h (by simp;omega)⟩,λk h => .inr (by simp[Value.ownBlock]at h;omega)⟩
    ·rw[DX,DX,a]
     ·rw[a];simp[G9];omega
     ·rw[DX (by rw[a];simp[G9];omega),a,Az,j];omega
    ·rw[f];exact S9 Z (Dq es) (G9 x) i es.length j n (by rw[a];omega) rfl
   ·refine(Zma w g es.length m (Dq es) L i d (G9 x) z c s n D B t y rfl (N7 es) o I).mono ?_;rintro e w'⟨rfl,r,b⟩;refine⟨_,rfl,⟨by rw[f];exact C,.inr ⟨_,m,_,rfl,r,D,B,?_,?_⟩⟩,b,λk h => .inl h⟩
    ·rw[DX,DX,c]
     ·rw[Az,j,c];omega
     ·rw[DX (by rw[Az,j,c];omega),c];simp[G9];omega
    ·rw[f];exact Sj L (Dq es) (G9 x) i es.length (by rw[c];omega) s n rfl
 ·obtain rfl:i=es.length:=by omega
  refine(Zmd w v es.length (Dq es) d (G9 x) A t y rfl o).mono ?_;rintro e w'⟨l,rfl,p,q,a⟩;refine⟨l,rfl,?_,q,a⟩;rw[f,Ag (by omega),B8 (by omega),Cf];exact p
theorem Nq(w:World)(v:Value)(es:LF)(i:Nat)(o:Sl w 293 3 v es.length (Dq es))(j:i<es.length)(r:es.length<=10000):
  Cl 269 #[v,.int .i64 i,.int .i64 ((i:Int)+1)] w λe w'=>∃v',e=.returned v'/\Sl w' 293 3 v' (es.length-1) (Dq (es.take i++es.drop (i+1)))/\w.grownBy w' v.ownBlock/\Dk w v v':=by
 have f:Dq (es.take i++es.drop (i+1))=(Dq es).take (i*3)++(Dq es).drop ((i+1)*3):=by
  rw[WY,WX,XA]
 have b:=RU es;rcases o.2 with⟨rfl,h0⟩|⟨g,c,L,rfl,n,p,h,a,d⟩
 ·omega
 ·refine(Mv w g es.length c (Dq es) L i n a d j p h r (N7 es)).mono ?_;rintro e w'⟨rfl,l,m⟩;refine⟨_,rfl,⟨?_,.inr ⟨_,c,_,rfl,l,by omega,h,?_,?_⟩⟩,m,λk q => .inl q⟩
  ·rw[f];simp only[Ab,An,Az,b];omega
  ·rw[DX,DX,a]
   ·rw[Az,b,a];omega
   ·rw[DX (by rw[Az,b,a];omega),a];simp;omega
  ·rw[f];exact Si L (Dq es) _ i es.length (by rw[a];omega) d j
theorem UK(w:World)(a ho:Nat)(v:Value)(es:LF)(c:Int)(hc:w.cell? ⟨a,ho,none⟩=some v)(f:Sl w 293 3 v es.length (Dq es))(g:es.length<=10000)(h:Gm es):
  Cl 221 #[.pointer (some ⟨a,ho,none⟩),.int .i64 c] w λe w'=>∃(i:Nat) (b:Bool),e=.returned (.tuple #[.int .i64 i,.bool b])/\Lg es c i b/\Bw w w':=by
 have k:=MZ v es c w f g h;clear f g h;go_enter func221,ntmps221;go_wp2_with fail;refine k.mono ?_;rintro e w'⟨i,b,rfl,d,a⟩;have j:=Db d;clear d;go_wp2
 go_ret2
 exact⟨i,b,rfl,Da j,a⟩
def MJ(es:LF)(key:Int)(r:VF)(b:Bool):Prop:=(b=true/\(key,r)∈es)\/(b=false/\r=⟨none,0,0,0⟩/\∀x∈es,x.1≠key)
theorem Lg.here{es:LF}{a:Int}{i:Nat}(h:Lg es a i true):∃r,es[i]?=some (a,r):=by
 obtain⟨x,b,c⟩:=h.2.2.2.1 rfl;exact⟨x.2,by rw[b,<-c]⟩
theorem Lg.not{es:LF}{j:Int}{i:Nat}(l:Gm es)(h:Lg es j i false):∀x∈es,x.1≠j:=by
 intro x m e;obtain⟨k,a⟩:=BU m;rcases Bh k i with g|g
 ·have:=h.2.1 k x g a;rw[e,Qb]at this;cases this
 ·rcases Bh i k with b|b
  ·have f:i<es.length:=by have:=(Ae.1 a).1;omega
   have c:=l i k _ x b (Ac f) a;have d:=h.2.2.1 i _ (Aa _) (Ac f);rw[e]at c;rw[c]at d;cases d
  ·obtain rfl:k=i:=by omega
   have:=h.2.2.2.2 ⟨x,a,e⟩
   cases this
theorem LN(w:World)(a ho:Nat)(v:Value)(es:LF)(y:Int)(n:w.cell? ⟨a,ho,none⟩=some v)(l:Sl w 293 3 v es.length (Dq es))(P:es.length<=10000)(H:Gm es):
  Cl 175 #[.pointer (some ⟨a,ho,none⟩),.int .i64 y] w λe w'=>∃(r:VF) (b:Bool),e=.returned (.tuple #[.agg #[.slice r.a r.l r.c,.int .i64 r.f],.bool b])/\MJ es y r b/\Bw w w':=by
 have E:a<w.heap.size:=Am _ _ n;have m:∀o,Bw w (w.alloc o):=λo=>(Ak _ _).alloc (Aa _) o
 have F:=λo=>UK (w.alloc o) a ho v es y (((m o).cell (p:=⟨a,ho,none⟩) E).trans n) (Sl.of_owns (l.owns.alloc o)) P H
 go_enter func175,ntmps175;go_wp2_with fail;refine(F _).mono ?_;rintro e w1⟨i,b,rfl,k,C⟩;have c:Below (w.heap.size+1) (w.alloc (.cells #[.slice none 0 0,.int .i64 0] 217)) w1:=by simpa[Bw]using C
 have h:∀p:Addr,p.block<w.heap.size->w1.cell? p=w.cell? p:=λp Q=>(c.cell (p:=p) (by omega)).trans ((m _).cell Q)
 have z:∀j,w1.cell? ⟨w.heap.size,j,none⟩=(#[.slice none 0 0,.int .i64 0]:Array Value)[j]? := λj=>(c.cell (p:=⟨w.heap.size,j,none⟩) (by simp)).trans (CT _ _ _ _ rfl)
 have J:w1.cell? ⟨w.heap.size,0,none⟩=some (.slice none 0 0):=z 0;have K:w1.cell? ⟨w.heap.size,1,none⟩=some (.int .i64 0):=z 1;have f:∀j,w1.frozen? ⟨w.heap.size,j,none⟩=false:=λj=>(c.frozen (p:=⟨w.heap.size,j,none⟩) (by simp)).trans (World.frozen?_alloc_at _ _ _ _ rfl)
 have f0:=f 0;have f1:=f 1;have G:Bw w w1:=(m _).trans (c.mono (by omega));have I:w.heap.size<w1.heap.size:=by have:=c.size;simp at this;omega
 clear z f F m C
 cases b with
 |false=>
  have N:=Db (Lg.not H k);clear k l h;obtain⟨R,A,B⟩:=LH w1 w.heap.size (.slice none 0 0) (.int .i64 0) _ _ J K;have S:=λo=>(OE ((w1.setCell ⟨w.heap.size,0,none⟩ (.slice none 0 0)).setCell ⟨w.heap.size,1,none⟩ (.int .i64 0)) o ⟨w.heap.size,0,none⟩ (by simpa using I)).trans A
  have T:=λo=>(OE ((w1.setCell ⟨w.heap.size,0,none⟩ (.slice none 0 0)).setCell ⟨w.heap.size,1,none⟩ (.int .i64 0)) o ⟨w.heap.size,1,none⟩ (by simpa using I)).trans B
  go_wp2;exact Ap (v:=.tuple #[.agg #[.slice none 0 0,.int .i64 0],.bool false]) (by simp[results,results175,go_sem,S,T]) rfl
   ⟨⟨none,0,0,0⟩,false,rfl,.inr ⟨rfl,rfl,Da N⟩,((G.setCell (p:=⟨w.heap.size,0,none⟩) (Aa _) _).setCell (p:=⟨w.heap.size,1,none⟩) (Aa _) _).alloc (by simp;omega) _⟩
 |true=>
  obtain⟨r,d⟩:=k.here;rcases l.2 with⟨rfl,h0⟩|⟨g,aa,L,rfl,t,ab,ac,O,D⟩
  ·have:=(Ae.1 d).1;omega
  ·have x:∀j u,(Dq es)[j]?=some u->w1.cell? ⟨g,j,none⟩=some u:=λj u s=>by
    rw[h _ t.lt,t.cell];rw[<-D,Ao]at s
    split at s
    ·exact s
    ·cases s
   have q:=QL es i _ d;have q0:=(h ⟨a,ho,none⟩ E).trans n;have q1:=x _ _ q.2.1;have q2:=x _ _ q.2.2;have hi:i<es.length:=(Ae.1 d).1;have M:=Db (Ar d);clear q x t O D l k d h n;obtain⟨R,A,B⟩:=LH w1 w.heap.size (.slice r.a r.l r.c) (.int .i64 r.f) _ _ J K;go_wp2;exact Ap (v:=.tuple #[.agg #[.slice r.a r.l r.c,.int .i64 r.f],.bool true]) (by simp[results,results175,go_sem,A,B]) rfl
    ⟨r,true,rfl,.inl ⟨rfl,Da M⟩,(G.setCell (p:=⟨w.heap.size,0,none⟩) (Aa _) _).setCell (p:=⟨w.heap.size,1,none⟩) (Aa _) _⟩
theorem Zmb{es:LF}{d:Int}{i:Nat}(e:VF)(g:Gm es)(h:Lg es d i false):
  Gm (es.take i++(d,e)::es.drop i)/\(es.take i++(d,e)::es.drop i).length=es.length+1/\∀x,x∈es.take i++(d,e)::es.drop i↔x=(d,e)\/x∈es:=by
 have hi:=h.1;have u:=Lg.not g h;have q:∀k x,i<=k->es[k]?=some x->GK d x.1=true:=λk x s b=>by
  have a:=h.2.2.1 k x s b;have f:=u x (Ar b);exact Wj a f
 have t:(es.take i).length=i:=by rw[An];omega
 have p:∀k,(es.take i++(d,e)::es.drop i)[k]?=if k<i then es[k]? else if k=i then some (d,e) else es[k-1]? := λk=>by
  by_cases a:k<i
  ·rw[if_pos a,AW (by omega),Ao,if_pos a]
  ·rw[if_neg a,AS (by omega),t];by_cases f:k=i
   ·rw[if_pos f];simp[f]
   ·rw[if_neg f,show k-i=(k-i-1)+1 by omega,CX,Bf]
    congr 1;omega
 refine⟨λj k x y r b c=>?_,?_,λx=>?_⟩
 ·rw[p]at b c;by_cases n:j<i
  ·rw[if_pos n]at b;by_cases l:k<i
   ·rw[if_pos l]at c;exact g j k x y r b c
   ·rw[if_neg l]at c;by_cases m:k=i
    ·rw[if_pos m]at c;cases c;exact h.2.1 j x n b
    ·rw[if_neg m]at c;exact g j (k-1) x y (by omega) b c
  ·rw[if_neg n]at b;have l:¬k<i:=by omega
   have m:¬k=i:=by omega
   rw[if_neg l,if_neg m]at c;by_cases o:j=i
   ·rw[if_pos o]at b;cases b;exact q (k-1) y (by omega) c
   ·rw[if_neg o]at b;exact g (j-1) (k-1) x y (by omega) b c
 ·simp;omega
 ·have:es=es.take i++es.drop i:=(Co i es).symm;constructor
  ·intro b;simp only[Aq,AC]at b;rcases b with a|a|a
   ·exact .inr (Bv a)
   ·exact .inl a
   ·exact .inr (BG a)
  ·intro b;simp only[Aq,AC];rcases b with a|a
   ·exact .inr (.inl a)
   ·rw[this,Aq]at a;rcases a with a|a
    ·exact .inl a
    ·exact .inr (.inr a)
theorem Yt(w:World)(c ho:Nat)(v:Value)(es:LF)(f:Int)(r:VF)(q:w.cell? ⟨c,ho,none⟩=some v)(hf:w.frozen? ⟨c,ho,none⟩=false)(H:v.ownBlock≠some c)(C:Sl w 293 3 v es.length (Dq es))(U:es.length<=10000)(I:Gm es)(X:∀x∈es,x.1≠f):
  Cl 228 #[.pointer (some ⟨c,ho,none⟩),.int .i64 f,.agg #[.slice r.a r.l r.c,.int .i64 r.f]] w λe w'=>e=.returned (.tuple #[])/\∃d es',w'.cell? ⟨c,ho,none⟩=some d/\Sl w' 293 3 d es'.length (Dq es')/\
   Gm es'/\es'.length=es.length+1/\(∀x,x∈es'↔x=(f,r)\/x∈es)/\Dk w v d/\I0 w w' c ho v d:=by
 have B:c<w.heap.size:=Am _ _ q;have E:∀o,Bw w (w.alloc o):=λo=>(Ak _ _).alloc (Aa _) o
 have R:=λo=>UK (w.alloc o) c ho v es f (((E o).cell (p:=⟨c,ho,none⟩) B).trans q) (Sl.of_owns (C.owns.alloc o)) U I
 go_enter func228,ntmps228;go_wp2_with fail;refine(R _).mono ?_;rintro e w1⟨i,b,rfl,u,P⟩;have ac:b=false:=by
  cases b with
  |false=>rfl
  |true=>obtain⟨r',ag⟩:=u.here;exact absurd rfl (X _ (Ar ag))
 subst ac;have y:Below (w.heap.size+1) (w.alloc (.cells #[.slice r.a r.l r.c,.int .i64 r.f] 217)) w1:=by simpa[Bw]using P
 have l:Bw w w1:=(E _).trans (y.mono (by omega));have q0:w1.cell? ⟨c,ho,none⟩=some v:=(l.cell (p:=⟨c,ho,none⟩) B).trans q;have z:∀j,w1.cell? ⟨w.heap.size,j,none⟩=(#[.slice r.a r.l r.c,.int .i64 r.f]:Array Value)[j]? := λj=>(y.cell (p:=⟨w.heap.size,j,none⟩) (by simp)).trans (CT _ _ _ _ rfl)
 have z0:w1.cell? ⟨w.heap.size,0,none⟩=some (.slice r.a r.l r.c):=z 0;have z1:w1.cell? ⟨w.heap.size,1,none⟩=some (.int .i64 r.f):=z 1;have ak:w.heap.size<w1.heap.size:=by have:=y.size;simp at this;omega
 have D:Sl w1 293 3 v es.length (Dq es):=C.kept (λk G _=>l.block k G);have S:∀W:World,W.heap=(w1.alloc (.cells #[.int .i64 f,.slice r.a r.l r.c,.int .i64 r.f] 293)).heap->W.os=w1.os->W.tape=w1.tape->W.output=w1.output->Cl 267 #[v,.int .i64 i,.slice (some ⟨w1.heap.size,0,none⟩) 1 1] W λe w'=>∃m t n d,e=.returned (.slice m t n)/\d=.slice m t n/\
   (w'.cell? ⟨c,ho,none⟩=some v/\w'.frozen? ⟨c,ho,none⟩=false)/\Hid ((w'.setCell ⟨c,ho,none⟩ d).cell? ⟨c,ho,none⟩=some d/\Sl (w'.setCell ⟨c,ho,none⟩ d) 293 3 d (es.length+1) (Dq (es.take i++(f,r)::es.drop i))/\I0 w (w'.setCell ⟨c,ho,none⟩ d) c ho v d/\Dk w v d):=λW A h1 h2 h3=>by
  have aa:Sl W 293 3 v es.length (Dq es):=(Sl.of_owns (D.owns.alloc _)).heap A;have hR:FX W w1.heap.size 293 (G9 (f,r)):=by unfold FX;rw[A];exact CQ w1 _
  refine(Ni W v es i (f,r) w1.heap.size aa u.1 U hR (λe=>by have:=D.lt e;omega)).mono ?_;rintro e w'⟨d,rfl,Q,s,af⟩;have ab:w.heap.size<=W.heap.size:=by rw[A];simp;omega
  have F:∀k,k<w.heap.size->v.ownBlock≠some k->w'.heap[k]?=w.heap[k]? := λk G ae=>by
   rw[s.block k (by omega) (λe=>ae e.symm),A,BH _ _ _ (by omega),l.block k G]
  have V:Dk w v d:=λg ad=>(af g ad).imp id (λh=>by omega)
  obtain⟨K,L,M⟩:=UP (ho:=ho) q H Q V (s.os.trans (h1.trans l.os)) (s.tape.trans (h2.trans l.tape)) (s.output.trans (h3.trans l.output)) (Af ab s.size) F;obtain⟨m,t,n,O⟩:=Q.shape;exact⟨m,t,n,d,by rw[O],O,⟨(Ay (w:=w) (a:=⟨c,ho,none⟩) (F c B H)).trans q,(C8 (w:=w) (a:=⟨c,ho,none⟩) (F c B H)).trans hf⟩,K,L,M,V⟩
 have J:=Db (Zmb r I u);have T:(es.take i++(f,r)::es.drop i).length=es.length+1:=(Da J).2.1;have N:=Db T;have ah:c<w1.heap.size:=by omega
 have Z:=Db S;clear T z P u C D I X R E y l S;go_wp2
 go_region_with (go_at_call 267;refine(Da Z _ (by exact rfl) (by exact rfl) (by exact rfl) (by exact rfl)).mono ?_;rintro e w2⟨m,t,n,d,rfl,rfl,⟨ai,aj⟩,Y⟩)
 all_goals (
  go_end0
  obtain⟨K,L,M,m4⟩:=Da Y;exact⟨rfl,_,_,K,by rw[Da N];exact L,(Da J).1,Da N,(Da J).2.2,m4,M⟩)
theorem FX.set{w:World}{g:Nat}{e:TypeId}{L:F0}(h:FX w g e L)(j:Nat)(u:Value):FX (w.setCell ⟨g,j,none⟩ u) g e (L.set j u):=by
 unfold FX at h ⊢;simp only[World.setCell,Fq,if_true,h,Fe];simp
theorem Lp(w:World)(d ho:Nat)(v:Value)(n:Nat)(xs:F0)(hc:w.cell? ⟨d,ho,none⟩=some v)(b:Sl w 310 3 v n xs):
  Cl 178 #[.pointer (some ⟨d,ho,none⟩)] w λe w'=>e=.returned (.int .i64 n)/\w'=w:=by
 have f:∃a m c,v=.slice a m c/\m=n:=by
  rcases b.2 with⟨rfl,rfl⟩|⟨g',aa,L,rfl,hr,_⟩
  ·exact⟨_,_,_,rfl,rfl⟩
  ·exact⟨_,_,_,rfl,rfl⟩
 obtain⟨a,m,c,rfl,rfl⟩:=f;clear b;go_enter func178,ntmps178;go_wp2;go_ret;exact⟨rfl,rfl⟩
theorem ZmC{es:LS}{o:By}{i:Nat}(f:Ge es)(h:LC es o i true):
  Ge (es.take i++es.drop (i+1))/\(es.take i++es.drop (i+1)).length+1=es.length/\∀x,x∈es.take i++es.drop (i+1)↔x∈es/\x.1≠o:=by
 obtain⟨r,l⟩:=h.here;have hi:i<es.length:=(Ae.1 l).1;have q:(es.take i).length=i:=by rw[An];omega
 have g:∀k,(es.take i++es.drop (i+1))[k]?=if k<i then es[k]? else es[k+1]? := λk=>by
  by_cases a:k<i
  ·rw[if_pos a,AW (by omega),Ao,if_pos a]
  ·rw[if_neg a,AS (by omega),q,Bf]
   congr 1;omega
 refine⟨λj k x y p c d=>?_,by simp;omega,λx=>?_⟩
 ·rw[g]at c d;by_cases m:j<i
  ·rw[if_pos m]at c;by_cases n:k<i
   ·rw[if_pos n]at d;exact f j k x y p c d
   ·rw[if_neg n]at d;exact f j (k+1) x y (by omega) c d
  ·rw[if_neg m]at c;rw[if_neg (by omega)]at d;exact f (j+1) (k+1) x y (by omega) c d
 ·constructor
  ·intro c;obtain⟨k,b⟩:=BU c;rw[g]at b;by_cases a:k<i
   ·rw[if_pos a]at b;refine⟨Ar b,λe=>?_⟩;have:=f k i x _ a b l;rw[e,KM]at this;cases this
   ·rw[if_neg a]at b;refine⟨Ar b,λe=>?_⟩;have:=f i (k+1) _ x (by omega) l b;rw[e,KM]at this;cases this
  ·rintro⟨c,s⟩;obtain⟨k,b⟩:=BU c;rcases CB k i with a|a|a
   ·exact Ar (i:=k) (by rw[g,if_pos a];exact b)
   ·subst a;rw[l]at b;cases b;exact absurd rfl s
   ·exact Ar (i:=k-1) (by rw[g,if_neg (by omega),show k-1+1=k by omega];exact b)
theorem Nm(w:World)(c ho:Nat)(v:Value)(es:LS)(u:By)(r:VS)(m:w.cell? ⟨c,ho,none⟩=some v)(T:w.frozen? ⟨c,ho,none⟩=false)(C:v.ownBlock≠some c)(y:Sl w 310 3 v es.length (Dm es))(N:es.length<=10000)(s:Ge es)(L:(u,r)∈es):
  Cl 233 #[.pointer (some ⟨c,ho,none⟩),.string u] w λe w'=>e=.returned (.tuple #[])/\∃d es',w'.cell? ⟨c,ho,none⟩=some d/\Sl w' 310 3 d es'.length (Dm es')/\
   Ge es'/\es'.length+1=es.length/\(∀x,x∈es'↔x∈es/\x.1≠u)/\Dk w v d/\I0 w w' c ho v d:=by
 have A:c<w.heap.size:=Am _ _ m;have K:=Pa w c ho v es u m y N s;go_enter func233,ntmps233;go_wp2_with fail;refine K.mono ?_;rintro e w1⟨i,b,rfl,q,f⟩;have S:b=true:=by
  cases b with
  |true=>rfl
  |false=>exact absurd rfl (LC.not s q _ L)
 subst S;have V:i<es.length:=by obtain⟨r',Y⟩:=q.here;exact(Ae.1 Y).1
 have q0:w1.cell? ⟨c,ho,none⟩=some v:=(f.cell (p:=⟨c,ho,none⟩) A).trans m;have I:Sl w1 310 3 v es.length (Dm es):=y.kept (λk B _=>f.block k B);have J:Cl 268 #[v,.int .i64 i,.int .i64 ((i:Int)+1)] w1 λe w'=>∃j o l d,e=.returned (.slice j o l)/\d=.slice j o l/\
   (w'.cell? ⟨c,ho,none⟩=some v/\w'.frozen? ⟨c,ho,none⟩=false)/\Hid ((w'.setCell ⟨c,ho,none⟩ d).cell? ⟨c,ho,none⟩=some d/\Sl (w'.setCell ⟨c,ho,none⟩ d) 310 3 d (es.length-1) (Dm (es.take i++es.drop (i+1)))/\I0 w (w'.setCell ⟨c,ho,none⟩ d) c ho v d/\Dk w v d):=by
  refine(Np w1 v es i I V N).mono ?_;rintro e w'⟨d,rfl,H,n,X⟩;have z:∀k,k<w.heap.size->v.ownBlock≠some k->w'.heap[k]?=w.heap[k]? := λk B W=>by
   rw[n.block k (by have:=f.size;omega) (λe=>W e.symm),f.block k B]
  have O:Dk w v d:=λg U=>(X g U).imp id (λh=>by have:=f.size;omega)
  obtain⟨D,E,F⟩:=UP (ho:=ho) m C H O (n.os.trans f.os) (n.tape.trans f.tape) (n.output.trans f.output) (Af f.size n.size) z;obtain⟨j,o,l,G⟩:=H.shape;exact⟨j,o,l,d,by rw[G],G,⟨(Ay (w:=w) (a:=⟨c,ho,none⟩) (z c A C)).trans m,(C8 (w:=w) (a:=⟨c,ho,none⟩) (z c A C)).trans T⟩,D,E,F,O⟩
 have t:=Db (ZmC s q);have M:(es.take i++es.drop (i+1)).length=es.length-1:=by have:=(Da t).2.1;omega
 have R:=Db M;have P:=Db J;clear M q y I s L K f J;go_wp2_with(go_at_call 268;refine(Da P).mono ?_;rintro e w2⟨j,o,l,d,rfl,rfl,⟨aa,ab⟩,Q⟩)
 go_end0
 obtain⟨D,E,F,Z⟩:=Da Q;exact⟨rfl,_,_,D,by rw[Da R];exact E,(Da t).1,(Da t).2.1,(Da t).2.2,Z,F⟩
theorem OR(w:World)(d ho:Nat)(v:Value)(n:Nat)(xs:F0)(hc:w.cell? ⟨d,ho,none⟩=some v)(b:Sl w 293 3 v n xs):
  Cl 144 #[.pointer (some ⟨d,ho,none⟩)] w λe w'=>e=.returned (.int .i64 n)/\w'=w:=by
 have f:∃a m c,v=.slice a m c/\m=n:=by
  rcases b.2 with⟨rfl,rfl⟩|⟨g',aa,L,rfl,hr,_⟩
  ·exact⟨_,_,_,rfl,rfl⟩
  ·exact⟨_,_,_,rfl,rfl⟩
 obtain⟨a,m,c,rfl,rfl⟩:=f;clear b;go_enter func144,ntmps144;go_wp2;go_ret;exact⟨rfl,rfl⟩
theorem ZmD{es:LF}{o:Int}{i:Nat}(f:Gm es)(h:Lg es o i true):
  Gm (es.take i++es.drop (i+1))/\(es.take i++es.drop (i+1)).length+1=es.length/\∀x,x∈es.take i++es.drop (i+1)↔x∈es/\x.1≠o:=by
 obtain⟨r,l⟩:=h.here;have hi:i<es.length:=(Ae.1 l).1;have q:(es.take i).length=i:=by rw[An];omega
 have g:∀k,(es.take i++es.drop (i+1))[k]?=if k<i then es[k]? else es[k+1]? := λk=>by
  by_cases a:k<i
  ·rw[if_pos a,AW (by omega),Ao,if_pos a]
  ·rw[if_neg a,AS (by omega),q,Bf]
   congr 1;omega
 refine⟨λj k x y p c d=>?_,by simp;omega,λx=>?_⟩
 ·rw[g]at c d;by_cases m:j<i
  ·rw[if_pos m]at c;by_cases n:k<i
   ·rw[if_pos n]at d;exact f j k x y p c d
   ·rw[if_neg n]at d;exact f j (k+1) x y (by omega) c d
  ·rw[if_neg m]at c;rw[if_neg (by omega)]at d;exact f (j+1) (k+1) x y (by omega) c d
 ·constructor
  ·intro c;obtain⟨k,b⟩:=BU c;rw[g]at b;by_cases a:k<i
   ·rw[if_pos a]at b;refine⟨Ar b,λe=>?_⟩;have:=f k i x _ a b l;rw[e,Qb]at this;cases this
   ·rw[if_neg a]at b;refine⟨Ar b,λe=>?_⟩;have:=f i (k+1) _ x (by omega) l b;rw[e,Qb]at this;cases this
  ·rintro⟨c,s⟩;obtain⟨k,b⟩:=BU c;rcases CB k i with a|a|a
   ·exact Ar (i:=k) (by rw[g,if_pos a];exact b)
   ·subst a;rw[l]at b;cases b;exact absurd rfl s
   ·exact Ar (i:=k-1) (by rw[g,if_neg (by omega),show k-1+1=k by omega];exact b)
theorem Nn(w:World)(c ho:Nat)(v:Value)(es:LF)(u:Int)(r:VF)(m:w.cell? ⟨c,ho,none⟩=some v)(T:w.frozen? ⟨c,ho,none⟩=false)(C:v.ownBlock≠some c)(y:Sl w 293 3 v es.length (Dq es))(N:es.length<=10000)(s:Gm es)(L:(u,r)∈es):
  Cl 234 #[.pointer (some ⟨c,ho,none⟩),.int .i64 u] w λe w'=>e=.returned (.tuple #[])/\∃d es',w'.cell? ⟨c,ho,none⟩=some d/\Sl w' 293 3 d es'.length (Dq es')/\
   Gm es'/\es'.length+1=es.length/\(∀x,x∈es'↔x∈es/\x.1≠u)/\Dk w v d/\I0 w w' c ho v d:=by
 have A:c<w.heap.size:=Am _ _ m;have K:=UK w c ho v es u m y N s;go_enter func234,ntmps234;go_wp2_with fail;refine K.mono ?_;rintro e w1⟨i,b,rfl,q,f⟩;have S:b=true:=by
  cases b with
  |true=>rfl
  |false=>exact absurd rfl (Lg.not s q _ L)
 subst S;have V:i<es.length:=by obtain⟨r',Y⟩:=q.here;exact(Ae.1 Y).1
 have q0:w1.cell? ⟨c,ho,none⟩=some v:=(f.cell (p:=⟨c,ho,none⟩) A).trans m;have I:Sl w1 293 3 v es.length (Dq es):=y.kept (λk B _=>f.block k B);have J:Cl 269 #[v,.int .i64 i,.int .i64 ((i:Int)+1)] w1 λe w'=>∃j o l d,e=.returned (.slice j o l)/\d=.slice j o l/\
   (w'.cell? ⟨c,ho,none⟩=some v/\w'.frozen? ⟨c,ho,none⟩=false)/\Hid ((w'.setCell ⟨c,ho,none⟩ d).cell? ⟨c,ho,none⟩=some d/\Sl (w'.setCell ⟨c,ho,none⟩ d) 293 3 d (es.length-1) (Dq (es.take i++es.drop (i+1)))/\I0 w (w'.setCell ⟨c,ho,none⟩ d) c ho v d/\Dk w v d):=by
  refine(Nq w1 v es i I V N).mono ?_;rintro e w'⟨d,rfl,H,n,X⟩;have z:∀k,k<w.heap.size->v.ownBlock≠some k->w'.heap[k]?=w.heap[k]? := λk B W=>by
   rw[n.block k (by have:=f.size;omega) (λe=>W e.symm),f.block k B]
  have O:Dk w v d:=λg U=>(X g U).imp id (λh=>by have:=f.size;omega)
  obtain⟨D,E,F⟩:=UP (ho:=ho) m C H O (n.os.trans f.os) (n.tape.trans f.tape) (n.output.trans f.output) (Af f.size n.size) z;obtain⟨j,o,l,G⟩:=H.shape;exact⟨j,o,l,d,by rw[G],G,⟨(Ay (w:=w) (a:=⟨c,ho,none⟩) (z c A C)).trans m,(C8 (w:=w) (a:=⟨c,ho,none⟩) (z c A C)).trans T⟩,D,E,F,O⟩
 have t:=Db (ZmD s q);have M:(es.take i++es.drop (i+1)).length=es.length-1:=by have:=(Da t).2.1;omega
 have R:=Db M;have P:=Db J;clear M q y I s L K f J;go_wp2_with(go_at_call 269;refine(Da P).mono ?_;rintro e w2⟨j,o,l,d,rfl,rfl,⟨aa,ab⟩,Q⟩)
 go_end0
 obtain⟨D,E,F,Z⟩:=Da Q;exact⟨rfl,_,_,D,by rw[Da R];exact E,(Da t).1,(Da t).2.1,(Da t).2.2,Z,F⟩
theorem Zlv{es:LF}{c:Int}{i:Nat}(d:VF)(m:Gm es)(h:Lg es c i true):
  Gm (es.set i (c,d))/\(es.set i (c,d)).length=es.length/\∀x,x∈es.set i (c,d)↔x=(c,d)\/x∈es/\x.1≠c:=by
 obtain⟨r,g⟩:=h.here;have t:i<es.length:=(Ae.1 g).1;have l:∀k,(es.set i (c,d))[k]?=if k=i then some (c,d) else es[k]? := λk=>by
  rw[Fl];by_cases e:i=k
  ·subst e;simp[t]
  ·rw[if_neg e,if_neg (λh=>e h.symm)]
 have o:∀(k:Nat) (x:Int×VF),(es.set i (c,d))[k]?=some x->∃y:Int×VF,es[k]?=some y/\y.1=x.1:=λk x b=>by
  rw[l]at b;by_cases e:k=i
  ·rw[if_pos e]at b;cases b;exact⟨(c,r),by rw[e];exact g,rfl⟩
  ·rw[if_neg e]at b;exact⟨x,b,rfl⟩
 refine⟨λj k x y u b w=>?_,by simp,λx=>?_⟩
 ·obtain⟨z,f,p⟩:=o j x b;obtain⟨A,q,s⟩:=o k y w;rw[<-p,<-s];exact m j k z A u f q
 ·constructor
  ·intro b;obtain⟨k,a⟩:=BU b;rw[l]at a;by_cases e:k=i
   ·rw[if_pos e]at a;cases a;exact .inl rfl
   ·rw[if_neg e]at a;refine .inr ⟨Ar a,λn=>?_⟩;rcases Nat.lt_or_gt_of_ne e with f|f
    ·have:=m k i x _ f a g;rw[n,Qb]at this;cases this
    ·have:=m i k _ x f g a;rw[n,Qb]at this;cases this
  ·rintro(rfl|⟨b,v⟩)
   ·exact Ar (i:=i) (by rw[l,if_pos rfl])
   ·obtain⟨k,a⟩:=BU b;refine Ar (i:=k) ?_;rw[l,if_neg (λe=>?_)]
    ·exact a
    ·subst e;rw[g]at a;cases a;exact v rfl
theorem ZkN(es:LF)(i:Nat)(b:Int)(c r:VF)(h:es[i]?=some (b,c)):((Dq es).set (i*3+1) (.slice r.a r.l r.c)).set (i*3+2) (.int .i64 r.f)=Dq (es.set i (b,r)):=by
 induction es generalizing i with
 |nil=>simp at h
 |cons a l ih=>
  cases i with
  |zero=>simp at h;subst h;simp[Dq,G9]
  |succ i=>
   simp at h;have:=ih i h;simp only[Dq,A1,List.set_cons_succ]at this ⊢;rw[<-this];rw[EM _ _ (by simp[G9];omega),EM _ _ (by simp[G9];omega)];simp only[G9,Al,AK];rw[show(i+1)*3+1-(0+1+1+1)=i*3+1 by omega,show(i+1)*3+2-(0+1+1+1)=i*3+2 by omega]
theorem ZH(w:World)(c ho:Nat)(v:Value)(es:LF)(d:Int)(r0 r:VF)(F:w.cell? ⟨c,ho,none⟩=some v)(aa:v.ownBlock≠some c)(s:Sl w 293 3 v es.length (Dq es))(hn:es.length<=10000)(t:Gm es)(Q:(d,r0)∈es):
  Cl 228 #[.pointer (some ⟨c,ho,none⟩),.int .i64 d,.agg #[.slice r.a r.l r.c,.int .i64 r.f]] w λe w'=>e=.returned (.tuple #[])/\∃es',w'.cell? ⟨c,ho,none⟩=some v/\Sl w' 293 3 v es'.length (Dq es')/\
   Gm es'/\es'.length=es.length/\(∀x,x∈es'↔x=(d,r)\/x∈es/\x.1≠d)/\w.grownBy w' v.ownBlock:=by
 have O:c<w.heap.size:=Am _ _ F;have E:∀o,Bw w (w.alloc o):=λo=>(Ak _ _).alloc (Aa _) o
 have P:=λo=>UK (w.alloc o) c ho v es d (((E o).cell (p:=⟨c,ho,none⟩) O).trans F) (Sl.of_owns (s.owns.alloc o)) hn t
 go_enter func228,ntmps228;go_wp2_with fail;refine(P _).mono ?_;rintro e w1⟨i,b,rfl,m,J⟩;have V:b=true:=by
  cases b with
  |true=>rfl
  |false=>exact absurd rfl (Lg.not t m _ Q)
 subst V;obtain⟨r1,H⟩:=m.here;have hi:i<es.length:=(Ae.1 H).1;have n:Below (w.heap.size+1) (w.alloc (.cells #[.slice r.a r.l r.c,.int .i64 r.f] 217)) w1:=by simpa[Bw]using J
 have f:Bw w w1:=(E _).trans (n.mono (by omega));have q0:w1.cell? ⟨c,ho,none⟩=some v:=(f.cell (p:=⟨c,ho,none⟩) O).trans F;have z:∀j,w1.cell? ⟨w.heap.size,j,none⟩=(#[.slice r.a r.l r.c,.int .i64 r.f]:Array Value)[j]? := λj=>(n.cell (p:=⟨w.heap.size,j,none⟩) (by simp)).trans (CT _ _ _ _ rfl)
 have z0:w1.cell? ⟨w.heap.size,0,none⟩=some (.slice r.a r.l r.c):=z 0;have z1:w1.cell? ⟨w.heap.size,1,none⟩=some (.int .i64 r.f):=z 1;have M:Sl w1 293 3 v es.length (Dq es):=s.kept (λk h _=>f.block k h);rcases M.2 with⟨rfl,h0⟩|⟨g,B,L,rfl,l,X,Y,K,C⟩
 ·omega
 ·have G:∀j u,(Dq es)[j]?=some u->w1.cell? ⟨g,j,none⟩=some u:=λj u y=>by
   rw[l.cell];rw[<-C,Ao]at y
   split at y
   ·exact y
   ·cases y
  have q:=QL es i _ H;have q1:=G _ _ q.2.1;have q2:=G _ _ q.2.2;have f1:=l.frozen (i*3+1);have f2:=l.frozen (i*3+2);have ae:g<w.heap.size:=s.lt rfl;have ab:c≠g:=λe=>aa (by simp[Value.ownBlock,e])
  have I:∀W:World,W.heap=((w1.setCell ⟨g,i*3+1,none⟩ (.slice r.a r.l r.c)).setCell ⟨g,i*3+2,none⟩ (.int .i64 r.f)).heap->W.os=w1.os->W.tape=w1.tape->W.output=w1.output->
    ∃es',W.cell? ⟨c,ho,none⟩=some (.slice (some ⟨g,0,none⟩) es.length B)/\Sl W 293 3 (.slice (some ⟨g,0,none⟩) es.length B) es'.length (Dq es')/\Gm es'/\es'.length=es.length/\(∀x,x∈es'↔x=(d,r)\/x∈es/\x.1≠d)/\w.grownBy W (some g):=λW D S T U=>by
   obtain⟨p1,A,p3⟩:=Zlv r t m;have N:∀k,k≠g->W.heap[k]?=w1.heap[k]? := λk h=>by
    rw[D,Aw _ _ _ _ h,Aw _ _ _ _ h]
   refine⟨es.set i (d,r),?_,⟨RU _,.inr ⟨g,B,(L.set (i*3+1) (.slice r.a r.l r.c)).set (i*3+2) (.int .i64 r.f),?_,?_,?_,Y,?_,?_⟩⟩,p1,A,p3,?_⟩
   ·exact(Ay (w:=w1) (a:=⟨c,ho,none⟩) (N c ab)).trans q0
   ·rw[A]
   ·unfold FX;rw[D];exact(l.set _ _).set _ _
   ·rw[A];exact X
   ·simpa using K
   ·rw[A,<-ZkN es i d r1 r H,<-C,List.take_set,List.take_set]
   ·refine⟨S.trans f.os,T.trans f.tape,U.trans f.output,?_,λk h Z=>?_⟩
    ·rw[D];simpa [World.setCell] using f.size
    ·rw[N k (λe=>Z (by rw[e])),f.block k h]
  have R:=Db I;have af:w.heap.size<w1.heap.size:=by have:=n.size;simp at this;omega
  have ac:¬(g=w.heap.size):=by omega
  have ad:¬(w.heap.size=g):=by omega
  clear E P J n m s M l K C G q z t Q I f;go_wp2
  go_region
  all_goals (
   go_wp2;refine Ap (Eb rfl _ _ _) rfl ?_;exact⟨rfl,Da R _ rfl rfl rfl rfl⟩)
def Qk(n:Int):Bool:=decide ((97<=n/\n<=122)\/(48<=n/\n<=57)\/n=46\/n=95\/n=45)
def Lj(c:UInt8):Bool:=Qk (c.toNat:Int)
def DL(s:By):Bool:=!s.toList.isEmpty && !(s.toList==[46]) && !(s.toList==[46,46]) && decide (s.size<=12) && s.data.toList.all Lj
theorem ZnF(n:Int):Qk n=true↔((97<=n/\n<=122)\/(48<=n/\n<=57)\/n=46\/n=95\/n=45):=by simp[Qk]
theorem Xu(n:Int)(w:World):Cl 292 #[.int .u8 n] w λe w'=>e=.returned (.bool (Qk n))/\w'=w:=by
 obtain⟨b,h⟩:=ex (Qk n);have g:=ZnF n;rw[<-h]at g ⊢;have a:=Db g;clear g h;by_cases c:97<=n/\n<=122
 ·obtain⟨c,d⟩:=c;obtain rfl:b=true:=(Da a).2 (by omega);clear a;go_enter func292,ntmps292;go_wp2;go_ret;exact⟨rfl,rfl⟩
 ·by_cases d:48<=n/\n<=57
  ·obtain⟨d,f⟩:=d;obtain rfl:b=true:=(Da a).2 (by omega);clear a c;go_enter func292,ntmps292;go_wp2;go_ret;exact⟨rfl,rfl⟩
  ·by_cases f:n=46\/n=95\/n=45
   ·obtain rfl:b=true:=(Da a).2 (by omega);clear a c d;rcases f with rfl|rfl|rfl
    all_goals
     go_enter func292,ntmps292;go_wp2;go_ret;exact⟨rfl,rfl⟩
   ·obtain rfl:b=false:=by
     cases b with
     |false=>rfl
     |true=>have:=(Da a).1 rfl;omega
    clear a;have q1:(n==46)=false:=by rw[Bm];omega
    have q2:(n==95)=false:=by rw[Bm];omega
    have q3:(n==45)=false:=by rw[Bm];omega
    clear f;go_enter func292,ntmps292;go_wp2
    all_goals first|omega|(go_ret;exact⟨rfl,rfl⟩)
theorem Zhi(s:By)(k:Nat)(h:k<s.size)(a:(s.data.toList.take k).all Lj=true):(s.data.toList.take (k+1)).all Lj=Lj s[k]:=by
 have e:s.data.toList.take (k+1)=s.data.toList.take k++[s[k]]:=by
  rw[CL (by simpa using h)];rfl
 rw[e,List.all_append,a];simp
theorem ZmQ(s:By)(k:Nat)(h:k<s.size)(a:Lj s[k]=false):s.data.toList.all Lj=false:=by
 rw[List.all_eq_false];exact⟨s[k],by have:s[k]=s.data.toList[k]'(by simpa using h):=rfl;rw[this];exact Ea _,by rw[a];simp⟩
theorem WL(s:By)(w:World)(p:s.size<=maxLen):Cl 263 #[.string s] w λe w'=>e=.returned (.bool (DL s))/\w'=w:=by
 unfold maxLen at p;obtain⟨b,a⟩:=ex (DL s);rw[<-a]
 cases h1:s.toList.isEmpty with
 |true=>
  obtain rfl:b=false:=by rw[a];simp[DL,h1]
  clear a;go_enter func263,ntmps263;go_wp2;go_ret;exact⟨rfl,rfl⟩
 |false=>
 cases h2:(s.toList==[46]) with
 |true=>
  obtain rfl:b=false:=by rw[a];simp only[DL,h1,h2];rfl
  clear a;go_enter func263,ntmps263;go_wp2;go_ret;exact⟨rfl,rfl⟩
 |false=>
 cases h3:(s.toList==[46,46]) with
 |true=>
  obtain rfl:b=false:=by rw[a];simp only[DL,h1,h2,h3];rfl
  clear a;go_enter func263,ntmps263;go_wp2;go_ret;exact⟨rfl,rfl⟩
 |false=>
 by_cases h:s.size<=12
 ·have j:b=s.data.toList.all Lj:=by rw[a];simp only[DL,h1,h2,h3,h];simp
  have c:=Db j;clear a j;go_enter func263,ntmps263;go_wp2
  go_loop [21] (λi=>∃k:Nat,k<=s.size/\i=.int .i64 k/\Hid ((s.data.toList.take k).all Lj=true)) (λi=>s.size-(intOf i).toNat)
  case atStart=>exact⟨0,Au _,rfl,rfl⟩
  case round=>
   obtain⟨k,hk,rfl,d⟩:=hrel;by_cases m:k<s.size
   ·cases hq:Lj s[k] with
    |true=>
     have g:=Zhi s k m (Da d);rw[hq]at g;have n:=Db g;have o:Qk (s[k].toNat:Int)=true:=hq;clear g hq;go_wp2_with(go_at_call 292;refine(Xu _ _).mono ?_;rintro e w'⟨rfl,rfl⟩)
     go_round
     case rel=>exact⟨k+1,by omega,by go_num,n⟩
     case measure=>simp[intOf];omega
    |false=>
     have l:=ZmQ s k m hq;have o:Qk (s[k].toNat:Int)=false:=hq;rw[l]at c;obtain rfl:=Da c;clear l hq;go_wp2_with(go_at_call 292;refine(Xu _ _).mono ?_;rintro e w'⟨rfl,rfl⟩);go_ret;exact⟨rfl,rfl⟩
   ·obtain rfl:k=s.size:=by omega
    have:s.data.toList.take s.size=s.data.toList:=Ag (Ee AG);have f:=Da d;rw[this]at f;rw[f]at c;obtain rfl:=Da c;clear d f;go_wp2;go_ret;exact⟨rfl,rfl⟩
 ·obtain rfl:b=false:=by rw[a];simp only[DL,h];simp
  clear a;go_enter func263,ntmps263;go_wp2;go_ret;exact⟨rfl,rfl⟩
end Go.Proofs.YtaieidcohdhgpaaGreatDoor
