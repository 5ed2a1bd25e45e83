/- Dumps. -/
import Derived.Test.YtaieidcohdhgpaaGreatDoorZAM
namespace Go.Proofs.YtaieidcohdhgpaaGreatDoor
set_option maxHeartbeats 40000000
set_option maxRecDepth 100000
section
open Go.RowKit Go.Shelf
attribute [local go_sem] Oper.semAt_some
theorem Rz:(Tryz.prog.info? 181).map (fun i=>(i.zero,i.size))=some (some (.agg (List.replicate 96 (.int .i64 0)).toArray),96):=by kernel_rfl
theorem Sr:∀w,(zeroValue 181).run Tryz.prog w = .ok (.agg (List.replicate 96 (.int .i64 0)).toArray) w:=(Ey Rz).1
theorem U5:(Tryz.prog.info? 181).map (·.size)=some 96:=(Ey Rz).2
theorem Oo:Tryz.prog.underlying 181=some (.array 96 3):=by kernel_rfl
theorem Yk:Tryz.prog.built 181 [(0,.int .i64 2)]=some (Value.int .i64 2::List.replicate 95 (.int .i64 0)).toArray:=by kernel_rfl
def Gj(f:Nat->Int):LV:=(List.range 96).map (fun j => .int .i64 (f j))
theorem Js(f:Nat->Int):(Gj f).length=96:=by simp[Gj]
theorem Sd(f:Nat->Int):∀u∈Gj f,u.oneCell'=true:=fun u a=>by
 obtain⟨j,_,e⟩:=A2.1 a;rw[<-e];rfl
theorem QJ(f:Nat->Int)(j:Nat)(h:j<96):(Gj f)[j]?=some (.int .i64 (f j)):=by
 simp[Gj,h]
theorem ZU{f g:Nat->Int}(h:∀j,j<96->f j=g j):Gj f=Gj g:=by
 unfold Gj;exact Cc (fun j a=>by rw[h j (by simpa using a)])
def Dw(es:LI)(j:Nat):Int:=(if j=0 then 2 else 0)+(es.countP (fun x=>x.2.toNat/16==j):Nat)
theorem Y5(j:Nat):Dw [] j=if j=0 then 2 else 0:=by simp[Dw]
theorem TU(a:LI)(y:Int×Int)(j:Nat):Dw (a++[y]) j=Dw a j+if y.2.toNat/16=j then 1 else 0:=by
 unfold Dw;rw[Ck,Ce];by_cases h:y.2.toNat/16=j
 ·simp[h];omega
 ·simp[h]
theorem Se(a:LI)(j:Nat):Dw a j<=2+a.length:=by
 have:=Bj (p:=fun x:Int×Int=>x.2.toNat/16==j) (l:=a);unfold Dw;split<;>omega
theorem Vt(a:LI)(j:Nat):0<=Dw a j:=by
 unfold Dw;split<;>omega
theorem Xs(a:LI)(y:Int×Int)(x:Nat)(d:y.2.toNat/16=x)(b:x<96):(Gj (Dw a)).set x (.int .i64 (Dw a x+1))=Gj (Dw (a++[y])):=by
 apply CR;intro j;rw[EG];by_cases e:x=j
 ·subst e;rw[if_pos rfl,if_pos (by rw[Js];exact b),QJ _ _ b,TU,if_pos d]
 ·rw[if_neg e];by_cases c:j<96
  ·rw[QJ _ _ c,QJ _ _ c,TU,if_neg (fun h=>e (d.symm.trans h)),Int.add_zero]
  ·rw[Bv (by rw[Js];omega),Bv (by rw[Js];omega)]
theorem Y0:(Value.int .i64 2::List.replicate 95 (.int .i64 0))=Gj (Dw []):=by
 have:Gj (Dw [])=Gj (fun j=>if j=0 then 2 else 0):=ZU (fun j _=>Y5 j);rw[this];rfl
def OU(es:LI):Prop:=es.length<=10000/\Gi es/\∀x∈es,∃p:Nat,x.2=p/\p<1536
theorem Vu(w:World)(b so:Nat)(v:Value)(a:LI)(H:w.cell? ⟨b,so,none⟩=some v)(F:Sl w 350 2 v a.length (Dq a))(aG:OU a):
  Cl 198 #[.pointer (some ⟨b,so,none⟩)] w fun e w'=>e = .returned (.agg (Gj (Dw a)).toArray)/\Bw w w':=by
 obtain⟨hn,_,hp⟩:=aG;refine(A0 (n:=3)).1 ?_;refine Bq Tryz.func198 rfl trivial ?_ rfl;simp only[Tryz.ntmps198,AQ,Af,Ay,Nat.reduceAdd,Nat.reduceSub,AP,AO,AV,AR,AJ,AL]
 gi_step
 gi_step
 refine Br.2 (AT ?_);refine KE rfl 181 rfl Sr ?_;refine Et ?_;obtain⟨W,R,ak,aB,o,ab⟩:=De w (List.replicate 96 (.int .i64 0)) 181;rw[show w.alloc (.cells (List.replicate 96 (Value.int .i64 0)).toArray 181)=W from R];clear R;rename_i f;refine f _ _ ?_;clear f
 gi_step
 refine Br.2 (AT ?_);refine V9 rfl 181 0 _ rfl (.int .i64 2) rfl (Yk.trans (C1 some (C1 List.toArray Y0))) ?_;refine KE rfl 181 rfl Sr ?_;obtain⟨q,S,M,aC,aj,ac⟩:=De W (List.replicate 96 (.int .i64 0)) 181;rw[show W.alloc (.cells (List.replicate 96 (Value.int .i64 0)).toArray 181)=q from S];clear S;refine CH rfl 181 _ _ rfl W.heap.size (Gj (Dw [])).toArray rfl rfl 181 _ M ?_ ?_ (Ef (Sd _)) ?_
 ·rw[U5];simp[Js]
 ·simp[Js]
 refine Et ?_;have N:FH (q.setRow W.heap.size (Gj (Dw [])).toArray) W.heap.size 181 (Gj (Dw [])):=Cu q _ _ _ 181 _ M;have A:Bw W (q.setRow W.heap.size (Gj (Dw [])).toArray):=ac.trans ⟨rfl,rfl,rfl,by simp,fun j hj=>BZ q _ j _ (by omega)⟩;have ah:(q.setRow W.heap.size (Gj (Dw [])).toArray).heap.size=W.heap.size+1:=by simp[World.setRow,aj]
 obtain⟨r,T⟩:∃X,X=q.setRow W.heap.size (Gj (Dw [])).toArray:=⟨_,rfl⟩;rw[<-T]at N A ah ⊢;have G:Bw w r:=ab.trans (A.mono (by omega));have al:FH r w.heap.size 181 (List.replicate 96 (.int .i64 0)):=(A.block _ (by omega)).trans ak;have ai:b<w.heap.size:=Al _ _ H;have az:r.cell? ⟨b,so,none⟩=some v:=(G.cell (p:=⟨b,so,none⟩) ai).trans H;have av:Sl r 350 2 v a.length (Dq a):=F.kept (fun k I _=>G.block k I);rename_i f;refine f _ _ ?_;clear f M aC T aB ak;have O:=Db N;have P:=Db al;have C:=Db o;clear N al o
 gi_wp2_with (refine⟨trivial,?_⟩;gi_at_call 235;refine(Wz _ _ trivial rfl _ _).mono ?_;rintro e w' ⟨rfl,rfl⟩)
 rename_i K0 ar;obtain⟨i,U,am,J,aK,ax⟩:=De r [.pointer (some ⟨b,so,none⟩)] 294;rw[show r.alloc (.cells #[Value.pointer (some ⟨b,so,none⟩)] 294)=i from U];clear U;have o:=Da C;have hA:FH i W.heap.size 181 (Gj (Dw [])):=J _ _ _ (Da O);have hR:FH i w.heap.size 181 (List.replicate 96 (.int .i64 0)):=J _ _ _ (Da P);have E:Bw w i:=G.trans (ax.mono (by omega));have au:Sl i 350 2 v a.length (Dq a):=F.kept (fun k I _=>E.block k I);have ay:i.cell? ⟨b,so,none⟩=some v:=(E.cell (p:=⟨b,so,none⟩) ai).trans H;have aq:i.cell? ⟨W.heap.size+1,0,none⟩=some (.pointer (some ⟨b,so,none⟩)):=by rw[<-ah];exact(am.cell 0).trans rfl
 have Z:a.attach.map (fun x=>x.1)=a:=CW a;clear O P am J az av A ab ac aj;refine CS (α := { x // x∈a }) rfl (by omega) (gf:=270) (lb := #[.pointer (some ⟨W.heap.size+1,0,none⟩)]) rfl trivial (Ez Tryz.func270 (by kernel_rfl) rfl)
  (ZkU Fence.wide 2 trivial rfl (by omega) (W.heap.size+1) w.heap.size b so v (fun x=>x.1) a.attach (by simpa using hn) i (by omega) (by omega) (by omega) aq ay (by rw[Z];simpa using au) (fun g hg=>F.lt hg))
  belowK_t (Fx (by omega)) (Ag _ _) (fun _=>rfl)
  (fun d X=>FH X W.heap.size 181 (Gj (Dw (d.map (·.1))))/\FH X w.heap.size 181 (List.replicate 96 (.int .i64 0))/\Bw w X)
  (fun _ _ _=>False)
  (OwnFrom.and (Own.from (UB _ _ (fun d:List { x // x∈a }=>Gj (Dw (d.map (·.1))))) _) (OwnFrom.and (Own.from (UB _ _ (fun _:List { x // x∈a }=>List.replicate 96 (.int .i64 0))) _) (ownFrom_below (Aa _) (by omega))))
  (fun _ _ _ _ _ hs _ _=>hs)
  ⟨hA,hR,E⟩
  (fun x=>{ tmps := #[.pointer (some ⟨b,so,none⟩),undef,.pointer (some ⟨w.heap.size,0,none⟩),.pointer (some ⟨W.heap.size,0,none⟩),undef,.int .i64 x.1.2,.agg (Gj (Dw [])).toArray,.pointer (some ⟨b,so,none⟩),.pointer (some ⟨b,so,none⟩),.pointer (some ⟨b,so,none⟩),.func (.func 270) #[] #[.pointer (some ⟨W.heap.size+1,0,none⟩)],.int .u64 x.1.1,.int .i64 x.1.2,undef,undef,undef,undef,undef,undef,undef],defers:=[] })
  ?assign ?body ?done ?stop
 case assign=>
  intro l x X K f;clear o
  gi_wp2
  exact f
 case body=>
  rintro l d x X ⟨m,s,t⟩ af;obtain⟨p,an,aI⟩:=hp x.1 x.2;obtain⟨y,hy⟩:=ex (p/16);have ao:y<96:=by omega
  have ag:x.1.2.toNat/16=y:=by rw[an,BB,hy]
  have e1:(IntKind.i64.wrap ((p:Int)/16))=(y:Int):=by rw[BD];omega
  have L:=Xs (d.map (·.1)) x.1 y ag ao;have ad:=Se (d.map (·.1)) y;have aF:=Vt (d.map (·.1)) y;rw[A7]at ad;have aJ:d.length<a.length:=by simpa using af
  have aD:Dw (d.map (·.1)) y<=10002:=by omega
  have aA:=(m.cell y).trans (QJ (Dw (d.map (·.1))) y ao);have aH:=m.frozen y;obtain⟨z,hz⟩:=ex (Dw (d.map (·.1)) y);rw[<-hz]at aA aD aF L;have HI:=Db m;have ap:=Db L;have aL:(y:Int)<96:=by omega
  have aM:¬(96:Int)<=(y:Int):=by omega
  clear m L ad hy ag hz af o;rw[an]
  gi_wp2
  have o:=Da C;have B:FH (X.setCell ⟨W.heap.size,y,none⟩ (.int .i64 (z+1))) W.heap.size 181 (Gj (Dw ((d++[x]).map (·.1)))):=by
   have:=(Da HI).set y (.int .i64 (z+1));rw[Da ap]at this;rw[Bo];exact this
  have ae:w.heap.size<=W.heap.size:=by omega
  have aE:w.heap.size≠W.heap.size:=by omega
  exact⟨CA _ _ _,(Ag w.heap.size X).setCell (p:=⟨W.heap.size,y,none⟩) ae _,B,(AB _ _ _ _ aE).trans s,t.setCell (p:=⟨W.heap.size,y,none⟩) ae _⟩
 case done=>
  rintro D ys X hD rfl ⟨m,s,t⟩ f;show K0 _ _;refine ar _ _ ?_
  gi_step
  refine Br.2 (AT ?_);rw[Z]at m;refine wpList_load_row rfl 181 _ rfl W.heap.size rfl 181 _ (0,0) _ m Oo rfl ?_ ?_
  ·rw[U5];simp[Js]
  refine CH rfl 181 _ _ rfl w.heap.size (Gj (Dw a)).toArray rfl rfl 181 _ s ?_ ?_ (Ef (Sd _)) ?_
  ·rw[U5];simp[Js]
  ·simp[Js]
  refine Et ?_;have B:FH (X.setRow w.heap.size (Gj (Dw a)).toArray) w.heap.size 181 (Gj (Dw a)):=Cu X _ _ _ 181 _ s;have aa:Bw w (X.setRow w.heap.size (Gj (Dw a)).toArray):=t.trans ⟨rfl,rfl,rfl,by simp,fun j hj=>BZ X _ j _ (by omega)⟩;have u:(X.setRow w.heap.size (Gj (Dw a)).toArray).heap[D]?=some (.deferred (some [])):=(BZ X _ D _ (by omega)).trans f;obtain⟨Q,V⟩:∃Y,Y=X.setRow w.heap.size (Gj (Dw a)).toArray:=⟨_,rfl⟩;rw[<-V]at B aa u ⊢;clear V m s t f o
  gi_wp2
  have o:=Da C;refine⟨by simp,.inl ⟨_,_,rfl,BS u,?_⟩⟩;have aw:=Fx (w:=w) (Aa _) Q D _ (.deferred none) (by omega) u rfl rfl;refine⟨_,Ff rfl _ _ w.heap.size 181 _ (0,0) _ rfl ?_ Oo rfl ?_,rfl,aa.trans aw⟩
  ·exact((Fx (w:=W) (Aa _) Q D _ (.deferred none) (by omega) u rfl rfl).block w.heap.size (by omega)).trans B
  ·rw[U5];simp[Js]
 case stop=>
  rintro D c d X _ _ h _;exact h.elim
theorem X3(w:World)(L:LV)(k:Nat)(z:Int)(b:k<96)(a:L[k]?=some (.int .i64 z)):(Instr.index 181 (.agg L.toArray) (.int .i64 k)).run Tryz.prog w = .ok (.int .i64 z) w:=by
 have h1:(k:Int)<96:=by omega
 simp[Instr.index,run_underlying Oo,go_sem];rw[if_pos b,a]
 rfl
def Ky(f:Nat->Int):Nat->Nat
 | 0=>0
 | k+1=>Ky f k+if f k=0 then 16 else 0
theorem O4(f:Nat->Int):∀k,Ky f k<=16*k
 | 0=>by simp[Ky]
 | k+1=>by have:=O4 f k;unfold Ky;split<;>omega
theorem Zh1(w:World)(l so:Nat)(v:Value)(a:LI)(q:w.cell? ⟨l,so,none⟩=some v)(p:Sl w 350 2 v a.length (Dq a))(g:OU a):
  Cl 132 #[.pointer (some ⟨l,so,none⟩)] w fun e w'=>e = .returned (.int .i64 (Ky (Dw a) 96:Nat))/\Bw w w':=by
 have b:=Vu w l so v a q p g;have C:∀j,Dw a j<=10002/\0<=Dw a j:=fun j=>⟨by have:=Se a j;have:=g.1;omega,Vt a j⟩
 obtain⟨f,s⟩:=ex (Dw a);rw[<-s]at b C ⊢;clear s q p g;have m:Hid (∀j,j<96->(Gj f)[j]?=some (.int .i64 (f j))):=fun j D=>QJ f j D
 have n:Hid ((Gj f).length=96):=Js f;obtain⟨L,o⟩:=ex (Gj f);rw[<-o]at b m n;clear o;have A:=Db b;clear b;go_enter Tryz.func132,Tryz.ntmps132;go_wp2_with (go_at_call 198;refine(Da A).mono ?_;rintro e w1 ⟨rfl,B⟩)
 go_loop [3,8] (fun x i=>∃(k y:Nat),k<=96/\i = .int .i64 k/\x = .int .i64 y/\Hid (y=Ky f k)) (fun _ i=>96-(intOf i).toNat)
 case atStart=>exact⟨0,0,Aw _,rfl,rfl,rfl⟩
 case round=>
  obtain⟨k,y,hk,rfl,rfl,c⟩:=hrel;have ad:y<=1536:=by have:=O4 f k;rw[<-Da c]at this;omega
  by_cases t:k<96
  ·have r:=Da m k t;have ac:=Da n;have ab:(k:Int)<96:=by omega
   obtain⟨z,h⟩:=ex (f k);rw[<-h]at r;have aa:=X3 w1 L k z t r;have u:Hid (Ky f (k+1)=Ky f k+if z=0 then 16 else 0):=by show _=_;rw[h];rfl
   clear h;by_cases d:z=0
   ·subst d;go_wp2
    go_round
    case rel=>exact⟨k+1,y+16,by omega,by go_num,by go_num,by show _=_;rw[Da u,<-Da c];simp⟩
    case measure=>simp[intOf];omega
   ·have ae:(z==0)=false:=by rw[AH];exact d
    go_wp2
    go_round
    case rel=>exact⟨k+1,y,by omega,by go_num,by go_num,by show _=_;rw[Da u,<-Da c];simp[d]⟩
    case measure=>simp[intOf];omega
  ·obtain rfl:k=96:=by omega
   go_wp2;go_ret;exact⟨by rw[<-Da c]<;>rfl,B⟩
end
open Go.RowKit
theorem Zr(w:World)(a:OA)(l c:Nat)(s:By)(h:Ge w a l c s)(n:Nat)(W:World)(q:Sl W 5 1 (.slice (some ⟨w.heap.size,0,none⟩) n n) n (List.replicate n (.int .u8 0)))(f:Bw w W):
  ∃d,(Builtin.copy_ #[59,59] 3 #[.slice (some ⟨w.heap.size,0,none⟩) n n,.slice a l c]).run Tryz.prog W = .ok (goInt (Nat.min l n)) d/\Sl d 5 1 (.slice (some ⟨w.heap.size,0,none⟩) n n) n (Dd (Dt s n))/\Bw w d:=by
 have G:=h.below f
 cases a with
 | none=>
  have p:s.size=0:=by
   rcases E4 s.size with e|e
   ·exact e
   ·obtain⟨x,I,_⟩:=h.2.2 0 ((Dd s)[0]'(by rw[Dj];exact e)) (Ac _)
    cases I
  have F:l=0:=by rw[h.1,p]
  have D:=h.2.1 rfl;subst F D;refine⟨W,by rw[show Nat.min 0 n=0 from Nat.zero_min n];exact SQ W _ _ _,?_,f⟩;have:Dd (Dt s n)=List.replicate n (.int .u8 0):=by
   have H:s=⟨#[]⟩:=by
    apply AY;have:s.data.toList.length=0:=by rw[<-p];exact Az
    rw[Ak this]
   unfold Dt;by_cases r:n<=s.size
   ·rw[if_pos r];have:n=0:=by omega
    subst this;rw[KD];simp
   ·rw[if_neg r,KF,QX,p,H];simp[Dd]
  rw[this];exact q
 | some x=>
  rcases q.2 with⟨e,_⟩|⟨g,aa,L,e,C,h1,u,z,A⟩
  ·cases e
  ·cases e
   have B:L=List.replicate n (.int .u8 0):=by
    rw[<-A,AI (by omega)]
   have i:((Dd s).take (Nat.min l n)).length=Nat.min l n*1:=by
    rw[Ar,Dj,h.1,Ci];exact Bu (Nat.min_le_left _ _)
   obtain⟨d,K,t,M⟩:=J5 (P:=Tryz.prog) W 59 59 3 5 1 w.heap.size 0 n n x l c L 5 ((Dd s).take (Nat.min l n)) Tryz.underlying59 NZ C i
    (fun j v b=>by
     rw[Ap]at b
     split at b
     ·obtain⟨y,e,J⟩:=G.2.2 j v b;cases e;exact J
     ·cases b) (by rw[i,z];have:Nat.min l n<=n:=Nat.min_le_right _ _;omega) (fun v b=>Qi s v (Bm b))
   refine⟨d,K,?_,?_⟩
   ·have E:FM L 0 ((Dd s).take (Nat.min l n))=Dd (Dt s n):=by
     unfold FM;rw[i,B,Co,AJ,Au,Ci,EV];unfold Dt;by_cases o:n<=s.size
     ·have m:Nat.min l n=n:=by rw[h.1];exact EM o
      rw[if_pos o,KD,m];simp
     ·have m:Nat.min l n=s.size:=by rw[h.1];exact Bu (by omega)
      rw[if_neg o,KF,QX,m,AI (by rw[Dj];exact Aa _)]
    rw[E]at t;refine⟨by rw[Dj,J6];omega,.inr ⟨w.heap.size,n,_,rfl,t,Aa _,u,by rw[Dj,J6];omega,by rw[AI (by rw[Dj,J6];omega)]⟩⟩
   ·exact f.grown M f.size (fun k e=>by cases e;exact Aa _)
theorem Ge.drop{w:World}{x:Addr}{l c:Nat}{s:By}(h:Ge w (some x) l c s)(k:Nat)(b:Nat):Ge w (some (x.add k)) (l-k) b (s.extract k s.size):=by
 refine⟨by rw[Am,h.1];omega,fun e=>(by cases e),fun j v a=>?_⟩;rw[KD,Ap]at a
 split at a
 ·rw[A3]at a;obtain⟨y,e,d⟩:=h.2.2 _ _ a
  cases e
  exact⟨_,rfl,by rw[Addr.add_add];exact d⟩
 ·cases a
theorem Addr.block_add'(x:Addr)(j:Nat):(x.add j).block=x.block:=by unfold Addr.add;split<;>rfl
def Tf(w:World)(fb:Nat)(a:OA)(l:Nat)(s:By)(n:Nat)(e:Ending)(w':World):Prop:=
 ∃a2 c2,e = .returned (.slice (some ⟨w.heap.size,0,none⟩) n n)/\Sl w' 5 1 (.slice (some ⟨w.heap.size,0,none⟩) n n) n (Dd (Dt s n))/\FH w' fb 287 [.slice a2 (l-n) c2]/\Ge w' a2 (l-n) c2 (s.extract n s.size)/\l-n<=c2/\(∀x,a2=some x->∃y,a=some y/\y.block=x.block)/\Fr (fun k=>k=fb) w w'
theorem ZkQ(w:World)(d:Nat)(a:OA)(l c:Nat)(s:By)(g:FH w d 287 [.slice a l c])(h:Ge w a l c s)(am:l<=c)(ai:∀x,a=some x->x.block≠d)(n:Nat)(hn:n<=2000000)(hl:l<=2000000):
  Cl 245 #[.pointer (some ⟨d,0,none⟩),.int .i64 n] w (Tf w d a l s n):=by
 obtain⟨Q,K,N,O,P⟩:=Bn Qc;have ab:∀W:World,W.ownsRow 0 5 1 (.slice (some ⟨w.heap.size,0,none⟩) n n) n (madeCells (Value.int .u8 0).cells (n*1)).toList->w.grownBy W none->∃b,(Builtin.copy_ #[59,59] 3 #[.slice (some ⟨w.heap.size,0,none⟩) n n,.slice a l c]).run Tryz.prog W.drew = .ok (goInt (Nat.min l n)) b/\W.cell? ⟨d,0,none⟩=some (.slice a l c)/\b.cell? ⟨d,0,none⟩=some (.slice a l c)/\b.frozen? ⟨d,0,none⟩=false/\Hid (Sl b 5 1 (.slice (some ⟨w.heap.size,0,none⟩) n n) n (Dd (Dt s n))/\Bw w b):=fun W hW hg=>by
  have U:=Sl.of_owns hW;have I:(madeCells (Value.int .u8 0).cells (n*1)).toList=List.replicate n (.int .u8 0):=by rw[Ci];exact EI (.int .u8 0) n
  rw[I]at U;have V:=UC hg;obtain⟨b,r1,r2,r3⟩:=Zr w a l c s h n W.drew U V.drew;have q1:FH W d 287 [.slice a l c]:=(V.block _ g.lt).trans g;have F:FH b d 287 [.slice a l c]:=(r3.block _ g.lt).trans g;exact⟨b,r1,(q1.cell 0).trans rfl,(F.cell 0).trans rfl,F.frozen 0,r2,r3⟩
 have D:=Db ab;have al:=g.lt;have ak:=Db g;have R:=Db h;obtain⟨m,B⟩:=ex (Nat.min l n);have ap:m<=l:=by rw[B];exact Nat.min_le_left _ _
 rw[<-B]at D;have L:l-m=l-n:=by have e:m=min l n:=B;omega
 have G:Hid (∀b q r,Sl b 5 1 (.slice (some ⟨w.heap.size,0,none⟩) n n) n (Dd (Dt s n))->Bw w b->(∀X,Bw w X->Ge X q (l-n) r (s.extract n s.size))->l-n<=r->(∀x,q=some x->∃y,a=some y/\y.block=x.block)->Tf w d a l s n (.returned (.slice (some ⟨w.heap.size,0,none⟩) n n)) (b.setCell ⟨d,0,none⟩ (.slice q (l-n) r))):=fun b q r f A h3 h4 S=>by
  have F:FH b d 287 [.slice a l c]:=(A.block _ g.lt).trans g;refine⟨q,r,rfl,f.setCell _ _ (fun e=>?_),by simpa using F.set 0 (.slice q (l-n) r),?_,h4,S,(Fr.of_below A).set ⟨d,0,none⟩ _ rfl⟩
  ·simp[Value.ownBlock]at e;omega
  ·have J:=h3 b A;refine⟨J.1,J.2.1,fun j v p=>?_⟩;obtain⟨x,e,M⟩:=J.2.2 j v p;exact⟨x,e,(Cm _ _ _ _ (by intro ee;obtain⟨y,I,e2⟩:=S x e;exact ai y I (by have T:=(C1 Addr.block ee).symm;rw[Addr.block_add']at T;exact e2.trans T))).trans M⟩
 have ah:Hid (∀x,a=some x->∀X,Bw w X->Ge X (some (x.add m)) (l-n) (c-m) (s.extract n s.size)):=fun x e X hX=>by
  subst e;have f:=((Da R).below hX).drop m (c-m);rw[L]at f;have A:s.extract m s.size=s.extract n s.size:=by
   have e:m=min l n:=B;rw[h.1]at e;rcases Nat.le_total s.size n with E|E
   ·apply AY;simp only[BO];rw[e,Bu E];simp[E]
   ·rw[e,EM E]
  rw[A]at f;exact f
 have H:Hid (a=none->∀X,Ge X none (l-n) 0 (s.extract n s.size)/\l=0/\c=0):=fun e X=>by
  subst e;have t:s.size=0:=by
   rcases E4 s.size with e|e
   ·exact e
   ·obtain⟨x,M,_⟩:=h.2.2 0 ((Dd s)[0]'(by rw[Dj];exact e)) (Ac _)
    cases M
  have ad:l=0:=by rw[h.1,t]
  refine⟨⟨by rw[Am,t,ad];omega,fun _=>rfl,fun j v p=>?_⟩,ad,h.2.1 rfl⟩;have:Dd (s.extract n s.size)=[]:=Ak (by rw[Dj,Am,t];omega);rw[this]at p;simp at p
 have u:=Db L;have ao:(m:Int)<=(l:Int):=by omega
 clear ab g h B L
 cases a with
 | none=>
  obtain⟨aj,rfl,rfl⟩:=Da H rfl w;obtain rfl:m=0:=by omega
  have ag:Hid (∀X,Ge X none (0-n) 0 (s.extract n s.size)):=fun X=>(Da H rfl X).1
  clear aj H;go_enter Tryz.func245,Tryz.ntmps245;go_upto_region 2 with(at_make;refine CY _ rfl _ _ 59 rfl 0 5 Q (.int .u8 0) 1 Tryz.underlying59 K N O _ _ _ _ n rfl rfl rfl rfl (by rw[P];omega) (by unfold maxLen;omega) (Aw _) ?_;intro w1 o k;obtain⟨b,C,Z,aa,ac,i⟩:=Da D w1 o k;clear o k)
  go_region_law (refine KU rfl _ _ 59 59 rfl _ _ (by simp[Act.eval]) (by simp[Act.eval]) C ?_)
  all_goals
   go_wp2;go_ret;have f:=Da G b none 0 (Da i).1 (Da i).2 (fun X _=>Da ag X) (by omega) (fun x e=>by cases e);rw[show 0-n=0 from Nat.zero_sub n]at f;exact f
 | some x=>
  have Y:∀y,some (x.add m)=some y->∃z,some x=some z/\z.block=y.block:=fun y e=>by cases e;exact⟨x,rfl,(Addr.block_add' _ _).symm⟩
  have af:=Db Y;clear Y;by_cases ae:m=c
  ·have HE:Hid (∀X,Ge X (some x) (l-n) 0 (s.extract n s.size)):=fun X=>by
    have h0:l-n=0:=by have:=Da u;omega
    have t:(s.extract n s.size).size=0:=by rw[Am,<-(Da R).1];omega
    refine⟨by rw[h0,t],fun _=>rfl,fun j v p=>?_⟩;have:Dd (s.extract n s.size)=[]:=Ak (by rw[Dj,t]);rw[this]at p;simp at p
   obtain rfl:l=m:=by omega
   subst ae;go_enter Tryz.func245,Tryz.ntmps245;go_upto_region 2 with(at_make;refine CY _ rfl _ _ 59 rfl 0 5 Q (.int .u8 0) 1 Tryz.underlying59 K N O _ _ _ _ n rfl rfl rfl rfl (by rw[P];omega) (by unfold maxLen;omega) (Aw _) ?_;intro w1 o k;obtain⟨b,C,Z,aa,ac,i⟩:=Da D w1 o k;clear o k)
   go_region_law (refine KU rfl _ _ 59 59 rfl _ _ (by simp[Act.eval]) (by simp[Act.eval]) C ?_)
   all_goals
    go_wp2;go_ret;have f:=Da G b (some x) 0 (Da i).1 (Da i).2 (fun X _=>Da HE X) (by have:=Da u;omega) (fun y e=>⟨x,rfl,by cases e;rfl⟩);rw[show l-n=0 by have:=Da u;omega]at f;exact f
  ·have an:¬c=m:=fun e=>ae e.symm
   go_enter Tryz.func245,Tryz.ntmps245;go_upto_region 2 with(at_make;refine CY _ rfl _ _ 59 rfl 0 5 Q (.int .u8 0) 1 Tryz.underlying59 K N O _ _ _ _ n rfl rfl rfl rfl (by rw[P];omega) (by unfold maxLen;omega) (Aw _) ?_;intro w1 o k;obtain⟨b,C,Z,aa,ac,i⟩:=Da D w1 o k;clear o k)
   go_region_law (refine KU rfl _ _ 59 59 rfl _ _ (by simp[Act.eval]) (by simp[Act.eval]) C ?_)
   all_goals
    go_wp2;go_ret;rw[show l-m=l-n from Da u];have f:=Da G b (some (x.add m)) (c-m) (Da i).1 (Da i).2 (Da ah x rfl) (by have:=Da u;omega) (Da af);exact f
def Jr:List UInt8->Nat
 | []=>0
 | b::l=>b.toNat+256*Jr l
theorem MY:∀(l:List UInt8),Jr l<256 ^ l.length
 | []=>by simp[Jr]
 | b::l=>by
  have h1:=MY l;have h2:b.toNat<256:=b.toNat_lt;show b.toNat+256*Jr l<256 ^ (l.length+1);rw[Fy];omega
theorem Vz:∀(l:List UInt8) (b:UInt8),Jr (l++[b])=Jr l+256 ^ l.length*b.toNat
 | [],b=>by simp[Jr]
 | a::l,b=>by
  show a.toNat+256*Jr (l++[b])=a.toNat+256*Jr l+256 ^ (l.length+1)*b.toNat;rw[Vz l b,Nat.mul_add,<-Eh,<-Nat.mul_assoc,Fy,Nat.mul_comm 256 (256 ^ l.length)]
theorem Vy:∀(m x:Nat),x<256 ^ m->Jr (DK x m)=x
 | 0,x,h=>by simp at h;subst h;rfl
 | m+1,x,h=>by
  show(UInt8.ofNat x).toNat+256*Jr (DK (x/256) m)=x;have a:x/256<256 ^ m:=by rw[Fy]at h;omega
  rw[Vy m _ a];have b:(UInt8.ofNat x).toNat=x%256:=by simp
  rw[b];omega
theorem Zij(a b:Int):bits BinOp.or IntKind.u64 a b=bits BinOp.or IntKind.u64 b a:=by
 show IntKind.u64.wrap (((BitVec.ofInt 64 a ||| BitVec.ofInt 64 b:BitVec 64).toNat:Nat):Int)=IntKind.u64.wrap (((BitVec.ofInt 64 b ||| BitVec.ofInt 64 a:BitVec 64).toNat:Nat):Int);rw[BitVec.or_comm]
theorem IV(k:Nat):2 ^ (8*k)=256 ^ k:=by rw[Nat.pow_mul]
theorem Xw(y b k:Nat)(e:k<8)(f:y<256 ^ k)(hb:b<256):bits BinOp.or IntKind.u64 (y:Int) (IntKind.u64.wrap ((b:Int)*2 ^ (8*k)))=((y+256 ^ k*b:Nat):Int):=by
 have h1:256 ^ k*256<=256 ^ 8:=by rw[<-Fy];exact Nat.pow_le_pow_right (by omega) e
 have c:256 ^ k*b+y<256 ^ 8:=by
  have:256 ^ k*b<=256 ^ k*255:=Nat.mul_le_mul_left _ (by omega);have:256 ^ k*256=256 ^ k*255+256 ^ k:=by omega
  omega
 have d:(256:Nat) ^ 8=18446744073709551616:=by decide
 rw[d]at c;have a:((b:Int)*2 ^ (8*k))=((2 ^ (8*k)*b:Nat):Int):=by rw[Int.natCast_mul,Int.mul_comm];simp
 rw[a,Ib _ (by rw[IV];omega),Zij,OQ b (8*k) y (by rw[IV];exact f) (by rw[IV];omega),IV,EY]
def Us(w:World)(fb:Nat)(a:OA)(l:Nat)(s:By)(n:Nat)(v:Value)(e:Ending)(w':World):Prop:=
 e = .returned v/\∃a2 c2,FH w' fb 287 [.slice a2 (l-n) c2]/\Ge w' a2 (l-n) c2 (s.extract n s.size)/\l-n<=c2/\(∀x,a2=some x->∃y,a=some y/\y.block=x.block)/\Fr (fun k=>k=fb) w w'
theorem Vv(w:World)(d:Nat)(a:OA)(l c:Nat)(s:By)(B:FH w d 287 [.slice a l c])(h:Ge w a l c s)(u:l<=c)(v:∀x,a=some x->x.block≠d)(n:Nat)(hn:n<=8)(O:l<=2000000):
  Cl 240 #[.pointer (some ⟨d,0,none⟩),.int .i64 n] w (Us w d a l s n (.int .u64 (Jr (Dt s n).data.toList:Nat))):=by
 have D:=Db (ZkQ w d a l c s B h u v n (by omega) O);clear B h u v;obtain⟨t,f⟩:=ex (Dt s n);have o:t.size=n:=by rw[f,J6]
 have I:=Db f;rw[<-f];clear f;go_enter Tryz.func240,Tryz.ntmps240;go_wp2_with (go_at_call 245;refine(Da D).mono ?_;rintro e w1 ⟨J,K,rfl,j,q⟩;rw[<-Da I]at j;have A:=j.rdB;have F:=Db A.2.2;have G:=Db q;clear j q A)
 go_loop [5,12] (fun x i=>∃(k y:Nat),k<=n/\i = .int .i64 k/\x = .int .u64 y/\Hid (y=Jr (t.data.toList.take k))) (fun _ i=>n-(intOf i).toNat)
 case atStart=>exact⟨0,0,Aw _,rfl,rfl,rfl⟩
 case round=>
  obtain⟨k,y,r,rfl,rfl,p⟩:=hrel;by_cases aa:k<n
  ·obtain⟨g,N,P⟩:=Da F k _ (Tp t k (by omega))
   cases N
   obtain⟨b,m⟩:∃b,b=t.data[k]'(by show k<t.size;omega):=⟨_,rfl⟩;rw[<-m,AF,Au]at P;have M:b.toNat<256:=b.toNat_lt;have C:y<256 ^ k:=by
    have:=MY (t.data.toList.take k);rw[<-Da p,Ar,Az,show t.data.size=n from o,Bu r]at this;exact this
   have H:Hid (y+256 ^ k*b.toNat=Jr (t.data.toList.take (k+1))):=by
    show _=_;rw[Tz t k (by omega),Vz,<-Da p,Ar,Az,show t.data.size=n from o,Bu r,m]
   have z:=Xw y b.toNat k (by omega) C M;have E:=Db z;clear z m C;go_wp2
   go_round
   case rel=>exact⟨k+1,y+256 ^ k*b.toNat,by omega,by go_num,by rw[Da E],Da H⟩
   case measure=>simp[intOf];omega
  ·obtain rfl:k=n:=by omega
   go_wp2;go_ret;have L:t.data.toList.take k=t.data.toList:=AI (by rw[Az];exact Fd o);exact⟨by rw[show y=Jr t.data.toList by rw[Da p,L]]<;>rfl,J,K,Da G⟩
def GK(s:By):Nat:=Jr (Dt s 2).data.toList
def Hi(s:By):Nat:=Jr (Dt (s.extract 2 s.size) 8).data.toList
theorem Oj(s:By):GK s<65536:=by
 have:=MY (Dt s 2).data.toList;rw[Az,show(Dt s 2).data.size=2 from J6 s 2]at this;exact this
theorem Ge.fr{P:Nat->Prop}{w w':World}{a:OA}{l c:Nat}{s:By}(h:Ge w a l c s)(g:Fr P w w')(f:∀x,a=some x->0<s.size->¬P x.block):Ge w' a l c s:=
 ⟨h.1,h.2.1,fun j v b=>by
  obtain⟨x,e,d⟩:=h.2.2 j v b;have k:0<s.size:=by have:=(Ad.1 b).1;rw[Dj]at this;omega
  have i:=Al _ _ d;refine⟨x,e,(Ax (g.block _ i ?_)).trans d⟩;rw[Addr.block_add'];exact f x e k⟩
theorem Ge.lt{w:World}{x:Addr}{l c:Nat}{s:By}(h:Ge w (some x) l c s)(a:0<s.size):x.block<w.heap.size:=by
 obtain⟨y,e,b⟩:=h.2.2 0 ((Dd s)[0]'(by rw[Dj];exact a)) (Ac _)
 cases e
 have:=Al _ _ b;rw[Addr.block_add']at this;exact this
theorem YK(w:World)(b:Nat)(a:OA)(l c:Nat)(s:By)(q:FH w b 287 [.slice a l c])(h:Ge w a l c s)(F:l<=c)(p:∀x,a=some x->x.block≠b)(V:l<=2000000):
  Cl 238 #[.pointer (some ⟨b,0,none⟩)] w (Us w b a l s 10 (.agg #[.int .i64 (GK s:Nat),.int .u64 (Hi s:Nat)])):=by
 have ae:=q.lt;obtain⟨W,C,H,E,G,o⟩:=De w [.int .i64 0,.int .u64 0] 175;have t:=Db (Vv W b a l c s (E _ _ _ q) (h.below o) F p 2 (by omega) V);have u:Hid (∀X,Us W b a l s 2 (.int .u64 (GK s:Nat)) (.returned (.int .u64 (GK s:Nat))) X->Cl 240 #[.pointer (some ⟨b,0,none⟩),.int .i64 8] X fun e Y=>e = .returned (.int .u64 (Hi s:Nat))/\FH Y w.heap.size 175 [.int .i64 0,.int .u64 0]/\Hid (∀Z,Fr (fun k=>k=w.heap.size) Y Z->Us w b a l s 10 (.agg #[.int .i64 (GK s:Nat),.int .u64 (Hi s:Nat)]) (.returned (.agg #[.int .i64 (GK s:Nat),.int .u64 (Hi s:Nat)])) Z)):=fun X ⟨_,Q,S,p1,p2,p3,r,I⟩=>by
  refine(Vv X b Q (l-2) S _ p1 p2 p3 (fun x e=>by obtain⟨y,d,f⟩:=r x e;rw[<-f];exact p y d) 8 (by omega) (by omega)).mono ?_;rintro e Y ⟨rfl,R,T,q1,q2,q3,J,K⟩;have r1:FH X w.heap.size 175 _:=H.fr I (by omega);have r2:FH Y w.heap.size 175 _:=r1.fr K (by omega);refine⟨rfl,r2,fun Z n=>⟨rfl,R,T,?_,?_,?_,fun x e=>?_,?_⟩⟩
  ·rw[show l-10=l-2-8 by omega];exact q1.fr n (by omega)
  ·have e:(s.extract 2 s.size).extract 8 (s.extract 2 s.size).size=s.extract 10 s.size:=by
    apply AY;simp;omega
   rw[show l-10=l-2-8 by omega,<-e];refine q2.fr n (fun x U ab hb=>?_);obtain⟨y,d,f⟩:=J x U;obtain⟨z,j,B⟩:=r y d;subst j;have:=h.lt (by rw[Am,Am]at ab;omega);omega
  ·omega
  ·obtain⟨y,d,f⟩:=J x e;obtain⟨z,j,B⟩:=r y d;exact⟨z,j,B.trans f⟩
  ·exact((Fr.of_below o).then (I.trans K) (fun k _ h=>h)).then n (fun k hk h=>by omega)
 have aa:=Oj s;obtain⟨P,g⟩:=ex (GK s);obtain⟨O,D⟩:∃X,X=Hi s:=⟨_,rfl⟩;rw[<-g,<-D]at u ⊢;have L:Hid (Cl 240 #[.pointer (some ⟨b,0,none⟩),.int .i64 2] W (Us W b a l s 2 (.int .u64 (P:Nat)))):=by rw[g];exact Da t
 rw[<-g]at aa;have M:=Db C;have ad:=Db G;clear t g D h q F p H E o C G;go_enter Tryz.func238,Tryz.ntmps238;go_upto_region 1 with fail;rw[show w.alloc (.cells #[Value.int .i64 0,Value.int .u64 0] 175)=W from Da M];go_wp2_with (first|(have ac:=A;clear ac;go_at_call 240;refine(Da u _ (Da A)).mono ?_;rintro e Y ⟨rfl,i,N⟩;have m0:=i.cell 0;have m1:=i.cell 1;have f0:=i.frozen 0;have f1:=i.frozen 1)|(go_at_call 240;refine(Da L).mono ?_;rintro e X m;obtain rfl:=m.1;have A:=Db m;clear m));exact Aq (v := .agg #[.int .i64 (P:Nat),.int .u64 (O:Nat)]) (by simp[results,Tryz.results238,go_sem,m0,m1]) rfl (Da N _ (((Fr.refl (fun k=>k=w.heap.size) Y).set ⟨w.heap.size,0,none⟩ _ rfl).set ⟨w.heap.size,1,none⟩ _ rfl))
theorem Vn(off:Nat):∀(vs:LV) (k:Nat) (a:Array Value) (j:Nat),off+k+vs.length<=a.size->
  ((vs.zipIdx k).foldl (fun a x=>a.setIfInBounds (off+x.2) x.1) a)[j]?=if off+k<=j/\j<off+k+vs.length then vs[j-(off+k)]? else a[j]?
 | [],k,a,j,_=>by simp;intro b c;omega
 | v::vs,k,a,j,h=>by
  simp only[Af]at h;rw[List.zipIdx_cons,List.foldl_cons,Vn off vs (k+1) _ j (by simp;omega)];by_cases b:off+(k+1)<=j/\j<off+(k+1)+vs.length
  ·rw[if_pos b,if_pos (by simp only[Af];omega),show j-(off+k)=(j-(off+(k+1)))+1 by omega,BU]
  ·rw[if_neg b];by_cases c:j=off+k
   ·subst c;rw[if_pos (by simp only[Af];omega),CO,List.getElem?_cons_zero];simp only[A5,EZ];rw[if_pos (by omega)]
   ·rw[if_neg (by simp only[Af];omega)];simp only[A5];rw[if_neg (by omega)]
theorem Va(off:Nat)(vs a:Array Value)(h:off+vs.size<=a.size):(vs.zipIdx.foldl (fun a (x:Value×Nat)=>a.setIfInBounds (off+x.2) x.1) a)=(FM a.toList off vs.toList).toArray:=by
 apply Array.ext_getElem?;intro j;have b:(vs.zipIdx.foldl (fun a (x:Value×Nat)=>a.setIfInBounds (off+x.2) x.1) a)=((vs.toList.zipIdx 0).foldl (fun a x=>a.setIfInBounds (off+x.2) x.1) a):=by
  rw[<-Array.foldl_toList,Array.toList_zipIdx]
 rw[b,Vn off vs.toList 0 a j (by simpa using h)];simp only[Ct,Az,List.getElem?_toArray];unfold FM;by_cases c:j<off
 ·rw[if_neg (by omega),AC,AU (by simp;omega),Ap,if_pos c];simp
 ·by_cases h2:j<off+vs.size
  ·rw[if_pos (by omega),AC,AD (by simp;omega),AU (by simp;omega)]
   congr 1
   simp;omega
  ·rw[if_neg (by omega),AD (by simp;omega),A3];simp only[Ab,Ar,Az,Array.getElem?_toList]
   congr 1
   omega
def FW(p:Nat)(s:By):LV := .int .i64 (p:Nat)::Dd s
def H0(p:Nat)(s:By):Value := .agg (FW p s).toArray
theorem J7(p:Nat)(s:By):(FW p s).length=s.size+1:=by simp[FW,Dj]
theorem ON(p:Nat)(s:By):∀u∈FW p s,u.oneCell'=true:=fun u a=>by
 rcases AG.1 a with rfl|h
 ·rfl
 ·exact Qi s u h
theorem Vb:(Tryz.prog.info? 207).map (fun i=>(i.zero,i.size,i.bytes))=some (some (.agg (FW 0 (Du 64)).toArray),65,72):=by kernel_rfl
theorem QM:(Tryz.prog.info? 207).map (·.size)=some 65:=by
 have:=Vb
 cases h:Tryz.prog.info? 207 with
 | none=>rw[h]at this;cases this
 | some i=>rw[h]at this;simp only[Cn,EF,C4]at this ⊢;exact this.2.1
theorem Oq:∃d,Tryz.prog.underlying 207=some d/\d.isRow=true:=by
 have h:(Tryz.prog.underlying 207).map (·.isRow)=some true:=by kernel_rfl
 cases hd:Tryz.prog.underlying 207 with
 | none=>rw[hd]at h;cases h
 | some d=>rw[hd]at h;exact⟨d,rfl,by simpa using h⟩
theorem Rg:Tryz.prog.underlying 182=some (.slice 207):=by kernel_rfl
theorem Zg1(a:List (Nat×Value)):Tryz.prog.built 207 a=Instr.fill (#[(0,1),(1,64)][·]?) (FW 0 (Du 64)).toArray a:=by kernel_rfl
theorem Ns(s:By):(DG s).cells=(Dd s).toArray:=rfl
theorem SO(p:Nat)(s:By)(b:s.size=64):Tryz.prog.built 207 [(0,.int .i64 (p:Nat)),(1,DG s)]=some (FW p s).toArray:=by
 rw[Zg1];have c:(FW 0 (Du 64)).length=65:=by rw[J7,Kr]
 have d:(Value.int .i64 (p:Nat)).cells = #[.int .i64 (p:Nat)]:=rfl;have g:FM (FW 0 (Du 64)) 0 [.int .i64 (p:Nat)] = .int .i64 (p:Nat)::Dd (Du 64):=by simp[FM,FW]
 have h:FM (.int .i64 (p:Nat)::Dd (Du 64)) 1 (Dd s)=FW p s:=by
  have:(Dd (Du 64)).drop (Dd s).length=[]:=Bf (by rw[Dj,Dj,b,Kr];exact Aa _);simp[FM,FW,Nat.add_comm 1,this]
 have e:(#[(0,1),(1,64)]:Array (Nat×Nat))[0]?=some (0,1):=rfl;have f:(#[(0,1),(1,64)]:Array (Nat×Nat))[1]?=some (1,64):=rfl;unfold Instr.fill;rw[e];simp only[d];rw[Va 0 #[.int .i64 (p:Nat)] _ (by simp[c])];simp only[AQ,Af,Ay,c];rw[if_neg (by decide)];rw[g];unfold Instr.fill;rw[f];simp only[Ns];have a:(Dd s).toArray.size=64:=by simp[Dj,b]
 rw[Va 1 _ _ (by rw[a];simp[Dj,Kr])];simp only[a];rw[if_neg (by simp[Dj,Kr])];rw[h]
 rfl
theorem Oz:∀w,(zeroValue 207).run Tryz.prog w = .ok (H0 0 (Du 64)) w:=(Ey (n:=65) (by
 have:=Vb
 cases h:Tryz.prog.info? 207 with
 | none=>rw[h]at this;cases this
 | some i=>rw[h]at this;simp only[Cn,EF,C4]at this ⊢;exact⟨this.1,this.2.1⟩)).1
theorem Xb(p:Nat)(s:By)(c:s.size=64)(Z:Array Value)(a:Z.size=65):Instr.fill (fun i=>some (i*65,65)) Z [(0,H0 p s)]=some (FW p s).toArray:=by
 have d:(H0 p s).cells=(FW p s).toArray:=rfl;have b:(FW p s).toArray.size=65:=by simp[J7,c]
 unfold Instr.fill;simp only[d];rw[Va (0*65) _ _ (by rw[b,a];decide)];simp only[b,a];rw[if_neg (by decide)];have:FM Z.toList (0*65) (FW p s)=FW p s:=by
  unfold FM;rw[Bf (by rw[Az,a,J7,c];decide)];simp
 rw[this]
 rfl
theorem Zg3(w:World)(p:Nat)(s:By)(c:s.size=64):(Instr.buildSlice 182 1 #[(0,H0 p s)]).run Tryz.prog w = .ok (.slice (some ⟨w.heap.size,0,none⟩) 1 1) (w.alloc (.cells (FW p s).toArray 207)):=by
 obtain⟨i0,b,aa,e,ab⟩:=Bn Vb;have d:(sizeOf 207).run Tryz.prog w = .ok 65 w:=by simp[sizeOf,typeInfo,b,e]
 have a:=Xb p s c;unfold Instr.buildSlice;simp only[Cy,CM Rg,Cr,d];rw[if_neg (by decide),if_neg (by decide)];simp only[Cy,Oz w,Cr,EX];rw[a _ (by simp)]
 rfl
def Qd(ps:LB):LV:=ps.flatMap (fun x=>FW x.1 x.2)
theorem Zi3(ps:LB)(p:Nat)(s:By):Qd (ps++[(p,s)])=Qd ps++FW p s:=by simp[Qd]
def Hb(w:World)(v:Value)(ps:LB):Prop:=Sl w 207 65 v ps.length (Qd ps)
theorem Hb.nil(w:World):Hb w (.slice none 0 0) []:=⟨rfl,.inl ⟨rfl,rfl⟩⟩
theorem Ln(w:World)(v:Value)(ps:LB)(i:Hb w v ps)(f p:Nat)(s:By)(q:s.size=64)(o:FH w f 207 (FW p s))(hl:ps.length<=1000000000):
  ∃g w',(Builtin.append_ #[182,182] 182 #[v,.slice (some ⟨f,0,none⟩) 1 1]).run Tryz.prog w = .ok g w'/\∃a c b,g = .slice a c b/\Hb w' (.slice a c b) (ps++[(p,s)])/\Fr (Own v) w w'/\Dh w v (.slice a c b):=by
 obtain⟨z,m,t,x,y⟩:=Bn Vb;obtain⟨g,C,A,h,d,B⟩:=JZ (P:=Tryz.prog) w 182 182 207 z _ 65 72 Rg m t x y (by show(FW 0 (Du 64)).toArray.size=65;simp[J7,Kr]) (by decide) v ps.length (Qd ps) i ⟨f,0,none⟩ 1 1 (FW p s) (by rw[J7,q])
  (fun j u r=>by rw[AF,Au,o.cell];exact r) (ON p s) (by unfold maxLen;omega) (by omega)
 obtain⟨a,c,b,rfl⟩:=h.shape;refine⟨_,C,A,a,c,b,rfl,?_,⟨d.os,d.tape,d.output,d.size,fun k n l=>d.block k n (fun e=>l e.symm)⟩,B⟩;unfold Hb;rw[Zi3,Ab];exact h
theorem NP(w:World)(v:Value)(ps:LB)(b:Hb w v ps)(a p:Nat)(s:By)(e:s.size=64)(d:FH w a 207 (FW p s))(c:ps.length<=1000000):
  ∃v' w',(Builtin.append_ #[182,182] 182 #[v,.slice (some ⟨a,0,none⟩) 1 1]).run Tryz.prog w = .ok v' w'/\∃a' l' c',v' = .slice a' l' c'/\Hb w' (.slice a' l' c') (ps++[(p,s)])/\Fr (Own v) w w'/\Dh w v (.slice a' l' c'):=
 Ln w v ps b a p s e d (Ae c (by decide))
theorem PU{P:Program}{c:Array Oper}{d:List Oper}{o:Oper}{a:Act}{w:World}{Q:Exit->Act->World->Prop}(f:o.guard=none)(t:TypeId)(x:Operand)(ho:o.op = .box t x)(b:LV)(g:a.eval x = .agg b.toArray)
  (h:wpList P c Q d (a.put o.dst (.pointer (some ⟨w.heap.size,0,none⟩))) (w.alloc (.cells b.toArray t))):wpList P c Q (o::d) a w:=by
 refine Fw f fun K e=>?_
 unfold Oper.wp execOp;simp only[ho,Instr.box,Cy,g];simp[newVar,newRow,go_sem,Value.cells];exact e _ _ h
theorem ZeO{P:Program}(w:World)(g o:Nat)(t b:TypeId)(L a:LV)(j:FH w g t L)(h:o+a.length<=L.length)(c:(P.info? b).map (·.size)=some a.length)(f:∀u∈a,u.oneCell'=true):
  (storeVar b ⟨g,o,none⟩ (.agg a.toArray)).run P w = .ok () (w.setRow g (FM L o a).toArray):=by
 have e:=FD P g o t a 0 L.toArray w j (by simpa using h) f
 cases hq:P.info? b with
 | none=>simp[hq]at c
 | some i=>
  have d:a.length=i.size:=by simp[hq]at c;omega
  simp only[Ct]at e;simp[storeVar,sizeOf,typeInfo,hq,Value.cells,d,e];unfold FM;rw[d,AC]
theorem Zhi{P:Program}{c:Oper}{a:Act}{w:World}{K:Act->World->Prop}{Q:Exit->Act->World->Prop}(d:TypeId)(x y:Operand)(ho:c.op = .store d x y)
  (g o:Nat) (t:TypeId) (L b:LV) (k:a.eval x = .pointer (some ⟨g,o,none⟩)) (l:a.eval y = .agg b.toArray)
  (i:FH w g t L) (f:o+b.length<=L.length) (j:(P.info? d).map (·.size)=some b.length) (e:∀u∈b,u.oneCell'=true)
  (h:K (a.put c.dst undef) (w.setRow g (FM L o b).toArray)):c.wp P a w K Q:=by
 unfold Oper.wp execOp;simp only[ho,k,l,Instr.storeAt,Instr.sureAddr,Cy,EX,Cr,ZeO w g o t d L b i f j e];exact h
theorem ZfO{P:Program}{d:Array Oper}{o:Oper}{a:Act}{w:World}{K:Act->World->Prop}{Q:Exit->Act->World->Prop}{E:Prop}(j:o.guard=none)(c:TypeId)(x y:Operand)(ho:o.op = .store c x y)
  (g off:Nat) (t:TypeId) (L b:LV) (n:a.eval x = .pointer (some ⟨g,off,none⟩)) (p:a.eval y = .agg b.toArray)
  (i:FH w g t L) (f:off+b.length<=L.length) (k:(P.info? c).map (·.size)=some b.length) (e:∀u∈b,u.oneCell'=true) (w':World) (m:w.setRow g (FM L off b).toArray=w')
  (h:K (a.put o.dst undef) w'):if Region.wanted o (yielded d a.tmps)=true then Oper.wp P o a w K Q else E:=by
 have l:Region.wanted o (yielded d a.tmps)=true:=by simp[Region.wanted,j]
 rw[if_pos l];exact Zhi c x y ho g off t L b n p i f k e (by rw[m];exact h)
theorem Ny{b:Array Oper}{o:Oper}{a:Act}{w:World}{K:Act->World->Prop}{Q:Exit->Act->World->Prop}{E:Prop}(c:o.guard=none)(x:Operand)(ho:o.op = .buildSlice 182 1 #[(0,x)])
  (p:Nat) (s:By) (d:s.size=64) (f:a.eval x=H0 p s)
  (h:K (a.put o.dst (.slice (some ⟨w.heap.size,0,none⟩) 1 1)) (w.alloc (.cells (FW p s).toArray 207))):if Region.wanted o (yielded b a.tmps)=true then Oper.wp Tryz.prog o a w K Q else E:=by
 have e:Region.wanted o (yielded b a.tmps)=true:=by simp[Region.wanted,c]
 rw[if_pos e];unfold Oper.wp execOp;simp only[ho,List.map_toArray,BK,Ec,f,Cy,Zg3 w p s d,Cr,EX,Oper.upon];exact h
theorem Vd:∀{D:LY},(∀s∈D,s.size=64)->∀(i:Nat) (s:By),i<D.length->s.size=64->FM (JW D) (i*64) (Dd s)=JW (D.set i s)
 | [],_,i,s,hi,_=>by simp at hi
 | x::D,h,0,s,_,hs=>by
  have a:=h x Bp;unfold JW FM;simp only[AW,List.set_cons_zero,Nat.zero_mul,Co,AJ,Au];rw[Dj,hs,List.drop_left' (by rw[Dj,a])]
 | x::D,h,i+1,s,hi,hs=>by
  have a:=h x Bp;have ih:=Vd (D:=D) (fun y c=>h y (AA _ c)) i s (by simpa using hi) hs;unfold JW at ih ⊢;simp only[AW,List.set_cons_succ];rw[<-ih];unfold FM;have b:(Dd x).length=64:=by rw[Dj,a]
  rw[show(i+1)*64=(Dd x).length+i*64 by rw[b];omega,Ca,Eh,Cd];simp[List.append_assoc]
theorem Tw{D:LY}(h:∀s∈D,s.size=64)(i:Nat)(s:By)(b:s.size=64):∀x∈D.set i s,x.size=64:=fun x c=>by
 rcases C9 c with a|a
 ·exact h x a
 ·rw[a];exact b
theorem Hc.row{w:World}{v:Value}{D:LY}(h:Hc w v D)(h0:0<D.length):∃g c L,v = .slice (some ⟨g,0,none⟩) D.length c/\FH w g 188 L/\L.take (D.length*64)=JW D/\D.length<=c/\c<=maxLen/\L.length=c*64:=by
 rcases h.1.2 with⟨_,aa⟩|⟨g,a,L,e,j,b,d,f,i⟩
 ·omega
 ·exact⟨g,a,L,e,j,i,b,d,f⟩
theorem ZiG(L:LV)(o n:Nat)(a:LV)(h:o+a.length<=n)(hn:n<=L.length):(FM L o a).take n=FM (L.take n) o a:=by
 unfold FM;rw[List.take_append,List.take_append];simp only[C8,Ab,Ar];rw[List.drop_take];have b:min n o=o:=by omega
 have c:min o L.length=o:=by omega
 have d:min o n=o:=by omega
 rw[b,c,d,AI (l:=a) (by omega)]
theorem Hc.set{w:World}{g c:Nat}{D:LY}{L:LV}(_hR:FH w g 188 L)(e:L.take (D.length*64)=JW D)(f:D.length<=c)(h:c<=maxLen)(d:L.length=c*64)(b:∀s∈D,s.size=64)(i:Nat)(s:By)(j:i<D.length)(a:s.size=64)(w':World)(m:FH w' g 188 (FM L (i*64) (Dd s))):
  Hc w' (.slice (some ⟨g,0,none⟩) D.length c) (D.set i s):=by
 have k:(FM L (i*64) (Dd s)).length=c*64:=by rw[DP (by rw[Dj,a,d];omega),d]
 have l:(FM L (i*64) (Dd s)).take (D.length*64)=JW (D.set i s):=by
  rw[ZiG _ _ _ _ (by rw[Dj,a];omega) (by rw[d];omega),e,Vd b i s j a]
 refine⟨⟨?_,.inr ⟨g,c,_,by rw[CV],m,by rw[CV];exact f,h,k,by rw[CV];exact l⟩⟩,Tw b i s a⟩;rw[PQ (Tw b i s a)]
def Nh(w:World)(db:Nat)(vf vn vw ve:Value)(D:LY)(ps:LB)(p:Nat)(s:By)(e:Ending)(w':World):Prop:=
 e = .returned (.tuple #[])/\∃vw',Kt w' db vf vn vw' ve (D.set p s)/\Hb w' vw' (ps++[(p,s)])/\Fr (fun k=>k=db\/Own vn k\/Own vw k) w w'/\Dh w vw vw'
theorem Ze7(w:World)(d:Nat)(C R vw A:Value)(D:LY)(ps:LB)(h:Kt w d C R vw A D)(J:Hb w vw ps)(U:¬Own R d)(Y:¬Own vw d)(Z:∀k,Own R k->¬Own vw k)(hl:ps.length<=1000000000)(p:Nat)(hp:p<1536)(s:By)(z:s.size=64):
  Cl 159 #[.pointer (some ⟨d,0,none⟩),H0 p s] w (Nh w d C R vw A D ps p s):=by
 obtain⟨g,c,L,rfl,E,hT,hc,ar,hL⟩:=h.2.1.row (by rw[h.2.2];decide);have aG:=h.2.2;obtain⟨n,q,o,rfl⟩:=J.shape;have aM:g≠d:=fun e=>U (by rw[<-e];rfl)
 have ac:(Dd s).length=64:=by rw[Dj,z]
 obtain⟨W,hW,N,H,az,ap⟩:=De w (FW p s) 207;have aX:=E.lt;have aW:=h.1.lt;obtain⟨a,F⟩:=ex (W.drew.setRow g (FM L (p*64) (Dd s)).toArray);have au:FH a g 188 (FM L (p*64) (Dd s)):=by rw[F];exact Cu W.drew g _ _ 188 _ (show FH W g 188 L from H _ _ _ E)
 have aO:∀k,k≠g->a.heap[k]?=W.heap[k]? := fun k f=>by rw[F];exact BZ W.drew g k _ f
 have G:Fr (fun k=>k=g) W a:=by rw[F];exact⟨rfl,rfl,rfl,by simp[World.setRow],fun k _ f=>BZ W.drew g k _ f⟩
 have x:Fr (fun k=>k=g) w a:=(Fr.of_below ap).then G (fun _ _ h=>h);have O:FH a w.heap.size 207 (FW p s):=N.fr G (by omega);have M:FH a d 204 [C,.slice (some ⟨g,0,none⟩) D.length c,.slice n q o,A]:=(H _ _ _ h.1).fr G (fun e=>aM e.symm);have ab:Hc a (.slice (some ⟨g,0,none⟩) D.length c) (D.set p s):=Hc.set E hT hc ar hL h.2.1.2 p s (by omega) z a au;have al:Hb a (.slice n q o) ps:=Sl.fr J x (fun k f e=>Z g rfl (by rw[<-e];exact f));have aC:Hid (∀X,Bw a X->∀P,FH X P 207 (FW p s)->∃v' w',(Builtin.append_ #[182,182] 182 #[.slice n q o,.slice (some ⟨P,0,none⟩) 1 1]).run Tryz.prog X = .ok v' w'/\∃r u t,v' = .slice r u t/\FH w' w.heap.size 207 (FW p s)/\FH w' d 204 [C,.slice (some ⟨g,0,none⟩) D.length c,.slice n q o,A]/\Hid (Nh w d C (.slice (some ⟨g,0,none⟩) D.length c) (.slice n q o) A D ps p s (.returned (.tuple #[])) (w'.setCell ⟨d,2,none⟩ (.slice r u t)))):=fun X l P aN=>by
  obtain⟨v',w',r1,r,u,t,rfl,r2,Q,r4⟩:=Ln X _ ps (Sl.kept al (fun k f _=>l.block k f)) P p s z aN hl;have aV:a.heap.size<=X.heap.size:=l.size;have aU:w.heap.size<=a.heap.size:=x.size;have q1:FH X d 204 _:=(l.block _ M.lt).trans M;have q2:FH w' d 204 [C,.slice (some ⟨g,0,none⟩) D.length c,.slice n q o,A]:=q1.fr Q Y;have q3:Hc w' (.slice (some ⟨g,0,none⟩) D.length c) (D.set p s):=⟨(Sl.kept ab.1 (fun k f _=>l.block k f)).fr Q (fun k f e=>Z k f e),ab.2⟩;have aw:Dh w (.slice n q o) (.slice r u t):=fun k f=>(r4 k f).imp id (fun h=>by omega)
  have q0:FH w' w.heap.size 207 (FW p s):=FH.fr (show FH X w.heap.size 207 (FW p s) from (l.block _ O.lt).trans O) Q (fun e=>by have:=J.lt e;omega);refine⟨_,w',r1,r,u,t,rfl,q0,q2,rfl,.slice r u t,⟨by simpa using q2.set 2 (.slice r u t),⟨q3.1.setCell _ _ (fun e=>U e),q3.2⟩,by rw[CV];exact aG⟩,r2.setCell _ _ (fun e=>?_),?_,aw⟩
  ·rcases aw _ e with h4|h4
   ·exact Y h4
   ·simp only at h4;omega
  ·refine Fr.set ?_ ⟨d,2,none⟩ _ (.inl rfl);refine Fr.then (Fr.then (w1:=a) ⟨x.os,x.tape,x.output,x.size,fun k f l=>x.block k f (fun e=>l (.inr (.inl (by rw[e];rfl))))⟩ (Fr.of_below l (X:=fun _=>False)) (fun _ _ h=>h.elim)) Q (fun k _ e => .inr (.inr e))
 have c1:W.cell? ⟨d,1,none⟩=some (.slice (some ⟨g,0,none⟩) D.length c):=((H _ _ _ h.1).cell 1).trans rfl;have b0:W.cell? ⟨w.heap.size,0,none⟩=some (.int .i64 p):=(N.cell 0).trans rfl;have br:W.rangeAt w.heap.size 1 (Dd s):=fun j v m=>by rw[N.cell,EY];exact m
 have am:FH W.drew g 188 L:=H _ _ _ E;have aL:p*64+(Dd s).length<=L.length:=by rw[ac,hL];omega
 have aE:=Db am;have aF:=Db F;have HW:=Db hW;have I:=Db O;have T:=Db M;have aS:=Db G;have af:=Db ac;have aT:=Db az;have aY:g≠w.heap.size:=by omega
 have aZ:(p:Int)<(D.length:Int):=by omega
 have a0:(p:Int)<1536:=by omega
 clear h J E hT hc ar hL N H az ap au aO G x O M ab al hW F am U Y Z ac;obtain⟨B,hB⟩:=ex (Value.agg (Dd s).toArray);have HB:=Db hB;obtain⟨V,hV⟩:=ex (H0 p s);have HV:=Db hV;rw[<-hV];clear hB hV;go_enter Tryz.func159,Tryz.ntmps159;go_upto_region 0 with fail;refine AT ?_;refine PU rfl 207 _ rfl (FW p s) (Da HV) ?_;refine Et ?_;rw[show w.alloc (.cells (FW p s).toArray 207)=W from Da HW];go_upto_region 1 with fail;refine AN (S:=fun X=>X.cell? ⟨d,1,none⟩=some (.slice (some ⟨g,0,none⟩) D.length c)/\X.cell? ⟨w.heap.size,0,none⟩=some (.int .i64 p)/\X.rangeAt w.heap.size 1 (Dd s)) (by kernel_rfl) ⟨c1,b0,br⟩ (fun aa=>?_);refine tk 0 ?_;try simp only[pE];refine tk 1 ?_;try simp only[pE];refine tk 2 ?_;try simp only[pE];refine tk 3 ?_;try simp only[pE];refine tk 4 ?_;try simp only[pE];refine tk 5 ?_;try simp only[pE];refine tk 6 ?_;try simp only[pE];refine Bc (i:=7) (v:=B) rfl (by kernel_rfl) (by kernel_rfl) (by kernel_rfl) (fun _ _ _ h=>h) (by rw[Da HB];exact Ea (by rfl) 188 _ rfl w.heap.size 1 rfl (Dd s) _ (fun X l=>l.2.2) KX rfl (by rw[Kf,Da af])) (by assumption) ?_
 (try simp only[pE])
 refine tk 8 ?_;try simp only[pE];refine rk 9 (fun K b=>?_);have d1:a.cell? ⟨d,1,none⟩=some (.slice (some ⟨g,0,none⟩) D.length c):=((Da T).cell 1).trans rfl;have d2:a.cell? ⟨d,2,none⟩=some (.slice n q o):=((Da T).cell 2).trans rfl;have e0:a.cell? ⟨w.heap.size,0,none⟩=some (.int .i64 p):=((Da I).cell 0).trans rfl;have er:a.rangeAt w.heap.size 1 (Dd s):=fun j v m=>by rw[(Da I).cell,EY];exact m
 have e2:a.rangeAt w.heap.size 0 (FW p s):=fun j v m=>by rw[(Da I).cell,Au];exact m
 have ax:(FW p s).length=65:=by rw[J7,z]
 have aD:=Db ax;clear ax;refine ZfO rfl 188 _ _ rfl g (p*64) 188 L (Dd s) rfl (Da HB) (Da aE) aL (by rw[Kf,Da af]) (Qi s) a (Da aF).symm ?_;refine b.out _ _ ⟨d1,e0,er⟩ (fun aK=>?_);clear b K aa aK e0 er;refine AS (by kernel_rfl) ?_ _;obtain⟨dd,aR,aP⟩:=Oq;obtain⟨y,an,aA,ae,aQ,aq⟩:=De a.drew (FW p s) 207;have s3:y.rangeAt w.heap.size 0 (FW p s):=fun j v m=>by rw[(ae _ _ _ (show FH a.drew w.heap.size 207 (FW p s) from Da I)).cell,Au];exact m
 have d3:y.cell? ⟨d,2,none⟩=some (.slice n q o):=((ae _ _ _ (show FH a.drew d 204 _ from Da T)).cell 2).trans rfl;have ao:Bw a y:=((Ag a.heap.size a).drew).trans aq;obtain⟨v5,w5,ay,r,u,t,rfl,aB,ad,HP⟩:=Da aC y ao a.heap.size aA;have s5:w5.rangeAt w.heap.size 0 (FW p s):=fun j v m=>by rw[aB.cell,Au];exact m
 have m5:w5.cell? ⟨d,2,none⟩=some (.slice n q o):=(ad.cell 2).trans rfl;have f5:=ad.frozen 2;have s6:(w5.setCell ⟨d,2,none⟩ (.slice r u t)).rangeAt w.heap.size 0 (FW p s):=fun j v m=>(World.cell?_setCell_far _ _ _ _ (show d≠w.heap.size by omega)).trans (s5 j v m)
 have ai:=Db s6;have aj:=Db an;have ag:=Db s3;have ah:=Db s5;clear s6 an s3 s5 aB ad aA ae aq aQ ao;go_upto_region 2 with fail;refine AN (S:=fun X=>X.rangeAt w.heap.size 0 (FW p s)) (by kernel_rfl) e2 (fun aa=>?_);refine tk 0 ?_;try simp only[pE];refine tk 1 ?_;try simp only[pE];refine tk 2 ?_;try simp only[pE];refine tk 3 ?_;try simp only[pE];refine Bc (i:=5) (v := .agg (FW p s).toArray) rfl (by kernel_rfl) (by kernel_rfl) (by kernel_rfl) (fun _ _ _ h=>h) (Ea (by rfl) 207 _ rfl w.heap.size 0 rfl (FW p s) _ (fun X l=>l) aR aP (by rw[QM,Da aD])) (by assumption) ?_
 (try simp only[pE])
 refine A6 (rs:=[4,6]) (by kernel_rfl) (by simp) ?_;refine AE (i:=4) rfl ?_ (AE (i:=6) rfl ?_ AX)
 ·intro K b;go_simp;refine b.out _ _ aa (fun aI=>?_);clear b K
  (try simp only[pE])
  refine rk 6 (fun K b=>?_);refine Ny rfl _ rfl p s z rfl ?_;rw[show a.drew.alloc (.cells (FW p s).toArray 207)=y from Da aj];refine b.out _ _ (Da ag) (fun ak=>?_);clear b K
  (try simp only[pE])
  refine rk 7 (fun K b=>?_);refine JD rfl _ _ 182 182 rfl _ _ rfl rfl ay ?_;refine b.out _ _ (Da ah) (fun aJ=>?_);clear b K
  (try simp only[pE])
  refine tk 8 ?_;try simp only[pE];refine tk 9 ?_;try simp only[pE];refine rk 10 (fun K b=>?_);go_simp;refine b.out _ _ (Da ai) (fun aH=>?_);clear b K
  (try simp only[pE])
  refine AS (by kernel_rfl) ?_ _;go_wp2
  go_end0
  exact Da HP
 ·intro K b;refine Ny rfl _ rfl p s z rfl ?_;rw[show a.drew.alloc (.cells (FW p s).toArray 207)=y from Da aj];refine b.out _ _ (Da ag) (fun ak=>?_);clear b K
  (try simp only[pE])
  refine rk 4 (fun K b=>?_);go_simp;refine b.out _ _ ak (fun aI=>?_);clear b K
  (try simp only[pE])
  refine rk 7 (fun K b=>?_);refine JD rfl _ _ 182 182 rfl _ _ rfl rfl ay ?_;refine b.out _ _ (Da ah) (fun aJ=>?_);clear b K
  (try simp only[pE])
  refine tk 8 ?_;try simp only[pE];refine tk 9 ?_;try simp only[pE];refine rk 10 (fun K b=>?_);go_simp;refine b.out _ _ (Da ai) (fun aH=>?_);clear b K
  (try simp only[pE])
  refine AS (by kernel_rfl) ?_ _;go_wp2
  go_end0
  exact Da HP
end Go.Proofs.YtaieidcohdhgpaaGreatDoor
