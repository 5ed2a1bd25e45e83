/- Spoilt. -/
import Derived.Test.YtaieidcohdhgpaaGreatDoorXAK
namespace Go.Proofs.YtaieidcohdhgpaaGreatDoor
set_option maxHeartbeats 40000000
set_option maxRecDepth 100000
section
open Go.RowKit Go.Shelf
attribute [local go_sem] Oper.semAt_some
theorem To:(Tryz.prog.info? 181).map (fun i=>(i.zero,i.size))=some (some (.agg (List.replicate 96 (.int .i64 0)).toArray),96):=by kernel_rfl
theorem Tp:∀w,(zeroValue 181).run Tryz.prog w = .ok (.agg (List.replicate 96 (.int .i64 0)).toArray) w:=(EX To).1
theorem Vh:(Tryz.prog.info? 181).map (·.size)=some 96:=(EX To).2
theorem Pq:Tryz.prog.underlying 181=some (.array 96 3):=by kernel_rfl
theorem Z7:Tryz.prog.built 181 [(0,.int .i64 2)]=some (Value.int .i64 2::List.replicate 95 (.int .i64 0)).toArray:=by kernel_rfl
def GS(f:Nat->Int):F6:=(List.range 96).map (fun j => .int .i64 (f j))
theorem Jv(f:Nat->Int):(GS f).length=96:=by simp[GS]
theorem Tg(f:Nat->Int):∀u∈GS f,u.oneCell'=true:=fun u a=>by
 obtain⟨j,_,e⟩:=Au.1 a;rw[<-e];rfl
theorem Qr(f:Nat->Int)(j:Nat)(h:j<96):(GS f)[j]?=some (.int .i64 (f j)):=by
 simp[GS,h]
theorem ZlK{f g:Nat->Int}(h:∀j,j<96->f j=g j):GS f=GS g:=by
 unfold GS;exact CJ (fun j a=>by rw[h j (by simpa using a)])
def Dj(es:LI)(j:Nat):Int:=(if j=0 then 2 else 0)+(es.countP (fun x=>x.2.toNat/16==j):Nat)
theorem PX(j:Nat):Dj [] j=if j=0 then 2 else 0:=by simp[Dj]
theorem Rh(es:LI)(y:Int×Int)(j:Nat):Dj (es++[y]) j=Dj es j+if y.2.toNat/16=j then 1 else 0:=by
 unfold Dj;rw[CS,CA];by_cases h:y.2.toNat/16=j
 ·simp[h];omega
 ·simp[h]
theorem Th(es:LI)(j:Nat):Dj es j<=2+es.length:=by
 have:=BT (p:=fun x:Int×Int=>x.2.toNat/16==j) (l:=es);unfold Dj;split<;>omega
theorem Om(es:LI)(j:Nat):0<=Dj es j:=by
 unfold Dj;split<;>omega
theorem Yb(es:LI)(y:Int×Int)(x:Nat)(c:y.2.toNat/16=x)(a:x<96):(GS (Dj es)).set x (.int .i64 (Dj es x+1))=GS (Dj (es++[y])):=by
 apply EN;intro j;rw[Fe];by_cases e:x=j
 ·subst e;rw[if_pos rfl,if_pos (by rw[Jv];exact a),Qr _ _ a,Rh,if_pos c]
 ·rw[if_neg e];by_cases b:j<96
  ·rw[Qr _ _ b,Qr _ _ b,Rh,if_neg (fun h=>e (c.symm.trans h)),Int.add_zero]
  ·rw[BS (by rw[Jv];omega),BS (by rw[Jv];omega)]
theorem Zi:(Value.int .i64 2::List.replicate 95 (.int .i64 0))=GS (Dj []):=by
 have:GS (Dj [])=GS (fun j=>if j=0 then 2 else 0):=ZlK (fun j _=>PX j);rw[this];rfl
def Ui(es:LI):Prop:=es.length<=10000/\Gz es/\∀x∈es,∃p:Nat,x.2=p/\p<1536
theorem WQ(w:World)(a so:Nat)(v:Value)(es:LI)(G:w.cell? ⟨a,so,none⟩=some v)(E:Sl w 350 2 v es.length (Ds es))(aF:Ui es):
  Cl 198 #[.pointer (some ⟨a,so,none⟩)] w fun e w'=>e = .returned (.agg (GS (Dj es)).toArray)/\Bw w w':=by
 obtain⟨hn,_,hp⟩:=aF;refine(Bj (n:=3)).1 ?_;refine BJ Tryz.func198 rfl AQ ?_ rfl;simp only[Tryz.ntmps198,AR,Aq,AS,Nat.reduceAdd,Nat.reduceSub,AV,AU,A3,AY,AA,AI]
 gi_step
 gi_step
 refine BG.2 (A1 ?_);refine Ju rfl 181 rfl Tp ?_;refine EL ?_;obtain⟨W,Q,aj,aA,m,aa⟩:=De w (List.replicate 96 (.int .i64 0)) 181;rw[show w.alloc (.cells (List.replicate 96 (Value.int .i64 0)).toArray 181)=W from Q];clear Q;rename_i d;refine d _ _ ?_;clear d
 gi_step
 refine BG.2 (A1 ?_);refine RS rfl 181 0 _ rfl (.int .i64 2) rfl (Z7.trans (Ca some (Ca List.toArray Zi))) ?_;refine Ju rfl 181 rfl Tp ?_;obtain⟨o,R,L,aB,ai,ab⟩:=De W (List.replicate 96 (.int .i64 0)) 181;rw[show W.alloc (.cells (List.replicate 96 (Value.int .i64 0)).toArray 181)=o from R];clear R;refine Bs rfl 181 _ _ rfl W.heap.size (GS (Dj [])).toArray rfl rfl 181 _ L ?_ ?_ (C6 (Tg _)) ?_
 ·rw[Vh];simp[Jv]
 ·simp[Jv]
 refine EL ?_;have M:F0 (o.setRow W.heap.size (GS (Dj [])).toArray) W.heap.size 181 (GS (Dj [])):=BQ o _ _ _ 181 _ L;have u:Bw W (o.setRow W.heap.size (GS (Dj [])).toArray):=ab.trans ⟨rfl,rfl,rfl,by simp,fun j hj=>Bn o _ j _ (by omega)⟩;have ag:(o.setRow W.heap.size (GS (Dj [])).toArray).heap.size=W.heap.size+1:=by simp[World.setRow,ai]
 obtain⟨q,S⟩:∃X,X=o.setRow W.heap.size (GS (Dj [])).toArray:=⟨_,rfl⟩;rw[<-S]at M u ag ⊢;have F:Bw w q:=aa.trans (u.mono (by omega));have ak:F0 q w.heap.size 181 (List.replicate 96 (.int .i64 0)):=(u.block _ (by omega)).trans aj;have ah:a<w.heap.size:=Aj _ _ G;have ay:q.cell? ⟨a,so,none⟩=some v:=(F.cell (p:=⟨a,so,none⟩) ah).trans G;have au:Sl q 350 2 v es.length (Ds es):=E.kept (fun k H _=>F.block k H);rename_i d;refine d _ _ ?_;clear d L aB S aA aj;have N:=Db M;have O:=Db ak;have B:=Db m;clear M ak m
 gi_wp2_with (refine⟨AQ,?_⟩;gi_at_call 235;refine(Yu _ _ AQ rfl _ _).mono ?_;rintro e w' ⟨rfl,rfl⟩)
 rename_i K0 aq;obtain⟨f,T,al,I,aJ,aw⟩:=De q [.pointer (some ⟨a,so,none⟩)] 294;rw[show q.alloc (.cells #[Value.pointer (some ⟨a,so,none⟩)] 294)=f from T];clear T;have m:=Da B;have hA:F0 f W.heap.size 181 (GS (Dj [])):=I _ _ _ (Da N);have hR:F0 f w.heap.size 181 (List.replicate 96 (.int .i64 0)):=I _ _ _ (Da O);have C:Bw w f:=F.trans (aw.mono (by omega));have ar:Sl f 350 2 v es.length (Ds es):=E.kept (fun k H _=>C.block k H);have ax:f.cell? ⟨a,so,none⟩=some v:=(C.cell (p:=⟨a,so,none⟩) ah).trans G;have ap:f.cell? ⟨W.heap.size+1,0,none⟩=some (.pointer (some ⟨a,so,none⟩)):=by rw[<-ag];exact(al.cell 0).trans rfl
 have V:es.attach.map (fun x=>x.1)=es:=Ea es;clear N O al I ay au u aa ab ai;refine C5 (α := { x // x∈es }) rfl (by omega) (gf:=270) (lb := #[.pointer (some ⟨W.heap.size+1,0,none⟩)]) rfl AQ (ER Tryz.func270 (by kernel_rfl) rfl)
  (ZkN Fence.wide 2 AQ rfl (by omega) (W.heap.size+1) w.heap.size a so v (fun x=>x.1) es.attach (by simpa using hn) f (by omega) (by omega) (by omega) ap ax (by rw[V];simpa using ar) (fun g hg=>E.lt hg))
  belowK_t (E4 (by omega)) (Al _ _) (fun _=>rfl)
  (fun b X=>F0 X W.heap.size 181 (GS (Dj (b.map (·.1))))/\F0 X w.heap.size 181 (List.replicate 96 (.int .i64 0))/\Bw w X)
  (fun _ _ _=>False)
  (EG (Own.from (UB _ _ (fun b:List { x // x∈es }=>GS (Dj (b.map (·.1))))) _) (EG (Own.from (UB _ _ (fun _:List { x // x∈es }=>List.replicate 96 (.int .i64 0))) _) (Fy (Aa _) (by omega))))
  (fun _ _ _ _ _ hs _ _=>hs)
  ⟨hA,hR,C⟩
  (fun x=>{ tmps := #[.pointer (some ⟨a,so,none⟩),undef,.pointer (some ⟨w.heap.size,0,none⟩),.pointer (some ⟨W.heap.size,0,none⟩),undef,.int .i64 x.1.2,.agg (GS (Dj [])).toArray,.pointer (some ⟨a,so,none⟩),.pointer (some ⟨a,so,none⟩),.pointer (some ⟨a,so,none⟩),.func (.func 270) #[] #[.pointer (some ⟨W.heap.size+1,0,none⟩)],.int .u64 x.1.1,.int .i64 x.1.2,undef,undef,undef,undef,undef,undef,undef],defers:=[] })
  ?assign ?body ?done ?stop
 case assign=>
  intro l x X K d;clear m
  gi_wp2
  exact d
 case body=>
  rintro l b x X ⟨i,r,s⟩ ae;obtain⟨p,am,aH⟩:=hp x.1 x.2;obtain⟨y,hy⟩:=ex (p/16);have an:y<96:=by omega
  have af:x.1.2.toNat/16=y:=by rw[am,Bz,hy]
  have e1:(IntKind.i64.wrap ((p:Int)/16))=(y:Int):=by rw[AX];omega
  have J:=Yb (b.map (·.1)) x.1 y af an;have ac:=Th (b.map (·.1)) y;have aE:=Om (b.map (·.1)) y;rw[AK]at ac;have aI:b.length<es.length:=by simpa using ae
  have aC:Dj (b.map (·.1)) y<=10002:=by omega
  have az:=(i.cell y).trans (Qr (Dj (b.map (·.1))) y an);have aG:=i.frozen y;obtain⟨z,hz⟩:=ex (Dj (b.map (·.1)) y);rw[<-hz]at az aC aE J;have HI:=Db i;have ao:=Db J;have aK:(y:Int)<96:=by omega
  have aL:¬(96:Int)<=(y:Int):=by omega
  clear i J ac hy af hz ae m;rw[am]
  gi_wp2
  have m:=Da B;have A:F0 (X.setCell ⟨W.heap.size,y,none⟩ (.int .i64 (z+1))) W.heap.size 181 (GS (Dj ((b++[x]).map (·.1)))):=by
   have:=(Da HI).set y (.int .i64 (z+1));rw[Da ao]at this;rw[Bp];exact this
  have ad:w.heap.size<=W.heap.size:=by omega
  have aD:w.heap.size≠W.heap.size:=by omega
  exact⟨Cy _ _ _,(Al w.heap.size X).setCell (p:=⟨W.heap.size,y,none⟩) ad _,A,(AB _ _ _ _ aD).trans r,s.setCell (p:=⟨W.heap.size,y,none⟩) ad _⟩
 case done=>
  rintro D ys X hD rfl ⟨i,r,s⟩ d;show K0 _ _;refine aq _ _ ?_
  gi_step
  refine BG.2 (A1 ?_);rw[V]at i;refine wpList_load_row rfl 181 _ rfl W.heap.size rfl 181 _ (0,0) _ i Pq rfl ?_ ?_
  ·rw[Vh];simp[Jv]
  refine Bs rfl 181 _ _ rfl w.heap.size (GS (Dj es)).toArray rfl rfl 181 _ r ?_ ?_ (C6 (Tg _)) ?_
  ·rw[Vh];simp[Jv]
  ·simp[Jv]
  refine EL ?_;have A:F0 (X.setRow w.heap.size (GS (Dj es)).toArray) w.heap.size 181 (GS (Dj es)):=BQ X _ _ _ 181 _ r;have Z:Bw w (X.setRow w.heap.size (GS (Dj es)).toArray):=s.trans ⟨rfl,rfl,rfl,by simp,fun j hj=>Bn X _ j _ (by omega)⟩;have t:(X.setRow w.heap.size (GS (Dj es)).toArray).heap[D]?=some (.deferred (some [])):=(Bn X _ D _ (by omega)).trans d;obtain⟨P,U⟩:∃Y,Y=X.setRow w.heap.size (GS (Dj es)).toArray:=⟨_,rfl⟩;rw[<-U]at A Z t ⊢;clear U i r s d m
  gi_wp2
  have m:=Da B;refine⟨by simp,.inl ⟨_,_,rfl,Cb t,?_⟩⟩;have av:=E4 (w:=w) (Aa _) P D _ (.deferred none) (by omega) t rfl rfl;refine⟨_,Fo rfl _ _ w.heap.size 181 _ (0,0) _ rfl ?_ Pq rfl ?_,rfl,Z.trans av⟩
  ·exact((E4 (w:=W) (Aa _) P D _ (.deferred none) (by omega) t rfl rfl).block w.heap.size (by omega)).trans A
  ·rw[Vh];simp[Jv]
 case stop=>
  rintro D c b X _ _ h _;exact h.elim
theorem ZX(w:World)(L:F6)(k:Nat)(z:Int)(b:k<96)(a:L[k]?=some (.int .i64 z)):(Instr.index 181 (.agg L.toArray) (.int .i64 k)).run Tryz.prog w = .ok (.int .i64 z) w:=by
 have h1:(k:Int)<96:=by omega
 simp[Instr.index,run_underlying Pq,go_sem];rw[if_pos b,a]
 rfl
def DS(f:Nat->Int):Nat->Nat
 | 0=>0
 | k+1=>DS f k+if f k=0 then 16 else 0
theorem NK(f:Nat->Int):∀k,DS f k<=16*k
 | 0=>by simp[DS]
 | k+1=>by have:=NK f k;unfold DS;split<;>omega
theorem RU(w:World)(h so:Nat)(v:Value)(es:LI)(p:w.cell? ⟨h,so,none⟩=some v)(o:Sl w 350 2 v es.length (Ds es))(d:Ui es):
  Cl 132 #[.pointer (some ⟨h,so,none⟩)] w fun e w'=>e = .returned (.int .i64 (DS (Dj es) 96:Nat))/\Bw w w':=by
 have a:=WQ w h so v es p o d;have B:∀j,Dj es j<=10002/\0<=Dj es j:=fun j=>⟨by have:=Th es j;have:=d.1;omega,Om es j⟩
 obtain⟨f,r⟩:=ex (Dj es);rw[<-r]at a B ⊢;clear r p o d;have l:Hid (∀j,j<96->(GS f)[j]?=some (.int .i64 (f j))):=fun j C=>Qr f j C
 have m:Hid ((GS f).length=96):=Jv f;obtain⟨L,n⟩:=ex (GS f);rw[<-n]at a l m;clear n;have u:=Db a;clear a;go_enter Tryz.func132,Tryz.ntmps132;go_wp2_with (go_at_call 198;refine(Da u).mono ?_;rintro e w1 ⟨rfl,A⟩)
 go_loop [3,8] (fun x i=>∃(k y:Nat),k<=96/\i = .int .i64 k/\x = .int .i64 y/\Hid (y=DS f k)) (fun _ i=>96-(intOf i).toNat)
 case atStart=>exact⟨0,0,Aw _,rfl,rfl,rfl⟩
 case round=>
  obtain⟨k,y,hk,rfl,rfl,b⟩:=hrel;have ad:y<=1536:=by have:=NK f k;rw[<-Da b]at this;omega
  by_cases s:k<96
  ·have q:=Da l k s;have ac:=Da m;have ab:(k:Int)<96:=by omega
   obtain⟨z,g⟩:=ex (f k);rw[<-g]at q;have aa:=ZX w1 L k z s q;have t:Hid (DS f (k+1)=DS f k+if z=0 then 16 else 0):=by show _=_;rw[g];rfl
   clear g;by_cases c:z=0
   ·subst c;go_wp2
    go_round
    case rel=>exact⟨k+1,y+16,by omega,by go_num,by go_num,by show _=_;rw[Da t,<-Da b];simp⟩
    case measure=>simp[intOf];omega
   ·have ae:(z==0)=false:=by rw[BK];exact c
    go_wp2
    go_round
    case rel=>exact⟨k+1,y,by omega,by go_num,by go_num,by show _=_;rw[Da t,<-Da b];simp[c]⟩
    case measure=>simp[intOf];omega
  ·obtain rfl:k=96:=by omega
   go_wp2;go_ret;exact⟨by rw[<-Da b]<;>rfl,A⟩
end
open Go.RowKit
theorem ZmA(w:World)(a:OA)(l c:Nat)(s:By)(h:Gy w a l c s)(n:Nat)(W:World)(q:Sl W 5 1 (.slice (some ⟨w.heap.size,0,none⟩) n n) n (List.replicate n (.int .u8 0)))(f:Bw w W):
  ∃d,(Builtin.copy_ #[59,59] 3 #[.slice (some ⟨w.heap.size,0,none⟩) n n,.slice a l c]).run Tryz.prog W = .ok (goInt (Nat.min l n)) d/\Sl d 5 1 (.slice (some ⟨w.heap.size,0,none⟩) n n) n (Dc (Dg s n))/\Bw w d:=by
 have G:=h.below f
 cases a with
 | none=>
  have p:s.size=0:=by
   rcases BC s.size with e|e
   ·exact e
   ·obtain⟨x,I,_⟩:=h.2.2 0 ((Dc s)[0]'(by rw[Dh];exact e)) (Ac _)
    cases I
  have F:l=0:=by rw[h.1,p]
  have D:=h.2.1 rfl;subst F D;refine⟨W,by rw[show Nat.min 0 n=0 from Nat.zero_min n];exact PQ W _ _ _,?_,f⟩;have:Dc (Dg s n)=List.replicate n (.int .u8 0):=by
   have H:s=⟨#[]⟩:=by
    apply A7;have:s.data.toList.length=0:=by rw[<-p];exact AG
    rw[Ay this]
   unfold Dg;by_cases r:n<=s.size
   ·rw[if_pos r];have:n=0:=by omega
    subst this;rw[Jt];simp
   ·rw[if_neg r,JE,Kw,p,H];simp[Dc]
  rw[this];exact q
 | some x=>
  rcases q.2 with⟨e,_⟩|⟨g,aa,L,e,C,h1,u,z,A⟩
  ·cases e
  ·cases e
   have B:L=List.replicate n (.int .u8 0):=by
    rw[<-A,Ah (by omega)]
   have i:((Dc s).take (Nat.min l n)).length=Nat.min l n*1:=by
    rw[Am,Dh,h.1,BW];exact BB (FH _ _)
   obtain⟨d,K,t,M⟩:=JP (P:=Tryz.prog) W 59 59 3 5 1 w.heap.size 0 n n x l c L 5 ((Dc s).take (Nat.min l n)) Tryz.underlying59 Q2 C i
    (fun j v b=>by
     rw[Ao]at b
     split at b
     ·obtain⟨y,e,J⟩:=G.2.2 j v b;cases e;exact J
     ·cases b) (by rw[i,z];have:Nat.min l n<=n:=Nat.min_le_right _ _;omega) (fun v b=>Ko s v (BE b))
   refine⟨d,K,?_,?_⟩
   ·have E:F8 L 0 ((Dc s).take (Nat.min l n))=Dc (Dg s n):=by
     unfold F8;rw[i,B,Ct,AA,Av,BW,CL];unfold Dg;by_cases o:n<=s.size
     ·have m:Nat.min l n=n:=by rw[h.1];exact Eh o
      rw[if_pos o,Jt,m];simp
     ·have m:Nat.min l n=s.size:=by rw[h.1];exact BB (by omega)
      rw[if_neg o,JE,Kw,m,Ah (by rw[Dh];exact Aa _)]
    rw[E]at t;refine⟨by rw[Dh,Jc];omega,.inr ⟨w.heap.size,n,_,rfl,t,Aa _,u,by rw[Dh,Jc];omega,by rw[Ah (by rw[Dh,Jc];omega)]⟩⟩
   ·exact f.grown M f.size (fun k e=>by cases e;exact Aa _)
theorem Gy.drop{w:World}{x:Addr}{l c:Nat}{s:By}(h:Gy w (some x) l c s)(k:Nat)(b:Nat):Gy w (some (x.add k)) (l-k) b (s.extract k s.size):=by
 refine⟨by rw[Af,h.1];omega,fun e=>(by cases e),fun j v a=>?_⟩;rw[Jt,Ao]at a
 split at a
 ·rw[Bc]at a;obtain⟨y,e,d⟩:=h.2.2 _ _ a
  cases e
  exact⟨_,rfl,by rw[Addr.add_add];exact d⟩
 ·cases a
theorem Addr.block_add'(x:Addr)(j:Nat):(x.add j).block=x.block:=by unfold Addr.add;split<;>rfl
def Vy(w:World)(fb:Nat)(a:OA)(l:Nat)(s:By)(n:Nat)(e:Ending)(w':World):Prop:=
 ∃a2 c2,e = .returned (.slice (some ⟨w.heap.size,0,none⟩) n n)/\Sl w' 5 1 (.slice (some ⟨w.heap.size,0,none⟩) n n) n (Dc (Dg s n))/\F0 w' fb 287 [.slice a2 (l-n) c2]/\Gy w' a2 (l-n) c2 (s.extract n s.size)/\l-n<=c2/\(∀x,a2=some x->∃y,a=some y/\y.block=x.block)/\Fr (fun k=>k=fb) w w'
theorem Wm(w:World)(d:Nat)(a:OA)(l c:Nat)(s:By)(g:F0 w d 287 [.slice a l c])(h:Gy w a l c s)(am:l<=c)(ai:∀x,a=some x->x.block≠d)(n:Nat)(hn:n<=2000000)(hl:l<=2000000):
  Cl 245 #[.pointer (some ⟨d,0,none⟩),.int .i64 n] w (Vy w d a l s n):=by
 obtain⟨Q,K,N,O,P⟩:=BU KB;have ab:∀W:World,W.ownsRow 0 5 1 (.slice (some ⟨w.heap.size,0,none⟩) n n) n (madeCells (Value.int .u8 0).cells (n*1)).toList->w.grownBy W none->∃b,(Builtin.copy_ #[59,59] 3 #[.slice (some ⟨w.heap.size,0,none⟩) n n,.slice a l c]).run Tryz.prog W.drew = .ok (goInt (Nat.min l n)) b/\W.cell? ⟨d,0,none⟩=some (.slice a l c)/\b.cell? ⟨d,0,none⟩=some (.slice a l c)/\b.frozen? ⟨d,0,none⟩=false/\Hid (Sl b 5 1 (.slice (some ⟨w.heap.size,0,none⟩) n n) n (Dc (Dg s n))/\Bw w b):=fun W hW hg=>by
  have U:=Sl.of_owns hW;have I:(madeCells (Value.int .u8 0).cells (n*1)).toList=List.replicate n (.int .u8 0):=by rw[BW];exact EQ (.int .u8 0) n
  rw[I]at U;have V:=KT hg;obtain⟨b,r1,r2,r3⟩:=ZmA w a l c s h n W.drew U V.drew;have q1:F0 W d 287 [.slice a l c]:=(V.block _ g.lt).trans g;have F:F0 b d 287 [.slice a l c]:=(r3.block _ g.lt).trans g;exact⟨b,r1,(q1.cell 0).trans rfl,(F.cell 0).trans rfl,F.frozen 0,r2,r3⟩
 have D:=Db ab;have al:=g.lt;have ak:=Db g;have R:=Db h;obtain⟨m,B⟩:=ex (Nat.min l n);have ap:m<=l:=by rw[B];exact FH _ _
 rw[<-B]at D;have L:l-m=l-n:=by have e:m=min l n:=B;omega
 have G:Hid (∀b q r,Sl b 5 1 (.slice (some ⟨w.heap.size,0,none⟩) n n) n (Dc (Dg s n))->Bw w b->(∀X,Bw w X->Gy X q (l-n) r (s.extract n s.size))->l-n<=r->(∀x,q=some x->∃y,a=some y/\y.block=x.block)->Vy w d a l s n (.returned (.slice (some ⟨w.heap.size,0,none⟩) n n)) (b.setCell ⟨d,0,none⟩ (.slice q (l-n) r))):=fun b q r f A h3 h4 S=>by
  have F:F0 b d 287 [.slice a l c]:=(A.block _ g.lt).trans g;refine⟨q,r,rfl,f.setCell _ _ (fun e=>?_),by simpa using F.set 0 (.slice q (l-n) r),?_,h4,S,(Fr.of_below A).set ⟨d,0,none⟩ _ rfl⟩
  ·simp[Value.ownBlock]at e;omega
  ·have J:=h3 b A;refine⟨J.1,J.2.1,fun j v p=>?_⟩;obtain⟨x,e,M⟩:=J.2.2 j v p;exact⟨x,e,(BR _ _ _ _ (by intro ee;obtain⟨y,I,e2⟩:=S x e;exact ai y I (by have T:=(Ca Addr.block ee).symm;rw[Addr.block_add']at T;exact e2.trans T))).trans M⟩
 have ah:Hid (∀x,a=some x->∀X,Bw w X->Gy X (some (x.add m)) (l-n) (c-m) (s.extract n s.size)):=fun x e X hX=>by
  subst e;have f:=((Da R).below hX).drop m (c-m);rw[L]at f;have A:s.extract m s.size=s.extract n s.size:=by
   have e:m=min l n:=B;rw[h.1]at e;rcases Nat.le_total s.size n with E|E
   ·apply A7;simp only[Cc];rw[e,BB E];simp[E]
   ·rw[e,Eh E]
  rw[A]at f;exact f
 have H:Hid (a=none->∀X,Gy X none (l-n) 0 (s.extract n s.size)/\l=0/\c=0):=fun e X=>by
  subst e;have t:s.size=0:=by
   rcases BC s.size with e|e
   ·exact e
   ·obtain⟨x,M,_⟩:=h.2.2 0 ((Dc s)[0]'(by rw[Dh];exact e)) (Ac _)
    cases M
  have ad:l=0:=by rw[h.1,t]
  refine⟨⟨by rw[Af,t,ad];omega,fun _=>rfl,fun j v p=>?_⟩,ad,h.2.1 rfl⟩;have:Dc (s.extract n s.size)=[]:=Ay (by rw[Dh,Af,t];omega);rw[this]at p;simp at p
 have u:=Db L;have ao:(m:Int)<=(l:Int):=by omega
 clear ab g h B L
 cases a with
 | none=>
  obtain⟨aj,rfl,rfl⟩:=Da H rfl w;obtain rfl:m=0:=by omega
  have ag:Hid (∀X,Gy X none (0-n) 0 (s.extract n s.size)):=fun X=>(Da H rfl X).1
  clear aj H;go_enter Tryz.func245,Tryz.ntmps245;go_upto_region 2 with(at_make;refine BA _ rfl _ _ 59 rfl 0 5 Q (.int .u8 0) 1 Tryz.underlying59 K N O _ _ _ _ n rfl rfl rfl rfl (by rw[P];omega) (by unfold maxLen;omega) (Aw _) ?_;intro w1 o k;obtain⟨b,C,Z,aa,ac,i⟩:=Da D w1 o k;clear o k)
  go_region_law (refine KH rfl _ _ 59 59 rfl _ _ (by simp[Act.eval]) (by simp[Act.eval]) C ?_)
  all_goals
   go_wp2;go_ret;have f:=Da G b none 0 (Da i).1 (Da i).2 (fun X _=>Da ag X) (by omega) (fun x e=>by cases e);rw[show 0-n=0 from Nat.zero_sub n]at f;exact f
 | some x=>
  have Y:∀y,some (x.add m)=some y->∃z,some x=some z/\z.block=y.block:=fun y e=>by cases e;exact⟨x,rfl,(Addr.block_add' _ _).symm⟩
  have af:=Db Y;clear Y;by_cases ae:m=c
  ·have HE:Hid (∀X,Gy X (some x) (l-n) 0 (s.extract n s.size)):=fun X=>by
    have h0:l-n=0:=by have:=Da u;omega
    have t:(s.extract n s.size).size=0:=by rw[Af,<-(Da R).1];omega
    refine⟨by rw[h0,t],fun _=>rfl,fun j v p=>?_⟩;have:Dc (s.extract n s.size)=[]:=Ay (by rw[Dh,t]);rw[this]at p;simp at p
   obtain rfl:l=m:=by omega
   subst ae;go_enter Tryz.func245,Tryz.ntmps245;go_upto_region 2 with(at_make;refine BA _ rfl _ _ 59 rfl 0 5 Q (.int .u8 0) 1 Tryz.underlying59 K N O _ _ _ _ n rfl rfl rfl rfl (by rw[P];omega) (by unfold maxLen;omega) (Aw _) ?_;intro w1 o k;obtain⟨b,C,Z,aa,ac,i⟩:=Da D w1 o k;clear o k)
   go_region_law (refine KH rfl _ _ 59 59 rfl _ _ (by simp[Act.eval]) (by simp[Act.eval]) C ?_)
   all_goals
    go_wp2;go_ret;have f:=Da G b (some x) 0 (Da i).1 (Da i).2 (fun X _=>Da HE X) (by have:=Da u;omega) (fun y e=>⟨x,rfl,by cases e;rfl⟩);rw[show l-n=0 by have:=Da u;omega]at f;exact f
  ·have an:¬c=m:=fun e=>ae e.symm
   go_enter Tryz.func245,Tryz.ntmps245;go_upto_region 2 with(at_make;refine BA _ rfl _ _ 59 rfl 0 5 Q (.int .u8 0) 1 Tryz.underlying59 K N O _ _ _ _ n rfl rfl rfl rfl (by rw[P];omega) (by unfold maxLen;omega) (Aw _) ?_;intro w1 o k;obtain⟨b,C,Z,aa,ac,i⟩:=Da D w1 o k;clear o k)
   go_region_law (refine KH rfl _ _ 59 59 rfl _ _ (by simp[Act.eval]) (by simp[Act.eval]) C ?_)
   all_goals
    go_wp2;go_ret;rw[show l-m=l-n from Da u];have f:=Da G b (some (x.add m)) (c-m) (Da i).1 (Da i).2 (Da ah x rfl) (by have:=Da u;omega) (Da af);exact f
def DA:List UInt8->Nat
 | []=>0
 | b::l=>b.toNat+256*DA l
theorem Qg:∀(l:List UInt8),DA l<256 ^ l.length
 | []=>by simp[DA]
 | b::l=>by
  have h1:=Qg l;have h2:b.toNat<256:=b.toNat_lt;show b.toNat+256*DA l<256 ^ (l.length+1);rw[C1];omega
theorem V9:∀(l:List UInt8) (b:UInt8),DA (l++[b])=DA l+256 ^ l.length*b.toNat
 | [],b=>by simp[DA]
 | a::l,b=>by
  show a.toNat+256*DA (l++[b])=a.toNat+256*DA l+256 ^ (l.length+1)*b.toNat;rw[V9 l b,Nat.mul_add,<-EM,<-Fz,C1,Nat.mul_comm 256 (256 ^ l.length)]
theorem Kr:∀(m x:Nat),x<256 ^ m->DA (DC x m)=x
 | 0,x,h=>by simp at h;subst h;rfl
 | m+1,x,h=>by
  show(UInt8.ofNat x).toNat+256*DA (DC (x/256) m)=x;have a:x/256<256 ^ m:=by rw[C1]at h;omega
  rw[Kr m _ a];have b:(UInt8.ofNat x).toNat=x%256:=by simp
  rw[b];omega
theorem Zix(a b:Int):bits BinOp.or IntKind.u64 a b=bits BinOp.or IntKind.u64 b a:=by
 show IntKind.u64.wrap (((BitVec.ofInt 64 a ||| BitVec.ofInt 64 b:BitVec 64).toNat:Nat):Int)=IntKind.u64.wrap (((BitVec.ofInt 64 b ||| BitVec.ofInt 64 a:BitVec 64).toNat:Nat):Int);rw[BitVec.or_comm]
theorem Lv(k:Nat):2 ^ (8*k)=256 ^ k:=by rw[Nat.pow_mul]
theorem Yd(y b k:Nat)(e:k<8)(f:y<256 ^ k)(hb:b<256):bits BinOp.or IntKind.u64 (y:Int) (IntKind.u64.wrap ((b:Int)*2 ^ (8*k)))=((y+256 ^ k*b:Nat):Int):=by
 have h1:256 ^ k*256<=256 ^ 8:=by rw[<-C1];exact Nat.pow_le_pow_right (by omega) e
 have c:256 ^ k*b+y<256 ^ 8:=by
  have:256 ^ k*b<=256 ^ k*255:=EV _ (by omega);have:256 ^ k*256=256 ^ k*255+256 ^ k:=by omega
  omega
 have d:(256:Nat) ^ 8=18446744073709551616:=by decide
 rw[d]at c;have a:((b:Int)*2 ^ (8*k))=((2 ^ (8*k)*b:Nat):Int):=by rw[Int.natCast_mul,Int.mul_comm];simp
 rw[a,Po _ (by rw[Lv];omega),Zix,Pw b (8*k) y (by rw[Lv];exact f) (by rw[Lv];omega),Lv,E3]
def QV(w:World)(fb:Nat)(a:OA)(l:Nat)(s:By)(n:Nat)(v:Value)(e:Ending)(w':World):Prop:=
 e = .returned v/\∃a2 c2,F0 w' fb 287 [.slice a2 (l-n) c2]/\Gy w' a2 (l-n) c2 (s.extract n s.size)/\l-n<=c2/\(∀x,a2=some x->∃y,a=some y/\y.block=x.block)/\Fr (fun k=>k=fb) w w'
theorem On(w:World)(d:Nat)(a:OA)(l c:Nat)(s:By)(B:F0 w d 287 [.slice a l c])(h:Gy w a l c s)(u:l<=c)(v:∀x,a=some x->x.block≠d)(n:Nat)(hn:n<=8)(O:l<=2000000):
  Cl 240 #[.pointer (some ⟨d,0,none⟩),.int .i64 n] w (QV w d a l s n (.int .u64 (DA (Dg s n).data.toList:Nat))):=by
 have D:=Db (Wm w d a l c s B h u v n (by omega) O);clear B h u v;obtain⟨t,f⟩:=ex (Dg s n);have o:t.size=n:=by rw[f,Jc]
 have I:=Db f;rw[<-f];clear f;go_enter Tryz.func240,Tryz.ntmps240;go_wp2_with (go_at_call 245;refine(Da D).mono ?_;rintro e w1 ⟨J,K,rfl,j,q⟩;rw[<-Da I]at j;have A:=j.rdB;have F:=Db A.2.2;have G:=Db q;clear j q A)
 go_loop [5,12] (fun x i=>∃(k y:Nat),k<=n/\i = .int .i64 k/\x = .int .u64 y/\Hid (y=DA (t.data.toList.take k))) (fun _ i=>n-(intOf i).toNat)
 case atStart=>exact⟨0,0,Aw _,rfl,rfl,rfl⟩
 case round=>
  obtain⟨k,y,r,rfl,rfl,p⟩:=hrel;by_cases aa:k<n
  ·obtain⟨g,N,q0⟩:=Da F k _ (U3 t k (by omega))
   cases N
   obtain⟨b,m⟩:∃b,b=t.data[k]'(by show k<t.size;omega):=⟨_,rfl⟩;rw[<-m,AL,Av]at q0;have M:b.toNat<256:=b.toNat_lt;have C:y<256 ^ k:=by
    have:=Qg (t.data.toList.take k);rw[<-Da p,Am,AG,show t.data.size=n from o,BB r]at this;exact this
   have H:Hid (y+256 ^ k*b.toNat=DA (t.data.toList.take (k+1))):=by
    show _=_;rw[VG t k (by omega),V9,<-Da p,Am,AG,show t.data.size=n from o,BB r,m]
   have z:=Yd y b.toNat k (by omega) C M;have E:=Db z;clear z m C;go_wp2
   go_round
   case rel=>exact⟨k+1,y+256 ^ k*b.toNat,by omega,by go_num,by rw[Da E],Da H⟩
   case measure=>simp[intOf];omega
  ·obtain rfl:k=n:=by omega
   go_wp2;go_ret;have L:t.data.toList.take k=t.data.toList:=Ah (by rw[AG];exact Ej o);exact⟨by rw[show y=DA t.data.toList by rw[Da p,L]]<;>rfl,J,K,Da G⟩
def Gu(s:By):Nat:=DA (Dg s 2).data.toList
def GD(s:By):Nat:=DA (Dg (s.extract 2 s.size) 8).data.toList
theorem Pi(s:By):Gu s<65536:=by
 have:=Qg (Dg s 2).data.toList;rw[AG,show(Dg s 2).data.size=2 from Jc s 2]at this;exact this
theorem Gy.fr{P:Nat->Prop}{w w':World}{a:OA}{l c:Nat}{s:By}(h:Gy w a l c s)(g:Fr P w w')(f:∀x,a=some x->0<s.size->¬P x.block):Gy w' a l c s:=
 ⟨h.1,h.2.1,fun j v b=>by
  obtain⟨x,e,d⟩:=h.2.2 j v b;have k:0<s.size:=by have:=(Ae.1 b).1;rw[Dh]at this;omega
  have i:=Aj _ _ d;refine⟨x,e,(AC (g.block _ i ?_)).trans d⟩;rw[Addr.block_add'];exact f x e k⟩
theorem Gy.lt{w:World}{x:Addr}{l c:Nat}{s:By}(h:Gy w (some x) l c s)(a:0<s.size):x.block<w.heap.size:=by
 obtain⟨y,e,b⟩:=h.2.2 0 ((Dc s)[0]'(by rw[Dh];exact a)) (Ac _)
 cases e
 have:=Aj _ _ b;rw[Addr.block_add']at this;exact this
theorem NP(w:World)(b:Nat)(a:OA)(l c:Nat)(s:By)(q:F0 w b 287 [.slice a l c])(h:Gy w a l c s)(F:l<=c)(p:∀x,a=some x->x.block≠b)(V:l<=2000000):
  Cl 238 #[.pointer (some ⟨b,0,none⟩)] w (QV w b a l s 10 (.agg #[.int .i64 (Gu s:Nat),.int .u64 (GD s:Nat)])):=by
 have ae:=q.lt;obtain⟨W,C,H,E,G,o⟩:=De w [.int .i64 0,.int .u64 0] 175;have t:=Db (On W b a l c s (E _ _ _ q) (h.below o) F p 2 (by omega) V);have u:Hid (∀X,QV W b a l s 2 (.int .u64 (Gu s:Nat)) (.returned (.int .u64 (Gu s:Nat))) X->Cl 240 #[.pointer (some ⟨b,0,none⟩),.int .i64 8] X fun e Y=>e = .returned (.int .u64 (GD s:Nat))/\F0 Y w.heap.size 175 [.int .i64 0,.int .u64 0]/\Hid (∀Z,Fr (fun k=>k=w.heap.size) Y Z->QV w b a l s 10 (.agg #[.int .i64 (Gu s:Nat),.int .u64 (GD s:Nat)]) (.returned (.agg #[.int .i64 (Gu s:Nat),.int .u64 (GD s:Nat)])) Z)):=fun X ⟨_,Q,S,p1,p2,p3,r,I⟩=>by
  refine(On X b Q (l-2) S _ p1 p2 p3 (fun x e=>by obtain⟨y,d,f⟩:=r x e;rw[<-f];exact p y d) 8 (by omega) (by omega)).mono ?_;rintro e Y ⟨rfl,R,T,q1,q2,q3,J,K⟩;have r1:F0 X w.heap.size 175 _:=H.fr I (by omega);have r2:F0 Y w.heap.size 175 _:=r1.fr K (by omega);refine⟨rfl,r2,fun Z n=>⟨rfl,R,T,?_,?_,?_,fun x e=>?_,?_⟩⟩
  ·rw[show l-10=l-2-8 by omega];exact q1.fr n (by omega)
  ·have e:(s.extract 2 s.size).extract 8 (s.extract 2 s.size).size=s.extract 10 s.size:=by
    apply A7;simp;omega
   rw[show l-10=l-2-8 by omega,<-e];refine q2.fr n (fun x U ab hb=>?_);obtain⟨y,d,f⟩:=J x U;obtain⟨z,j,B⟩:=r y d;subst j;have:=h.lt (by rw[Af,Af]at ab;omega);omega
  ·omega
  ·obtain⟨y,d,f⟩:=J x e;obtain⟨z,j,B⟩:=r y d;exact⟨z,j,B.trans f⟩
  ·exact((Fr.of_below o).then (I.trans K) (fun k _ h=>h)).then n (fun k hk h=>by omega)
 have aa:=Pi s;obtain⟨P,g⟩:=ex (Gu s);obtain⟨O,D⟩:∃X,X=GD s:=⟨_,rfl⟩;rw[<-g,<-D]at u ⊢;have L:Hid (Cl 240 #[.pointer (some ⟨b,0,none⟩),.int .i64 2] W (QV W b a l s 2 (.int .u64 (P:Nat)))):=by rw[g];exact Da t
 rw[<-g]at aa;have M:=Db C;have ad:=Db G;clear t g D h q F p H E o C G;go_enter Tryz.func238,Tryz.ntmps238;go_upto_region 1 with fail;rw[show w.alloc (.cells #[Value.int .i64 0,Value.int .u64 0] 175)=W from Da M];go_wp2_with (first|(have ac:=A;clear ac;go_at_call 240;refine(Da u _ (Da A)).mono ?_;rintro e Y ⟨rfl,i,N⟩;have m0:=i.cell 0;have m1:=i.cell 1;have f0:=i.frozen 0;have f1:=i.frozen 1)|(go_at_call 240;refine(Da L).mono ?_;rintro e X m;obtain rfl:=m.1;have A:=Db m;clear m));exact Ax (v := .agg #[.int .i64 (P:Nat),.int .u64 (O:Nat)]) (by simp[results,Tryz.results238,go_sem,m0,m1]) rfl (Da N _ (((Fr.refl (fun k=>k=w.heap.size) Y).set ⟨w.heap.size,0,none⟩ _ rfl).set ⟨w.heap.size,1,none⟩ _ rfl))
theorem tv(i:Nat){P:Program}{e:Region.Mode}{b:Array Oper}{Q:Exit->Act->World->Prop}{S:World->Prop}{f:Oper}(v:Value){g:Nat}{d:Array Bool}{a:Act}{w:World}(n:b[i]?=some f)(q:YieldsIf P b S f v a)
 (h:wpAnyH P e b Q S g (d.setIfInBounds i true) (a.put f.dst v) w)
 (p:Region.noSelect b=true:=by kernel_rfl) (m:Region.free e b d i=true:=by kernel_rfl) (o:(Region.ready e b d).contains i=true:=by kernel_rfl)
 (j:∀c a w,Q (.panic c) (a.put f.dst v) w->Q (.panic c) a w:=by exact fun _ _ _ h=>h) (k:S w:=by assumption):wpAnyH P e b Q S (g+1) d a w:=
 A6 n p m o j q k h
theorem tk(i:Nat){P:Program}{e:Region.Mode}{b:Array Oper}{Q:Exit->Act->World->Prop}{S:World->Prop}{f:Oper}{v:Value}{g:Nat}{d:Array Bool}{a:Act}{w:World}
 (h:wpAnyH P e b Q S g (d.setIfInBounds i true) (a.put f.dst v) w) (n:b[i]?=some f:=by rfl)
 (p:Region.noSelect b=true:=by kernel_rfl) (m:Region.free e b d i=true:=by kernel_rfl) (o:(Region.ready e b d).contains i=true:=by kernel_rfl)
 (j:∀c a w,Q (.panic c) (a.put f.dst v) w->Q (.panic c) a w:=by exact fun _ _ _ h=>h) (q:YieldsIf P b S f v a:=by refine Or.inl ⟨by rfl,?_⟩;intro w l;(try dsimp only at l);go_simp<;>with_reducible rfl) (k:S w:=by assumption):wpAnyH P e b Q S (g+1) d a w:=
 A6 n p m o j q k h
theorem tu(i:Nat){P:Program}{e:Region.Mode}{b:Array Oper}{Q:Exit->Act->World->Prop}{S:World->Prop}{f:Oper}{g:Nat}{d:Array Bool}{a:Act}{w:World}
 (h:wpAnyH P e b Q S g (d.setIfInBounds i true) (a.put f.dst undef) w) (m:b[i]?=some f:=by rfl)
 (o:Region.noSelect b=true:=by kernel_rfl) (l:Region.free e b d i=true:=by kernel_rfl) (n:(Region.ready e b d).contains i=true:=by kernel_rfl)
 (j:∀c a w,Q (.panic c) (a.put f.dst undef) w->Q (.panic c) a w:=by exact fun _ _ _ h=>h) (p:YieldsIf P b S f undef a:=by exact Or.inr ⟨by rfl,rfl⟩) (k:S w:=by assumption):wpAnyH P e b Q S (g+1) d a w:=
 A6 m o l n j p k h
theorem rk(i:Nat){P:Program}{d:Region.Mode}{b:Array Oper}{Q:Exit->Act->World->Prop}{S:World->Prop}{o:Oper}{e:Nat}{c:Array Bool}{a:Act}{w:World}
 (h:∀K':Act->World->Prop,Shut (∀a w,S w->(S w->wpAnyH P d b Q S e (c.setIfInBounds i true) a w)->K' a w)->if Region.wanted o (yielded b a.tmps)=true then Oper.wp P o a w K' Q else K' (a.put o.dst undef) w)
 (f:Region.ready d b c=[i]:=by kernel_rfl) (ho:b[i]?=some o:=by rfl):wpAnyH P d b Q S (e+1) c a w:=
 Bh f (by simp) (AN ho h A8)
theorem WM(off:Nat):∀(vs:F6) (k:Nat) (a:Array Value) (j:Nat),off+k+vs.length<=a.size->
  ((vs.zipIdx k).foldl (fun a x=>a.setIfInBounds (off+x.2) x.1) a)[j]?=if off+k<=j/\j<off+k+vs.length then vs[j-(off+k)]? else a[j]?
 | [],k,a,j,_=>by simp;intro b c;omega
 | v::vs,k,a,j,h=>by
  simp only[Aq]at h;rw[List.zipIdx_cons,List.foldl_cons,WM off vs (k+1) _ j (by simp;omega)];by_cases b:off+(k+1)<=j/\j<off+(k+1)+vs.length
  ·rw[if_pos b,if_pos (by simp only[Aq];omega),show j-(off+k)=(j-(off+(k+1)))+1 by omega,CZ]
  ·rw[if_neg b];by_cases c:j=off+k
   ·subst c;rw[if_pos (by simp only[Aq];omega),Fk,List.getElem?_cons_zero];simp only[Bd,if_true];rw[if_pos (by omega)]
   ·rw[if_neg (by simp only[Aq];omega)];simp only[Bd];rw[if_neg (by omega)]
theorem U7(off:Nat)(vs a:Array Value)(h:off+vs.size<=a.size):(vs.zipIdx.foldl (fun a (x:Value×Nat)=>a.setIfInBounds (off+x.2) x.1) a)=(F8 a.toList off vs.toList).toArray:=by
 apply Array.ext_getElem?;intro j;have b:(vs.zipIdx.foldl (fun a (x:Value×Nat)=>a.setIfInBounds (off+x.2) x.1) a)=((vs.toList.zipIdx 0).foldl (fun a x=>a.setIfInBounds (off+x.2) x.1) a):=by
  rw[<-Array.foldl_toList,Array.toList_zipIdx]
 rw[b,WM off vs.toList 0 a j (by simpa using h)];simp only[El,AG,List.getElem?_toArray];unfold F8;by_cases c:j<off
 ·rw[if_neg (by omega),Ar,AP (by simp;omega),Ao,if_pos c];simp
 ·by_cases h2:j<off+vs.size
  ·rw[if_pos (by omega),Ar,AH (by simp;omega),AP (by simp;omega)]
   congr 1
   simp;omega
  ·rw[if_neg (by omega),AH (by simp;omega),Bc];simp only[Ad,Am,AG,Cm]
   congr 1
   omega
def Gi(p:Nat)(s:By):F6 := .int .i64 (p:Nat)::Dc s
def Ii(p:Nat)(s:By):Value := .agg (Gi p s).toArray
theorem JZ(p:Nat)(s:By):(Gi p s).length=s.size+1:=by simp[Gi,Dh]
theorem PC(p:Nat)(s:By):∀u∈Gi p s,u.oneCell'=true:=fun u a=>by
 rcases AE.1 a with rfl|h
 ·rfl
 ·exact Ko s u h
theorem Va:(Tryz.prog.info? 207).map (fun i=>(i.zero,i.size,i.bytes))=some (some (.agg (Gi 0 (Di 64)).toArray),65,72):=by kernel_rfl
theorem Qx:(Tryz.prog.info? 207).map (·.size)=some 65:=by
 have:=Va
 cases h:Tryz.prog.info? 207 with
 | none=>rw[h]at this;cases this
 | some i=>rw[h]at this;simp only[FG,Et,AT]at this ⊢;exact this.2.1
theorem Ps:∃d,Tryz.prog.underlying 207=some d/\d.isRow=true:=by
 have h:(Tryz.prog.underlying 207).map (·.isRow)=some true:=by kernel_rfl
 cases hd:Tryz.prog.underlying 207 with
 | none=>rw[hd]at h;cases h
 | some d=>rw[hd]at h;exact⟨d,rfl,by simpa using h⟩
theorem Ss:Tryz.prog.underlying 182=some (.slice 207):=by kernel_rfl
theorem Zhx(a:List (Nat×Value)):Tryz.prog.built 207 a=Instr.fill (#[(0,1),(1,64)][·]?) (Gi 0 (Di 64)).toArray a:=by kernel_rfl
theorem NT(s:By):(DB s).cells=(Dc s).toArray:=rfl
theorem PO(p:Nat)(s:By)(b:s.size=64):Tryz.prog.built 207 [(0,.int .i64 (p:Nat)),(1,DB s)]=some (Gi p s).toArray:=by
 rw[Zhx];have c:(Gi 0 (Di 64)).length=65:=by rw[JZ,Jd]
 have d:(Value.int .i64 (p:Nat)).cells = #[.int .i64 (p:Nat)]:=rfl;have g:F8 (Gi 0 (Di 64)) 0 [.int .i64 (p:Nat)] = .int .i64 (p:Nat)::Dc (Di 64):=by simp[F8,Gi]
 have h:F8 (.int .i64 (p:Nat)::Dc (Di 64)) 1 (Dc s)=Gi p s:=by
  have:(Dc (Di 64)).drop (Dc s).length=[]:=Cr (by rw[Dh,Dh,b,Jd];exact Aa _);simp[F8,Gi,Nat.add_comm 1,this]
 have e:(#[(0,1),(1,64)]:Array (Nat×Nat))[0]?=some (0,1):=rfl;have f:(#[(0,1),(1,64)]:Array (Nat×Nat))[1]?=some (1,64):=rfl;unfold Instr.fill;rw[e];simp only[d];rw[U7 0 #[.int .i64 (p:Nat)] _ (by simp[c])];simp only[AR,Aq,AS,c];rw[if_neg (by decide)];rw[g];unfold Instr.fill;rw[f];simp only[NT];have a:(Dc s).toArray.size=64:=by simp[Dh,b]
 rw[U7 1 _ _ (by rw[a];simp[Dh,Jd])];simp only[a];rw[if_neg (by simp[Dh,Jd])];rw[h]
 rfl
theorem PG:∀w,(zeroValue 207).run Tryz.prog w = .ok (Ii 0 (Di 64)) w:=(EX (n:=65) (by
 have:=Va
 cases h:Tryz.prog.info? 207 with
 | none=>rw[h]at this;cases this
 | some i=>rw[h]at this;simp only[FG,Et,AT]at this ⊢;exact⟨this.1,this.2.1⟩)).1
theorem Yy(p:Nat)(s:By)(c:s.size=64)(Z:Array Value)(a:Z.size=65):Instr.fill (fun i=>some (i*65,65)) Z [(0,Ii p s)]=some (Gi p s).toArray:=by
 have d:(Ii p s).cells=(Gi p s).toArray:=rfl;have b:(Gi p s).toArray.size=65:=by simp[JZ,c]
 unfold Instr.fill;simp only[d];rw[U7 (0*65) _ _ (by rw[b,a];decide)];simp only[b,a];rw[if_neg (by decide)];have:F8 Z.toList (0*65) (Gi p s)=Gi p s:=by
  unfold F8;rw[Cr (by rw[AG,a,JZ,c];decide)];simp
 rw[this]
 rfl
theorem ZhC(w:World)(p:Nat)(s:By)(c:s.size=64):(Instr.buildSlice 182 1 #[(0,Ii p s)]).run Tryz.prog w = .ok (.slice (some ⟨w.heap.size,0,none⟩) 1 1) (w.alloc (.cells (Gi p s).toArray 207)):=by
 obtain⟨i0,b,aa,e,ab⟩:=BU Va;have d:(sizeOf 207).run Tryz.prog w = .ok 65 w:=by simp[sizeOf,typeInfo,b,e]
 have a:=Yy p s c;unfold Instr.buildSlice;simp only[Cj,Ep Ss,Ch,d];rw[if_neg (by decide),if_neg (by decide)];simp only[Cj,PG w,Ch,EY];rw[a _ (by simp)]
 rfl
def KW(ps:LB):F6:=ps.flatMap (fun x=>Gi x.1 x.2)
theorem Zjg(ps:LB)(p:Nat)(s:By):KW (ps++[(p,s)])=KW ps++Gi p s:=by simp[KW]
def Ih(w:World)(v:Value)(ps:LB):Prop:=Sl w 207 65 v ps.length (KW ps)
theorem Ih.nil(w:World):Ih w (.slice none 0 0) []:=⟨rfl,.inl ⟨rfl,rfl⟩⟩
theorem LT(w:World)(v:Value)(ps:LB)(h:Ih w v ps)(nb p:Nat)(s:By)(o:s.size=64)(n:F0 w nb 207 (Gi p s))(hl:ps.length<=1000000000):
  ∃f w',(Builtin.append_ #[182,182] 182 #[v,.slice (some ⟨nb,0,none⟩) 1 1]).run Tryz.prog w = .ok f w'/\∃a c b,f = .slice a c b/\Ih w' (.slice a c b) (ps++[(p,s)])/\Fr (F2 v) w w'/\Dm w v (.slice a c b):=by
 obtain⟨y,l,r,t,x⟩:=BU Va;obtain⟨f,w2,z,g,d,A⟩:=KQ (P:=Tryz.prog) w 182 182 207 y _ 65 72 Ss l r t x (by show(Gi 0 (Di 64)).toArray.size=65;simp[JZ,Jd]) (by decide) v ps.length (KW ps) h ⟨nb,0,none⟩ 1 1 (Gi p s) (by rw[JZ,o])
  (fun j u q=>by rw[AL,Av,n.cell];exact q) (PC p s) (by unfold maxLen;omega) (by omega)
 obtain⟨a,c,b,rfl⟩:=g.shape;refine⟨_,w2,z,a,c,b,rfl,?_,⟨d.os,d.tape,d.output,d.size,fun k m i=>d.block k m (fun e=>i e.symm)⟩,A⟩;unfold Ih;rw[Zjg,Ad];exact g
theorem OS(w:World)(v:Value)(ps:LB)(a:Ih w v ps)(nb p:Nat)(s:By)(d:s.size=64)(c:F0 w nb 207 (Gi p s))(b:ps.length<=1000000):
  ∃v' w',(Builtin.append_ #[182,182] 182 #[v,.slice (some ⟨nb,0,none⟩) 1 1]).run Tryz.prog w = .ok v' w'/\∃a' l' c',v' = .slice a' l' c'/\Ih w' (.slice a' l' c') (ps++[(p,s)])/\Fr (F2 v) w w'/\Dm w v (.slice a' l' c'):=
 LT w v ps a nb p s d c (Ag b (by decide))
theorem RN{P:Program}{c:Array Oper}{d:List Oper}{o:Oper}{a:Act}{w:World}{Q:Exit->Act->World->Prop}(f:o.guard=none)(t:TypeId)(x:Operand)(ho:o.op = .box t x)(b:F6)(g:a.eval x = .agg b.toArray)
  (h:wpList P c Q d (a.put o.dst (.pointer (some ⟨w.heap.size,0,none⟩))) (w.alloc (.cells b.toArray t))):wpList P c Q (o::d) a w:=by
 refine EE f fun K e=>?_
 unfold Oper.wp execOp;simp only[ho,Instr.box,Cj,g];simp[newVar,newRow,go_sem,Value.cells];exact e _ _ h
theorem Ze5{P:Program}(w:World)(g o:Nat)(t ty:TypeId)(L a:F6)(h:F0 w g t L)(f:o+a.length<=L.length)(b:(P.info? ty).map (·.size)=some a.length)(e:∀u∈a,u.oneCell'=true):
  (storeVar ty ⟨g,o,none⟩ (.agg a.toArray)).run P w = .ok () (w.setRow g (F8 L o a).toArray):=by
 have d:=FX P g o t a 0 L.toArray w h (by simpa using f) e
 cases hq:P.info? ty with
 | none=>simp[hq]at b
 | some i=>
  have c:a.length=i.size:=by simp[hq]at b;omega
  simp only[El]at d;simp[storeVar,sizeOf,typeInfo,hq,Value.cells,c,d];unfold F8;rw[c,Ar]
theorem Xc{P:Program}{c:Oper}{a:Act}{w:World}{K:Act->World->Prop}{Q:Exit->Act->World->Prop}(ty:TypeId)(x y:Operand)(ho:c.op = .store ty x y)
  (g o:Nat) (t:TypeId) (L b:F6) (j:a.eval x = .pointer (some ⟨g,o,none⟩)) (k:a.eval y = .agg b.toArray)
  (f:F0 w g t L) (e:o+b.length<=L.length) (i:(P.info? ty).map (·.size)=some b.length) (d:∀u∈b,u.oneCell'=true)
  (h:K (a.put c.dst undef) (w.setRow g (F8 L o b).toArray)):c.wp P a w K Q:=by
 unfold Oper.wp execOp;simp only[ho,j,k,Instr.storeAt,Instr.sureAddr,Cj,EY,Ch,Ze5 w g o t ty L b f e i d];exact h
theorem Xi{P:Program}{c:Array Oper}{o:Oper}{a:Act}{w:World}{K:Act->World->Prop}{Q:Exit->Act->World->Prop}{E:Prop}(i:o.guard=none)(ty:TypeId)(x y:Operand)(ho:o.op = .store ty x y)
  (g off:Nat) (t:TypeId) (L b:F6) (m:a.eval x = .pointer (some ⟨g,off,none⟩)) (n:a.eval y = .agg b.toArray)
  (f:F0 w g t L) (e:off+b.length<=L.length) (j:(P.info? ty).map (·.size)=some b.length) (d:∀u∈b,u.oneCell'=true) (w':World) (l:w.setRow g (F8 L off b).toArray=w')
  (h:K (a.put o.dst undef) w'):if Region.wanted o (yielded c a.tmps)=true then Oper.wp P o a w K Q else E:=by
 have k:Region.wanted o (yielded c a.tmps)=true:=by simp[Region.wanted,i]
 rw[if_pos k];exact Xc ty x y ho g off t L b m n f e j d (by rw[l];exact h)
theorem Ou{b:Array Oper}{o:Oper}{a:Act}{w:World}{K:Act->World->Prop}{Q:Exit->Act->World->Prop}{E:Prop}(c:o.guard=none)(x:Operand)(ho:o.op = .buildSlice 182 1 #[(0,x)])
  (p:Nat) (s:By) (d:s.size=64) (f:a.eval x=Ii p s)
  (h:K (a.put o.dst (.slice (some ⟨w.heap.size,0,none⟩) 1 1)) (w.alloc (.cells (Gi p s).toArray 207))):if Region.wanted o (yielded b a.tmps)=true then Oper.wp Tryz.prog o a w K Q else E:=by
 have e:Region.wanted o (yielded b a.tmps)=true:=by simp[Region.wanted,c]
 rw[if_pos e];unfold Oper.wp execOp;simp only[ho,Fu,Br,CP,f,Cj,ZhC w p s d,Ch,EY,Oper.upon];exact h
theorem Wr:∀{D:LY},(∀s∈D,s.size=64)->∀(i:Nat) (s:By),i<D.length->s.size=64->F8 (Jg D) (i*64) (Dc s)=Jg (D.set i s)
 | [],_,i,s,hi,_=>by simp at hi
 | x::D,h,0,s,_,hs=>by
  have a:=h x A5;unfold Jg F8;simp only[A9,List.set_cons_zero,Fj,Ct,AA,Av];rw[Dh,hs,CQ (by rw[Dh,a])]
 | x::D,h,i+1,s,hi,hs=>by
  have a:=h x A5;have ih:=Wr (D:=D) (fun y c=>h y (AF _ c)) i s (by simpa using hi) hs;unfold Jg at ih ⊢;simp only[A9,FR];rw[<-ih];unfold F8;have b:(Dc x).length=64:=by rw[Dh,a]
  rw[show(i+1)*64=(Dc x).length+i*64 by rw[b];omega,CE,EM,CF];simp[List.append_assoc]
theorem Ob{D:LY}(h:∀s∈D,s.size=64)(i:Nat)(s:By)(b:s.size=64):∀x∈D.set i s,x.size=64:=fun x c=>by
 rcases List.mem_or_eq_of_mem_set c with a|a
 ·exact h x a
 ·rw[a];exact b
theorem Hp.row{w:World}{v:Value}{D:LY}(h:Hp w v D)(h0:0<D.length):∃g c L,v = .slice (some ⟨g,0,none⟩) D.length c/\F0 w g 188 L/\L.take (D.length*64)=Jg D/\D.length<=c/\c<=maxLen/\L.length=c*64:=by
 rcases h.1.2 with⟨_,aa⟩|⟨g,a,L,e,j,b,d,f,i⟩
 ·omega
 ·exact⟨g,a,L,e,j,i,b,d,f⟩
theorem ZiQ(L:F6)(o n:Nat)(a:F6)(h:o+a.length<=n)(hn:n<=L.length):(F8 L o a).take n=F8 (L.take n) o a:=by
 unfold F8;rw[BN,BN];simp only[B9,Ad,Am];rw[Fh];have b:min n o=o:=by omega
 have c:min o L.length=o:=by omega
 have d:min o n=o:=by omega
 rw[b,c,d,Ah (l:=a) (by omega)]
theorem Hp.set{w:World}{g c:Nat}{D:LY}{L:F6}(_hR:F0 w g 188 L)(e:L.take (D.length*64)=Jg D)(f:D.length<=c)(h:c<=maxLen)(d:L.length=c*64)(b:∀s∈D,s.size=64)(i:Nat)(s:By)(j:i<D.length)(a:s.size=64)(w':World)(m:F0 w' g 188 (F8 L (i*64) (Dc s))):
  Hp w' (.slice (some ⟨g,0,none⟩) D.length c) (D.set i s):=by
 have k:(F8 L (i*64) (Dc s)).length=c*64:=by rw[D3 (by rw[Dh,a,d];omega),d]
 have l:(F8 L (i*64) (Dc s)).take (D.length*64)=Jg (D.set i s):=by
  rw[ZiQ _ _ _ _ (by rw[Dh,a];omega) (by rw[d];omega),e,Wr b i s j a]
 refine⟨⟨?_,.inr ⟨g,c,_,by rw[Bq],m,by rw[Bq];exact f,h,k,by rw[Bq];exact l⟩⟩,Ob b i s a⟩;rw[Qk (Ob b i s a)]
def NN(w:World)(db:Nat)(vf vn vw ve:Value)(D:LY)(ps:LB)(p:Nat)(s:By)(e:Ending)(w':World):Prop:=
 e = .returned (.tuple #[])/\∃vw',DV w' db vf vn vw' ve (D.set p s)/\Ih w' vw' (ps++[(p,s)])/\Fr (fun k=>k=db\/F2 vn k\/F2 vw k) w w'/\Dm w vw vw'
theorem Zfn(w:World)(d:Nat)(C Q vw A:Value)(D:LY)(ps:LB)(h:DV w d C Q vw A D)(J:Ih w vw ps)(T:¬F2 Q d)(U:¬F2 vw d)(Y:∀k,F2 Q k->¬F2 vw k)(hl:ps.length<=1000000000)(p:Nat)(hp:p<1536)(s:By)(z:s.size=64):
  Cl 159 #[.pointer (some ⟨d,0,none⟩),Ii p s] w (NN w d C Q vw A D ps p s):=by
 obtain⟨g,c,L,rfl,E,hT,hc,ar,hL⟩:=h.2.1.row (by rw[h.2.2];decide);have aG:=h.2.2;obtain⟨n,q,o,rfl⟩:=J.shape;have aM:g≠d:=fun e=>T (by rw[<-e];rfl)
 have ac:(Dc s).length=64:=by rw[Dh,z]
 obtain⟨W,hW,N,H,az,ap⟩:=De w (Gi p s) 207;have aX:=E.lt;have aW:=h.1.lt;obtain⟨a,F⟩:=ex (W.drew.setRow g (F8 L (p*64) (Dc s)).toArray);have au:F0 a g 188 (F8 L (p*64) (Dc s)):=by rw[F];exact BQ W.drew g _ _ 188 _ (show F0 W g 188 L from H _ _ _ E)
 have aO:∀k,k≠g->a.heap[k]?=W.heap[k]? := fun k f=>by rw[F];exact Bn W.drew g k _ f
 have G:Fr (fun k=>k=g) W a:=by rw[F];exact⟨rfl,rfl,rfl,by simp[World.setRow],fun k _ f=>Bn W.drew g k _ f⟩
 have x:Fr (fun k=>k=g) w a:=(Fr.of_below ap).then G (fun _ _ h=>h);have O:F0 a w.heap.size 207 (Gi p s):=N.fr G (by omega);have M:F0 a d 204 [C,.slice (some ⟨g,0,none⟩) D.length c,.slice n q o,A]:=(H _ _ _ h.1).fr G (fun e=>aM e.symm);have ab:Hp a (.slice (some ⟨g,0,none⟩) D.length c) (D.set p s):=Hp.set E hT hc ar hL h.2.1.2 p s (by omega) z a au;have al:Ih a (.slice n q o) ps:=Sl.fr J x (fun k f e=>Y g rfl (by rw[<-e];exact f));have aC:Hid (∀X,Bw a X->∀nb,F0 X nb 207 (Gi p s)->∃v' w',(Builtin.append_ #[182,182] 182 #[.slice n q o,.slice (some ⟨nb,0,none⟩) 1 1]).run Tryz.prog X = .ok v' w'/\∃r u t,v' = .slice r u t/\F0 w' w.heap.size 207 (Gi p s)/\F0 w' d 204 [C,.slice (some ⟨g,0,none⟩) D.length c,.slice n q o,A]/\Hid (NN w d C (.slice (some ⟨g,0,none⟩) D.length c) (.slice n q o) A D ps p s (.returned (.tuple #[])) (w'.setCell ⟨d,2,none⟩ (.slice r u t)))):=fun X l nb aN=>by
  obtain⟨v',w',r1,r,u,t,rfl,r2,P,r4⟩:=LT X _ ps (Sl.kept al (fun k f _=>l.block k f)) nb p s z aN hl;have aV:a.heap.size<=X.heap.size:=l.size;have aU:w.heap.size<=a.heap.size:=x.size;have q1:F0 X d 204 _:=(l.block _ M.lt).trans M;have q2:F0 w' d 204 [C,.slice (some ⟨g,0,none⟩) D.length c,.slice n q o,A]:=q1.fr P U;have q3:Hp w' (.slice (some ⟨g,0,none⟩) D.length c) (D.set p s):=⟨(Sl.kept ab.1 (fun k f _=>l.block k f)).fr P (fun k f e=>Y k f e),ab.2⟩;have aw:Dm w (.slice n q o) (.slice r u t):=fun k f=>(r4 k f).imp id (fun h=>by omega)
  have q0:F0 w' w.heap.size 207 (Gi p s):=F0.fr (show F0 X w.heap.size 207 (Gi p s) from (l.block _ O.lt).trans O) P (fun e=>by have:=J.lt e;omega);refine⟨_,w',r1,r,u,t,rfl,q0,q2,rfl,.slice r u t,⟨by simpa using q2.set 2 (.slice r u t),⟨q3.1.setCell _ _ (fun e=>T e),q3.2⟩,by rw[Bq];exact aG⟩,r2.setCell _ _ (fun e=>?_),?_,aw⟩
  ·rcases aw _ e with Z|Z
   ·exact U Z
   ·simp only at Z;omega
  ·refine Fr.set ?_ ⟨d,2,none⟩ _ (.inl rfl);refine Fr.then (Fr.then (w1:=a) ⟨x.os,x.tape,x.output,x.size,fun k f l=>x.block k f (fun e=>l (.inr (.inl (by rw[e];rfl))))⟩ (Fr.of_below l (X:=fun _=>False)) (fun _ _ h=>h.elim)) P (fun k _ e => .inr (.inr e))
 have c1:W.cell? ⟨d,1,none⟩=some (.slice (some ⟨g,0,none⟩) D.length c):=((H _ _ _ h.1).cell 1).trans rfl;have b0:W.cell? ⟨w.heap.size,0,none⟩=some (.int .i64 p):=(N.cell 0).trans rfl;have br:W.rangeAt w.heap.size 1 (Dc s):=fun j v m=>by rw[N.cell,E3];exact m
 have am:F0 W.drew g 188 L:=H _ _ _ E;have aL:p*64+(Dc s).length<=L.length:=by rw[ac,hL];omega
 have aE:=Db am;have aF:=Db F;have HW:=Db hW;have I:=Db O;have R:=Db M;have aS:=Db G;have af:=Db ac;have aT:=Db az;have aY:g≠w.heap.size:=by omega
 have aZ:(p:Int)<(D.length:Int):=by omega
 have a0:(p:Int)<1536:=by omega
 clear h J E hT hc ar hL N H az ap au aO G x O M ab al hW F am T U Y ac;obtain⟨B,hB⟩:=ex (Value.agg (Dc s).toArray);have HB:=Db hB;obtain⟨V,hV⟩:=ex (Ii p s);have HV:=Db hV;rw[<-hV];clear hB hV;go_enter Tryz.func159,Tryz.ntmps159;go_upto_region 0 with fail;refine A1 ?_;refine RN rfl 207 _ rfl (Gi p s) (Da HV) ?_;refine EL ?_;rw[show w.alloc (.cells (Gi p s).toArray 207)=W from Da HW];go_upto_region 1 with fail;refine AD (S:=fun X=>X.cell? ⟨d,1,none⟩=some (.slice (some ⟨g,0,none⟩) D.length c)/\X.cell? ⟨w.heap.size,0,none⟩=some (.int .i64 p)/\X.rangeAt w.heap.size 1 (Dc s)) (by kernel_rfl) ⟨c1,b0,br⟩ (fun aa=>?_);refine tk 0 ?_;try simp only[pE];refine tk 1 ?_;try simp only[pE];refine tk 2 ?_;try simp only[pE];refine tk 3 ?_;try simp only[pE];refine tk 4 ?_;try simp only[pE];refine tk 5 ?_;try simp only[pE];refine tk 6 ?_;try simp only[pE];refine A6 (i:=7) (v:=B) rfl (by kernel_rfl) (by kernel_rfl) (by kernel_rfl) (fun _ _ _ h=>h) (by rw[Da HB];exact C4 (by rfl) 188 _ rfl w.heap.size 1 rfl (Dc s) _ (fun X l=>l.2.2) Kg rfl (by rw[D7,Da af])) (by assumption) ?_
 (try simp only[pE])
 refine tk 8 ?_;try simp only[pE];refine rk 9 (fun K b=>?_);have d1:a.cell? ⟨d,1,none⟩=some (.slice (some ⟨g,0,none⟩) D.length c):=((Da R).cell 1).trans rfl;have d2:a.cell? ⟨d,2,none⟩=some (.slice n q o):=((Da R).cell 2).trans rfl;have e0:a.cell? ⟨w.heap.size,0,none⟩=some (.int .i64 p):=((Da I).cell 0).trans rfl;have er:a.rangeAt w.heap.size 1 (Dc s):=fun j v m=>by rw[(Da I).cell,E3];exact m
 have e2:a.rangeAt w.heap.size 0 (Gi p s):=fun j v m=>by rw[(Da I).cell,Av];exact m
 have ax:(Gi p s).length=65:=by rw[JZ,z]
 have aD:=Db ax;clear ax;refine Xi rfl 188 _ _ rfl g (p*64) 188 L (Dc s) rfl (Da HB) (Da aE) aL (by rw[D7,Da af]) (Ko s) a (Da aF).symm ?_;refine b.out _ _ ⟨d1,e0,er⟩ (fun aK=>?_);clear b K aa aK e0 er;refine AW (by kernel_rfl) ?_ _;obtain⟨dd,aR,aP⟩:=Ps;obtain⟨y,an,aA,ae,aQ,aq⟩:=De a.drew (Gi p s) 207;have s3:y.rangeAt w.heap.size 0 (Gi p s):=fun j v m=>by rw[(ae _ _ _ (show F0 a.drew w.heap.size 207 (Gi p s) from Da I)).cell,Av];exact m
 have d3:y.cell? ⟨d,2,none⟩=some (.slice n q o):=((ae _ _ _ (show F0 a.drew d 204 _ from Da R)).cell 2).trans rfl;have ao:Bw a y:=((Al a.heap.size a).drew).trans aq;obtain⟨v5,w5,ay,r,u,t,rfl,aB,ad,HP⟩:=Da aC y ao a.heap.size aA;have s5:w5.rangeAt w.heap.size 0 (Gi p s):=fun j v m=>by rw[aB.cell,Av];exact m
 have m5:w5.cell? ⟨d,2,none⟩=some (.slice n q o):=(ad.cell 2).trans rfl;have f5:=ad.frozen 2;have s6:(w5.setCell ⟨d,2,none⟩ (.slice r u t)).rangeAt w.heap.size 0 (Gi p s):=fun j v m=>(World.cell?_setCell_far _ _ _ _ (show d≠w.heap.size by omega)).trans (s5 j v m)
 have ai:=Db s6;have aj:=Db an;have ag:=Db s3;have ah:=Db s5;clear s6 an s3 s5 aB ad aA ae aq aQ ao;go_upto_region 2 with fail;refine AD (S:=fun X=>X.rangeAt w.heap.size 0 (Gi p s)) (by kernel_rfl) e2 (fun aa=>?_);refine tk 0 ?_;try simp only[pE];refine tk 1 ?_;try simp only[pE];refine tk 2 ?_;try simp only[pE];refine tk 3 ?_;try simp only[pE];refine A6 (i:=5) (v := .agg (Gi p s).toArray) rfl (by kernel_rfl) (by kernel_rfl) (by kernel_rfl) (fun _ _ _ h=>h) (C4 (by rfl) 207 _ rfl w.heap.size 0 rfl (Gi p s) _ (fun X l=>l) aR aP (by rw[Qx,Da aD])) (by assumption) ?_
 (try simp only[pE])
 refine Bh (rs:=[4,6]) (by kernel_rfl) (by simp) ?_;refine AN (i:=4) rfl ?_ (AN (i:=6) rfl ?_ A8)
 ·intro K b;go_simp;refine b.out _ _ aa (fun aI=>?_);clear b K
  (try simp only[pE])
  refine rk 6 (fun K b=>?_);refine Ou rfl _ rfl p s z rfl ?_;rw[show a.drew.alloc (.cells (Gi p s).toArray 207)=y from Da aj];refine b.out _ _ (Da ag) (fun ak=>?_);clear b K
  (try simp only[pE])
  refine rk 7 (fun K b=>?_);refine JO rfl _ _ 182 182 rfl _ _ rfl rfl ay ?_;refine b.out _ _ (Da ah) (fun aJ=>?_);clear b K
  (try simp only[pE])
  refine tk 8 ?_;try simp only[pE];refine tk 9 ?_;try simp only[pE];refine rk 10 (fun K b=>?_);go_simp;refine b.out _ _ (Da ai) (fun aH=>?_);clear b K
  (try simp only[pE])
  refine AW (by kernel_rfl) ?_ _;go_wp2
  go_end0
  exact Da HP
 ·intro K b;refine Ou rfl _ rfl p s z rfl ?_;rw[show a.drew.alloc (.cells (Gi p s).toArray 207)=y from Da aj];refine b.out _ _ (Da ag) (fun ak=>?_);clear b K
  (try simp only[pE])
  refine rk 4 (fun K b=>?_);go_simp;refine b.out _ _ ak (fun aI=>?_);clear b K
  (try simp only[pE])
  refine rk 7 (fun K b=>?_);refine JO rfl _ _ 182 182 rfl _ _ rfl rfl ay ?_;refine b.out _ _ (Da ah) (fun aJ=>?_);clear b K
  (try simp only[pE])
  refine tk 8 ?_;try simp only[pE];refine tk 9 ?_;try simp only[pE];refine rk 10 (fun K b=>?_);go_simp;refine b.out _ _ (Da ai) (fun aH=>?_);clear b K
  (try simp only[pE])
  refine AW (by kernel_rfl) ?_ _;go_wp2
  go_end0
  exact Da HP
end Go.Proofs.YtaieidcohdhgpaaGreatDoor
