/- Spoilt. -/
import Derived.Test.YtaieidcohdhgpaaGreatDoorXAY
namespace Go.Proofs.YtaieidcohdhgpaaGreatDoor
set_option maxHeartbeats 40000000
set_option maxRecDepth 100000
open Go.RowKit
theorem ZS{T:By}{g:Nat->F5->Option (Nat×F5)}{F:Nat->F5->F5}{a b n:Nat}{q:F5}(hn:n<=6)(h0:0<n)(f:∀m,m<n->¬(Gu (Dv T m)=0/\GD (Dv T m)=0)/\g (Gu (Dv T m)) (IH F a m q)=some (b,IH F a (m+1) q))(e:n<6->Gu (Dv T n)=0/\GD (Dv T n)=0):
  JA T g 6 0 0 q=some (b+1,IH F a n q):=by
 have i:∀m,m<=n->JA T g 6 0 0 q=JA T g (6-m) m (if m=0 then 0 else b) (IH F a m q):=fun m=>by
  induction m with
  | zero=>exact fun _=>rfl
  | succ m ih=>
   intro hm;obtain⟨c,d⟩:=f m (by omega);rw[ih (by omega),show 6-m=(6-(m+1))+1 by omega]
   conv=>lhs;unfold JA
   rw[if_neg c,d,if_neg (show ¬m+1=0 by omega)]
 rw[i n (Aa _),if_neg (show ¬n=0 by omega)];rcases AO n 6 with h|h
 ·rw[show 6-n=(5-n)+1 by omega];unfold JA;rw[if_pos (e h)]
 ·rw[show 6-n=0 by omega]
  rfl
section
variable{D:LY}{R:NB}{N:Nat->Nat}{P X:Nat->Nat->Nat}{B:Nat}
theorem Rb(c:Rows D R N P X B):∀(b:Nat),b<=B->∀(f i:Nat) (q:F5),b<f->i<N b->GI N P (fun i=>BL (I5 R i)) B (b+1) q->I6 N b i q->Jb D f (P b i) q=some (b,JB N P (I5 R) b i q)
 | 0,hb,f,i,q,hf,hi,hg,ht=>by
  obtain⟨f,rfl⟩:∃g,f=g+1:=⟨f-1,by omega⟩;have o:q.tn 0=i:=ht.1;have s:=c.pl 0 i hb hi;have d:=hg.fresh c hb (by omega);rw[o]at d;unfold Jb;rw[if_neg (by rw[d];simp;omega),c.d0 i hi];simp only[Qm];rw[if_pos AQ]
  rfl
 | b+1,hb,f,i,q,hf,hi,hg,ht=>by
  obtain⟨f,rfl⟩:∃g,f=g+1:=⟨f-1,by omega⟩;have o:q.tn (b+1)=i:=ht.1;have s:=c.pl (b+1) i hb hi;have h8:=c.b8;have d:=hg.fresh c hb (by omega);rw[o]at d;obtain⟨h6,w⟩:=ZT c (cb:=I5 R) (fun _=>rfl) hb hi hg ht;have p:=fun j (hj:j<6)=>Um (P:=P b) (X:=X b) (fun k=>(c.px b k).1) (fun k=>(c.px b k).2) (c.rr b (by omega)) i j hj
  have t:=ZS (T:=DJ (Dw 2 (R (b+1)) 60 i)) (g:=Jb D f) (F:=JB N P (I5 R) b) (a:=6*i) (b:=b) (n:=min 6 (N b-6*i)) (q:=q.take (P (b+1) i)) (by omega) (by omega) (fun m r=>by
   obtain⟨h,l⟩:=p m (by omega);rw[if_pos (by omega)]at h l;have:=(c.pl b (6*i+m) (by omega) (by omega)).1;rw[h];obtain⟨u,v,_⟩:=w m (by omega);exact⟨fun e=>by omega,Rb c b (by omega) f (6*i+m) _ (by omega) (by omega) u v⟩) (fun r=>by
   obtain⟨h,l⟩:=p (min 6 (N b-6*i)) (by omega);rw[if_neg (by omega)]at h l;exact⟨h,l⟩)
  unfold Jb;rw[if_neg (by rw[d];simp;omega),c.d1 b (by omega) i hi];simp only[Qm];rw[if_neg (by decide),if_pos AQ,t];simp only;rw[if_neg (by omega)]
  rfl
end
theorem SH{T:By}{g:Nat->F5->Option (Nat×F5)}(n:∀p q b q',g p q=some (b,q')->∀y∈q.ins,y∈q'.ins):∀(k j b:Nat) (q:F5) (b':Nat) (q':F5),JA T g k j b q=some (b',q')->
  (∀y∈q.ins,y∈q'.ins)/\∀m,j<=m->m<j+k->(∀i,j<=i->i<=m->Gu (Dv T i)≠0)->∃q1 b1 a,g (Gu (Dv T m)) q1=some (b1,a)/\∀y∈a.ins,y∈q'.ins
 | 0,j,b,q,b',q',h=>by
  unfold JA at h
  cases h
  exact⟨fun _ h=>h,fun m c l=>by omega⟩
 | k+1,j,b,q,b',q',h=>by
  unfold JA at h
  split at h
  ·rename_i e
   cases h
   exact⟨fun _ h=>h,fun m c l d=>absurd e.1 (d j (Aa _) c)⟩
  ·split at h
   ·cases h
   ·rename_i f a e;obtain⟨o,u⟩:=SH n k (j+1) f a b' q' h;refine⟨fun y t=>o y (n _ _ _ _ e y t),fun m c l d=>?_⟩;by_cases r:m=j
    ·subst r;exact⟨q,f,a,e,o⟩
    ·exact u m (by omega) (by omega) (fun i g1 s=>d i (by omega) s)
theorem PT{D:LY}:∀(f p:Nat) (q:F5) (b:Nat) (a:F5),Jb D f p q=some (b,a)->(∀y∈q.ins,y∈a.ins)/\(∃r,(r,p)∈a.ins)/\∀s,D[p]?=some s->s.data[0]?=some 2->∀m,m<6->(∀i,i<=m->Gu (Dv (DJ s) i)≠0)->∃f' l j g,Jb D f' (Gu (Dv (DJ s) m)) l=some (j,g)/\∀y∈g.ins,y∈a.ins
 | 0,p,q,b,a,h=>by cases h
 | f+1,p,q,b,a,h=>by
  unfold Jb at h
  split at h
  ·cases h
  ·split at h
   ·cases h
   ·rename_i s n
    split at h
    ·cases h
    ·rename_i kk u
     split at h
     ·rename_i e
      cases h
      refine⟨fun y d=>A0 _ d,⟨_,Bo _ (Ab.2 rfl)⟩,fun A c k=>?_⟩;rw[n]at c
      cases c
      rw[u,e]at k
      cases k
     ·split at h
      ·split at h
       ·cases h
       ·rename_i b2 g e
        split at h
        ·cases h
        ·cases h
         obtain⟨w,x⟩:=SH (fun p q b a h=>(PT f p q b a h).1) 6 0 0 (q.take p) _ g e;refine⟨fun y d=>A0 _ (w y d),⟨_,Bo _ (Ab.2 rfl)⟩,fun A c k m hm v=>?_⟩;rw[n]at c
         cases c
         obtain⟨l,j,z,o,t⟩:=x m (Aw _) (by omega) (fun i _ h=>v i h);exact⟨f,l,j,z,o,fun y d=>A0 _ (t y d)⟩
      ·cases h
def GH(fb:Nat)(s:By)(vt:Value)(W:World):Prop:=
 ∃a l c,F0 W fb 287 [.slice a l c]/\Gy W a l c s/\l<=c/\∀x,a=some x->F2 vt x.block
theorem GH.fr{e:Nat}{s:By}{b:Value}{W d:World}(h:GH e s b W){Z:Nat->Prop}(g:Fr Z W d)(n:¬Z e)(o:∀k,F2 b k->¬Z k)(q:∀k,F2 b k->k<W.heap.size):GH e s b d:=by
 obtain⟨a,l,c,t,f,u,m⟩:=h;refine⟨a,l,c,t.fr g n,?_,u,m⟩;refine⟨f.1,f.2.1,fun j v r=>?_⟩;obtain⟨x,i,p⟩:=f.2.2 j v r;have ho:=m x i;exact⟨x,i,(AC (by show d.heap[(x.add j).block]?=W.heap[(x.add j).block]?;rw[Addr.block_add'];exact g.block _ (q _ ho) (o _ ho))).trans p⟩
theorem GH.below{c:Nat}{s:By}{a:Value}{W b:World}(h:GH c s a W)(d:Bw W b)(f:∀k,F2 a k->k<W.heap.size):GH c s a b:=h.fr (Z:=fun _=>False) (Fr.of_below d) (fun e=>e) (fun _ _ e=>e) f
theorem GH.post{c:Nat}{s:By}{d:Value}{W b:World}{a:OA}{l n:Nat}{v:Value}{e:Ending}(j:∀x,a=some x->F2 d x.block)(k:QV W c a l s n v e b):GH c (s.extract n s.size) d b:=by
 obtain⟨_,f,g,o,p,q,r,_⟩:=k;exact⟨f,l-n,g,o,p,q,fun x m=>by obtain⟨y,h,i⟩:=r x m;rw[<-i];exact j y h⟩
theorem GH.number{b:Nat}{s:By}{g:Value}{W:World}(h:GH b s g W)(o:¬F2 g b)(hs:s.size<=2000000)(n:Nat)(m:n<=8):
  Cl 240 #[.pointer (some ⟨b,0,none⟩),.int .i64 (n:Nat)] W fun e d=>e = .returned (.int .u64 (DA (BL (Dg s n)):Nat))/\GH b (s.extract n s.size) g d/\Fr (fun k=>k=b) W d:=by
 obtain⟨a,l,c,q,i,r,j⟩:=h;have hl:l=s.size:=i.1;refine(On W b a l c s q i r (fun x p e=>o (by rw[<-e];exact j x p)) n m (by omega)).mono ?_;intro e d f;exact⟨f.1,GH.post j f,f.2.choose_spec.choose_spec.2.2.2.2⟩
theorem GH.ref{b:Nat}{s:By}{g:Value}{W:World}(h:GH b s g W)(m:¬F2 g b)(hs:s.size<=2000000):
  Cl 238 #[.pointer (some ⟨b,0,none⟩)] W fun e d=>e = .returned (.agg #[.int .i64 (Gu s:Nat),.int .u64 (GD s:Nat)])/\GH b (s.extract 10 s.size) g d/\Fr (fun k=>k=b) W d:=by
 obtain⟨a,l,c,o,i,p,j⟩:=h;have hl:l=s.size:=i.1;refine(NP W b a l c s o i p (fun x n e=>m (by rw[<-e];exact j x n)) (by omega)).mono ?_;intro e d f;exact⟨f.1,GH.post j f,f.2.choose_spec.choose_spec.2.2.2.2⟩
def KA(d:By):NB
 | 0=>⟨#[]⟩
 | k+1=>KA d k++Gl d k
theorem Wn(d:By):∀k,(KA d k).size=64*k
 | 0=>rfl
 | k+1=>by unfold KA;rw[Ai,Wn d k,Us];omega
theorem BL_dtB(d:By)(k:Nat):BL (Gl d k)=(((BL d).drop (64*k)).take 64++List.replicate 64 0).take 64:=by
 unfold Gl IJ;rw[KR,JV,show k*64+64-k*64=64 by omega,Nat.mul_comm k 64]
theorem TF(d:By):∀k,(BL (KA d k)).take d.size=(BL d).take (64*k)
 | 0=>by simp[KA,BL]
 | k+1=>by
  have ih:=TF d k;unfold KA;rw[DO,BN,ih,DZ,Wn,BL_dtB];by_cases h:64*k<=d.size
  ·have b:((BL d).drop (64*k)).length=d.size-64*k:=by rw[Az,DZ]
   rw[B9];have a:((((BL d).drop (64*k)).take 64++List.replicate 64 (0:UInt8)).take (min (d.size-64*k) 64))=((BL d).drop (64*k)).take 64:=by
    rw[A4 (by rw[Am,b];omega),B9];by_cases h2:d.size-64*k<=64
    ·rw[show min (min (d.size-64*k) 64) 64=d.size-64*k by omega,Ah (by omega),Ah (by omega)]
    ·rw[show min (min (d.size-64*k) 64) 64=64 by omega]
   rw[a,show 64*(k+1)=64*k+64 by omega,List.take_add]
  ·rw[show d.size-64*k=0 by omega,Ct,CG,Ah (by rw[DZ];omega),Ah (by rw[DZ];omega)]
theorem ZmJ(d:By):(BL (KA d (Gg d))).take d.size=BL d:=by
 rw[TF,Ah (by rw[DZ];unfold Gg;omega)]
def Ky(q:F5)(fn:Nat)(P:Nat->Nat):Nat->F5
 | 0=>q
 | k+1=>((Ky q fn P k).take (P k)).put (Dd 4 fn k) (P k)
theorem Gp.cut{b:Nat}{w:World}{a:OA}{l c:Nat}{s d:By}(h:Gp b w (.slice a l c) s)(hd:d.size<=s.size)(j:(BL s).take d.size=BL d):Sl w 5 1 (.slice a d.size c) d.size (Dc d):=by
 refine⟨by rw[Dh];omega,?_⟩;rcases h.1.2 with⟨e,h0⟩|⟨g,aa,L,e,f,q1,k,m,n⟩
 ·cases e
  have:d.size=0:=by omega
  exact .inl ⟨by rw[this],this⟩
 ·cases e
  refine .inr ⟨g,c,L,rfl,f,by omega,k,m,?_⟩;have i:Dc d=(Dc s).take d.size:=by
   unfold Dc BL at *;rw[<-List.map_take,j]
  rw[i,<-n,B9]
  congr 1;omega
theorem ZJ{W:World}{a:OA}{m c:Nat}{s:By}(h:Sl W 5 1 (.slice a m c) m (Dc s))(d:m=s.size):(convert 59 9 (.slice a m c)).run Tryz.prog W = .ok (.string s) W:=by
 rcases h.2 with⟨e,h0⟩|⟨g,aa,R,e,j,ac,ab,hl,k⟩
 ·simp only[Bl]at e;obtain⟨rfl,rfl,rfl⟩:=e;rw[Go.Lib.run_convert_nil_bytes W 59 9 5 0 Tryz.underlying59 Tryz.underlying5 Tryz.underlying9]
  congr 2
  apply FB;exact(Array.size_eq_zero_iff.1 d.symm).symm
 ·simp only[Bl]at e;obtain⟨rfl,-,rfl⟩:=e;subst d;refine Go.Lib.run_convert_whole W 59 5 9 Tryz.underlying59 Tryz.underlying5 Tryz.underlying9 g 0 s (fun i f=>?_) c;rw[Av,j.cell];have b:(R.take (s.size*1))[i]?=(Dc s)[i]? := by rw[k]
  rw[List.getElem?_take_of_lt (by omega)]at b;rw[b];unfold Dc;rw[Bv,Cm,Es f]
  rfl
theorem GH.some{b:Nat}{s:By}{d:Value}{W:World}(h:GH b s d W){n:World}{j e g k m:Nat}{q:F5}{f:Value}(i:Gd n j e g k m q f d W):b<W.heap.size/\b≠e/\¬F2 f b/\¬F2 d b:=by
 obtain⟨a,l,c,r,_⟩:=h;have:=i.ne r (by decide) (by decide) (by decide);exact⟨r.lt,this⟩
theorem Gd.number{r:World}{d l f m o:Nat}{q:F5}{p c:Value}{W:World}(h:Gd r d l f m o q p c W){a:Nat}(v:d<=a){s:By}(i:GH a s c W)(hs:s.size<=1000000)(n:Nat)(w:n<=8):
  Cl 240 #[.pointer (some ⟨a,0,none⟩),.int .i64 (n:Nat)] W fun e b=>e = .returned (.int .u64 (DA (BL (Dg s n)):Nat))/\Gd r d l f m o q p c b/\GH a (s.extract n s.size) c b/\Fr (fun k=>k=a) W b:=by
 obtain⟨_,t,u,g⟩:=i.some h;refine(i.number g (by omega) n w).mono ?_;rintro e b ⟨rfl,x,j⟩;exact⟨rfl,h.fr j (fun k e=>by subst e;exact⟨v,t,u,g⟩),x,j⟩
def SV(W w0:World)(n0 rb db tp tx fb:Nat)(q:F5)(va vt:Value)(s':By)(e:Ending)(w':World):Prop:=
 e = .returned (.tuple #[.agg #[.string ⟨#[]⟩,.int .u8 0,.int .i64 0,.slice none 0 0],.bool true])/\Gd w0 n0 rb db tp tx q va vt w'/\GH fb s' vt w'/\Fr (fun k=>k=fb) W w'
theorem Zmo(W z:World)(g o p w x:Nat)(q:F5)(y i:Value)(h:Gd z g o p w x q y i W)(c:Nat)(O:g<=c)(s:By)(t:GH c s i W)(G:s.size<=1000000)(C:DA (BL (Dg s 1))=0)(U:By):
  Cl 203 #[.pointer (some ⟨o,0,none⟩),.pointer (some ⟨c,0,none⟩),.string U] W (SV W z g o p w x c q y i (s.extract 1 s.size)):=by
 obtain⟨A,B,H,S,s1,m⟩:=De W [.string ⟨#[]⟩,.int .u8 0,.int .i64 0,.slice none 0 0] 141;obtain⟨P,F,f⟩:=h.lt;have ab:=(t.some h).1;have R:g<=W.heap.size:=Ag h.sz h.bel.size;have K:Hid (Cl 240 #[.pointer (some ⟨c,0,none⟩),.int .i64 1] A fun e X=>e = .returned (.int .u64 0)/\∃Y,X.alloc (.cells #[.string ⟨#[]⟩,.int .u8 0,.int .i64 0,.slice none 0 0] 141)=Y/\F0 Y X.heap.size 141 [.string ⟨#[]⟩,.int .u8 0,.int .i64 0,.slice none 0 0]/\F0 Y W.heap.size 141 [.string ⟨#[]⟩,.int .u8 0,.int .i64 0,.slice none 0 0]/\¬W.heap.size=X.heap.size/\
   Hid (SV W z g o p w x c q y i (s.extract 1 s.size) (.returned (.tuple #[.agg #[.string ⟨#[]⟩,.int .u8 0,.int .i64 0,.slice none 0 0],.bool true])) ((((Y.setCell ⟨W.heap.size,0,none⟩ (.string ⟨#[]⟩)).setCell ⟨W.heap.size,1,none⟩ (.int .u8 0)).setCell ⟨W.heap.size,2,none⟩ (.int .i64 0)).setCell ⟨W.heap.size,3,none⟩ (.slice none 0 0)))):=by
  refine((h.below m).number O (t.below m f) G 1 (by omega)).mono ?_;rintro e X ⟨rfl,V,Z,u⟩;obtain⟨Y,M,b,T,sY,n⟩:=De X [.string ⟨#[]⟩,.int .u8 0,.int .i64 0,.slice none 0 0] 141;have N:F0 X W.heap.size 141 _:=H.fr u (fun e=>by omega);have aa:=u.size;have r:Fr (fun j=>j=W.heap.size) Y ((((Y.setCell ⟨W.heap.size,0,none⟩ (.string ⟨#[]⟩)).setCell ⟨W.heap.size,1,none⟩ (.int .u8 0)).setCell ⟨W.heap.size,2,none⟩ (.int .i64 0)).setCell ⟨W.heap.size,3,none⟩ (.slice none 0 0)):=((((Fr.refl (fun j=>j=W.heap.size) Y).set ⟨W.heap.size,0,none⟩ _ rfl).set ⟨W.heap.size,1,none⟩ _ rfl).set ⟨W.heap.size,2,none⟩ _ rfl).set ⟨W.heap.size,3,none⟩ _ rfl;have Q:∀k,F2 i k->k<Y.heap.size:=fun k d=>by have:=f k d;have:=n.size;omega
  refine⟨by rw[C];rfl,Y,M,b,T _ _ _ N,by omega,rfl,(V.below n).fr r (fun k e=>by subst e;exact⟨R,by omega,fun e=>by have:=F _ e;omega,fun e=>by have:=f _ e;omega⟩),(Z.below n (fun k d=>by have:=f k d;omega)).fr r (fun e=>by omega) (fun k d e=>by have:=f k d;omega) Q,?_⟩;exact((Fr.of_below m).then u (fun _ _ e=>e)).then ((Fr.of_below (X:=fun j=>j=W.heap.size) n).then r (fun _ _ e=>e)) (fun k d e=>by omega)
 have I:=Db B;clear B H S s1 m h t G C P F f;go_enter Tryz.func203,Tryz.ntmps203;go_upto_region 1 with fail;rw[show W.alloc (.cells #[.string ⟨#[]⟩,.int .u8 0,.int .i64 0,.slice none 0 0] 141)=A from Da I];go_upto_region 2 with(go_at_call 240;refine(Da K).mono ?_;rintro e X ⟨rfl,Y,E,b,a,ac,J⟩;have L:=Db E;clear E);rw[show X.alloc (.cells #[.string ⟨#[]⟩,.int .u8 0,.int .i64 0,.slice none 0 0] 141)=Y from Da L];have z0:=a.cell 0;have z1:=a.cell 1;have z2:=a.cell 2;have z3:=a.cell 3;have y0:=a.frozen 0;have y1:=a.frozen 1;have y2:=a.frozen 2;have y3:=a.frozen 3;have t0:=b.cell 0;have t1:=b.cell 1;have t2:=b.cell 2;have t3:=b.cell 3;have D:=JX a (.string ⟨#[]⟩) (.int .u8 0) (.int .i64 0) (.slice none 0 0);have l:=Db D;clear D a b;go_wp2;have r0:=(Da l).cell 0;have r1:=(Da l).cell 1;have r2:=(Da l).cell 2;have r3:=(Da l).cell 3;exact Ax (v := .tuple #[.agg #[.string ⟨#[]⟩,.int .u8 0,.int .i64 0,.slice none 0 0],.bool true]) (by simp[results,Tryz.results203,go_sem,r0,r1,r2,r3]) rfl (Da J)
theorem Gd.bytes{w0:World}{n0 rb db tp tx:Nat}{q:F5}{va vt:Value}{W:World}(h:Gd w0 n0 rb db tp tx q va vt W){fb:Nat}(w:n0<=fb){s:By}(g:GH fb s vt W)(hs:s.size<=1000000)(n:Nat)(hn:n<=1000000):
  Cl 245 #[.pointer (some ⟨fb,0,none⟩),.int .i64 (n:Nat)] W fun e b=>e = .returned (.slice (some ⟨W.heap.size,0,none⟩) n n)/\Sl b 5 1 (.slice (some ⟨W.heap.size,0,none⟩) n n) n (Dc (Dg s n))/\Gd w0 n0 rb db tp tx q va vt b/\GH fb (s.extract n s.size) vt b/\Fr (fun k=>k=fb) W b:=by
 obtain⟨_,u,v,f⟩:=g.some h;obtain⟨a,l,c,E,j,F,m⟩:=g;have hl:l=s.size:=j.1;refine(Wm W fb a l c s E j F (fun x d e=>f (by rw[<-e];exact m x d)) n (by omega) (by omega)).mono ?_;rintro e b ⟨o,p,rfl,z,A,B,C,D,i⟩;exact⟨rfl,z,h.fr i (fun k e=>by subst e;exact⟨w,u,v,f⟩),⟨o,l-n,p,A,B,C,fun x d=>by obtain⟨y,r,t⟩:=D x d;rw[<-t];exact m y r⟩,i⟩
structure Ir(W w0:World)(n0 rb db tp tx fb:Nat)(q:F5)(va vt:Value)(Bi:Nat)(s:By)(I:F6)(X:World):Prop where
 rd:Gd w0 n0 rb db tp tx q va vt X
 fd:GH fb s vt X
 b6:F0 X W.heap.size 141 [.string ⟨#[]⟩,.int .u8 0,.int .i64 0,.slice none 0 0]
 bi:F0 X Bi 141 I
 fr:Fr (fun k=>k=fb) W X
 lt:W.heap.size<Bi
section
variable{W w0:World}{n0 rb db tp tx fb:Nat}{q:F5}{va vt:Value}{Bi:Nat}{s:By}{I:F6}{X:World}
theorem Ir.num(_h0:Gd w0 n0 rb db tp tx q va vt W)(aa:fb<W.heap.size)(b:n0<=fb)(h:Ir W w0 n0 rb db tp tx fb q va vt Bi s I X)(d:s.size<=1000000):Cl 240 #[.pointer (some ⟨fb,0,none⟩),.int .i64 1] X fun e Y=>e = .returned (.int .u64 (DA (BL (Dg s 1)):Nat))/\Ir W w0 n0 rb db tp tx fb q va vt Bi (s.extract 1 s.size) I Y:=by
 refine(h.rd.number b h.fd d 1 (by omega)).mono ?_;rintro e Y ⟨rfl,f,g,a⟩;have c:=h.lt;exact⟨rfl,f,g,h.b6.fr a (fun e=>by omega),h.bi.fr a (fun e=>by omega),h.fr.then a (fun _ _ e=>e),c⟩
theorem Ir.byt(aa:fb<W.heap.size)(b:n0<=fb)(h:Ir W w0 n0 rb db tp tx fb q va vt Bi s I X)(f:s.size<=1000000)(n:Nat)(d:n<=1000000):Cl 245 #[.pointer (some ⟨fb,0,none⟩),.int .i64 (n:Nat)] X fun e Y=>e = .returned (.slice (some ⟨X.heap.size,0,none⟩) n n)/\(convert 59 9 (.slice (some ⟨X.heap.size,0,none⟩) n n)).run Tryz.prog Y = .ok (.string (Dg s n)) Y/\Ir W w0 n0 rb db tp tx fb q va vt Bi (s.extract n s.size) I Y:=by
 refine(h.rd.bytes b h.fd f n d).mono ?_;rintro e Y ⟨rfl,q0,g,i,a⟩;have c:=h.lt;exact⟨rfl,ZJ q0 (Jc _ _).symm,g,i,h.b6.fr a (fun e=>by omega),h.bi.fr a (fun e=>by omega),h.fr.then a (fun _ _ e=>e),c⟩
theorem Ir.set(c:Gd w0 n0 rb db tp tx q va vt W)(aa:fb<W.heap.size)(h:Ir W w0 n0 rb db tp tx fb q va vt Bi s I X)(i:Nat)(u:Value):Ir W w0 n0 rb db tp tx fb q va vt Bi s (I.set i u) (X.setCell ⟨Bi,i,none⟩ u):=by
 have f:=h.lt;obtain⟨l1,g,d⟩:=c.lt;have ab:n0<=W.heap.size:=Ag c.sz c.bel.size;have a:Fr (fun k=>k=Bi) X (X.setCell ⟨Bi,i,none⟩ u):=(Fr.refl (fun k=>k=Bi) X).set ⟨Bi,i,none⟩ u rfl;exact⟨h.rd.fr a (fun k e=>by subst e;exact⟨by omega,by omega,fun e=>by have:=g _ e;omega,fun e=>by have:=d _ e;omega⟩),h.fd.fr a (fun e=>by omega) (fun k b e=>by have:=d k b;omega) (fun k b=>by have:=d k b;have:=h.fr.size;omega),h.b6.fr a (fun e=>by omega),h.bi.set i u,h.fr.then a (fun k b e=>by omega),f⟩
end
theorem VO{p:By}(_h:DU p=true)(a:Df p≠[]):(p.toList==[47])=false:=by
 cases hr:(p.toList==[47]) with
 | true=>exact absurd (Uw hr) a
 | false=>rfl
theorem Gd.top{o:World}{l a j H I:Nat}{q:F5}{m n:Value}{W:World}(h:Gd o l a j H I q m n W)(tp' tx':Nat):Gd o l a j tp' tx' q m n ((W.setCell ⟨a,2,none⟩ (.int .i64 (tp':Nat))).setCell ⟨a,3,none⟩ (.int .u64 (tx':Nat))):=by
 obtain⟨L,x,A,B,C,D,E,F,G⟩:=h.row;obtain⟨es,r,s⟩:=h.es;have hs:=h.bel.size;have z:=h.sz;have aa:=h.lo;have c:Fr (fun k=>k=a) W ((W.setCell ⟨a,2,none⟩ (.int .i64 (tp':Nat))).setCell ⟨a,3,none⟩ (.int .u64 (tx':Nat))):=((Fr.refl (fun k=>k=a) W).set ⟨a,2,none⟩ _ rfl).set ⟨a,3,none⟩ _ rfl;have y:=(x.set 2 (.int .i64 (tp':Nat))).set 3 (.int .u64 (tx':Nat));have d:∀i,i≠2->i≠3->((L.set 2 (.int .i64 (tp':Nat))).set 3 (.int .u64 (tx':Nat)))[i]?=L[i]? := fun i t u=>by rw[As (Ne.symm u),As (Ne.symm t)]
 refine⟨⟨_,y,(d 0 (by omega) (by omega)).trans A,(d 1 (by omega) (by omega)).trans B,?_,?_,fun p w=>(d _ (by omega) (by omega)).trans (E p w),fun b v=>(d _ (by omega) (by omega)).trans (F b v),(d _ (by omega) (by omega)).trans G⟩,⟨es,r,s.fr c (fun g f e=>(h.oa g f).2.1 e)⟩,⟨h.tab.1.fr c (fun g f e=>h.ot (by rw[<-e];exact f)),h.tab.2⟩,h.oa,h.ot,h.bel.trans ⟨c.os,c.tape,c.output,c.size,fun k hk=>c.block k (by omega) (fun e=>by omega)⟩,h.lo,z⟩
 ·rw[As (by omega),Bf (Ae.1 C).1]
 ·rw[Bf (by rw[Bq];exact(Ae.1 D).1)]
theorem Gd.topc{l:World}{i a e c d:Nat}{q:F5}{j k:Value}{W:World}(h:Gd l i a e c d q j k W):W.cell? ⟨a,2,none⟩=some (.int .i64 (c:Nat))/\W.cell? ⟨a,3,none⟩=some (.int .u64 (d:Nat))/\W.frozen? ⟨a,2,none⟩=false/\W.frozen? ⟨a,3,none⟩=false:=by
 obtain⟨L,b,l0,l1,f,g,l4,l5,l6⟩:=h.row;exact⟨(b.cell 2).trans f,(b.cell 3).trans g,b.frozen 2,b.frozen 3⟩
def LH(D:LY)(s last p:By)(f:Nat)(d:By)(P:Nat->Nat)(s':By):Prop:=
 ∃(s2 s3 s4 s5 s6:By) (sm n:Nat),sm<=last.size/\n<256/\f<60/\s2=s.extract 1 s.size/\s3=s2.extract 1 s2.size/\s4=s3.extract 1 s3.size/\s5=s4.extract n s4.size/\s6=s5.extract 1 s5.size/\
  DA (BL (Dg s 1))=2/\DA (BL (Dg s2 1))=sm/\DA (BL (Dg s3 1))=n/\last.extract 0 sm++Dg s4 n=p/\DA (BL (Dg s5 1))=f/\d.size<=1280/\DA (BL (Dg s6 2))=d.size/\
  (∀k,k<Gg d->Gu (Dv (s6.extract 2 s6.size) k)=P k/\16<=P k/\P k<1536/\D[P k]?=some (Gl d k))/\s'=Dv (s6.extract 2 s6.size) (Gg d)
structure SB(G:Gh)(I:LF)(p:By)(f:Nat)(l:Nat):Prop where
 ok:Gt G
 gl:G.length<=9000
 il:I.length<=9000
 ll:∀x∈I,x.2.l<=2000000
 ps:p.size<=2000000
 lg:Hz G p=0
 may:Jp G I (Df p).dropLast=true
 fr:∀x∈I,x.1≠(f:Int)
 use:∀(I1 I2:LF) (da:OA) (dc:Nat),I1.length=I.length+1->(∀x,x∈I1↔x=((f:Int),⟨none,0,0,1⟩)\/x∈I)->Gq I1 I2 (f:Int) ⟨da,l,dc,1⟩->DN (I2.map (·.2.l))<=160
structure ReI(W w0:World)(n0 rb db tp tx fb tb:Nat)(va0 vt0 vt:Value)(T:Gh->LF->(IB)->Prop)(q:F5)(s:By)(wr:World):Prop where
 rd:∃va,Gd w0 n0 rb db tp tx q va vt wr/\Dm W va0 va
 fd:GH fb s vt wr
 ps:∃G I C,PS wr tb G I C/\T G I C
 fr:Fr (fun j=>j=rb\/F2 va0 j\/F2 vt0 j) W wr
 tl:W.heap.size<tb
 fl:W.heap.size<=fb
theorem PS.fr9{W i:World}{tb:Nat}{G:Gh}{I:LF}{C:IB}(h:PS W tb G I C){F:World}{g o v A B:Nat}{q:F5}{p u:Value}(d:Gd F g o v A B q p u W){f:Nat}{s:By}(x:GH f s u W)(h0:0<g)(aa:g<=f)(y:Fr (fun j=>j=o\/F2 p j\/j=f) W i):PS i tb G I C:=by
 obtain⟨z,V,E,D,h⟩:=h;have ab:=d.lo;refine⟨z,V,E,D,h.fr y (fun e=>?_) (fun k t R e b=>?_)⟩
 ·rcases e with e|e|e
  ·omega
  ·have:=(d.oa 0 e).1;omega
  ·omega
 ·rcases e with e|e|e
  ·obtain⟨L,m,_⟩:=d.row;subst e;unfold F0 at m b;rw[m]at b;cases b;decide
  ·obtain⟨es,_,w⟩:=d.es;obtain⟨R2,n⟩:=w.type e;unfold F0 at n b;rw[n]at b;cases b;decide
  ·obtain⟨a,l,c,r,_⟩:=x;subst e;unfold F0 at r b;rw[r]at b;cases b;decide
theorem Gd.prog{l:World}{b e d f g:Nat}{q:F5}{i j:Value}{W c:World}(h:Gd l b e d f g q i j W){tb:Nat}(m:Fr (DP tb W) W c)(ht:b<tb):Gd l b e d f g q i j c:=
 h.fr m (fun k ⟨⟨t,R,n,a⟩,hl⟩=>by
  have:=h.ne n (by rcases a with rfl|rfl|rfl|rfl<;>decide) (by rcases a with rfl|rfl|rfl|rfl<;>decide) (by rcases a with rfl|rfl|rfl|rfl<;>decide);exact⟨by omega,this.1,this.2.1,this.2.2⟩)
theorem GH.prog{i:Nat}{s:By}{f:Value}{W g:World}(h:GH i s f W){z:World}{u v m w x:Nat}{q:F5}{y:Value}(j:Gd z u v m w x q y f W){tb:Nat}(n:Fr (DP tb W) W g):GH i s f g:=by
 refine GH.fr h n (fun ⟨⟨t,R,b,d⟩,p⟩=>?_) (fun k o ⟨⟨t,R,b,d⟩,p⟩=>?_) j.lt.2.2
 ·obtain⟨a,l,c,r,_⟩:=h;unfold F0 at r b;rw[r]at b;cases b;rcases d with e|e|e|e<;>cases e
 ·have:=j.ne b (by rcases d with rfl|rfl|rfl|rfl<;>decide) (by rcases d with rfl|rfl|rfl|rfl<;>decide) (by rcases d with rfl|rfl|rfl|rfl<;>decide);exact this.2.2 o
def Qp(pB:NB):NB
 | 0=>⟨#[]⟩
 | k+1=>pB k
theorem GH.len{b:Nat}{s:By}{f:Value}{W:World}(h:GH b s f W):KL b W=s.size:=by
 obtain⟨a,l,c,d,e,_⟩:=h;rw[PV ((d.cell 0).trans (show _=Option.some (Value.slice a l c) from rfl))];exact e.1


def Ig(v:Value):F6:=v :: .slice none 0 0 :: .int .i64 0 :: .int .u64 0::(List.replicate 1536 (.bool false)++(List.replicate 8 (.int .i64 0)++[.slice none 0 0]))
theorem XN:(Tryz.prog.info? 197).map (fun i=>(i.zero,i.size))=some (some (.agg (Ig (.pointer none)).toArray),1549):=by kernel_rfl
theorem YY:∀w,(zeroValue 197).run Tryz.prog w = .ok (.agg (Ig (.pointer none)).toArray) w:=(EX XN).1
theorem Ze:(Tryz.prog.info? 197).map (·.size)=some 1549:=by kernel_rfl
theorem Z9(a:Nat):Tryz.prog.built 197 [(0,.pointer (some ⟨a,0,none⟩))]=some (Ig (.pointer (some ⟨a,0,none⟩))).toArray:=by kernel_rfl
theorem Wa(v:Value):(Ig v).length=1549:=by simp[Ig]
theorem Y5(b:Nat):(Ig (.pointer (some ⟨b,0,none⟩))).toArray.all (·.oneCell')=true:=by
 refine C6 (fun u a=>?_);unfold Ig at a;rcases AE.1 a with rfl|a
 ·rfl
 rcases AE.1 a with rfl|a
 ·rfl
 rcases AE.1 a with rfl|a
 ·rfl
 rcases AE.1 a with rfl|a
 ·rfl
 rcases Ap.1 a with a|a
 ·rw[List.eq_of_mem_replicate a];rfl
 rcases Ap.1 a with a|a
 ·rw[List.eq_of_mem_replicate a];rfl
 ·rw[Ab.1 a];rfl
theorem rdZ_tk(v:Value)(p:Nat)(h:p<1536):(Ig v)[4+p]?=some (.bool false):=by
 unfold Ig;rw[E3 4 p];show(List.replicate 1536 (Value.bool false)++_)[p]? = _;rw[AP (by rw[Bk];exact h),Fa,if_pos h]
theorem rdZ_tn(v:Value)(b:Nat)(h:b<8):(Ig v)[1540+b]?=some (.int .i64 0):=by
 unfold Ig;rw[show 1540+b=(1536+b)+4 by omega];show(List.replicate 1536 (Value.bool false)++_)[1536+b]? = _;rw[AH (by rw[Bk];omega),Bk,show 1536+b-1536=b by omega,AP (by rw[Bk];exact h),Fa,if_pos h]
theorem Y8(v:Value):(Ig v)[1548]?=some (.slice none 0 0):=by
 obtain⟨i,hi⟩:=ex 1544;rw[show 1548=i+4 by omega];unfold Ig;show(List.replicate 1536 (Value.bool false)++_)[i]? = _;rw[AH (by rw[Bk];omega),Bk,AH (by rw[Bk];omega),Bk,show i-1536-8=0 by omega]
 rfl
def D2:F5:=⟨[],fun _=>false,fun _=>0,⟨#[]⟩⟩
theorem Gd.start{W:World}{d g:Nat}(m:F0 W d 197 (Ig (.pointer (some ⟨g,0,none⟩)))){f:World}{a:Nat}(c:Below a f W)(i:a<=f.heap.size)(h:a<=d):Gd f a d g 0 0 D2 (.slice none 0 0) (.slice none 0 0) W:=
 ⟨⟨_,m,rfl,rfl,rfl,rfl,fun p l=>rdZ_tk _ p l,fun b c=>rdZ_tn _ b c,Y8 _⟩,⟨[],⟨fun j k x y _ n=>by simp at n,rfl,fun x=>by simp[D2]⟩,rfl,.inl ⟨rfl,rfl⟩⟩,Gp.nil _ _,fun k e=>by simp[F2,Value.ownBlock]at e,fun e=>by simp[F2,Value.ownBlock]at e,c,h,i⟩
theorem GI.start(N:Nat->Nat)(P:Nat->Nat->Nat)(ch:Nat->List UInt8)(B c:Nat):GI N P ch B c D2:=
 ⟨fun y e=>(by cases e),fun b k _ a=>(by cases a),fun p d=>(by cases d),fun b _=>Aw _,rfl,by
  show 0=Ka (fun _=>0) (B+1);rw[Rs,Fj]⟩
theorem I6.start(N:Nat->Nat)(b:Nat):I6 N b 0 D2:=⟨rfl,fun b' _=>by show 0=_;simp⟩
def F9(E:F3)(r:Nat):Nat:=(E.at r).getD 0
theorem F3.put_ps_len(E:F3)(st:Pl)(r:Nat)(b:By):st.ps.length<=(E.put st r b).2.ps.length:=by
 unfold F3.put
 split
 ·exact Aa _
 ·show st.ps.length<=(st.ps++[_]).length;rw[Ad];omega
theorem F3.puts_ps_len(E:F3)(R:Nat->Nat)(B:NB):∀(st:Pl) (i:Nat) (xs:List Nat),st.ps.length<=(E.puts R B st i xs).ps.length
 | _,_,[]=>Aa _
 | st,i,x::xs=>Ag (E.put_ps_len st (R i) (B x)) (F3.puts_ps_len E R B _ (i+1) xs)
theorem F3.put_stays{E:F3}{st:Pl}{r:Nat}{b:By}(h:(E.put st r b).2.ps.length<=st.ps.length):(E.put st r b).1=F9 E r/\E.at r=some (F9 E r)/\E.D[F9 E r]?=some b/\(E.put st r b).2.ps=st.ps:=by
 cases hs:E.stay r b with
 | none=>
  have a:(E.put st r b).2.ps=st.ps++[(DH E.nd 96 st.hd%1536,b)]:=by unfold F3.put;rw[hs]
  rw[a,Ad]at h;simp at h;omega
 | some q=>
  have a:E.put st r b=(q,⟨st.hd,st.puts++[(r,q)],st.ps⟩):=by unfold F3.put;rw[hs]
  unfold F3.stay at hs
  split at hs
  ·rename_i q' c
   split at hs
   ·rename_i d
    cases hs
    have e:F9 E r=q:=by unfold F9;rw[c];rfl
    rw[a,e];exact⟨rfl,c,d.1,rfl⟩
   ·cases hs
  ·cases hs
theorem F3.puts_stays{E:F3}{R:Nat->Nat}{B:NB}{st:Pl}:∀(n:Nat),(E.puts R B st 0 (List.range n)).ps.length<=st.ps.length->
  BL (JC E R B st 0 (List.range n))=DR (fun k=>DT (F9 E (R k)) (Dl (B k))) n/\(E.puts R B st 0 (List.range n)).ps=st.ps/\(E.puts R B st 0 (List.range n)).puts=st.puts++(List.range n).map (fun k=>(R k,F9 E (R k)))/\∀k,k<n->E.at (R k)=some (F9 E (R k))/\E.D[F9 E (R k)]?=some (B k)
 | 0,_=>⟨rfl,rfl,by simp[F3.puts],fun k d=>by omega⟩
 | n+1,h=>by
  rw[Cu]at h ⊢;have e:=F3.puts_snoc E R B st 0 (List.range n) n;rw[Av,A2]at e;rw[e]at h;have h1:=E.put_ps_len (E.puts R B st 0 (List.range n)) (R n) (B n);have h2:=F3.puts_ps_len E R B st 0 (List.range n);obtain⟨g,i,j,l⟩:=F3.puts_stays (E:=E) (R:=R) (B:=B) (st:=st) n (by omega);obtain⟨c,m,o,p⟩:=F3.put_stays (E:=E) (st:=E.puts R B st 0 (List.range n)) (r:=R n) (b:=B n) (by omega);have a:=Ux E R B st 0 (List.range n) n;rw[Av,A2]at a;refine⟨?_,?_,?_,fun k d=>?_⟩
  ·rw[a,DO,g,Ub,c];rfl
  ·rw[e,p,i]
  ·rw[e,F3.put_puts,j,c,Bp,Ar];rfl
  ·by_cases f:k=n
   ·subst f;exact⟨m,o⟩
   ·exact l k (by omega)
def G0(b:Nat):UInt8:=if b=0 then 3 else 2
def GR(b:Nat):Nat:=if b=0 then 63 else 60
def GN(E:F3)(t:By):NB
 | 0=>t
 | b+1=>⟨(DR (fun k=>DT (F9 E (Dy b k)) (Dl (Dw (G0 b) (GN E t b) (GR b) k))) (((GN E t b).size+GR b-1)/GR b)).toArray⟩
def nR(E:F3)(t:By)(b:Nat):Nat:=((GN E t b).size+GR b-1)/GR b
theorem Q8(E:F3)(t:By)(b:Nat):BL (GN E t (b+1))=DR (fun k=>DT (F9 E (Dy b k)) (Dl (Dw (G0 b) (GN E t b) (GR b) k))) (nR E t b):=by
 show BL ⟨(DR _ _).toArray⟩=_;unfold BL nR;simp
theorem Uo(E:F3)(t:By)(b:Nat):(GN E t (b+1)).size=10*nR E t b:=by
 rw[<-DZ,Q8,KI (fun k=>JK _ _)]
def US(E:F3)(t:By)(b:Nat):Prop:=∀k,k<nR E t b->E.at (Dy b k)=some (F9 E (Dy b k))/\E.D[F9 E (Dy b k)]?=some (Dw (G0 b) (GN E t b) (GR b) k)
theorem Vo(E:F3)(d:Nat):∀(b:Nat) (st:Pl) (s:By),st.ps.length<=(DE E d b st s).2.ps.length:=by
 induction d with
 | zero=>exact fun _ _ _=>Aa _
 | succ d ih=>
  intro b st s;unfold DE
  split
  ·exact Ag (F3.puts_ps_len E _ _ _ _ _) (ih _ _ _)
  ·exact Aa _
theorem ZW(E:F3)(t:By)(d:Nat):∀(b:Nat) (st:Pl),(DE E d (b+1) st (GN E t (b+1))).2.ps.length<=st.ps.length->(GN E t (b+1)).size<=10*6 ^ d->1<=nR E t b->
  ∃B,b<=B/\B<=b+d/\nR E t B=1/\(DE E d (b+1) st (GN E t (b+1))).1=GN E t (B+1)/\(∀a,b<a->a<=B->US E t a)/\(∀a,b<=a->a<B->1<nR E t a)/\∀y,y∈(DE E d (b+1) st (GN E t (b+1))).2.puts↔y∈st.puts\/∃a k,b<a/\a<=B/\k<nR E t a/\y=(Dy a k,F9 E (Dy a k)):=by
 induction d with
 | zero=>
  intro b st _ n w;have:=Uo E t b;rw[Nat.pow_zero]at n;exact⟨b,Aa _,Aa _,by omega,rfl,fun a f c=>by omega,fun a f c=>by omega,fun y=>⟨.inl,fun e=>e.elim id (fun ⟨a,k,f,c,_⟩=>by omega)⟩⟩
 | succ d ih=>
  intro b st h n w;have aa:=Uo E t b;unfold DE at h ⊢;by_cases s:10<(GN E t (b+1)).size
  ·rw[if_pos s]at h ⊢;have g:nR E t (b+1)=((GN E t (b+1)).size+60-1)/60:=by unfold nR GR;rw[if_neg (by omega)]
   have C:(Dz E 2 60 (b+1) st (GN E t (b+1))).2.ps.length<=st.ps.length:=Ag (Vo E d _ _ _) h;have q:∀k,Dd (2:UInt8).toNat (b+1) k=Dy (b+1) k:=fun k=>by unfold Dy;rw[if_neg (by omega)];rfl
   obtain⟨G,H,I,J⟩:=F3.puts_stays (E:=E) (R:=Dd (2:UInt8).toNat (b+1)) (B:=Dw 2 (GN E t (b+1)) 60) (st:=st) (((GN E t (b+1)).size+60-1)/60) C;have r:G0 (b+1)=2:=by unfold G0;rw[if_neg (by omega)]
   have u:GR (b+1)=60:=by unfold GR;rw[if_neg (by omega)]
   have v:(Dz E 2 60 (b+1) st (GN E t (b+1))).1=GN E t (b+2):=by
    refine Kn ?_;rw[Q8,g,r,u];exact G
   have x:US E t (b+1):=fun k l=>by
    rw[g]at l;obtain⟨o,p⟩:=J k l;rw[r,u];rw[q k]at o p;exact⟨o,p⟩
   rw[v]at h ⊢;have D:=Uo E t (b+1);have F:(GN E t (b+2)).size<=10*6 ^ d:=by
    rw[D,g];rw[C1]at n;generalize 6 ^ d=m at n ⊢
    omega
   obtain⟨B,o,p,K,L,M,N,O⟩:=ih (b+1) _ (by
    have A:(Dz E 2 60 (b+1) st (GN E t (b+1))).2.ps=st.ps:=H;rw[A];exact h) F (by omega)
   refine⟨B,by omega,by omega,K,L,fun a f c=>?_,fun a f c=>?_,fun y=>?_⟩
   ·by_cases e:a=b+1
    ·rw[e];exact x
    ·exact M a (by omega) c
   ·by_cases e:a=b
    ·rw[e];omega
    ·exact N a (by omega) c
   ·have z:(Dz E 2 60 (b+1) st (GN E t (b+1))).2.puts=st.puts++(List.range (((GN E t (b+1)).size+60-1)/60)).map (fun k=>(Dy (b+1) k,F9 E (Dy (b+1) k))):=by
     refine Eq.trans I ?_;simp only[q]
    refine(O y).trans ?_;rw[z,Ap];constructor
    ·rintro((e|e)|⟨a,k,f,c,i,j⟩)
     ·exact .inl e
     ·obtain⟨k,l,rfl⟩:=Au.1 e;exact .inr ⟨b+1,k,by omega,o,by rw[g];exact BI.1 l,rfl⟩
     ·exact .inr ⟨a,k,by omega,c,i,j⟩
    ·rintro(e|⟨a,k,f,c,i,j⟩)
     ·exact .inl (.inl e)
     ·by_cases e:a=b+1
      ·subst e;exact .inl (.inr (Au.2 ⟨k,BI.2 (by rw[<-g];exact i),j.symm⟩))
      ·exact .inr ⟨a,k,by omega,c,i,j⟩
  ·rw[if_neg s]at h ⊢;exact⟨b,Aa _,by omega,by omega,rfl,fun a f c=>by omega,fun a f c=>by omega,fun y=>⟨.inl,fun e=>e.elim id (fun ⟨a,k,f,c,_⟩=>by omega)⟩⟩
def Kb(E:F3)(C:NB)(last:By)(x:It):By:=
 Dx last (jn x.ns) 2++Dp last (jn x.ns)++⟨#[UInt8.ofNat x.f]⟩++Je (C x.f).size 2++⟨(DR (fun k=>DT (F9 E (Dd 4 x.f k)) (Dl (Gl (C x.f) k))) (Gg (C x.f))).toArray⟩
def DW(E:F3)(C:NB):By->List It->By
 | _,[]=>⟨#[]⟩
 | last,x::xs=>Kb E C last x++DW E C (jn x.ns) xs
theorem WK(E:F3)(C:NB)(a:By)(st:Pl)(x:It):st.ps.length<=(Dt E C a st x).2.ps.length:=by
 unfold Dt
 split
 ·exact Aa _
 ·split
  ·exact Aa _
  ·exact F3.puts_ps_len E _ _ _ _ _
theorem WD(E:F3)(C:NB):∀(last:By) (st:Pl) (L:List It),st.ps.length<=(Dr E C last st L).2.ps.length
 | _,_,[]=>Aa _
 | last,st,x::xs=>Ag (WK E C last st x) (WD E C _ _ xs)
theorem Kt(l:List UInt8):BL ⟨l.toArray⟩=l:=by unfold BL;simp
theorem VE(E:F3)(C:NB):∀(last:By) (st:Pl) (L:List It),(∀x∈L,x.k=2)->(Dr E C last st L).2.ps.length<=st.ps.length->
  (Dr E C last st L).1=DW E C last L/\(Dr E C last st L).2.ps=st.ps/\(∀x∈L,∀k,k<Gg (C x.f)->E.at (Dd 4 x.f k)=some (F9 E (Dd 4 x.f k))/\E.D[F9 E (Dd 4 x.f k)]?=some (Gl (C x.f) k))/\
  ∀y,y∈(Dr E C last st L).2.puts↔y∈st.puts\/∃x∈L,∃k,k<Gg (C x.f)/\y=(Dd 4 x.f k,F9 E (Dd 4 x.f k))
 | last,st,[],_,_=>⟨rfl,rfl,fun x i=>(by cases i),fun y=>⟨.inl,fun e=>e.elim id (fun ⟨x,i,_⟩=>by cases i)⟩⟩
 | last,st,x::xs,hk,h=>by
  have i:=hk x (by simp);have c:Dt E C last st x=(Dx last (jn x.ns) 2++Dp last (jn x.ns)++⟨#[UInt8.ofNat x.f]⟩++Je (C x.f).size 2++JM E x.f (C x.f) st 0 (List.range (Gg (C x.f))),E.puts (Dd 4 x.f) (Gl (C x.f)) st 0 (List.range (Gg (C x.f)))):=by
   unfold Dt;rw[if_neg (by omega),if_neg (by omega)]
  have o:(Dr E C (jn x.ns) (Dt E C last st x).2 xs).2.ps.length<=st.ps.length:=h;have t:=WD E C (jn x.ns) (Dt E C last st x).2 xs;have m2:=WK E C last st x;have u:(E.puts (Dd 4 x.f) (Gl (C x.f)) st 0 (List.range (Gg (C x.f)))).ps.length<=st.ps.length:=by
   have:(Dt E C last st x).2.ps.length<=st.ps.length:=Ag t o;rw[c]at this;exact this
  obtain⟨v,w,A,D⟩:=F3.puts_stays (E:=E) (R:=Dd 4 x.f) (B:=Gl (C x.f)) (st:=st) (Gg (C x.f)) u;obtain⟨p,q,r,s⟩:=VE E C (jn x.ns) (Dt E C last st x).2 xs (fun y a=>hk y (AF _ a)) (by omega);have j:(Dt E C last st x).2.ps=st.ps:=by rw[c];exact w
  have l:(Dt E C last st x).1=Kb E C last x:=by
   rw[c,Un];unfold Kb;show _++JC E (Dd 4 x.f) (Gl (C x.f)) st 0 (List.range (Gg (C x.f)))=_;have n:JC E (Dd 4 x.f) (Gl (C x.f)) st 0 (List.range (Gg (C x.f)))=⟨(DR (fun k=>DT (F9 E (Dd 4 x.f k)) (Dl (Gl (C x.f) k))) (Gg (C x.f))).toArray⟩:=Kn (by rw[v,Kt]);rw[n]
  have m:(Dt E C last st x).2.puts=st.puts++(List.range (Gg (C x.f))).map (fun k=>(Dd 4 x.f k,F9 E (Dd 4 x.f k))):=by rw[c];exact A
  refine⟨?_,?_,fun y a k g=>?_,fun y=>?_⟩
  ·show(Dt E C last st x).1++(Dr E C (jn x.ns) (Dt E C last st x).2 xs).1=_;rw[l,p];rfl
  ·show(Dr E C (jn x.ns) (Dt E C last st x).2 xs).2.ps=_;rw[q,j]
  ·rcases AE.1 a with rfl|a
   ·exact D k g
   ·exact r y a k g
  ·refine(s y).trans ?_;rw[m,Ap];constructor
   ·rintro((e|e)|⟨z,b,k,d,f⟩)
    ·exact .inl e
    ·obtain⟨k,g,rfl⟩:=Au.1 e;exact .inr ⟨x,by simp,k,BI.1 g,rfl⟩
    ·exact .inr ⟨z,AF _ b,k,d,f⟩
   ·rintro(e|⟨z,b,k,d,f⟩)
    ·exact .inl (.inl e)
    ·rcases AE.1 b with rfl|b
     ·exact .inl (.inr (Au.2 ⟨k,BI.2 d,f.symm⟩))
     ·exact .inr ⟨z,b,k,d,f⟩
structure MH(s:KS)(C:NB)(L:List It)(t:By)(B:Nat):Prop where
 rows:Rows s.D (GN (Dk s.es false s.tp s.D) t) (nR (Dk s.es false s.tp s.D) t) (fun b k=>F9 (Dk s.es false s.tp s.D) (Dy b k)) (fun b k=>Dl (Dw (G0 b) (GN (Dk s.es false s.tp s.D) t b) (GR b) k)) B
 tab:t=DW (Dk s.es false s.tp s.D) C ⟨#[]⟩ L++⟨#[0]⟩
 dat:∀x∈L,∀k,k<Gg (C x.f)->16<=F9 (Dk s.es false s.tp s.D) (Dd 4 x.f k)/\F9 (Dk s.es false s.tp s.D) (Dd 4 x.f k)<1536/\s.D[F9 (Dk s.es false s.tp s.D) (Dd 4 x.f k)]?=some (Gl (C x.f) k)
 es:∀x,x∈s.es↔(∃z∈L,∃k,k<Gg (C z.f)/\x=(((Dd 4 z.f k:Nat):Int),((F9 (Dk s.es false s.tp s.D) (Dd 4 z.f k):Nat):Int)))\/∃b k,b<=B/\k<nR (Dk s.es false s.tp s.D) t b/\x=(((Dy b k:Nat):Int),((F9 (Dk s.es false s.tp s.D) (Dy b k):Nat):Int))
 tp:s.tp=F9 (Dk s.es false s.tp s.D) (Dy B 0)
 tx:s.tx=Dl (Dw (G0 B) (GN (Dk s.es false s.tp s.D) t B) (GR B) 0)
 ts:t.size<=30601
structure LE(s:KS):Prop where
 ok:Hh s
 inj:∀x∈s.es,∀y∈s.es,x.2=y.2->x=y
 lo:∀x∈s.es,16<=x.2.toNat
theorem Gf.w{s:KS}(h:Gf s):LE s:=⟨h.ok,h.inj,h.lo⟩
structure Xu(s:KS)(C:NB)(L:List It)(t:By)(B:Nat):Prop where
 rows:Rows s.D (GN (Dk s.es false s.tp s.D) t) (nR (Dk s.es false s.tp s.D) t) (fun b k=>F9 (Dk s.es false s.tp s.D) (Dy b k)) (fun b k=>Dl (Dw (G0 b) (GN (Dk s.es false s.tp s.D) t b) (GR b) k)) B
 tab:t=DW (Dk s.es false s.tp s.D) C ⟨#[]⟩ L++⟨#[0]⟩
 dat:∀x∈L,∀k,k<Gg (C x.f)->(Dk s.es false s.tp s.D).at (Dd 4 x.f k)=some (F9 (Dk s.es false s.tp s.D) (Dd 4 x.f k))/\16<=F9 (Dk s.es false s.tp s.D) (Dd 4 x.f k)/\F9 (Dk s.es false s.tp s.D) (Dd 4 x.f k)<1536/\s.D[F9 (Dk s.es false s.tp s.D) (Dd 4 x.f k)]?=some (Gl (C x.f) k)
 on:∀b,b<=B->US (Dk s.es false s.tp s.D) t b
 puts:∀y,y∈(Do s false C L).2.puts↔(∃z∈L,∃k,k<Gg (C z.f)/\y=(Dd 4 z.f k,F9 (Dk s.es false s.tp s.D) (Dd 4 z.f k)))\/∃b k,b<=B/\k<nR (Dk s.es false s.tp s.D) t b/\y=(Dy b k,F9 (Dk s.es false s.tp s.D) (Dy b k))
 tp:Gu (Do s false C L).1=F9 (Dk s.es false s.tp s.D) (Dy B 0)
 tx:GD (Do s false C L).1=Dl (Dw (G0 B) (GN (Dk s.es false s.tp s.D) t B) (GR B) 0)
 ts:t.size<=30601
 mn:∀b,b<B->1<nR (Dk s.es false s.tp s.D) t b
theorem Stays.on{s:KS}(u:LE s){C:NB}{L:List It}(A:GQ C L)(hk:∀x∈L,x.k=2)(D:(Do s false C L).2.ps=[]):∃t B,Xu s C L t B:=by
 obtain⟨E,l⟩:=ex (Dk s.es false s.tp s.D);have p:=u.ok.env false;have ap:=u.ok.tp;rw[<-l]at p;obtain⟨T,v⟩:=ex (Dr E C ⟨#[]⟩ ⟨s.tp+1,[],[]⟩ L);obtain⟨t1,t2,t3,t4,t5⟩:=KP E C ⟨#[]⟩ ⟨s.tp+1,[],[]⟩ L (fun z N=>⟨A.path z N,A.size z N,A.kind z N⟩);rw[<-v]at t1 t2 t3 t4 t5;have al:=A.len;obtain⟨t,M⟩:∃t:By,t=T.1++⟨#[0]⟩:=⟨_,rfl⟩;have aq:t.size=T.1.size+1:=by rw[M];exact Ai
 obtain⟨R,J⟩:=ex (Dz E 3 63 0 T.2 t);have o:Do s false C L=DE E 8 1 R.2 R.1:=by
  rw[J,M,v,l];rfl
 rw[o]at D;have Y:=Vo E 8 1 R.2 R.1;rw[D,AS]at Y;have Z:=F3.puts_ps_len E (Dd (3:UInt8).toNat 0) (Dw 3 t 63) T.2 0 (List.range ((t.size+63-1)/63));have I:R.2=E.puts (Dd (3:UInt8).toNat 0) (Dw 3 t 63) T.2 0 (List.range ((t.size+63-1)/63)):=by rw[J];rfl
 rw[<-I]at Z;obtain⟨p1,p2,p3,p4⟩:=F3.puts_stays (E:=E) (R:=Dd (3:UInt8).toNat 0) (B:=Dw 3 t 63) (st:=T.2) ((t.size+63-1)/63) (by rw[<-I];omega);have ab:T.2.ps.length<=0:=by omega
 obtain⟨W,i2,G,X⟩:=VE E C ⟨#[]⟩ ⟨s.tp+1,[],[]⟩ L hk (by rw[<-v];exact ab);rw[<-v]at W i2 X;have ao:∀k,Dd (3:UInt8).toNat 0 k=Dy 0 k:=fun k=>rfl
 have am:nR E t 0=(t.size+63-1)/63:=rfl;have O:R.1=GN E t 1:=by
  rw[J];refine Kn ?_;rw[Q8];exact p1
 rw[O]at D;rw[O]at o;have ag:=Uo E t 0;have ak:(6:Nat) ^ 8=1679616:=by decide
 obtain⟨B,q1,q2,q3,q4,q5,q6,q7⟩:=ZW E t 8 0 R.2 (by rw[D];exact Aw _) (by omega) (by omega);have m:∀b,nR E t (b+1)=(10*nR E t b+60-1)/60:=fun b=>by
  show((GN E t (b+1)).size+GR (b+1)-1)/GR (b+1)=_;rw[Uo,show GR (b+1)=60 by unfold GR;rw[if_neg (by omega)]]
 have w:∀b,nR E t b<=486:=fun b=>by
  induction b with
  | zero=>omega
  | succ b ih=>have:=m b;omega
 have an:nR E t 4<=1:=by
  have P:=m 0;have Q:=m 1;have g3:=m 2;have g4:=m 3;have g0:=w 0;clear t1 t2 t3 t4 t5 Y Z ag;rw[show 0+1=1 from rfl]at P;rw[show 1+1=2 from rfl]at Q;rw[show 2+1=3 from rfl]at g3;rw[show 3+1=4 from rfl]at g4;omega
 have aa:B<8:=by
  rcases AO B 8 with h|h
  ·exact h
  ·have d:=q6 4 (by omega) (by omega);omega
 have n:∀b,b<=B->US E t b:=fun b c=>by
  rcases BC b with rfl|h
  ·intro k g;exact p4 k g
  ·exact q5 b h c
 have ad:∀y:Nat×Nat,y∈(Do s false C L).2.puts↔(∃z∈L,∃k,k<Gg (C z.f)/\y=(Dd 4 z.f k,F9 E (Dd 4 z.f k)))\/∃b k,b<=B/\k<nR E t b/\y=(Dy b k,F9 E (Dy b k)):=fun y=>by
  rw[o];refine(q7 y).trans ?_;rw[I,p3,Ap,X y];constructor
  ·rintro(((e|e)|e)|⟨b,k,d,f,a,h4⟩)
   ·cases e
   ·exact .inl e
   ·obtain⟨k,g,rfl⟩:=Au.1 e;exact .inr ⟨0,k,Aw _,BI.1 g,rfl⟩
   ·exact .inr ⟨b,k,f,a,h4⟩
  ·rintro(e|⟨b,k,d,f,a⟩)
   ·exact .inl (.inl (.inr e))
   ·rcases BC b with rfl|h
    ·exact .inl (.inr (Au.2 ⟨k,BI.2 f,a.symm⟩))
    ·exact .inr ⟨b,k,h,d,f,a⟩
 have K:∀r,E.at r=some (F9 E r)->16<=F9 E r/\F9 E r<1536:=fun r hr=>by
  obtain⟨d,f⟩:=p.at_some hr;rw[l]at d;have a:=u.lo _ d;simp only[Bz]at a;rw[<-l]at a;exact⟨a,f⟩
 have S:∀r,F9 E r<1536:=fun r=>by
  unfold F9
  cases e:E.at r with
  | none=>show 0<_;omega
  | some q=>exact(p.at_some e).2
 have aj:E.D=s.D:=by rw[l];rfl
 have ae:BL (GN E t (B+1))=DT (F9 E (Dy B 0)) (Dl (Dw (G0 B) (GN E t B) (GR B) 0)):=by
  rw[Q8,q3];unfold DR DR;rw[AA]
 have U:GN E t (B+1)=DI (F9 E (Dy B 0)) (Dl (Dw (G0 B) (GN E t B) (GR B) 0)):=Kn (by rw[ae,Ub]);have ah:Gu (Do s false C L).1=F9 E (Dy B 0):=by
  rw[o];show Gu (DE E 8 (0+1) R.2 (GN E t (0+1))).1=_;rw[q4,U,Uc _ _ (by have:=S (Dy B 0);omega)]
 have ai:GD (Do s false C L).1=Dl (Dw (G0 B) (GN E t B) (GR B) 0):=by
  rw[o];show GD (DE E 8 (0+1) R.2 (GN E t (0+1))).1=_;rw[q4,U,Vb _ _ (JS _)]
 refine⟨t,B,?_⟩;rw[l]at *;refine⟨⟨aa,rfl,fun b _=>m b,fun b _=>Q8 _ _ _,q3,fun i j=>(n 0 (Aw _) i j).2,fun b c i j=>?_,fun b i c j=>K _ (n b c i j).1,fun b k=>⟨by have:=S (Dy b k);omega,JS _⟩,fun b i H V c ac j af e=>?_,fun b _=>by have:=w b;omega⟩,by rw[M,W],fun x F k g=>⟨(G x F k g).1,(K _ (G x F k g).1).1,(K _ (G x F k g).1).2,(G x F k g).2⟩,n,ad,ah,ai,by omega,fun b c=>q6 b (Aw _) c⟩
 ·have:=(n (b+1) c i j).2;rw[show G0 (b+1)=2 by unfold G0;rw[if_neg (by omega)],show GR (b+1)=60 by unfold GR;rw[if_neg (by omega)]]at this;exact this
 ·have d:=(p.at_some (n b c i j).1).1;have f:=(p.at_some (n H ac V af).1).1;have a:=u.inj _ d _ f (by have e':F9 (Dk s.es false s.tp s.D) (Dy b i)=F9 (Dk s.es false s.tp s.D) (Dy H V):=e;show((_:Nat):Int)=((_:Nat):Int);rw[e']);rw[AT]at a;have P:=w b;have Q:=w H;exact Tv (by omega) (by omega) (by omega) (by omega) (by have:=a.1;omega)
theorem Ge.on{s:KS}(f:LE s){C:NB}{L:List It}(j:GQ C L)(g:∀x∈L,x.k=2)(c:Ge s C L):∃t B,MH s C L t B/\Xu s C L t B:=by
 obtain⟨t,B,h⟩:=Stays.on f j g c.ps;refine⟨t,B,⟨h.rows,h.tab,fun x l k i=>(h.dat x l k i).2,fun x=>?_,c.tp.symm.trans h.tp,c.tx.symm.trans h.tx,h.ts⟩,h⟩;rw[c.es.2.2];constructor
 ·rintro⟨y,m,rfl⟩;rcases (h.puts y).1 m with⟨z,e,k,a,rfl⟩|⟨b,k,a,d,rfl⟩
  ·exact .inl ⟨z,e,k,a,rfl⟩
  ·exact .inr ⟨b,k,a,d,rfl⟩
 ·rintro(⟨z,e,k,a,rfl⟩|⟨b,k,a,d,rfl⟩)
  ·exact⟨_,(h.puts _).2 (.inl ⟨z,e,k,a,rfl⟩),rfl⟩
  ·exact⟨_,(h.puts _).2 (.inr ⟨b,k,a,d,rfl⟩),rfl⟩
theorem Wd:∀(a b:List UInt8),a.take (JN a b)=b.take (JN a b)
 | [],b=>by unfold JN;simp
 | x::a,[]=>by unfold JN;simp
 | x::a,y::b=>by
  unfold JN;by_cases h:x=y
  ·subst h;have:=Wd a b;simp[this]
  ·simp[h]
theorem Qy(l:List UInt8){n:Nat}(h:n=l.length)(s:By)(r:List UInt8)(a:BL s=l++r):BL (Dg s n)=l/\BL (s.extract n s.size)=r:=by
 have aa:s.size=l.length+r.length:=by rw[<-DZ,a,Ad]
 subst h;rw[KR,JV,a];refine⟨?_,?_⟩
 ·rw[Ar,Fg]
 ·rw[Fi,Ah (by omega)]
theorem N8(u:UInt8):DA [u]=u.toNat:=by simp[DA]
theorem KF{n:Nat}(h:n<256):(UInt8.ofNat n).toNat=n:=by simp;omega
theorem LH.of{D:LY}{E:F3}{C:NB}{o:By}{x:It}{s q:By}(hs:BL s=BL (Kb E C o x)++BL q)(hp:(jn x.ns).size<=100)(hf:x.f<60)(Q:(C x.f).size<=1280)
  (aa:∀r,F9 E r<1536) (R:∀k,k<Gg (C x.f)->16<=F9 E (Dd 4 x.f k)/\F9 E (Dd 4 x.f k)<1536/\D[F9 E (Dd 4 x.f k)]?=some (Gl (C x.f) k)):
  LH D s o (jn x.ns) x.f (C x.f) (fun k=>F9 E (Dd 4 x.f k)) q:=by
 obtain⟨p,A⟩:=ex (jn x.ns);obtain⟨d,b⟩:=ex (C x.f);obtain⟨a,F⟩:=ex (Jr o p);have T:=Up o p;rw[<-F]at T;obtain⟨c,B⟩:=ex (DR (fun k=>DT (F9 E (Dd 4 x.f k)) (Dl (Gl d k))) (Gg d));have Y:BL s=[UInt8.ofNat 2]++([UInt8.ofNat a]++([UInt8.ofNat (p.size-a)]++(BL (p.extract a p.size)++([UInt8.ofNat x.f]++(DC d.size 2++(c++BL q)))))):=by
  rw[hs];unfold Kb Dx Dp;rw[<-A,<-b,<-F,DO,DO,DO,DO,<-B];have h1:BL (⟨#[UInt8.ofNat 2,UInt8.ofNat a,UInt8.ofNat (p.size-a)]⟩:By)=[UInt8.ofNat 2,UInt8.ofNat a,UInt8.ofNat (p.size-a)]:=rfl;have e:BL (⟨#[UInt8.ofNat x.f]⟩:By)=[UInt8.ofNat x.f]:=rfl;have t:BL (Je d.size 2)=DC d.size 2:=Kt _;have u:BL (⟨c.toArray⟩:By)=c:=Kt _;rw[h1,e,t,u];simp only[Ar,AI,AA]
 rw[<-A]at hp;obtain⟨U,H⟩:=Qy _ (n:=1) rfl s _ Y;obtain⟨g,e⟩:=ex (s.extract 1 s.size);rw[<-e]at H;obtain⟨V,I⟩:=Qy _ (n:=1) rfl g _ H;obtain⟨h,t⟩:=ex (g.extract 1 g.size);rw[<-t]at I;obtain⟨W,J⟩:=Qy _ (n:=1) rfl h _ I;obtain⟨i,u⟩:=ex (h.extract 1 h.size);rw[<-u]at J;have hn:p.size-a=(BL (p.extract a p.size)).length:=by rw[DZ,Af];omega
 obtain⟨X,K⟩:=Qy _ hn i _ J;obtain⟨j,N⟩:=ex (i.extract (p.size-a) i.size);rw[<-N]at K;obtain⟨Z,L⟩:=Qy _ (n:=1) rfl j _ K;obtain⟨s6,O⟩:=ex (j.extract 1 j.size);rw[<-O]at L;obtain⟨g1,w⟩:=Qy _ (n:=2) (D4 2 _).symm s6 _ L;obtain⟨G,y⟩:=ex (s6.extract 2 s6.size);rw[<-y]at w;have S:((256:Nat) ^ 2)=65536:=rfl;have z:=KI (f:=fun k=>DT (F9 E (Dd 4 x.f k)) (Dl (Gl d k))) (m:=10) (fun k=>JK _ _) (Gg d);rw[<-B]at z;rw[<-b]at Q R;refine⟨g,h,i,j,s6,a,p.size-a,T.1,by omega,hf,e,t,u,N,O,?_,?_,?_,?_,?_,by rw[<-b];exact Q,?_,fun k v=>⟨?_,?_⟩,?_⟩
 ·rw[U,N8];rfl
 ·rw[V,N8,KF (by omega)]
 ·rw[W,N8,KF (by omega)]
 ·refine Kn ?_;rw[DO,X,JV,JV,BY,EH,<-A,Ah (l:=(BL p).drop a) (by rw[Az,DZ];exact Aa _)];have:(BL o).take a=(BL p).take a:=by rw[F];exact Wd _ _
  rw[this,B8]
 ·rw[Z,N8,KF (by omega)]
 ·rw[g1,Kr 2 _ (by rw[S];omega),<-b]
 ·rw[<-b]at v;have P:BL (Dv G k)=(c++BL q).drop (10*k):=by rw[ND,w]
  rw[<-y];have M:=Qn (f:=fun k=>DT (F9 E (Dd 4 x.f k)) (Dl (Gl d k))) (m:=10) (fun k=>JK _ _) (Gg d) k v;rw[<-B]at M;have ab:=Ca List.length P;rw[DZ,Az,Ad,z]at ab;rw[Ph _ (by omega),P,EB (by omega)];have e:((c.drop (10*k)++BL q).take 2)=(DT (F9 E (Dd 4 x.f k)) (Dl (Gl d k))).take 2:=by
   rw[<-M,B9,show min 2 10=2 from rfl,A4 (by rw[Az];omega)]
  rw[e];unfold DT;rw[BP (D4 2 _),Kr 2 _ (by rw[S];have:=aa (Dd 4 x.f k);omega)]
 ·rw[<-b]at v ⊢;exact R k v
 ·refine Kn ?_;rw[<-b,<-y,ND,w,<-z,Fi]
theorem Of(s:List UInt8)(m:Nat):∀n,DR (fun i=>(((s.drop (i*m)).take m)++List.replicate m 0).take m) n=(s++List.replicate (m*n) 0).take (m*n)
 | 0=>by simp[DR]
 | n+1=>by
  unfold DR;rw[Of s m n];have e:m*(n+1)=m*n+m:=Nat.mul_succ m n;rw[e,List.take_add]
  congr 1
  ·rw[<-Fd,<-Ar,A4 (l₁ := s++List.replicate (m*n) 0) (by rw[Ad,Bk];omega)]
  ·rw[Nat.mul_comm n m,Fv];rcases Nat.le_total (m*n) s.length with h|h
   ·rw[show m*n-s.length=0 by omega,BY];rw[BN,B9,Nat.min_self,BN,Am,Az,BM,BM]
    congr 2
    omega
   ·rw[Cq h,List.take_nil,AA,AA,CL,BM,BM]
    congr 1
    omega
end Go.Proofs.YtaieidcohdhgpaaGreatDoor
