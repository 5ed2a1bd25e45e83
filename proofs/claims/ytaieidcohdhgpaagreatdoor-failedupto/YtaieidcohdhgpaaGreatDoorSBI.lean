/- Failed. -/
import Derived.Test.YtaieidcohdhgpaaGreatDoorSBH
namespace Go.Proofs.YtaieidcohdhgpaaGreatDoor
set_option maxHeartbeats 40000000
set_option maxRecDepth 100000
open Go.RowKit
def UI(W w0:World)(n0 rb db tp tx fb:Nat)(vt va:Value)(p:By)(fn:Nat)(d:By)(q':RdQ)(s':By)(e:Ending)(w':World):Prop:=
 ∃a' c' va',e = .returned (.tuple #[.agg #[.string p,.int .u8 2,.int .i64 (fn:Nat),.slice a' d.size c'],.bool true])/\RdS w0 n0 rb db tp tx q' va' vt w'/\FdS fb s' vt w'/\Sl w' 5 1 (.slice a' d.size c') d.size (Dc d)/\(∀k,Own (.slice a' d.size c') k->W.heap.size+2<=k)/\Fr (fun j=>j=rb\/Own va j\/j=fb) W w'/\Dk W va va'
theorem SlB.cut{b:Nat}{w:World}{a:OA}{l c:Nat}{s d:By}(h:SlB b w (.slice a l c) s)(hd:d.size<=s.size)(j:(BL s).take d.size=BL d):Sl w 5 1 (.slice a d.size c) d.size (Dc d):=by
 refine⟨by rw[Dg];omega,?_⟩;rcases h.1.2 with⟨e,h0⟩|⟨g,aa,L,e,f,q1,k,m,n⟩
 ·cases e
  have:d.size=0:=by omega
  exact .inl ⟨by rw[this],this⟩
 ·cases e
  refine .inr ⟨g,c,L,rfl,f,by omega,k,m,?_⟩;have i:Dc d=(Dc s).take d.size:=by
   unfold Dc BL at *;rw[<-List.map_take,j]
  rw[i,<-n,List.take_take]
  congr 1;omega
theorem ZlR(W T:World)(O A R tp tx:Nat)(q:RdQ)(va z:Value)(h:RdS T O A R tp tx q va z W){vf vw ve:Value}{a:OA}{l c:Nat}{D:LY}(hD:DS T R vf (.slice a l c) vw ve D)(aO:R<O/\∀k,Own (.slice a l c) k->k<O)
  (o:Nat) (aN:O<=o) (s:By) (hf:FdS o s z W) (hs:s.size<=1000000) (p:By) (fn:Nat) (b7:fn<60000) (d:By) (hd:d.size<=60000) (aR:DL (BL (Di s 2))=d.size) (P:Nat->Nat) (K:Nat) (E:K=nBl d)
  (hb:∀k,k<K->rdP (DC (s.extract 2 s.size) k)=P k/\16<=P k/\P k<1536/\D[P k]?=some (dtB d k))
  (hq:∀k,k<K->(D3 q fn P k).tk (P k)=false/\(∀y∈(D3 q fn P k).ins,y.1≠Dd 4 fn k)/\(D3 q fn P k).ins.length<=9999):
  Calls Tryz.prog 246 #[.pointer (some ⟨A,0,none⟩),.pointer (some ⟨o,0,none⟩),.agg #[.string p,.int .u8 2,.int .i64 (fn:Nat),.slice none 0 0]] W (UI W T O A R tp tx o z va p fn d (D3 q fn P K) (DC (s.extract 2 s.size) K)):=by
 obtain⟨W1,e1,x1,k1,s1,b1⟩:=De W [.string p,.int .u8 2,.int .i64 (fn:Nat),.slice none 0 0] 141;obtain⟨W2,e2,x2,k2,s2,b2⟩:=De W1 [.string ⟨#[]⟩,.int .u8 0,.int .i64 0,.slice none 0 0] 141;rw[s1]at x2;have an:Below W.heap.size W W2:=b1.trans (b2.mono (by omega));obtain⟨bD,bE,aa⟩:=h.lt;obtain⟨F,al⟩:∃F,F=s.extract 2 s.size:=⟨_,rfl⟩;rw[<-al]at hb ⊢;have aP:O<=W.heap.size:=Nat.le_trans h.sz h.bel.size;have bC:∃a l c,RowIs W o 287 [.slice a l c]:=by obtain⟨a,l,c,r,_⟩:=hf;exact⟨a,l,c,r⟩
 obtain⟨_,_,_,au⟩:=bC;have ad:=h.ne au (by decide) (by decide) (by decide);have b6:=au.lt;obtain⟨N,hN⟩:∃N,N=d.size:=⟨_,rfl⟩;have ak:∀k,k<=K->(k<K↔64*k<N):=fun k hk=>by rw[E,hN];rw[E]at hk;unfold nBl at *;omega
 have bg:N<=64*K:=by rw[E,hN];unfold nBl;omega
 have ap:¬Own z o:=ad.2.2;have aA:Hid (Calls Tryz.prog 240 #[.pointer (some ⟨o,0,none⟩),.int .i64 2] W2 fun e X=>e = .returned (.int .u64 (N:Nat))/\Hid (FiI W T O A R tp tx o z va p fn d (D3 q fn P 0) (DC F 0) 0 va (.slice none 0 0) X)):=by
  refine((hf.below an aa).number ap (by omega) 2 (by omega)).mono ?_;rintro e X ⟨rfl,q1,q2⟩;refine⟨by rw[aR,hN],(h.below an).fr q2 (fun k e=>by subst e;exact⟨aN,ad.1,ad.2.1,ad.2.2⟩),by rw[<-al]at q1;exact q1,(k2 _ _ _ x1).fr q2 (fun e=>by omega),x2.fr q2 (fun e=>by omega),SlB.nil _ _,(Fr.of_below an).then q2 (fun k _ e => .inr (.inr e)),fun g hg => .inl hg,by have:=q2.size;omega⟩
 have a8:Hid (∀k,k<K->∀B n w m wr,FiI W T O A R tp tx o z va p fn d (D3 q fn P k) (DC F k) k B (.slice n w m) wr->∃X VB,VB=DA (dtB d k)/\Calls Tryz.prog 238 #[.pointer (some ⟨o,0,none⟩)] wr fun e Y=>e = .returned (.agg #[.int .i64 (P k:Nat),.int .u64 (X:Nat)])/\∃Z,Y.alloc (.cells #[.int .i64 (P k:Nat),.int .u64 (X:Nat)] 175)=Z/\Z.cell? ⟨Y.heap.size,0,none⟩=some (.int .i64 (P k:Nat))/\Z.cell? ⟨Y.heap.size,1,none⟩=some (.int .u64 (X:Nat))/\
   Hid (Calls Tryz.prog 241 #[.pointer (some ⟨A,0,none⟩),.agg #[.int .i64 (P k:Nat),.int .u64 (X:Nat)]] Z fun e U=>e = .returned (.tuple #[VB,.bool true])/\∃V0 V,U.alloc (.cells (Dc (Dm 64)).toArray 188)=V0/\RowIs V0 U.heap.size 188 (Dc (Dm 64))/\V0.setRow U.heap.size (Dc (dtB d k)).toArray=V/\V.cell? ⟨W.heap.size,2,none⟩=some (.int .i64 (fn:Nat))/\V.cell? ⟨Y.heap.size,0,none⟩=some (.int .i64 (P k:Nat))/\
    Hid (Calls Tryz.prog 243 #[.pointer (some ⟨A,1,none⟩),.int .u64 ((4*4294967296+fn*65536+k:Nat):Int),.int .i64 (P k:Nat)] V.drew fun e G=>e = .returned (.tuple #[])/\G.cell? ⟨W.heap.size,2,none⟩=some (.int .i64 (fn:Nat))/\G.cell? ⟨Y.heap.size,0,none⟩=some (.int .i64 (P k:Nat))/\G.cell? ⟨W.heap.size,3,none⟩=some (.slice n w m)/\
     ∃H J I C,(Builtin.append_ #[59,59] 59 #[.slice n w m,.slice (some ⟨U.heap.size,0,none⟩) 64 64]).run Tryz.prog G.drew = .ok (.slice H J I) C/\C.cell? ⟨W.heap.size,3,none⟩=some (.slice n w m)/\C.frozen? ⟨W.heap.size,3,none⟩=false/\Hid (∃ac,FiI W T O A R tp tx o z va p fn d (D3 q fn P (k+1)) (DC F (k+1)) (k+1) ac (.slice H J I) (C.setCell ⟨W.heap.size,3,none⟩ (.slice H J I)))))):=fun k hk B n w m wr f=>by
  obtain⟨f1,f2,f3,f4⟩:=hb k hk;obtain⟨g1,g2,g3⟩:=hq k hk;have ce:=f.sz;have bA:∃a l c,RowIs wr o 287 [.slice a l c]:=by obtain⟨a,l,c,r,_⟩:=f.fd;exact⟨a,l,c,r⟩
  obtain⟨_,_,_,bB⟩:=bA;have bH:(DC F k).size<=2000000:=by rw[Ug,al,ByteArray.size_extract];omega
  refine⟨rdX (DC F k),_,rfl,(f.fd.ref ap bH).mono ?_⟩;rintro e Y ⟨rfl,y1,y2⟩;obtain⟨Z,eZ,xZ,kZ,sZ,bZ⟩:=De Y [.int .i64 (P k:Nat),.int .u64 (rdX (DC F k):Nat)] 175;have bq:RowIs Y W.heap.size 141 _:=f.b5.fr y2 (fun e=>by omega);have br:RowIs Y (W.heap.size+1) 141 _:=f.b6.fr y2 (fun e=>by omega);have bj:RdS T O A R tp tx (D3 q fn P k) B z Y:=f.rd.fr y2 (fun j e=>by subst e;exact⟨aN,ad.1,(f.rd.ne bB (by decide) (by decide) (by decide)).2.1,ap⟩);have bk:=bj.below bZ;have b4:=y2.size;refine⟨by rw[f1],Z,eZ,(xZ.cell 0).trans rfl,(xZ.cell 1).trans rfl,?_⟩;refine(bk.take_call hD aO (x:=rdX (DC F k)) f2 f3 g1 f4).mono ?_;rintro e U ⟨rfl,u1,u2⟩;have bW:=u2.size;obtain⟨V0,e0,x0,k0,s0,b0⟩:=De U (Dc (Dm 64)) 188;have xV:RowIs (V0.setRow U.heap.size (Dc (dtB d k)).toArray) U.heap.size 188 (Dc (dtB d k)):=setRow_heap V0 _ _ _ 188 _ x0;have bV:Below U.heap.size U (V0.setRow U.heap.size (Dc (dtB d k)).toArray):=b0.trans ⟨rfl,rfl,rfl,by simp,fun j b=>setRow_other V0 _ j _ (by omega)⟩;obtain⟨V,hV⟩:∃V,V0.setRow U.heap.size (Dc (dtB d k)).toArray=V:=⟨_,rfl⟩;rw[hV]at xV bV;have ar:=u1.below bV;have b3:=bV.size;have bs:=kZ _ _ _ bq;have bt:=kZ _ _ _ br;have aE:RowIs U W.heap.size 141 _:=bs.fr u2 (fun e=>by omega);have aF:RowIs U (W.heap.size+1) 141 _:=bt.fr u2 (fun e=>by omega);have aG:RowIs U Y.heap.size 175 _:=xZ.fr u2 (fun e=>by omega);have aI:RowIs V W.heap.size 141 _:=(bV.block _ aE.lt).trans aE;have bl:RowIs V (W.heap.size+1) 141 _:=(bV.block _ aF.lt).trans aF;have aK:RowIs V Y.heap.size 175 _:=(bV.block _ aG.lt).trans aG;refine⟨rfl,V0,V,e0,x0,hV,(aI.cell 2).trans rfl,(aK.cell 0).trans rfl,?_⟩;have aD:RdS T O A R tp tx ((D3 q fn P k).take (P k)) B z V.drew:=ar.below ⟨rfl,rfl,rfl,Nat.le_refl _,fun _ _=>rfl⟩;refine(aD.put_call (r:=Dd 4 fn k) (p:=P k) g2 g3).mono ?_;rintro e G ⟨rfl,ac,r1,r2,r3⟩;have bX:V.heap.size<=G.heap.size:=r2.size;have aw:=aD.lt;have aW:∀j t L,RowIs V j t L->t≠350->¬Own B j:=fun j t L hr ht=>by
   obtain⟨es,_,q2⟩:=ar.es;intro e;obtain⟨R',ab⟩:=q2.type e;unfold RowIs at hr ab;rw[hr]at ab;cases ab;exact ht rfl
  have kp:∀j t L,RowIs V j t L->j≠A->t≠350->RowIs G j t L:=fun j t L hr b ht=>(r2.block j hr.lt (fun e=>e.elim b (aW j t L hr ht))).trans hr
  have am:=kp _ _ _ aI (by omega) (by decide);have aL:=kp _ _ _ bl (by omega) (by decide);have bo:=kp _ _ _ aK (by omega) (by decide);have bm:=kp _ _ _ xV (by omega) (by decide);have bn:RowIs G.drew U.heap.size 188 _:=bm;have af:Fr (fun j=>j=o\/j=A\/Own B j) wr G:=by
   have a1:Fr (fun j=>j=o\/j=A\/Own B j) wr Z:=(y2.mono (Y:=fun j=>j=o\/j=A\/Own B j) (fun j _ e => .inl e)).then (Fr.of_below (X:=fun _=>False) bZ) (fun _ _ e=>e.elim);have a2:=a1.then u2 (fun j _ e => .inr (.inl e));have a3:Fr (fun j=>j=o\/j=A\/Own B j) wr V.drew:=by
    have:=a2.then (Fr.of_below (X:=fun _=>False) bV) (fun _ _ e=>e.elim);exact⟨this.os,this.tape,this.output,this.size,this.block⟩
   exact a3.then r2 (fun j _ e => .inr e)
  have aQ:∀j,Own (.slice n w m) j->¬(j=o\/j=A\/Own B j):=fun j b e=>by
   obtain⟨R',ab⟩:=f.dt.typed b;have n5:=f.dt.2 j b;rcases e with e|e|e
   ·omega
   ·omega
   ·obtain⟨es,_,q2⟩:=f.rd.es;obtain⟨R2,ae⟩:=q2.type e;unfold RowIs at ab ae;rw[ab]at ae;cases ae
  have bw:SlB (W.heap.size+2) G.drew (.slice n w m) (Km d k):=⟨f.dt.1.fr ⟨af.os,af.tape,af.output,af.size,af.block⟩ aQ,f.dt.2⟩;have b9:k<=1000:=by have:=(ak k (by omega)).1 hk;omega
  obtain⟨H,J,I,C,m1,m2,m3,m4⟩:=JY G.drew (W.heap.size+2) (by show _<=G.heap.size;omega) (.slice n w m) _ bw ⟨U.heap.size,0,none⟩ 64 64 (dtB d k) (Qd d k) (fun j u hu=>by rw[Addr.add_lit,Nat.zero_add,bn.cell];exact hu) (by rw[Uf];omega);have bY:G.heap.size<=C.heap.size:=m3.size;have aj:∀j,j<W.heap.size+2->¬Own (.slice n w m) j:=fun j b e=>by have:=f.dt.2 j e;omega
  have bL:∀j,j<W.heap.size+2->¬Own (.slice H J I) j:=fun j b e=>by have:=m2.2 j e;omega
  have ag:RowIs C W.heap.size 141 _:=(m3.block _ am.lt (aj _ (by omega))).trans am;have bp:RowIs C (W.heap.size+1) 141 _:=(m3.block _ aL.lt (aj _ (by omega))).trans aL;refine⟨rfl,(am.cell 2).trans rfl,(bo.cell 0).trans rfl,(am.cell 3).trans rfl,H,J,I,C,m1,(ag.cell 3).trans rfl,ag.frozen 3,ac,?_⟩;obtain⟨ca,cb,cc⟩:=r1.lt;have ax:∀j,Own (.slice n w m) j->¬Own ac j/\¬Own z j:=fun j b=>by
   have n5:=f.dt.2 j b;have b8:j<wr.heap.size:=f.dt.1.lt b;refine⟨fun e=>?_,fun e=>by have:=aa j e;omega⟩;rcases r3 j e with e|e
   ·exact aQ j b (.inr (.inr e))
   ·have:V.drew.heap.size=V.heap.size:=rfl;omega
  have bM:RdS T O A R tp tx (D3 q fn P (k+1)) ac z G.drew:=r1.below ⟨rfl,rfl,rfl,Nat.le_refl _,fun _ _=>rfl⟩;have aC:RdS T O A R tp tx (D3 q fn P (k+1)) ac z C:=bM.fr m3 (fun j b=>⟨by have:=f.dt.2 j b;omega,by have:=f.dt.2 j b;omega,(ax j b).1,(ax j b).2⟩);have ah:Fr (fun j=>j=W.heap.size) C (C.setCell ⟨W.heap.size,3,none⟩ (.slice H J I)):=by
   exact(Fr.refl (fun j=>j=W.heap.size) C).set ⟨W.heap.size,3,none⟩ (.slice H J I) rfl
  have bI:¬Own ac W.heap.size:=fun e=>by
   obtain⟨es,_,q2⟩:=aC.es;obtain⟨R2,ae⟩:=q2.type e;unfold RowIs at ag ae;rw[ag]at ae;cases ae
  have bi:=aC.fr ah (fun j e=>by subst e;exact⟨aP,by omega,bI,fun e=>by have:=aa _ e;omega⟩);have bz:FdS o (DC F (k+1)) z (C.setCell ⟨W.heap.size,3,none⟩ (.slice H J I)):=by
   have t1:FdS o (DC F (k+1)) z Z:=y1.below bZ (fun j b=>by have:=aa j b;omega);have ai:∀j,Own z j->j<Z.heap.size:=fun j b=>by have:=aa j b;have:=bZ.size;omega
   have t2:FdS o (DC F (k+1)) z U:=t1.fr u2 (fun e=>ad.1 e) (fun j b e=>h.ot (by rw[<-e];exact b)) ai;have t3:FdS o (DC F (k+1)) z V:=t2.below bV (fun j b=>by have:=ai j b;omega);have t4:FdS o (DC F (k+1)) z G:=FdS.fr (W:=V.drew) t3 r2 (fun e=>e.elim ad.1 (fun e=>by
    obtain⟨_,_,_,rr,_⟩:=t3;exact aW o _ _ rr (by decide) e)) (fun j b e=>e.elim (fun e=>h.ot (by rw[<-e];exact b)) (fun e=>(ar.oa j e).2.2 b)) (fun j b=>by show j<V.heap.size;have:=ai j b;omega)
   have bK:∀j,Own z j->j<G.drew.heap.size:=fun j b=>by show j<G.heap.size;have:=ai j b;omega
   have t5:FdS o (DC F (k+1)) z C:=FdS.fr (W:=G.drew) t4 m3 (fun e=>by have:=f.dt.2 o e;omega) (fun j b e=>(ax j e).2 b) bK;exact t5.fr ah (fun e=>by omega) (fun j b e=>by have:=aa j b;omega) (fun j b=>by have:=ai j b;omega)
  have bG:RowIs (C.setCell ⟨W.heap.size,3,none⟩ (.slice H J I)) W.heap.size 141 [.string p,.int .u8 2,.int .i64 (fn:Nat),.slice H J I]:=ag.set 3 (.slice H J I);have bx:SlB (W.heap.size+2) (C.setCell ⟨W.heap.size,3,none⟩ (.slice H J I)) (.slice H J I) (Km d (k+1)):=⟨m2.1.fr ah (fun g hg e=>bL W.heap.size (by omega) (by rw[<-e];exact hg)),m2.2⟩;refine⟨bi,bz,bG,bp.fr ah (fun e=>by omega),bx,?_,fun g hg=>?_,?_⟩
  ·refine Fr.then (Fr.then (Fr.then f.fr af (fun j b e=>?_)) (w2:=C) ⟨m3.os,m3.tape,m3.output,m3.size,m3.block⟩ (fun j b e=>absurd e (aj j (by omega)))) ah (fun j b e=>by omega);rcases e with e|e|e
   ·exact .inr (.inr e)
   ·exact .inl e
   ·exact(f.na j e).elim (fun e => .inr (.inl e)) (fun e=>by omega)
  ·rcases r3 g hg with e|e
   ·exact(f.na g e).imp id (fun e=>e)
   ·have:V.drew.heap.size=V.heap.size:=rfl;exact .inr (by omega)
  ·have:(C.setCell ⟨W.heap.size,3,none⟩ (.slice H J I)).heap.size=C.heap.size:=by simp[World.setCell]
   omega
 have a0:Hid (∀B n w m wr,FiI W T O A R tp tx o z va p fn d (D3 q fn P K) (DC F K) K B (.slice n w m) wr->N<=m/\RowIs wr W.heap.size 141 [.string p,.int .u8 2,.int .i64 (fn:Nat),.slice n w m]/\∃w1,wr.setCell ⟨W.heap.size,3,none⟩ (.slice n N m)=w1/\RowIs w1 W.heap.size 141 [.string p,.int .u8 2,.int .i64 (fn:Nat),.slice n N m]/\RowIs w1 (W.heap.size+1) 141 [.string ⟨#[]⟩,.int .u8 0,.int .i64 0,.slice none 0 0]/\
   Hid (UI W T O A R tp tx o z va p fn d (D3 q fn P K) (DC F K) (.returned (.tuple #[.agg #[.string p,.int .u8 2,.int .i64 (fn:Nat),.slice n N m],.bool true])) ((((w1.setCell ⟨W.heap.size+1,0,none⟩ (.string p)).setCell ⟨W.heap.size+1,1,none⟩ (.int .u8 2)).setCell ⟨W.heap.size+1,2,none⟩ (.int .i64 (fn:Nat))).setCell ⟨W.heap.size+1,3,none⟩ (.slice n N m)))):=fun B n w m wr f=>by
  have bu:=Uf d K;have bh:d.size<=(Km d K).size:=by rw[bu];omega
  have bv:=f.dt.cut bh (by rw[E];exact Zme d);have aM:N<=m:=by
   rcases f.dt.1.2 with⟨e,h0⟩|⟨g,bN,L,e,_,q1,_⟩
   ·cases e;omega
   ·cases e;omega
  have aS:∀M j,Own (.slice n M m) j->Own (.slice n w m) j:=fun M j e=>by cases n<;>exact e
  have aj:∀j,j<W.heap.size+2->¬Own (.slice n N m) j:=fun j b e=>by have:=f.dt.2 j (aS _ j e);omega
  have f1:Fr (fun j=>j=W.heap.size\/j=W.heap.size+1) wr ((((( wr.setCell ⟨W.heap.size,3,none⟩ (.slice n N m)).setCell ⟨W.heap.size+1,0,none⟩ (.string p)).setCell ⟨W.heap.size+1,1,none⟩ (.int .u8 2)).setCell ⟨W.heap.size+1,2,none⟩ (.int .i64 (fn:Nat))).setCell ⟨W.heap.size+1,3,none⟩ (.slice n N m)):=((((( Fr.refl (fun j=>j=W.heap.size\/j=W.heap.size+1) wr).set ⟨W.heap.size,3,none⟩ _ (.inl rfl)).set ⟨W.heap.size+1,0,none⟩ _ (.inr rfl)).set ⟨W.heap.size+1,1,none⟩ _ (.inr rfl)).set ⟨W.heap.size+1,2,none⟩ _ (.inr rfl)).set ⟨W.heap.size+1,3,none⟩ _ (.inr rfl);have h5:RowIs (wr.setCell ⟨W.heap.size,3,none⟩ (.slice n N m)) W.heap.size 141 [.string p,.int .u8 2,.int .i64 (fn:Nat),.slice n N m]:=f.b5.set 3 (.slice n N m);have h6:RowIs (wr.setCell ⟨W.heap.size,3,none⟩ (.slice n N m)) (W.heap.size+1) 141 _:=(Below.heap_setCell _ _ _ _ (show W.heap.size+1≠W.heap.size by omega)).trans f.b6;have nv:∀j t L,RowIs wr j t L->t≠350->¬Own B j:=fun j t L hr ht e=>by
   obtain⟨es,_,q2⟩:=f.rd.es;obtain⟨R',ab⟩:=q2.type e;unfold RowIs at hr ab;rw[hr]at ab;cases ab;exact ht rfl
  have bJ:∀j,Own z j->j<wr.heap.size:=fun j b=>by have:=aa j b;have:=f.sz;omega
  rw[hN]at *;refine⟨aM,f.b5,_,rfl,h5,h6,n,m,B,rfl,f.rd.fr f1 (fun j e=>?_),f.fd.fr f1 (fun e=>by omega) (fun j b e=>by have:=aa j b;omega) bJ,bv.fr f1 (fun g hg e=>aj g (by omega) hg),fun j b=>f.dt.2 j (aS _ j b),f.fr.then f1 (fun j b e=>by omega),f.na⟩;rcases e with e|e
  ·subst e;exact⟨aP,by omega,nv _ _ _ f.b5 (by decide),fun e=>by have:=aa _ e;omega⟩
  ·subst e;exact⟨by omega,by omega,nv _ _ _ f.b6 (by decide),fun e=>by have:=aa _ e;omega⟩
 have a9:Hid (∀k,k<K->∀V,Calls Tryz.prog 244 #[.int .u8 4,.int .i64 (fn:Nat),.int .i64 (k:Nat)] V fun e w'=>e = .returned (.int .u64 ((4*4294967296+fn*65536+k:Nat):Int))/\w'=V):=fun k hk V=>Up V 4 fn k (by omega) (by omega) (by have:=(ak k (by omega)).1 hk;omega)
 have a4:Hid (∀k B n w m wr,FiI W T O A R tp tx o z va p fn d (D3 q fn P k) (DC F k) k B (.slice n w m) wr->w=64*k):=fun k B n w m wr f=>by
  have:=Sl.len f.dt.1;rw[Uf]at this;exact this
 have ay:Hid (∀k,(Dc (dtB d k)).length=64):=fun k=>by rw[Dg,Qd]
 have bS:N<=60000:=by omega
 have bR:K<=1000:=by rw[E];unfold nBl;omega
 have az:=Db ak;have aY:=Db e1;have aZ:=Db e2;obtain⟨QK,bU⟩:∃Q,Q=D3 q fn P K:=⟨_,rfl⟩;clear e1 e2 x1 x2 k1 k2 s1 s2 b1 b2 an h hD aO hf hb hq E aR hN ak bg bD bE aa al ad au hd ap;go_enter Tryz.func246,Tryz.ntmps246;go_upto_region 1 with fail;rw[show W.alloc (.cells #[.string p,.int .u8 2,.int .i64 (fn:Nat),.slice none 0 0] 141)=W1 from Da aY,show W1.alloc (.cells #[.string ⟨#[]⟩,.int .u8 0,.int .i64 0,.slice none 0 0] 141)=W2 from Da aZ];have b5:IntKind.i64.wrap (N:Int)=(N:Int):=by rw[IntKind.wrap_i64];omega
 go_wp2_with (go_at_call 240;refine(Da aA).mono ?_;rintro e X ⟨rfl,aq⟩);clear aA
 go_loopw [9] (fun i wr=>∃k:Nat,k<=K/\i = .int .i64 (k:Nat)/\Hid (∃B n w m,FiI W T O A R tp tx o z va p fn d (D3 q fn P k) (DC F k) k B (.slice n w m) wr)) (fun i _=>K-(intOf i).toNat)
 case atStart=>exact⟨0,by omega,rfl,va,none,0,0,Da aq⟩
 case round=>
  obtain⟨k,hk,rfl,HI⟩:=hrel;obtain⟨B,n,w,m,f⟩:=Da HI;have aw:=Da a4 _ _ _ _ _ _ f;have c3:=(f.b5.cell 3).trans (show _=some (Value.slice n w m) from rfl);by_cases ao:k<K
  ·obtain⟨X2,VB,aJ,hC⟩:=Da a8 k ao B n w m wr f;have HC:=Db hC;have bb:=Db aJ;have bF:(w:Int)<(N:Int):=by have:=(Da az k hk).1 ao;omega
   have a6:=Db (Da a9 k ao);clear hC aJ f HI aq aw;go_upto_region 6 with(go_at_call 238;refine(Da HC).mono ?_;rintro e Y ⟨rfl,Z,hZ,z0,z1,HT⟩;have HZ:=Db hZ;clear hZ);rw[show Y.alloc (.cells #[.int .i64 (P k:Nat),.int .u64 (X2:Nat)] 175)=Z from Da HZ];go_upto_region 7 with(first|(go_at_call 241;refine(Da HT).mono ?_;rintro e U ⟨rfl,V0,V,aH,aX,hV,v2,vp,HP⟩;have ba:=Db aH;have bd:=Db aX;have HV:=Db hV;clear aH aX hV)|(refine JF rfl 188 rfl Kq ?_;rw[show U.alloc (.cells (Dc (Dm 64)).toArray 188)=V0 from Da ba])|(refine wpList_store_row rfl 188 _ _ rfl U.heap.size (Dc (dtB d k)).toArray rfl (Da bb) 188 _ (Da bd) (by rw[D2];simp[Da ay k]) (by simp[Da ay k,Dg,Jl]) (KG _) ?_;rw[Da HV]));go_upto_region 9 with fail;refine wp_region_held_drew (S:=fun V=>V.cell? ⟨W.heap.size,2,none⟩=some (.int .i64 (fn:Nat))/\V.cell? ⟨Y.heap.size,0,none⟩=some (.int .i64 (P k:Nat))) (by kernel_rfl) ⟨v2,vp⟩ (fun aB=>?_);refine tk 0 ?_;try simp only[pE];refine tk 1 ?_;try simp only[pE];refine tk 2 ?_;try simp only[pE];refine tk 3 ?_;try simp only[pE];refine tk 4 ?_;try simp only[pE];refine tk 5 ?_;try simp only[pE];refine tk 6 ?_;try simp only[pE];refine tk 8 ?_;try simp only[pE];refine tk 9 ?_;try simp only[pE];refine rk 7 (fun K E=>?_);go_simp;go_at_call 244;refine(Da a6 _).mono ?_;rintro e w' ⟨rfl,aU⟩;rw[aU];clear aU;go_wp2_with fail;refine E.out _ _ ⟨v2,vp⟩ (fun bf=>?_);clear E K
   (try simp only[pE])
   refine rk 10 (fun K E=>?_);go_simp;go_at_call 243;refine(Da HP).mono ?_;rintro e G ⟨rfl,y1,y2,y3,H,J,I,C,aT,y4,y5,HN⟩;have a7:=Db aT;clear aT;go_wp2_with fail;refine E.out _ _ ⟨y1,y2⟩ (fun be=>?_);clear E K
   (try simp only[pE])
   refine wpAnyH_done (by kernel_rfl) ?_ _;clear aB bf be v2 vp HP HT HC c3 z0 z1;go_upto_region 10 with fail;refine wp_region_held_drew (S:=fun V=>True) (by kernel_rfl) trivial (fun aB=>?_);refine tk 0 ?_;try simp only[pE];refine tk 2 ?_;try simp only[pE];refine rk 1 (fun K E=>?_);go_simp;refine E.out _ _ trivial (fun bO=>?_);clear E K
   (try simp only[pE])
   refine rk 3 (fun K E=>?_);refine JM rfl _ _ 59 59 rfl _ _ rfl rfl (Da a7) ?_;refine E.out _ _ trivial (fun bP=>?_);clear E K
   (try simp only[pE])
   refine tk 4 ?_;try simp only[pE];refine rk 5 (fun K E=>?_);go_simp;refine E.out _ _ trivial (fun bQ=>?_);clear E K
   (try simp only[pE])
   refine wpAnyH_done (by kernel_rfl) ?_ _;go_wp2
   go_roundw
   case rel=>
    obtain⟨ac,h3⟩:=Da HN;exact⟨k+1,by omega,by go_num,ac,H,J,I,h3⟩
   case measure=>simp[intOf];omega
  ·obtain rfl:k=K:=by omega
   obtain⟨aM,r5,w1,aV,t5,t6,HF⟩:=Da a0 _ _ _ _ _ f;have bF:¬(w:Int)<(N:Int):=by have:=mt (Da az k hk).2 ao;omega
   have bc:=Db aV;have bT:N<=w:=by omega
   clear f HI aq aV aw;have qf:=r5.frozen 3;have t0:=(t5.cell 0).trans (show _=some (Value.string p) from rfl);have t1:=(t5.cell 1).trans (show _=some (Value.int .u8 2) from rfl);have t2:=(t5.cell 2).trans (show _=some (Value.int .i64 (fn:Nat)) from rfl);have t3:=(t5.cell 3).trans (show _=some (Value.slice n N m) from rfl);have z0:=t6.cell 0;have z1:=t6.cell 1;have z2:=t6.cell 2;have z3:=t6.cell 3;have y0:=t6.frozen 0;have y1:=t6.frozen 1;have y2:=t6.frozen 2;have y3:=t6.frozen 3;have hR:=Kl t6 (.string p) (.int .u8 2) (.int .i64 (fn:Nat)) (.slice n N m);have HR:=Db hR;have cd:¬W.heap.size+1=W.heap.size:=by omega
   clear hR t5 t6 r5;go_upto_region 12 with fail;rw[show wr.setCell ⟨W.heap.size,3,none⟩ (.slice n N m)=w1 from Da bc];go_wp2;have r0:=(Da HR).cell 0;have r1:=(Da HR).cell 1;have r2:=(Da HR).cell 2;have r3:=(Da HR).cell 3;exact bodyPost_ret (v := .tuple #[.agg #[.string p,.int .u8 2,.int .i64 (fn:Nat),.slice n N m],.bool true]) (by simp[results,Tryz.results246,go_sem,r0,r1,r2,r3]) rfl (Da HF)
theorem Zm8{W:World}{a:OA}{m c:Nat}{s:By}(h:Sl W 5 1 (.slice a m c) m (Dc s))(d:m=s.size):(convert 59 9 (.slice a m c)).run Tryz.prog W = .ok (.string s) W:=by
 rcases h.2 with⟨e,h0⟩|⟨g,aa,R,e,j,ac,ab,hl,k⟩
 ·simp only[Value.slice.injEq]at e;obtain⟨rfl,rfl,rfl⟩:=e;rw[Go.Lib.run_convert_nil_bytes W 59 9 5 0 Tryz.underlying59 Tryz.underlying5 Tryz.underlying9]
  congr 2
  apply ByteArray.ext;exact(Array.size_eq_zero_iff.1 d.symm).symm
 ·simp only[Value.slice.injEq]at e;obtain⟨rfl,-,rfl⟩:=e;subst d;refine Go.Lib.run_convert_whole W 59 5 9 Tryz.underlying59 Tryz.underlying5 Tryz.underlying9 g 0 s (fun i f=>?_) c;rw[Nat.zero_add,j.cell];have b:(R.take (s.size*1))[i]?=(Dc s)[i]? := by rw[k]
  rw[List.getElem?_take_of_lt (by omega)]at b;rw[b];unfold Dc;rw[List.getElem?_map,Array.getElem?_toList,Array.getElem?_eq_getElem f]
  rfl
theorem FdS.some{b:Nat}{s:By}{d:Value}{W:World}(h:FdS b s d W){n:World}{j e g k m:Nat}{q:RdQ}{f:Value}(i:RdS n j e g k m q f d W):b<W.heap.size/\b≠e/\¬Own f b/\¬Own d b:=by
 obtain⟨a,l,c,r,_⟩:=h;have:=i.ne r (by decide) (by decide) (by decide);exact⟨r.lt,this⟩
theorem RdS.number{r:World}{d l f m o:Nat}{q:RdQ}{p c:Value}{W:World}(h:RdS r d l f m o q p c W){a:Nat}(v:d<=a){s:By}(i:FdS a s c W)(hs:s.size<=1000000)(n:Nat)(w:n<=8):
  Calls Tryz.prog 240 #[.pointer (some ⟨a,0,none⟩),.int .i64 (n:Nat)] W fun e b=>e = .returned (.int .u64 (DL (BL (Di s n)):Nat))/\RdS r d l f m o q p c b/\FdS a (s.extract n s.size) c b/\Fr (fun k=>k=a) W b:=by
 obtain⟨_,t,u,g⟩:=i.some h;refine(i.number g (by omega) n w).mono ?_;rintro e b ⟨rfl,x,j⟩;exact⟨rfl,h.fr j (fun k e=>by subst e;exact⟨v,t,u,g⟩),x,j⟩
def Zmv(W w0:World)(n0 rb db tp tx fb:Nat)(q:RdQ)(va vt:Value)(s':By)(e:Ending)(w':World):Prop:=
 e = .returned (.tuple #[.agg #[.string ⟨#[]⟩,.int .u8 0,.int .i64 0,.slice none 0 0],.bool true])/\RdS w0 n0 rb db tp tx q va vt w'/\FdS fb s' vt w'/\Fr (fun k=>k=fb) W w'
theorem ZlW(W z:World)(g o p w x:Nat)(q:RdQ)(y i:Value)(h:RdS z g o p w x q y i W)(c:Nat)(O:g<=c)(s:By)(t:FdS c s i W)(G:s.size<=1000000)(C:DL (BL (Di s 1))=0)(U:By):
  Calls Tryz.prog 203 #[.pointer (some ⟨o,0,none⟩),.pointer (some ⟨c,0,none⟩),.string U] W (Zmv W z g o p w x c q y i (s.extract 1 s.size)):=by
 obtain⟨A,B,H,S,s1,m⟩:=De W [.string ⟨#[]⟩,.int .u8 0,.int .i64 0,.slice none 0 0] 141;obtain⟨P,F,f⟩:=h.lt;have ab:=(t.some h).1;have R:g<=W.heap.size:=Nat.le_trans h.sz h.bel.size;have K:Hid (Calls Tryz.prog 240 #[.pointer (some ⟨c,0,none⟩),.int .i64 1] A fun e X=>e = .returned (.int .u64 0)/\∃Y,X.alloc (.cells #[.string ⟨#[]⟩,.int .u8 0,.int .i64 0,.slice none 0 0] 141)=Y/\RowIs Y X.heap.size 141 [.string ⟨#[]⟩,.int .u8 0,.int .i64 0,.slice none 0 0]/\RowIs Y W.heap.size 141 [.string ⟨#[]⟩,.int .u8 0,.int .i64 0,.slice none 0 0]/\¬W.heap.size=X.heap.size/\
   Hid (Zmv W z g o p w x c q y i (s.extract 1 s.size) (.returned (.tuple #[.agg #[.string ⟨#[]⟩,.int .u8 0,.int .i64 0,.slice none 0 0],.bool true])) ((((Y.setCell ⟨W.heap.size,0,none⟩ (.string ⟨#[]⟩)).setCell ⟨W.heap.size,1,none⟩ (.int .u8 0)).setCell ⟨W.heap.size,2,none⟩ (.int .i64 0)).setCell ⟨W.heap.size,3,none⟩ (.slice none 0 0)))):=by
  refine((h.below m).number O (t.below m f) G 1 (by omega)).mono ?_;rintro e X ⟨rfl,V,Z,u⟩;obtain⟨Y,M,b,T,sY,n⟩:=De X [.string ⟨#[]⟩,.int .u8 0,.int .i64 0,.slice none 0 0] 141;have N:RowIs X W.heap.size 141 _:=H.fr u (fun e=>by omega);have aa:=u.size;have r:Fr (fun j=>j=W.heap.size) Y ((((Y.setCell ⟨W.heap.size,0,none⟩ (.string ⟨#[]⟩)).setCell ⟨W.heap.size,1,none⟩ (.int .u8 0)).setCell ⟨W.heap.size,2,none⟩ (.int .i64 0)).setCell ⟨W.heap.size,3,none⟩ (.slice none 0 0)):=((((Fr.refl (fun j=>j=W.heap.size) Y).set ⟨W.heap.size,0,none⟩ _ rfl).set ⟨W.heap.size,1,none⟩ _ rfl).set ⟨W.heap.size,2,none⟩ _ rfl).set ⟨W.heap.size,3,none⟩ _ rfl;have Q:∀k,Own i k->k<Y.heap.size:=fun k d=>by have:=f k d;have:=n.size;omega
  refine⟨by rw[C];rfl,Y,M,b,T _ _ _ N,by omega,rfl,(V.below n).fr r (fun k e=>by subst e;exact⟨R,by omega,fun e=>by have:=F _ e;omega,fun e=>by have:=f _ e;omega⟩),(Z.below n (fun k d=>by have:=f k d;omega)).fr r (fun e=>by omega) (fun k d e=>by have:=f k d;omega) Q,?_⟩;exact((Fr.of_below m).then u (fun _ _ e=>e)).then ((Fr.of_below (X:=fun j=>j=W.heap.size) n).then r (fun _ _ e=>e)) (fun k d e=>by omega)
 have I:=Db B;clear B H S s1 m h t G C P F f;go_enter Tryz.func203,Tryz.ntmps203;go_upto_region 1 with fail;rw[show W.alloc (.cells #[.string ⟨#[]⟩,.int .u8 0,.int .i64 0,.slice none 0 0] 141)=A from Da I];go_upto_region 2 with(go_at_call 240;refine(Da K).mono ?_;rintro e X ⟨rfl,Y,E,b,a,ac,J⟩;have L:=Db E;clear E);rw[show X.alloc (.cells #[.string ⟨#[]⟩,.int .u8 0,.int .i64 0,.slice none 0 0] 141)=Y from Da L];have z0:=a.cell 0;have z1:=a.cell 1;have z2:=a.cell 2;have z3:=a.cell 3;have y0:=a.frozen 0;have y1:=a.frozen 1;have y2:=a.frozen 2;have y3:=a.frozen 3;have t0:=b.cell 0;have t1:=b.cell 1;have t2:=b.cell 2;have t3:=b.cell 3;have D:=Kl a (.string ⟨#[]⟩) (.int .u8 0) (.int .i64 0) (.slice none 0 0);have l:=Db D;clear D a b;go_wp2;have r0:=(Da l).cell 0;have r1:=(Da l).cell 1;have r2:=(Da l).cell 2;have r3:=(Da l).cell 3;exact bodyPost_ret (v := .tuple #[.agg #[.string ⟨#[]⟩,.int .u8 0,.int .i64 0,.slice none 0 0],.bool true]) (by simp[results,Tryz.results203,go_sem,r0,r1,r2,r3]) rfl (Da J)
end Go.Proofs.YtaieidcohdhgpaaGreatDoor
