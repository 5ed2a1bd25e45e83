/- Dumps. -/
import Derived.Test.YtaieidcohdhgpaaGreatDoorZAF
namespace Go.Proofs.YtaieidcohdhgpaaGreatDoor
set_option maxHeartbeats 40000000
set_option maxRecDepth 100000
open Go.RowKit
theorem tv(i:Nat){P:Program}{e:Region.Mode}{b:Array Oper}{Q:Exit->Act->World->Prop}{S:World->Prop}{f:Oper}(v:Value){g:Nat}{d:Array Bool}{a:Act}{w:World}(n:b[i]?=some f)(q:YieldsIf P b S f v a)
 (h:wpAnyH P e b Q S g (d.setIfInBounds i true) (a.put f.dst v) w)
 (p:Region.noSelect b=true:=by kernel_rfl) (m:Region.free e b d i=true:=by kernel_rfl) (o:(Region.ready e b d).contains i=true:=by kernel_rfl)
 (j:∀c a w,Q (.panic c) (a.put f.dst v) w->Q (.panic c) a w:=by exact fun _ _ _ h=>h) (k:S w:=by assumption):wpAnyH P e b Q S (g+1) d a w:=
 Bc n p m o j q k h
theorem tk(i:Nat){P:Program}{e:Region.Mode}{b:Array Oper}{Q:Exit->Act->World->Prop}{S:World->Prop}{f:Oper}{v:Value}{g:Nat}{d:Array Bool}{a:Act}{w:World}
 (h:wpAnyH P e b Q S g (d.setIfInBounds i true) (a.put f.dst v) w) (n:b[i]?=some f:=by rfl)
 (p:Region.noSelect b=true:=by kernel_rfl) (m:Region.free e b d i=true:=by kernel_rfl) (o:(Region.ready e b d).contains i=true:=by kernel_rfl)
 (j:∀c a w,Q (.panic c) (a.put f.dst v) w->Q (.panic c) a w:=by exact fun _ _ _ h=>h) (q:YieldsIf P b S f v a:=by refine Or.inl ⟨by rfl,?_⟩;intro w l;(try dsimp only at l);go_simp<;>with_reducible rfl) (k:S w:=by assumption):wpAnyH P e b Q S (g+1) d a w:=
 Bc n p m o j q k h
theorem tu(i:Nat){P:Program}{e:Region.Mode}{b:Array Oper}{Q:Exit->Act->World->Prop}{S:World->Prop}{f:Oper}{g:Nat}{d:Array Bool}{a:Act}{w:World}
 (h:wpAnyH P e b Q S g (d.setIfInBounds i true) (a.put f.dst undef) w) (m:b[i]?=some f:=by rfl)
 (o:Region.noSelect b=true:=by kernel_rfl) (l:Region.free e b d i=true:=by kernel_rfl) (n:(Region.ready e b d).contains i=true:=by kernel_rfl)
 (j:∀c a w,Q (.panic c) (a.put f.dst undef) w->Q (.panic c) a w:=by exact fun _ _ _ h=>h) (p:YieldsIf P b S f undef a:=by exact Or.inr ⟨by rfl,rfl⟩) (k:S w:=by assumption):wpAnyH P e b Q S (g+1) d a w:=
 Bc m o l n j p k h
theorem rk(i:Nat){P:Program}{d:Region.Mode}{b:Array Oper}{Q:Exit->Act->World->Prop}{S:World->Prop}{o:Oper}{e:Nat}{c:Array Bool}{a:Act}{w:World}
 (h:∀K':Act->World->Prop,Shut (∀a w,S w->(S w->wpAnyH P d b Q S e (c.setIfInBounds i true) a w)->K' a w)->if Region.wanted o (yielded b a.tmps)=true then Oper.wp P o a w K' Q else K' (a.put o.dst undef) w)
 (f:Region.ready d b c=[i]:=by kernel_rfl) (ho:b[i]?=some o:=by rfl):wpAnyH P d b Q S (e+1) c a w:=
 A6 f (by simp) (AE ho h AX)
def Ix(s:By)(i:Nat)(d:By):By:=Dt s i++d++(if i+d.size<s.size then s.extract (i+d.size) s.size else ⟨#[]⟩)
def Jh(F:LY)(f i:Nat)(d:By):LY:=if 0<d.size then F.set f (Ix (F[f]?.getD ⟨#[]⟩) i d) else F
def Kh(L:List (By×Int))(F:LY)(L':List (By×Int))(F':LY):Int×List (By×Int)×LY:=
 if 160<Kn L' F' then (9,L,F) else (0,L',F')
def Dy(L:List (By×Int))(F:LY)(p:By)(i:Int)(d:By):Int×List (By×Int)×LY:=
 if Df p=false then (1,L,F) else
 if i<0\/1280<i\/1280<i+d.size then (2,L,F) else
 if DD L p≠0 then (DD L p,L,F) else
 if (p.toList==[47])=true then (5,L,F) else
 match FT L p with
 | none=>if JJ L F p 1=false then (8,L,F) else Kh L F (L++[(p,(F.length:Int))]) (Jh (F++[⟨#[]⟩]) F.length i.toNat d)
 | some f=>if f<0 then (5,L,F) else Kh L F L (Jh F f.toNat i.toNat d)
theorem NR(w W:World)(a:Nat)(r n:Value)(L:List (By×Int))(F:LY)(h:FN w a r n L F)(c:Bw w W)(D:F.length+1<=2000000)(s:By)(M:s.size<=2000000)
  (y:Nat) (I:FH W y 9 [.string s]):
  ∃f l i b,(Builtin.append_ #[84,84] 84 #[n,.slice (some ⟨y,0,none⟩) 1 1]).run Tryz.prog W = .ok (.slice f l i) b/\b.cell? ⟨a,1,none⟩=some n/\b.frozen? ⟨a,1,none⟩=false/\
   Hid (FK w a r n (b.setCell ⟨a,1,none⟩ (.slice f l i)) L (F++[s])):=by
 obtain⟨S,G,N,O,Q⟩:=Bn Q7;have q:FN W a r n L F:=h.fr (X:=fun _=>False) (Fr.of_below c) (fun _ _=>id);obtain⟨v',b,T,z,m,B⟩:=JZ (P:=Tryz.prog) W 84 84 9 S _ 1 16 Tryz.underlying84 G N O Q rfl (by decide) n F.length (F.map .string) q.sf ⟨y,0,none⟩ 1 1 [.string s] rfl
  (fun j u v=>by rw[AF,Au,I.cell];exact v) (by intro u v;simp at v;subst v;rfl) (by unfold maxLen;omega) (by omega)
 obtain⟨f,l,i,rfl⟩:=z.shape;have K:b.heap[a]?=W.heap[a]? := m.block a q.hd.lt (fun e=>h.nef e.symm);have t:FH b a 89 [r,n]:=by unfold FH;rw[K];exact q.hd
 refine⟨f,l,i,b,T,(t.cell 1).trans rfl,t.frozen 1,r,.slice f l i,⟨?_,?_,?_,h.nl,?_,h.ok,?_,?_⟩,?_,?_⟩
 ·exact t.set 1 _
 ·refine(q.sl.kept (w':=b) (fun k d e=>m.block k d (fun C=>?_))).setCell ⟨a,1,none⟩ _ (fun e=>h.nel e);exact h.sep k e C.symm
 ·have J:(Value.slice f l i).ownBlock≠some a:=fun e=>by
   obtain⟨R,E⟩:=z.type e;exact absurd (E.type t) (by decide)
  have:=z.setCell ⟨a,1,none⟩ (.slice f l i) J;rw[Ab,Bo];exact this
 ·simpa using D
 ·intro x p;rcases As.1 p with p|p
  ·exact h.okf x p
  ·simp at p;subst p;exact M
 ·intro g A e;rcases B g e with o|o
  ·exact h.sep g A o
  ·have:=q.sl.lt A;omega
 ·refine Fr.set ⟨m.os.trans c.os,m.tape.trans c.tape,m.output.trans c.output,Ae c.size m.size,fun k d H=>?_⟩ _ _ (.inl rfl);rw[m.block k (Ao d c.size) (fun e=>H (.inr (.inr e.symm))),c.block k d]
 ·rintro k (rfl|d|d)
  ·exact .inl (.inl rfl)
  ·exact .inl (.inr (.inl d))
  ·rcases B k d with o|o
   ·exact .inl (.inr (.inr o))
   ·exact .inr (Ae c.size o)
def NW(w2 w5:World)(L:List (By×Int))(F:LY)(m:Nat)(d:By)(R:Int×List (By×Int)×LY)(t:Value):Prop:=
 ∃(k f:Nat) (x:By×Int) (vl' vf':Value) (L':List (By×Int)) (F':LY),t = .int .i64 k/\L'[k]?=some x/\x.2=f/\f<F'.length/\FN w5 w2.heap.size vl' vf' L' F'/\Bw w2 w5/\(∀j,Jb w2.heap.size vl' vf' j->w2.heap.size<=j)/\R=Kh L F L' (Jh F' f m d)
def Oa(w2 w6:World)(L':List (By×Int))(F':LY):Prop:=∃vl' vf',FN w6 w2.heap.size vl' vf' L' F'/\Bw w2 w6/\(∀j,Jb w2.heap.size vl' vf' j->w2.heap.size<=j)
theorem OW(s:By)(m:Nat)(d:By):(Ix s m d).size=max (m+d.size) s.size:=by
 unfold Ix;rw[Ai,Ai,J6]
 split
 ·rw[Am];omega
 ·have:(ByteArray.mk #[]).size=0:=rfl;omega
theorem SK{X:Nat->Prop}{w d f:World}(a:Bw w d)(b:Fr X d f)(g:∀k,X k->w.heap.size<=k):Bw w f:=
 ⟨b.os.trans a.os,b.tape.trans a.tape,b.output.trans a.output,Ae a.size b.size,fun k c=>(b.block k (Ao c a.size) (fun e=>absurd (g k e) (by omega))).trans (a.block k c)⟩
theorem Xt(wc f:World)(a:Nat)(o u:Value)(L:List (By×Int))(F:LY)(M:FN f a o u L F)(w:Bw wc f)(x:∀j,Jb a o u j->wc.heap.size<=j)(I:L.length+1<=2000000)(H:F.length+1<=2000000)(p:By)(J:p.size<=2000000)(K:KL p):
  ∃g n1 i b,(Builtin.append_ #[87,87] 87 #[o,.slice (some ⟨f.heap.size,0,none⟩) 1 1]).run Tryz.prog (f.alloc (.cells #[.string p,.int .i64 F.length] 103)).drew = .ok (.slice g n1 i) b/\b.cell? ⟨a,0,none⟩=some o/\b.frozen? ⟨a,0,none⟩=false/\a<b.heap.size/\
   ∃c e d,b.cell? ⟨a,1,none⟩=some (.slice c e d)/\
   ∃l n m k,(Builtin.append_ #[84,84] 84 #[.slice c e d,.slice (some ⟨b.heap.size,0,none⟩) 1 1]).run Tryz.prog ((b.setCell ⟨a,0,none⟩ (.slice g n1 i)).alloc (.cells #[.string ⟨#[]⟩] 9)) = .ok (.slice l n m) k/\k.cell? ⟨a,1,none⟩=some (.slice c e d)/\k.frozen? ⟨a,1,none⟩=false/\
    Hid (∃s r,FN (k.setCell ⟨a,1,none⟩ (.slice l n m)) a s r (L++[(p,(F.length:Int))]) (F++[⟨#[]⟩])/\Bw wc (k.setCell ⟨a,1,none⟩ (.slice l n m))/\(∀j,Jb a s r j->wc.heap.size<=j)):=by
 obtain⟨g,n1,i,b,Q,R,S,T⟩:=LC f (f.alloc (.cells #[.string p,.int .i64 F.length] 103)).drew a o u L F M (((Ag _ _).alloc (Aa _) _).drew) I p F.length J K f.heap.size (Bs f _);obtain⟨B,aa,q,D,O⟩:=Da T;obtain⟨c,e,d,rfl⟩:=q.sf.shape;have C:b.cell? ⟨a,1,none⟩=some (.slice c e d):=(Cm _ _ _ _ (by simp)).symm.trans q.c.c1;have y:(b.setCell ⟨a,0,none⟩ (.slice g n1 i)).heap.size=b.heap.size:=by simp[World.setCell]
 have N:a<b.heap.size:=by rw[<-y];exact q.hd.lt
 have z:∀j,Jb a B (.slice c e d) j->wc.heap.size<=j:=fun j t=>(O j t).elim (x j) (fun h=>Ae w.size h)
 have v:=SK w D x;obtain⟨l,n,m,k,A,U,V,W⟩:=NR (b.setCell ⟨a,0,none⟩ (.slice g n1 i)) ((b.setCell ⟨a,0,none⟩ (.slice g n1 i)).alloc (.cells #[.string ⟨#[]⟩] 9)) a B (.slice c e d) _ F q ((Ag _ _).alloc (Aa _) _) H ⟨#[]⟩ (by decide) _ (Bs _ _);rw[y]at A;obtain⟨s,r,G,E,P⟩:=Da W;exact⟨g,n1,i,b,Q,R,S,N,c,e,d,C,l,n,m,k,A,U,V,s,r,G,SK v E z,fun j t=>(P j t).elim (z j) (fun h=>Ae v.size h)⟩
theorem Zk1(w:World)(E:Nat)(vl vf:Value)(L:List (By×Int))(F:LY)(h:FN w E vl vf L F)(aJ:∀x∈L,x.2<F.length)(hL:L.length+1<=2000000)(hF:F.length+1<=2000000)(p:By)(hp:p.size<=2000000)(i:Int)(d:By)(hd:d.size<=2000000):
  Cl 47 #[.pointer (some ⟨E,0,none⟩),.string p,.int .i64 i,.string d] w fun e w'=>e = .returned (.int .i64 (Dy L F p i d).1)/\FK w E vl vf w' (Dy L F p i d).2.1 (Dy L F p i d).2.2:=by
 obtain⟨R,c⟩:=ex (Dy L F p i d);rw[<-c];unfold Dy at c;have B:=Db h;have aW:=Db aJ;obtain⟨av,cv,rfl,aP⟩:=h.sl.rdL;have aE:=Db aP;have H:Hid (∀e0 w',R=(e0,L,F)->Bw w w'->R.1=e0/\FK w E (.slice av L.length cv) vf w' R.2.1 R.2.2):=fun e0 w' e n=>by
  rw[e];exact⟨rfl,FK.same h n⟩
 clear h aP aJ;go_enter Tryz.func47,Tryz.ntmps47;go_wp2_with fail;refine(Uy p _ hp).mono ?_;rintro e l ⟨a2,n2,c2,rfl,_,n⟩
 cases hob:Df p with
 | false=>
  have o:R=(1,L,F):=by rw[c,hob];rfl
  have q:=Db o;clear c o;go_wp2;go_ret;exact(Da H _ _ (Da q) n).elim fun a b=>⟨by rw[a]<;>rfl,b⟩
 | true=>
 rw[hob,if_neg (by simp)]at c;by_cases bc:i<0
 ·have o:R=(2,L,F):=by rw[c,if_pos (.inl bc)]
  have q:=Db o;clear c o;go_wp2;go_ret;exact(Da H _ _ (Da q) n).elim fun a b=>⟨by rw[a]<;>rfl,b⟩
 by_cases bd:1280<i
 ·have o:R=(2,L,F):=by rw[c,if_pos (.inr (.inl bd))]
  have q:=Db o;clear c o;go_wp2;go_ret;exact(Da H _ _ (Da q) n).elim fun a b=>⟨by rw[a]<;>rfl,b⟩
 obtain⟨m,rfl⟩:∃m:Nat,i=m:=⟨i.toNat,by omega⟩;by_cases be:(1280:Int)<m+d.size
 ·have o:R=(2,L,F):=by rw[c,if_pos (.inr (.inr be))]
  have q:=Db o;clear c o;go_wp2;go_ret;exact(Da H _ _ (Da q) n).elim fun a b=>⟨by rw[a]<;>rfl,b⟩
 rw[if_neg (by omega),BB]at c;obtain⟨T,ax⟩:=ex (DD L p);have ag:Cl 104 #[.pointer (some ⟨E,0,none⟩),.string p] l fun e bm=>e = .returned (.int .i64 (DD L p))/\bm=l:=((Da B).at n).ahead p hp
 rw[<-ax]at c ag;by_cases Z:T≠0
 ·have bp:(T != 0)=true:=by rw[Eu];exact Z
  rw[if_pos Z]at c;clear Z ax;have q:=Db c;clear c;go_wp2_with (go_at_call 104;refine ag.mono ?_;rintro e w' ⟨rfl,y⟩;rw[y];clear y);go_ret;exact(Da H _ _ (Da q) n).elim fun a b=>⟨by rw[a]<;>rfl,b⟩
 rw[if_neg Z]at c;obtain rfl:T=0:=by omega
 clear Z ax;go_wp2_with (go_at_call 104;refine ag.mono ?_;rintro e w' ⟨rfl,y⟩;rw[y];clear y);have aI:=((Da B).at n).find p;refine aI.mono ?_;rintro e w' ⟨r,⟨rfl,ay⟩,y⟩;rw[y];clear y aI;have a7:=((Da B).at n).c.c0;have a8:=((Da B).at n).c.c1;clear ag
 cases h1:(p.toList==[47]) with
 | true=>
  have aY:(p.toList != [47])=false:=by simp only[bne,h1];rfl
  rw[if_pos h1]at c;clear ay;have q:=Db c;clear c;go_wp2;go_ret;exact(Da H _ _ (Da q) n).elim fun a b=>⟨by rw[a]<;>rfl,b⟩
 | false=>
 rw[if_neg (by rw[h1];simp)]at c;have aY:(p.toList != [47])=true:=by simp only[bne,h1];rfl
 have aa:(∃k x,r=((k:Nat):Int)/\L[k]?=some x/\x.2<0/\R=(5,L,F))\/((r = -1/\R=if JJ L F p 1=false then (8,L,F) else Kh L F (L++[(p,(F.length:Int))]) (Jh (F++[⟨#[]⟩]) F.length m d))\/(∃(k:Nat) (x:By×Int) (f:Nat),r=k/\L[k]?=some x/\x.2=f/\f<F.length/\R=Kh L F L (Jh F f m d))):=by
  rcases ay with⟨rfl,bf⟩|⟨k,x,rfl,z,hx,a9⟩
  ·have hl:FT L p=none:=(K5 (.inl ⟨rfl,bf⟩)).elim (fun h=>h.2) (fun ⟨_,_,h,_⟩=>by omega);rw[hl]at c;exact .inr (.inl ⟨rfl,c⟩)
  ·rw[F7.look z hx a9]at c;by_cases ak:x.2<0
   ·exact .inl ⟨k,x,rfl,z,ak,by rw[c];simp[ak]⟩
   ·have V:=Da aW x (An z);refine .inr (.inr ⟨k,x,x.2.toNat,rfl,z,by omega,by omega,?_⟩);rw[c];simp[ak]
 clear ay c;rcases aa with⟨k,x,rfl,z,ak,c⟩|aa
 ·obtain⟨g,rfl,q0,N⟩:=(Da aE) k x z;have hg:g<w.heap.size:=(Da B).sl.lt rfl;have aT:=(n.cell (p:=⟨g,k*2+1,none⟩) hg).trans N;have aK:=(Ad.1 z).1;clear z q0 N;have q:=Db c;clear c;go_wp2;go_ret;exact(Da H _ _ (Da q) n).elim fun a b=>⟨by rw[a]<;>rfl,b⟩
 go_upto_region 10 with fail
 go_cut [64] (fun t wc=>t = .bool false/\wc=l)
 case first=>
  rcases aa with⟨rfl,c⟩|⟨k,x,f,rfl,z,Q,V,c⟩
  ·clear c;go_wp2
   go_meet
   exact⟨rfl,rfl⟩
  ·clear c;obtain⟨g,rfl,q0,N⟩:=(Da aE) k x z;have hg:g<w.heap.size:=(Da B).sl.lt rfl;have aT:=(n.cell (p:=⟨g,k*2+1,none⟩) hg).trans N;have aK:=(Ad.1 z).1;rw[Q]at aT;clear z q0 N;go_wp2
   go_meet
   exact⟨rfl,rfl⟩
 case rest=>
 obtain⟨rfl,bk⟩:=hcut;obtain rfl:=bk.symm;have ac:=Db aa;clear aa a7 a8;have aG:Hid (Cl 106 #[.pointer (some ⟨E,0,none⟩)] l fun e w'=>e = .returned (.pointer (some ⟨l.heap.size,0,none⟩))/\∃aC aB,FN w' l.heap.size aC aB L F/\Bw l w'/\∀k,Jb l.heap.size aC aB k->l.heap.size<=k):=XM l E _ vf L F ((Da B).at n);have bt:m+d.size<=1280:=by omega
 go_wp2_with fail;refine(Da aG).mono ?_;rintro e w3 ⟨rfl,aC,aB,M,ah,aM⟩;clear aG;have ae:=Db M;have am:=Db aM;obtain⟨al,cl,rfl,bh⟩:=M.sl.rdL;obtain⟨af,cf,rfl,bi⟩:=M.sf.rdF;have v0:=M.c.c0;have v1:=M.c.c1;have bu:=M.nf;have bx:=M.nl;clear M aM bh bi;go_upto_if 68 with fail
 go_cut [12,14] (fun t _ w5=>NW l w5 L F m d R t)
 case first=>
  rcases Da ac with⟨rfl,c⟩|⟨k,x,f,rfl,z,Q,V,c⟩
  ·have aj:=Pa w3 E _ vf L F ((Da B).at (n.trans (ah.mono n.size))).c p hp (UF p hob) 1 (by omega)
   cases hroom:JJ L F p 1 with
   | false=>
    rw[if_pos hroom]at c;rw[hroom]at aj;have q:=Db c;clear c ac;go_wp2_with (go_at_call 102;refine aj.mono ?_;rintro e w' ⟨rfl,y⟩;rw[y];clear y);go_ret;exact(Da H _ _ (Da q) (n.trans (ah.mono n.size))).elim fun a b=>⟨by rw[a]<;>rfl,b⟩
   | true=>
    rw[if_neg (by rw[hroom];simp)]at c;rw[hroom]at aj;obtain⟨a1,n1,c1,C,r1,r2,r3,bD,bn,bF,bo,T,a3,n3,c3,w5,s1,s2,s3,s4⟩:=Xt l w3 _ _ _ L F (Da ae) ah (Da am) hL hF p hp (UF p hob);have X:Hid (NW l (w5.setCell ⟨l.heap.size,1,none⟩ (.slice a3 n3 c3)) L F m d R (.int .i64 (L.length:Nat))):=by
     obtain⟨aV,aU,h2,b2,o2⟩:=Da s4;exact⟨L.length,F.length,(p,(F.length:Int)),aV,aU,_,_,rfl,by simp,rfl,by simp,h2,b2,o2,c⟩
    have bE:l.heap.size<w3.heap.size:=(Da ae).hd.lt;clear c ac s4;go_wp2_with (go_at_call 102;refine aj.mono ?_;rintro e w' ⟨rfl,y⟩;rw[y];clear y)
    go_region_law (refine JD rfl _ _ 87 87 rfl _ _ (by simp[Act.eval]) (by simp[Act.eval]) r1 ?_)
    all_goals
     go_wp2_with (at_builtin;refine Aj _ rfl _ _ 84 84 rfl _ _ rfl rfl _ _ s1 ?_;clear s1)
     go_meet
     exact Da X
  ·have X:Hid (NW l w3 L F m d R (.int .i64 k)):=⟨k,f,x,_,_,L,F,rfl,z,Q,V,Da ae,ah,Da am,c⟩;clear c z Q;go_wp2
   go_meet
   exact Da X
 case rest=>
 obtain⟨k,f,x,aV,aU,P,A,rfl,z,Q,V,J,ai,aN,c⟩:=hcut;clear ac v0 v1 ae am;obtain⟨a5,c5,rfl,aQ⟩:=J.sl.rdL;obtain⟨b5,d5,rfl,aR⟩:=J.sf.rdF;obtain⟨g',rfl,bl,N⟩:=aQ k x z;rw[Q]at N;have ap:A[f]?=some A[f]:=Ac V;obtain⟨gf,rfl,s0⟩:=aR f _ ap;have aK:=(Ad.1 z).1;have v0:=J.c.c0;have v1:=J.c.c1;have bv:=J.nf;have bz:=J.nl;have az:A[f].size<=2000000:=J.okf _ (Cq _);obtain⟨s,hs⟩:=ex (A[f]);rw[<-hs]at s0 az;have Y:=Db J;have ad:=Db aN;have an:Hid (Jh A f m d=if 0<d.size then A.set f (Ix s m d) else A):=by unfold Hid Jh;rw[ap,hs];rfl
 have HR:=Db c;clear bl aQ aR z Q ap hs c J aN;go_upto_if 121 with fail
 go_cut [17,18] (fun _ _ w6=>Oa l w6 P (Jh A f m d))
 case first=>
  by_cases aH:0<d.size
  ·have bq:(0:Int)<(d.size:Int):=by omega
   have aS:=OW s m d;have bb:gf≠l.heap.size:=fun e=>(Da Y).nef (by rw[e];rfl)
   have bs:l.heap.size≠gf:=fun e=>bb e.symm
   have aD:Hid (∀W,Cl 107 #[.string s,.int .i64 m] W fun e w'=>e = .returned (.string (Dt s m))/\Bw W w'):=fun W=>YZ s m W az (by omega)
   have HC:Hid (∀C,Below wc.drew.heap.size wc.drew C->C.cell? ⟨gf,f,none⟩=some (.string s)/\C.frozen? ⟨gf,f,none⟩=false/\C.cell? ⟨l.heap.size,1,none⟩=some (.slice (some ⟨gf,0,none⟩) A.length d5)/\Hid (Oa l (C.setCell ⟨gf,f,none⟩ (.string (Ix s m d))) P (Jh A f m d))):=fun C I=>by
    have aw:Bw wc C:=⟨I.os,I.tape,I.output,I.size,I.block⟩;have h4:=(Da Y).at aw;obtain⟨Rr,aZ⟩:=h4.sf.type (g:=gf) rfl;refine⟨(aw.cell (p:=⟨gf,f,none⟩) ((Da Y).sf.lt rfl)).trans s0,aZ.frozen f,h4.c.c1,_,_,?_,?_,Da ad⟩
    ·rw[Da an,if_pos aH];exact h4.setF f V _ (by omega)
    ·exact(ai.trans (aw.mono ai.size)).setCell (p:=⟨gf,f,none⟩) (Da ad gf (.inr (.inr rfl))) _
   have br:=J6 s m;by_cases aL:m+d.size<s.size
   ·have ab:Ix s m d=Dt s m++d++s.extract (m+d.size) s.size:=by unfold Ix;rw[if_pos aL]
    have ao:=Db ab;clear ab aS;go_wp2_with fail;refine AN (S:=fun W=>W.cell? ⟨l.heap.size,1,none⟩=some (.slice (some ⟨gf,0,none⟩) A.length d5)) (by kernel_rfl) (by go_keep) (fun aq=>?_);refine tk 0 ?_;try simp only[pE];refine tv 1 (?_) rfl (Or.inl ⟨by rfl,?_⟩) ?_
    rotate_left
    ·intro w j;(try dsimp only at j);go_simp<;>with_reducible rfl
    (try simp only[Act.put])
    refine tv 2 (?_) rfl (Or.inl ⟨by rfl,?_⟩) ?_
    rotate_left
    ·intro w j;(try dsimp only at j);go_simp<;>with_reducible rfl
    (try simp only[Act.put])
    refine tv 3 (?_) rfl (Or.inl ⟨by rfl,?_⟩) ?_
    rotate_left
    ·intro w j;(try dsimp only at j);go_simp<;>with_reducible rfl
    (try simp only[Act.put])
    refine tv 4 (?_) rfl (Or.inl ⟨by rfl,?_⟩) ?_
    rotate_left
    ·intro w j;(try dsimp only at j);go_simp<;>with_reducible rfl
    (try simp only[Act.put])
    refine tv 5 (?_) rfl (Or.inl ⟨by rfl,?_⟩) ?_
    rotate_left
    ·intro w j;(try dsimp only at j);go_simp<;>with_reducible rfl
    (try simp only[Act.put])
    refine tv 6 (?_) rfl (Or.inl ⟨by rfl,?_⟩) ?_
    rotate_left
    ·intro w j;(try dsimp only at j);go_simp<;>with_reducible rfl
    (try simp only[Act.put])
    refine tv 8 (?_) rfl (Or.inl ⟨by rfl,?_⟩) ?_
    rotate_left
    ·intro w j;(try dsimp only at j);go_simp<;>with_reducible rfl
    (try simp only[Act.put])
    refine tv 10 (?_) rfl (Or.inl ⟨by rfl,?_⟩) ?_
    rotate_left
    ·intro w j;(try dsimp only at j);go_simp<;>with_reducible rfl
    (try simp only[Act.put])
    refine A6 (rs:=[7]) (by kernel_rfl) (by simp) ?_;refine AE rfl (fun K D=>?_) AX;go_simp;go_at_call 107;refine(Da aD _).mono ?_;rintro e C ⟨rfl,I⟩;obtain⟨z1,z2,z3,z4⟩:=Da HC C I;go_wp2_with fail;refine D.out _ _ (by go_keep) (fun ar=>?_);clear D K aq
    (try simp only[pE])
    refine tv 9 (?_) rfl (Or.inl ⟨by rfl,?_⟩) ?_
    rotate_left
    ·intro w j;(try dsimp only at j);go_simp;rw[if_neg (by first|omega|(simp only[Ai,Am];omega))]
    (try simp only[pE])
    refine tv 11 (?_) rfl (Or.inl ⟨by rfl,?_⟩) ?_
    rotate_left
    ·intro w j;(try dsimp only at j);go_simp;rw[if_neg (by first|omega|(simp only[Ai,Am];omega))]
    (try simp only[Act.put])
    refine tv 12 (?_) rfl (Or.inl ⟨by rfl,?_⟩) ?_
    rotate_left
    ·intro w j;(try dsimp only at j);go_simp<;>with_reducible rfl
    (try simp only[Act.put])
    refine A6 (rs:=[13]) (by kernel_rfl) (by simp) ?_;refine AE rfl (fun K D=>?_) AX;go_simp;refine D.out _ _ (by go_keep) (fun au=>?_);clear D K ar
    (try simp only[pE])
    refine AS (by kernel_rfl) ?_ _;clear au;go_wp2
    go_meet
    rw[<-Da ao];exact Da z4
   ·have ab:Ix s m d=Dt s m++d++⟨#[]⟩:=by unfold Ix;rw[if_neg aL]
    have ao:=Db ab;clear ab aS;go_wp2_with fail;refine AN (S:=fun W=>W.cell? ⟨l.heap.size,1,none⟩=some (.slice (some ⟨gf,0,none⟩) A.length d5)) (by kernel_rfl) (by go_keep) (fun aq=>?_);refine tk 0 ?_;try simp only[pE];refine tv 1 (?_) rfl (Or.inl ⟨by rfl,?_⟩) ?_
    rotate_left
    ·intro w j;(try dsimp only at j);go_simp<;>with_reducible rfl
    (try simp only[Act.put])
    refine tv 2 (?_) rfl (Or.inl ⟨by rfl,?_⟩) ?_
    rotate_left
    ·intro w j;(try dsimp only at j);go_simp<;>with_reducible rfl
    (try simp only[Act.put])
    refine tv 3 (?_) rfl (Or.inl ⟨by rfl,?_⟩) ?_
    rotate_left
    ·intro w j;(try dsimp only at j);go_simp<;>with_reducible rfl
    (try simp only[Act.put])
    refine tv 4 (?_) rfl (Or.inl ⟨by rfl,?_⟩) ?_
    rotate_left
    ·intro w j;(try dsimp only at j);go_simp<;>with_reducible rfl
    (try simp only[Act.put])
    refine tv 5 (?_) rfl (Or.inl ⟨by rfl,?_⟩) ?_
    rotate_left
    ·intro w j;(try dsimp only at j);go_simp<;>with_reducible rfl
    (try simp only[Act.put])
    refine tv 6 (?_) rfl (Or.inl ⟨by rfl,?_⟩) ?_
    rotate_left
    ·intro w j;(try dsimp only at j);go_simp<;>with_reducible rfl
    (try simp only[Act.put])
    refine tv 8 (?_) rfl (Or.inl ⟨by rfl,?_⟩) ?_
    rotate_left
    ·intro w j;(try dsimp only at j);go_simp<;>with_reducible rfl
    (try simp only[Act.put])
    refine tv 10 (?_) rfl (Or.inl ⟨by rfl,?_⟩) ?_
    rotate_left
    ·intro w j;(try dsimp only at j);go_simp<;>with_reducible rfl
    (try simp only[Act.put])
    refine A6 (rs:=[7]) (by kernel_rfl) (by simp) ?_;refine AE rfl (fun K D=>?_) AX;go_simp;go_at_call 107;refine(Da aD _).mono ?_;rintro e C ⟨rfl,I⟩;obtain⟨z1,z2,z3,z4⟩:=Da HC C I;go_wp2_with fail;refine D.out _ _ (by go_keep) (fun ar=>?_);clear D K aq
    (try simp only[pE])
    refine tv 9 (?_) rfl (Or.inl ⟨by rfl,?_⟩) ?_
    rotate_left
    ·intro w j;(try dsimp only at j);go_simp;rw[if_neg (by first|omega|(simp only[Ai,Am];omega))]
    (try simp only[pE])
    refine tv 11 (?_) rfl (Or.inl ⟨by rfl,?_⟩) ?_
    rotate_left
    ·intro w j;(try dsimp only at j);go_simp;rw[if_neg (by first|omega|(simp only[Ai,Am];omega))]
    (try simp only[Act.put])
    refine tv 12 (?_) rfl (Or.inl ⟨by rfl,?_⟩) ?_
    rotate_left
    ·intro w j;(try dsimp only at j);go_simp<;>with_reducible rfl
    (try simp only[Act.put])
    refine A6 (rs:=[13]) (by kernel_rfl) (by simp) ?_;refine AE rfl (fun K D=>?_) AX;go_simp;refine D.out _ _ (by go_keep) (fun au=>?_);clear D K ar
    (try simp only[pE])
    refine AS (by kernel_rfl) ?_ _;clear au;go_wp2
    go_meet
    rw[<-Da ao];exact Da z4
  ·have X:Hid (Oa l wc P (Jh A f m d)):=by
    refine⟨_,_,?_,ai,Da ad⟩;rw[Da an,if_neg aH];exact Da Y
   go_wp2
   go_meet
   exact Da X
 case rest=>
 obtain⟨bH,bG,G,a0,aO⟩:=hcut;obtain⟨O,aF⟩:=ex (Jh A f m d);have o:=Da HR;rw[<-aF]at G o;obtain⟨a6,n6,c6,rfl⟩:=G.sl.shape;obtain⟨b6,m6,d6,rfl⟩:=G.sf.shape;clear HR an aF v0 v1 N s0 Y ad ai az;have U:=n.trans (a0.mono n.size);have aA:=TE _ l.heap.size _ _ P O G.c;have bj:Kn P O<=O.length*40000:=So P O G.okf _;have bw:=G.nf;unfold Kh at o;obtain⟨u,hu⟩:=ex (Kn P O);rw[<-hu]at aA bj o;have y0:=G.c.c0;have y1:=G.c.c1;have x0:=((Da B).at U).c.c0;have x1:=((Da B).at U).c.c1;have f0:=((Da B).at U).hd.frozen 0;have f1:=((Da B).at U).hd.frozen 1;have bg:=(Da B).hd.lt;have bC:E<l.heap.size:=Ao bg n.size;have bA:E≠l.heap.size:=by omega
 have bB:l.heap.size≠E:=by omega
 have aX:=Db (Yp (Da B) U G (fun k hk=>Ae n.size (aO k hk)));clear hu G aO;by_cases hc:160<u
 ·rw[if_pos hc]at o;have q:=Db o;clear o;have a4:(160:Int)<(u:Int):=by omega
  go_wp2_with (go_at_call 52;refine aA.mono ?_;rintro e w' ⟨rfl,y⟩;rw[y];clear y);go_ret;exact(Da H _ _ (Da q) U).elim fun a b=>⟨by rw[a]<;>rfl,b⟩
 ·rw[if_neg hc]at o;have q:=Db o;clear o;have a4:¬(160:Int)<(u:Int):=by omega
  go_wp2_with (go_at_call 52;refine aA.mono ?_;rintro e w' ⟨rfl,y⟩;rw[y];clear y);go_ret;exact⟨by rw[Da q]<;>rfl,by rw[Da q];exact Da aX⟩
def KZ(p:By):By:=p.extract ((Jd p).size+1) p.size
def KA(L:List (By×Int))(F:LY)(x:By×Int):Value:=
 if x.2<0 then .agg #[.string (KZ x.1),.bool true,.int .i64 (L.countP (Dx x.1):Nat),.int .i64 1]
 else .agg #[.string (KZ x.1),.bool false,.int .i64 ((F[x.2.toNat]?.getD ⟨#[]⟩).size:Nat),.int .i64 (L.countP (Dz x.2):Nat)]
theorem XN{p:By}(h:KL p):(Jd p).size+1<=p.size:=by
 obtain⟨k,a⟩:=h;have b:=(PI a).1;have aa:k<p.data.toList.length:=(Ad.1 b).1;have hs:p.data.toList.length=p.size:=Az;unfold Jd;rw[a,Am];simp only[Option.getD_some];omega
theorem OV(w:World)(j:Nat)(I Y:Value)(L:List (By×Int))(F:LY)(h:FN w j I Y L F)(p:By)(f:Int)(U:p.size<=2000000)(H:KL p)(hf:f<F.length):
  Cl 166 #[.pointer (some ⟨j,0,none⟩),.agg #[.string p,.int .i64 f]] w fun e w'=>e = .returned (KA L F (p,f))/\Bw w w':=by
 obtain⟨V,m⟩:=ex (KA L F (p,f));rw[<-m];have R:=XN H;have ai:=h.hd.lt;have l:=Db h;have J:Hid (∀W,Cl 148 #[.string p] W fun e w'=>e = .returned (.string (Jd p))/\w'=W):=fun W=>Uh p W U H
 have N:Hid (∀W,Bw w W->Cl 149 #[.pointer (some ⟨j,0,none⟩),.string p] W fun e w'=>e = .returned (.int .i64 (L.countP (Dx p):Nat))/\w'=W):=fun W n=>(h.at n).within p
 have M:Hid (∀W,Bw w W->Cl 113 #[.pointer (some ⟨j,0,none⟩),.int .i64 f] W fun e w'=>e = .returned (.int .i64 (L.countP (Dz f):Nat))/\w'=W):=fun W n=>Pg W j I L f (h.at n).c.c0 (h.at n).sl h.nl
 obtain⟨q,y⟩:=ex ((Jd p).size+1);have ad:(q:Int)<=(p.size:Int):=by omega
 have ah:q<=p.size:=by omega
 have O:Hid (IntKind.i64.wrap (((Jd p).size:Int)+1)=(q:Int)):=by unfold Hid;rw[y];exact(IntWalk.i64_in _ ⟨by omega,by omega⟩).trans (by omega)
 have E:KZ p=p.extract q p.size:=by rw[y];rfl
 have A:=Db E;clear h E y R;go_enter Tryz.func166,Tryz.ntmps166;go_wp2_with fail;refine AN (S:=fun W=>W.cell? ⟨w.heap.size,0,none⟩=some (.string p)) (by kernel_rfl) (by go_keep) (fun Q=>?_);refine tk 0 ?_;try simp only[pE];refine tv 1 (?_) rfl (Or.inl ⟨by rfl,?_⟩) ?_
 rotate_left
 ·intro w a;(try dsimp only at a);go_simp<;>with_reducible rfl
 (try simp only[Act.put])
 refine tv 2 (?_) rfl (Or.inl ⟨by rfl,?_⟩) ?_
 rotate_left
 ·intro w a;(try dsimp only at a);go_simp<;>with_reducible rfl
 (try simp only[Act.put])
 refine tv 3 (?_) rfl (Or.inl ⟨by rfl,?_⟩) ?_
 rotate_left
 ·intro w a;(try dsimp only at a);go_simp<;>with_reducible rfl
 (try simp only[Act.put])
 refine A6 (rs:=[4]) (by kernel_rfl) (by simp) ?_;refine AE rfl (fun K C=>?_) AX;go_simp;go_at_call 148;refine(Da J _).mono ?_;rintro e w' ⟨rfl,b⟩;rw[b];clear b;go_wp2_with fail;refine C.out _ _ (by go_keep) (fun aa=>?_);clear C K Q
 (try simp only[pE])
 refine tk 5 ?_;try simp only[pE];refine Bc (i:=6) (v := .int .i64 (q:Int)) rfl (by kernel_rfl) (by kernel_rfl) (by kernel_rfl) (fun _ _ _ h=>h) (Or.inl ⟨by rfl,?_⟩) (by assumption) ?_
 ·intro w a;(try dsimp only at a);go_simp;rw[Da O]
 (try simp only[Act.put])
 refine tv 7 (?_) rfl (Or.inl ⟨by rfl,?_⟩) ?_
 rotate_left
 ·intro w a;(try dsimp only at a);go_simp<;>with_reducible rfl
 (try simp only[Act.put])
 refine tv 8 (?_) rfl (Or.inl ⟨by rfl,?_⟩) ?_
 rotate_left
 ·intro w a;(try dsimp only at a);go_simp<;>with_reducible rfl
 (try simp only[Act.put])
 refine AS (by kernel_rfl) ?_ _;have B:∀c g,Bw w ((w.alloc c).alloc g).drew:=fun c g=>by
  have D:Bw w (w.alloc c):=(Ag _ _).alloc (Aa _) _;exact(D.trans (((Ag _ _).alloc (Aa _) _).mono D.size)).drew
 have r:=Db B;clear B;by_cases x:f<0
 ·have d:V = .agg #[.string (p.extract q p.size),.bool true,.int .i64 (L.countP (Dx p):Nat),.int .i64 1]:=by rw[m];unfold KA;rw[if_pos x,Da A]
  have t:=Db d;clear m d;go_wp2_with (go_at_call 149;refine(Da N _ (Da r _ _)).mono ?_;rintro e w' ⟨rfl,b⟩;rw[b];clear b);exact Aq (v := .agg #[.string (p.extract q p.size),.bool true,.int .i64 (L.countP (Dx p):Nat),.int .i64 1]) (by simp[results,Tryz.results166,go_sem]) rfl ⟨by rw[Da t],Da r _ _⟩
 ·obtain⟨k,rfl⟩:∃k:Nat,f=k:=⟨f.toNat,by omega⟩;have T:k<F.length:=by omega
  have u:F[k]?=some F[k]:=Ac T;have d:V = .agg #[.string (p.extract q p.size),.bool false,.int .i64 (F[k].size:Nat),.int .i64 (L.countP (Dz k):Nat)]:=by
   rw[m];unfold KA;rw[if_neg x,Da A];simp only[BB,u,Option.getD_some]
  obtain⟨s,o⟩:=ex (F[k]);rw[<-o]at d;obtain⟨af,P,rfl,G⟩:=(Da l).sf.rdF;obtain⟨gf,rfl,X⟩:=G k _ u;rw[<-o]at X;have ac:gf<w.heap.size:=(Da l).sf.lt rfl;have ab:=(Da l).c.c1;have aj:s.size<=2000000:=by rw[o];exact(Da l).okf _ (Cq _)
  have ag:=(Da l).nf;have ae:(0:Int)<=(k:Int):=by omega
  have t:=Db d;clear m d G u o x;have z:Hid (∀c g,Bw w ((w.alloc c).alloc g).drew.drew):=fun c g=>(Da r c g).drew
  go_wp2_with fail
  go_region_held3 (fun W=>W.cell? ⟨j,1,none⟩=some (.slice (some ⟨gf,0,none⟩) F.length P)/\W.cell? ⟨w.heap.size,1,none⟩=some (.int .i64 (k:Int))/\W.cell? ⟨gf,k,none⟩=some (.string s)) (go_keep)
   (first|(go_at_call 113;refine(Da M _ (Da z _ _)).mono ?_;rintro e w' ⟨rfl,b⟩;rw[b];clear b))
  all_goals
   go_wp2;exact Aq (v := .agg #[.string (p.extract q p.size),.bool false,.int .i64 (s.size:Nat),.int .i64 (L.countP (Dz k):Nat)]) (by simp[results,Tryz.results166,go_sem]) rfl ⟨by rw[Da t],Da z _ _⟩
def Kw:Value := .agg #[.string ⟨#[]⟩,.bool false,.int .i64 0,.int .i64 0]
def JR(L:List (By×Int))(F:LY)(p:By):Value×Int:=
 if J1 L p≠0 then (Kw,J1 L p) else
 if (p.toList==[47])=true then (.agg #[.string ⟨#[]⟩,.bool true,.int .i64 (L.countP (Dx ⟨#[]⟩):Nat),.int .i64 1],0) else
 match FT L p with
 | none=>(Kw,3)
 | some f=>(KA L F (p,f),0)
theorem ZiC(L:List (By×Int))(F:LY)(x:By×Int):∃a b c d,KA L F x = .agg #[.string a,.bool b,.int .i64 c,.int .i64 d]:=by
 unfold KA
 split
 ·exact⟨_,_,_,_,rfl⟩
 ·exact⟨_,_,_,_,rfl⟩
theorem IR{w:World}{b:Nat}{g i j k:Value}(h:FH w b 112 [g,i,j,k])(a c d e:Value):
  ((((w.setCell ⟨b,0,none⟩ a).setCell ⟨b,1,none⟩ c).setCell ⟨b,2,none⟩ d).setCell ⟨b,3,none⟩ e).cell? ⟨b,0,none⟩=some a/\
  ((((w.setCell ⟨b,0,none⟩ a).setCell ⟨b,1,none⟩ c).setCell ⟨b,2,none⟩ d).setCell ⟨b,3,none⟩ e).cell? ⟨b,1,none⟩=some c/\
  ((((w.setCell ⟨b,0,none⟩ a).setCell ⟨b,1,none⟩ c).setCell ⟨b,2,none⟩ d).setCell ⟨b,3,none⟩ e).cell? ⟨b,2,none⟩=some d/\
  ((((w.setCell ⟨b,0,none⟩ a).setCell ⟨b,1,none⟩ c).setCell ⟨b,2,none⟩ d).setCell ⟨b,3,none⟩ e).cell? ⟨b,3,none⟩=some e:=by
 have f:=(((h.set 0 a).set 1 c).set 2 d).set 3 e;exact⟨f.cell 0,f.cell 1,f.cell 2,f.cell 3⟩
theorem Nr{w w1:World}(h:Bw w w1)(a b c d:Value):Bw w ((((w1.setCell ⟨w.heap.size,0,none⟩ a).setCell ⟨w.heap.size,1,none⟩ b).setCell ⟨w.heap.size,2,none⟩ c).setCell ⟨w.heap.size,3,none⟩ d):=
 (((h.setCell (p:=⟨w.heap.size,0,none⟩) (Aa _) _).setCell (p:=⟨w.heap.size,1,none⟩) (Aa _) _).setCell (p:=⟨w.heap.size,2,none⟩) (Aa _) _).setCell (p:=⟨w.heap.size,3,none⟩) (Aa _) _
theorem YS(w:World)(C:Nat)(vl J:Value)(L:List (By×Int))(F:LY)(h:FN w C vl J L F)(S:∀x∈L,x.2<F.length)(p:By)(hp:p.size<=2000000):
  Cl 111 #[.pointer (some ⟨C,0,none⟩),.string p] w fun e w'=>e = .returned (.tuple #[(JR L F p).1,.int .i64 (JR L F p).2])/\Bw w w':=by
 obtain⟨R,a⟩:=ex (JR L F p);rw[<-a];unfold JR at a;have i:=Db h;have ai:=Db S;obtain⟨av,cv,rfl,Y⟩:=h.sl.rdL;have aj:=Db Y;have ar:=h.hd.lt;obtain⟨j,D⟩:=ex (w.alloc (.cells #[.string ⟨#[]⟩,.bool false,.int .i64 0,.int .i64 0] 112));have E:Bw w j:=by rw[D];exact(Ag _ _).alloc (Aa _) _
 have G:=Ov j C _ J L F (h.at E) p hp;have W:FH j w.heap.size 112 [.string ⟨#[]⟩,.bool false,.int .i64 0,.int .i64 0]:=by rw[D];exact Bs w _
 have K:Hid (∀w1,Bw j w1->FH w1 w.heap.size 112 [.string ⟨#[]⟩,.bool false,.int .i64 0,.int .i64 0]/\Bw w w1):=fun w1 B=>⟨W.fr (X:=fun _=>False) (Fr.of_below B) id,E.trans (B.mono E.size)⟩
 obtain⟨q,N⟩:=ex (J1 L p);rw[<-N]at G a;subst D;clear h Y S W N;go_enter Tryz.func111,Tryz.ntmps111;go_wp2_with fail;refine G.mono ?_;rintro e w1 ⟨rfl,B⟩;obtain⟨z,b⟩:=Da K w1 B;have A:=Db z;have z0:=(z.cell 0).trans rfl;have z1:=(z.cell 1).trans rfl;have z2:=(z.cell 2).trans rfl;have z3:=(z.cell 3).trans rfl;have ae:=z.frozen 0;have af:=z.frozen 1;have ag:=z.frozen 2;have ah:=z.frozen 3;clear z G K;by_cases s:q≠0
 ·rw[if_pos s]at a;have ao:(q != 0)=true:=by rw[Eu];exact s
  have d:=Db a;clear a s;obtain⟨l,m,n,o⟩:=IR (Da A) (.string ⟨#[]⟩) (.bool false) (.int .i64 0) (.int .i64 0);go_wp2;exact Aq (v := .tuple #[Kw,.int .i64 q]) (by simp[results,Tryz.results111,go_sem,l,m,n,o,Kw]) rfl ⟨by rw[Da d],Nr b _ _ _ _⟩
 rw[if_neg s]at a;obtain rfl:q=0:=by omega
 cases h1:(p.toList==[47]) with
 | true=>
  rw[if_pos h1]at a;have d:=Db a;have an:=((Da i).at b).within ⟨#[]⟩;clear a s;obtain⟨l,m,n,o⟩:=IR (Da A) (.string ⟨#[]⟩) (.bool true) (.int .i64 (L.countP (Dx ⟨#[]⟩):Nat)) (.int .i64 1);go_wp2_with (go_at_call 149;refine an.mono ?_;rintro e w' ⟨rfl,u⟩;rw[u];clear u);exact Aq (v := .tuple #[.agg #[.string ⟨#[]⟩,.bool true,.int .i64 (L.countP (Dx ⟨#[]⟩):Nat),.int .i64 1],.int .i64 0]) (by simp[results,Tryz.results111,go_sem,l,m,n,o]) rfl ⟨by rw[Da d],Nr b _ _ _ _⟩
 | false=>
 rw[if_neg (by rw[h1];simp)]at a;have O:=((Da i).at b).find p;clear s;go_wp2_with fail;refine O.mono ?_;rintro e w' ⟨r,⟨rfl,am⟩,u⟩;rw[u];clear u O;rcases am with⟨rfl,V⟩|⟨k,x,rfl,t,I,Q⟩
 ·have U:FT L p=none:=(K5 (.inl ⟨rfl,V⟩)).elim (fun h=>h.2) (fun ⟨_,_,h,_⟩=>by omega);rw[U]at a;have d:=Db a;clear a U V;obtain⟨l,m,n,o⟩:=IR (Da A) (.string ⟨#[]⟩) (.bool false) (.int .i64 0) (.int .i64 0);go_wp2;exact Aq (v := .tuple #[Kw,.int .i64 3]) (by simp[results,Tryz.results111,go_sem,l,m,n,o,Kw]) rfl ⟨by rw[Da d],Nr b _ _ _ _⟩
 ·rw[F7.look t I Q]at a;have ap:=(Ad.1 t).1;have P:=Da ai x (An t);obtain⟨aa,ab⟩:=(Da i).ok x (An t);obtain⟨g,rfl,q0,q1⟩:=(Da aj) k x t;have T:g<w.heap.size:=(Da i).sl.lt rfl;have ac:=(b.cell (p:=⟨g,k*2,none⟩) T).trans q0;have ad:=(b.cell (p:=⟨g,k*2+1,none⟩) T).trans q1;have aq:=(Da i).nl;have al:=((Da i).at b).c.c0;obtain⟨y,f⟩:=x;simp only at I P aa ab ac ad a;subst I;obtain⟨ta,tb,tc,td,Z⟩:=ZiC L F (y,f);have H:=OV w1 C _ J L F ((Da i).at b) y f aa ab P;rw[Z]at H a;have d:=Db a;have HT:=Db H;clear a Q t q0 q1 Z H;go_wp2_with fail;refine(Da HT).mono ?_;rintro e w5 ⟨rfl,M⟩;have c:FH w5 w.heap.size 112 [.string ⟨#[]⟩,.bool false,.int .i64 0,.int .i64 0]:=(Da A).fr (X:=fun _=>False) (Fr.of_below M) id;have ak:=b.trans (M.mono b.size);clear z0 z1 z2 z3 ae af ag ah ac ad al;have z0:=(c.cell 0).trans rfl;have z1:=(c.cell 1).trans rfl;have z2:=(c.cell 2).trans rfl;have z3:=(c.cell 3).trans rfl;have ae:=c.frozen 0;have af:=c.frozen 1;have ag:=c.frozen 2;have ah:=c.frozen 3;obtain⟨l,m,n,o⟩:=IR c (.string ta) (.bool tb) (.int .i64 tc) (.int .i64 td);clear c;go_wp2;exact Aq (v := .tuple #[.agg #[.string ta,.bool tb,.int .i64 tc,.int .i64 td],.int .i64 0]) (by simp[results,Tryz.results111,go_sem,l,m,n,o]) rfl ⟨by rw[Da d],Nr ak _ _ _ _⟩
theorem Q4{w w':World}{v:Value}(h:w.grownBy w' v.ownBlock){n:Nat}(c:∀g,v.ownBlock=some g->n<=g)(b:n<=w.heap.size):Below n w w':=
 ⟨h.os,h.tape,h.output,h.size,fun k a=>h.block k (Ao a b) (fun e=>by have:=c k e.symm;omega)⟩
theorem Sl.cellAt{w:World}{g n b:Nat}{l:List (By×Int)}(h:Sl w 103 2 (.slice (some ⟨g,0,none⟩) n b) l.length (Dr l)){w':World}(i:w'.heap[g]?=w.heap[g]?){j:Nat}{u:Value}(a:(Dr l)[j]?=some u):w'.cell? ⟨g,j,none⟩=some u:=by
 rcases h.2 with⟨e,_⟩|⟨g',aa,R,e,c,_,_,_,f⟩
 ·cases e
 ·cases e
  have d:FH w' g 103 R:=by unfold FH;rw[i];exact c
  rw[d.cell];rw[<-f,Ap]at a
  split at a
  ·exact a
  ·cases a
theorem Ml(w:World)(g B:Nat)(l:List (By×Int))(C:Sl w 103 2 (.slice (some ⟨g,0,none⟩) l.length B) l.length (Dr l))(hl:l.length+1<=2000000)(k:Nat)(hk:k<=l.length)(x:By×Int):
  ∃e n1 f w1,(Builtin.append_ #[87,87] 87 #[.slice none 0 0,.slice (some ⟨g,0,none⟩) k B]).run Tryz.prog w = .ok (.slice e n1 f) w1/\Bw w w1/\
   ∃m o n i,(Builtin.append_ #[87,87] 87 #[.slice e n1 f,.slice (some ⟨w1.heap.size,0,none⟩) 1 1]).run Tryz.prog (w1.alloc (.cells #[.string x.1,.int .i64 x.2] 103)) = .ok (.slice m o n) i/\Bw w i/\
    ∀a c,(l.length-k≠0->a=⟨g,k*2,none⟩)->∃p t r v,(Builtin.append_ #[87,87] 87 #[.slice m o n,.slice (some a) (l.length-k) c]).run Tryz.prog i = .ok (.slice p t r) v/\
     Hid (Sl v 103 2 (.slice p t r) (l.length+1) (Dr (l.take k++x::l.drop k))/\Bw w v/\∀j,(Value.slice p t r).ownBlock=some j->w.heap.size<=j):=by
 obtain⟨I,E,F,G,H⟩:=Bn Q9;have U:g<w.heap.size:=C.lt rfl;have W:(Dr (l.take k)).length=k*2:=by rw[Wa,Ar];omega
 obtain⟨v1,w1,Z,O,r3,r4⟩:=JZ (P:=Tryz.prog) w 87 87 103 I _ 2 24 Tryz.underlying87 E F G H rfl (by decide) (.slice none 0 0) 0 [] ⟨rfl,.inl ⟨rfl,rfl⟩⟩ ⟨g,0,none⟩ k B (Dr (l.take k)) W
  (fun j u b=>by
   rw[AF,Au];refine C.cellAt rfl ?_;rw[<-Zi4,Ap]at b
   split at b
   ·exact b
   ·cases b) (Q0 _) (by unfold maxLen;omega) (by omega)
 obtain⟨e,n1,f,rfl⟩:=O.shape;have M:∀y,(Value.slice e n1 f).ownBlock=some y->w.heap.size<=y:=fun y s=>(r4 y s).resolve_left (by simp[Value.ownBlock])
 have z:Bw w w1:=Q4 r3 (fun y s=>by simp[Value.ownBlock]at s) (Aa _);refine⟨e,n1,f,w1,Z,z,?_⟩;obtain⟨d,D⟩:=ex (w1.alloc (.cells #[.string x.1,.int .i64 x.2] 103));have ba:Bw w1 d:=by rw[D];exact(Ag _ _).alloc (Aa _) _
 have Y:FH d w1.heap.size 103 (G3 x):=by rw[D];exact Bs w1 _
 rw[<-D];have aa:Sl d 103 2 (.slice e n1 f) (0+k) ([]++Dr (l.take k)):=O.fr (X:=fun _=>False) (Fr.of_below ba) (fun _ _=>id);obtain⟨v2,i,s1,Q,s3,s4⟩:=JZ (P:=Tryz.prog) d 87 87 103 I _ 2 24 Tryz.underlying87 E F G H rfl (by decide) (.slice e n1 f) (0+k) ([]++Dr (l.take k)) aa ⟨w1.heap.size,0,none⟩ 1 1 (G3 x) rfl
  (fun j u b=>by rw[AF,Au,Y.cell];exact b) (Q0 [x]) (by unfold maxLen;omega) (by omega)
 obtain⟨m,o,n,rfl⟩:=Q.shape;have A:Bw w d:=z.trans (ba.mono z.size);have N:∀y,(Value.slice m o n).ownBlock=some y->w.heap.size<=y:=fun y s=>(s4 y s).elim (M y) (fun h=>Ae A.size h)
 have q:Bw w i:=A.trans (Q4 s3 M A.size);refine⟨m,o,n,i,s1,q,fun a c T=>?_⟩;have L:(Dr (l.drop k)).length=(l.length-k)*2:=by rw[Wa,AK]
 obtain⟨v3,v,t1,J,t3,t4⟩:=JZ (P:=Tryz.prog) i 87 87 103 I _ 2 24 Tryz.underlying87 E F G H rfl (by decide) (.slice m o n) (0+k+1) ([]++Dr (l.take k)++G3 x) Q a (l.length-k) c (Dr (l.drop k)) L
  (fun j u b=>by
   by_cases K:l.length-k=0
   ·have:Dr (l.drop k)=[]:=Ak (by rw[L,K]);rw[this]at b;cases b
   ·rw[T K,AF];refine C.cellAt (q.block g U) ?_;rw[<-Zi5,A3]at b;exact b) (Q0 _) (by unfold maxLen;omega) (by omega)
 obtain⟨p,t,r,rfl⟩:=J.shape;refine⟨p,t,r,v,t1,?_,q.trans (Q4 t3 N q.size),fun j V=>(t4 j V).elim (N j) (fun h=>Ae q.size h)⟩;have R:0+k+1+(l.length-k)=l.length+1:=by omega
 have S:[]++Dr (l.take k)++G3 x++Dr (l.drop k)=Dr (l.take k++x::l.drop k):=by
  rw[Wj];simp[Dr]
 rw[R,S]at J;exact J
def JU(x:By×Int):List (By×Int)->Nat
 | []=>0
 | y::l=>if Gu y.1 x.1=true then JU x l+1 else 0
def JF(l:List (By×Int))(x:By×Int):List (By×Int):=l.take (JU x l)++x::l.drop (JU x l)
def Dv(L:List (By×Int))(d:By):Nat->List (By×Int)
 | 0=>[]
 | k+1=>match L[k]? with
  | some x=>if Dx d x=true then JF (Dv L d k) x else Dv L d k
  | none=>Dv L d k
theorem UG(l:List (By×Int))(x:By×Int):(JF l x).length=l.length+1:=by
 unfold JF;simp;omega
theorem Q1(L:List (By×Int))(d:By):∀k,(Dv L d k).length<=k
 | 0=>Aa _
 | k+1=>by
  have:=Q1 L d k;unfold Dv
  split
  ·split
   ·rw[UG];omega
   ·omega
  ·omega
theorem VR(x:By×Int):∀l,JU x l<=l.length
 | []=>Aa _
 | y::l=>by
  have:=VR x l;unfold JU
  split
  ·simp;omega
  ·omega
theorem VT(x:By×Int):∀(l:List (By×Int)) (j:Nat) (y:By×Int),j<JU x l->l[j]?=some y->Gu y.1 x.1=true
 | [],_,_,h,_=>by simp[JU]at h
 | z::l,j,y,h,hy=>by
  unfold JU at h
  split at h
  ·rename_i a
   cases j with
   | zero=>simp at hy;subst hy;exact a
   | succ j=>exact VT x l j y (by omega) (by simpa using hy)
  ·omega
theorem VQ(x:By×Int):∀(l:List (By×Int)) (y:By×Int),l[JU x l]?=some y->Gu y.1 x.1=false
 | [],_,h=>by simp at h
 | z::l,y,h=>by
  unfold JU at h
  split at h
  ·exact VQ x l y (by simpa using h)
  ·rename_i a;simp at h;subst h;simpa using a
theorem Mk(w:World)(x:By×Int):
  ∃b c a d,(Builtin.append_ #[87,87] 87 #[.slice none 0 0,.slice (some ⟨w.heap.size,0,none⟩) 1 1]).run Tryz.prog (w.alloc (.cells #[.string x.1,.int .i64 x.2] 103)) = .ok (.slice b c a) d/\
   (Builtin.append_ #[87,87] 87 #[.slice b c a,.slice none 0 0]).run Tryz.prog d = .ok (.slice b c a) d/\
   Hid (Sl d 103 2 (.slice b c a) 1 (Dr [x])/\Bw w d/\∀j,(Value.slice b c a).ownBlock=some j->w.heap.size<=j):=by
 obtain⟨z,k,s,t,v⟩:=Bn Q9;obtain⟨f,g⟩:=ex (w.alloc (.cells #[.string x.1,.int .i64 x.2] 103));have ba:Bw w f:=by rw[g];exact(Ag _ _).alloc (Aa _) _
 have q:FH f w.heap.size 103 (G3 x):=by rw[g];exact Bs w _
 rw[<-g];obtain⟨v2,d,A,i,B,C⟩:=JZ (P:=Tryz.prog) f 87 87 103 z _ 2 24 Tryz.underlying87 k s t v rfl (by decide) (.slice none 0 0) 0 [] ⟨rfl,.inl ⟨rfl,rfl⟩⟩ ⟨w.heap.size,0,none⟩ 1 1 (G3 x) rfl
  (fun j u p=>by rw[AF,Au,q.cell];exact p) (Q0 [x]) (by unfold maxLen;omega) (by omega)
 obtain⟨b,c,a,rfl⟩:=i.shape;refine⟨b,c,a,d,A,?_,by simpa [Dr] using i,ba.trans (Q4 B (fun y r=>by simp[Value.ownBlock]at r) ba.size),fun j o=>(C j o).elim (fun h=>by simp[Value.ownBlock]at h) (fun h=>Ae ba.size h)⟩;rcases i.2 with⟨e,l⟩|⟨g2,aa,R2,e,_,m,_⟩
 ·simp at l
 ·cases e
  have n:1<=a:=by simpa using m
  simp[Builtin.append_,run_underlying Tryz.underlying87,sizeOf,typeInfo,k,Builtin.lenOf,Builtin.firstCells,loadCells,n,storeCells]
def LM(w wr:World)(L:List (By×Int))(d:By)(l i:Value):Prop:=
 ∃k:Nat,k<=L.length/\i = .int .i64 k/\Sl wr 103 2 l (Dv L d k).length (Dr (Dv L d k))/\Bw w wr/\∀j,l.ownBlock=some j->w.heap.size<=j
end Go.Proofs.YtaieidcohdhgpaaGreatDoor
