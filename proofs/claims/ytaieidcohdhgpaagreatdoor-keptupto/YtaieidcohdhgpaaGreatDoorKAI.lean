/- Kept. -/
import Derived.Test.YtaieidcohdhgpaaGreatDoorKAH
import Derived.Sort.CutIn
import Derived.Stop.BytesEq
namespace Go.Proofs.YtaieidcohdhgpaaGreatDoor
variable{s:By}{Q:Exit->Act->World->Prop}{t u:Int}{A:List Nat->(Nat->Prop)->World->Prop}{P X:List Nat->Nat->Nat}{H M a b c d f g i j k l m n n0 off p pb q r so y z:Nat}{C O Z:Nat->Prop}{o v x:Value}{W w w':World}
set_option maxHeartbeats 40000000
set_option maxRecDepth 100000
set_option linter.all false
section
open Go.RowKit Go.Shelf
attribute [local go_sem] Oper.semAt_some
def LC(s:By)(sz x:Nat):By:=s.extract (x*sz) (x*sz+sz)
def Dy(kk:UInt8)(s:By)(sz x:Nat):By:=⟨#[kk]⟩++Dg (LC s sz x) 63
theorem UW(a:UInt8)(s:By)(b x:Nat):(Dy a s b x).size=64:=by unfold Dy;rw[Aj,Jr];rfl
theorem Ru(s:By)(a x:Nat):(LC s a x).size=min a (s.size-x*a):=by grind [LC,ByteArray.size_extract]
theorem GL.fy(h:GL w (some (dQ g off)) c d s)(a x:Nat):GL w (some (dQ g (off+x*a))) (min a (c-x*a)) (min a (c-x*a)) (LC s a x):=by refine⟨by rw[Ru,h.1],Γ,λj v b=>⟨_,rfl,?_⟩⟩;unfold LC at b;rw[KC,AZ]at b;split at b;rw[BF]at b;obtain⟨y,e,hy⟩:=h.2.2 _ _ b;grind [Addr.add_lit,Nat.add_assoc];simp_all
def De(kk below t:Nat):Nat:=kk*4294967296+below*65536+t
structure M8(M n0 pb:Nat)(kk:UInt8)(below:Nat)(s:By)(sz:Nat)(P X:List Nat->Nat->Nat)(St:List Nat->(Nat->Prop)->World->Prop):Prop where
 aw:∀pre O W W' row,St pre O W->W.grownBy W' row->(∀r,row=some r->∃o:Obj,W.heap[r]?=some o/\o.isCells=false)->St pre O W'
 a9:∀pre O W W' (Z:Nat->Prop),St pre O W->Fr Z W W'->(∀j,Z j->¬O j/\n0<=j)->St pre O W'
 lt:∀pre O W,St pre O W->∀j,O j->j<W.heap.size
 put:∀pre x O W,pre.length<M->St pre O W->Cl 272 #[dP pb,.int .u64 (De kk.toNat below pre.length:Nat),DC (Dy kk s sz x)] W λe W'=>e=dR (.agg #[dI (P pre x:Nat),.int .u64 (X pre x:Nat)])/\∃O',St (pre++[x]) O' W'/\Fr O W W'/\∀j,O' j->O j\/W.heap.size<=j
 cells:∀pre O W,St pre O W->∀j,O j->∃cs t,W.heap[j]?=some (.cells cs t (0,0))
 iv:∀pre x,P pre x<65536
 it:∀pre x,X pre x<18446744073709551616
structure Hw(w:World)(n1 B4 B5 B6 B10 B11 pb:Nat)(kk:UInt8)(below:Nat)(g off len cap:Nat)(s:By)(St:List Nat->(Nat->Prop)->World->Prop)(Yo:Nat->Prop)(RB:List Nat->By)(pre pre':List Nat)(v:Value)(O:Nat->Prop)(W:World):Prop where
 st:St pre' O W
 hO:∀j,O j->Yo j\/n1<=j
 b4:Boxed W B4 168 (dP pb)
 b5:Boxed W B5 300 (.int .u8 (kk.toNat:Int))
 b6:Boxed W B6 3 (dI (below:Nat))
 cq:Boxed W B10 59 v
 cx:Boxed W B11 3 (dI (pre.length:Nat))
 rs:GD n1 W v (RB pre)
 ar:∀j,O j->¬Own v j
 rd:GL W (some (dQ g off)) len cap s
 e:Fr Yo w W
 sz:n1<=W.heap.size
structure Ln(w:World)(n1 B4 B5 B6 B10 B11 g len:Nat)(Yo:Nat->Prop):Prop where
 e4:B4=w.heap.size
 e5:B5=w.heap.size+1
 e6:B6=w.heap.size+2
 i9:B10=w.heap.size+3
 i8:B11=w.heap.size+4
 en:w.heap.size+5<=n1
 yo:∀j,Yo j->j<w.heap.size
 gy:¬Yo g
 gl:g<w.heap.size
theorem Ln.nO{b:Nat->Prop}(h:Ln w a i k l d f g n b)(m:∀j,O j->b j\/a<=j)(B:Nat)(h1:w.heap.size<=B)(h2:B<a):¬O B:=λe=>by rcases m B e with c|c;have:=h.yo B c;omega;omega
theorem Hw.below{t:Nat}{d:UInt8}{b:List Nat->(Nat->Prop)->World->Prop}{p:Nat->Prop}{n:List Nat->By}{u x:List Nat}{o:World}(L:M8 M n0 pb d c s z P X b)(h:Hw w t j l m f i pb d c g off r q s b p n u x v O W)(a:Bw W o):Hw w t j l m f i pb d c g off r q s b p n u x v O o:=
 ⟨L.aw _ _ _ _ none h.st ⟨a.os,a.tape,a.output,a.size,λk y _=>a.block k y⟩ Γ,h.hO,(a.block _ h.b4.lt).M h.b4,(a.block _ h.b5.lt).M h.b5,(a.block _ h.b6.lt).M h.b6,(a.block _ h.cq.lt).M h.cq,(a.block _ h.cx.lt).M h.cx,h.rs.below a,h.ar,h.rd.below a,h.e.then (Fr.S a (X:=λ_=>False)) (λ_ _ e=>e.elim),Ae h.sz a.size⟩
theorem Hw.put{o:Nat}{u:UInt8}{C:Nat}{K:Nat}{f:List Nat->(Nat->Prop)->World->Prop}{q:Nat->Prop}{A:List Nat->By}{H J:List Nat}{p:World}(a:Ln w z m n o i l g y q)(_L:M8 M n0 pb u r s K P X f)(h:Hw w z m n o i l pb u r g off y C s f q A H J v O W){G:List Nat}{O':Nat->Prop}(I:f G O' p)(b:Fr O W p)(D:∀j,O' j->O j\/W.heap.size<=j):Hw w z m n o i l pb u r g off y C s f q A H G v O' p:=by have e4:=a.e4;have e5:=a.e5;have e6:=a.e6;have aa:=a.i9;have ab:=a.i8;have en:=a.en;have ac:=h.sz;have nO:=λB=>a.nO h.hO B;refine⟨I,λj t=>(D j t).elim (h.hO j) Ω,(b.block _ h.b4.lt Γ).M h.b4,(b.block _ h.b5.lt Γ).M h.b5,(b.block _ h.b6.lt Γ).M h.b6,(b.block _ h.cq.lt Γ).M h.cq,(b.block _ h.cx.lt Γ).M h.cx,⟨h.rs.1.e b (λk E d=>h.ar k d E),h.rs.2⟩,λj t F=>(D j t).elim (λc=>h.ar j c F) (λc=>by have:=Own.lt h.rs F;omega),h.rd.e b (λx e hp d=>?_),h.e.then b (λk E d=>?_),Ae h.sz b.size⟩;cases e;rcases h.hO _ d with c|c;exact a.gy c;have:=a.gl;grind;rcases h.hO k d with c|c;omega;omega
theorem Hw.done{F:UInt8}{D:Nat}{G:Nat}{Z:Nat}{z:List Nat->By}{y:List Nat}{f:World}(b:Ln w i p q r c d g G C)(ac:n0<=w.heap.size)(L:M8 M n0 pb F D s Z P X A){o:List Nat}(h:Hw w i p q r c d pb F D g off G H s A C z y o v O W)(K:o.length=y.length+1){m:Value}(E:GD i f m (z o))(l:Fr (Own v) W f)(N:Dm W v m):Hw w i p q r c d pb F D g off G H s A C z o o m O ((f.setCell (dQ c 0) m).setCell (dQ d 0) (dI ((y.length:Int)+1))):=by
 have e4:=b.e4;have e5:=b.e5;have e6:=b.e6;have aa:=b.i9;have ab:=b.i8;have en:=b.en;have ad:=h.sz;have Y:∀B,B<i->¬Own v B:=λB b e=>by have:=h.rs.2 B e;omega
 have J:∀B,B<i->¬Own m B:=λB b e=>by have:=E.2 B e;omega
 have T:Boxed f p 168 _:=(l.block _ h.b4.lt Γ).M h.b4;have U:Boxed f q 300 _:=(l.block _ h.b5.lt Γ).M h.b5;have V:Boxed f r 3 _:=(l.block _ h.b6.lt Γ).M h.b6;have R:Boxed f c 59 _:=(l.block _ h.cq.lt Γ).M h.cq;have S:Boxed f d 3 _:=(l.block _ h.cx.lt Γ).M h.cx;have t:Fr (λj=>Own v j\/j=c\/j=d) W ((f.setCell (dQ c 0) m).setCell (dQ d 0) (dI ((y.length)+1))):=
  (Fr.set (Fr.then (Fr.refl _ W) l Γ) _ _ Γ).set _ _ Γ
 have I:c≠d:=Ω;refine⟨L.a9 _ _ _ _ _ h.st t (λj u=>?_),h.hO,(T.other Ω _).other Ω _,(U.other Ω _).other Ω _,(V.other Ω _).other Ω _,(R.set _).other I _,?_,⟨(E.1.setCell (dQ c 0) _ (J c Ω)).setCell _ _ (J d Ω),E.2⟩,λj u Q=>?_,h.rd.e t (λx e hp n=>?_),h.e.then t (λk hk n=>?_),Ae h.sz t.size⟩;rcases u with a|a|a;exact⟨λn=>h.ar j n a,by have:=h.rs.2 j a;omega⟩;subst a;exact⟨b.nO h.hO _ Ω Ω,Ω⟩;subst a;exact⟨b.nO h.hO _ Ω Ω,Ω⟩;rw[K];exact(S.other (λe=>I e.r) _).set _;rcases N j Q with a|a;exact h.ar j u a;have:=L.lt _ _ _ h.st j u;omega;cases e;have:=b.gl;rcases n with a|a|a;exact Y _ (by show g<i;omega) a;simp only at a;omega;simp only at a;omega;rcases n with a|a|a;have:=h.rs.2 k a;omega;omega;omega
theorem Hw.aq{u:Nat}{G:UInt8}{D:Nat}{J:Nat}{sz:Nat}{I:List Nat->By}{Q R:List Nat}{B:World}(L:M8 M n0 pb G D s sz P X A)(N:Ln w l p u y m n g H C)(h:Hw w l p u y m n pb G D g off H J s A C I Q R v O W){row:Option Nat}(a:W.grownBy B row)(i:∀r,row=some r->l<=r/\∃o:Obj,W.heap[r]?=some o/\o.isCells=false):Hw w l p u y m n pb G D g off H J s A C I Q R v O B:=by
 have ne:∀(j:Nat) (b:Array Value) (t:TypeId) (z:Nat×Nat),W.heap[j]?=some (Obj.cells b t z)->some j≠row:=λj b t z d e=>by obtain⟨o,K,Y⟩:=(i j e.r).2;rw[d]at K;cases K;cases Y
 have c:∀(j:Nat) (b:Array Value) (t:TypeId) (z:Nat×Nat),W.heap[j]?=some (Obj.cells b t z)->B.heap[j]?=some (Obj.cells b t z):=λj b t z d=>(a.block j (Au.1 d).1 (ne j b t z d)).M d;have ab:=N.gl;have aa:=N.en;refine⟨L.aw _ _ _ _ row h.st a (λr e=>(i r e).2),h.hO,c _ _ _ _ h.b4,c _ _ _ _ h.b5,c _ _ _ _ h.b6,c _ _ _ _ h.cq,c _ _ _ _ h.cx,⟨?_,h.rs.2⟩,h.ar,?_,?_,Ae h.sz a.size⟩;rcases h.rs.1.2 with⟨e,V⟩|⟨U,T,S,e,Z,q⟩;exact⟨h.rs.1.1,.inl ⟨e,V⟩⟩;exact⟨h.rs.1.1,.inr ⟨U,T,S,e,c _ _ _ _ Z,q⟩⟩;exact h.rd.e ⟨a.os,a.tape,a.output,a.size,λk f E=>a.block k f (λe=>E e.r)⟩ (λx e _ F=>by cases e;have:=(i _ F).1;simp only at this;omega);exact h.e.then ⟨a.os,a.tape,a.output,a.size,λk f E=>a.block k f (λe=>E e.r)⟩ (λk f F=>by have:=(i _ F).1;omega)
def Nc(w:World)(n1 B4 B5 B6 B10 B11 pb:Nat)(kk:UInt8)(below:Nat)(g off len cap:Nat)(s:By)(St:List Nat->(Nat->Prop)->World->Prop)(Yo:Nat->Prop)(RB:List Nat->By)(pre:List Nat)(W:World):Prop:=∃v O,Hw w n1 B4 B5 B6 B10 B11 pb kk below g off len cap s St Yo RB pre pre v O W
def Zud(w:World)(n1:Nat)(St:List Nat->(Nat->Prop)->World->Prop)(Yo:Nat->Prop)(RB:List Nat->By)(N:Nat)(e:Ending)(w':World):Prop:=
 ∃a' l' c' O,e=dR (dT a' l' c')/\GD n1 w' (dT a' l' c') (RB (List.range N))/\St (List.range N) O w'/\(∀j,O j->Yo j\/n1<=j)/\(∀j,O j->¬Own (dT a' l' c') j)/\Fr Yo w w'
end
section
open Go.RowKit Go.Shelf
attribute [local go_sem] Oper.semAt_some
def PK(n1 B10 B11:Nat)(Yo:Nat->Prop)(A B:World):Prop:=A.heap.size<=B.heap.size/\∀k,k<n1->¬Yo k->k≠B10->k≠B11->B.heap[k]?=A.heap[k]?
def KV(B4 B5 B6 B11 pb:Nat)(kk:UInt8)(below t:Nat)(V:World):Prop:=V.cell? (dQ B4 0)=some (dP pb)/\V.cell? (dQ B5 0)=some (.int .u8 (kk.toNat:Int))/\V.cell? (dQ B6 0)=some (dI (below:Nat))/\V.cell? (dQ B11 0)=some (dI (t:Nat))
def LE(w:World)(n1 B4 B5 B6 B10 B11 pb:Nat)(kk:UInt8)(below:Nat)(g off len cap:Nat)(s:By)(St:List Nat->(Nat->Prop)->World->Prop)(Yo:Nat->Prop)(RB:List Nat->By)(pre pre':List Nat)(v:Value)(O0 O:Nat->Prop)(W V:World):Prop:=
 Hw w n1 B4 B5 B6 B10 B11 pb kk below g off len cap s St Yo RB pre pre' v O V/\Fr (λj=>O0 j\/Own v j\/j=B10\/j=B11) W V
theorem Zor(w:World)(M:Nat)(hM:M<=1000)(n0 y m n p d i pb:Nat)(c:UInt8)(l:Nat)(af:l<65536)(g off H J:Nat)(s:By)(N:Nat)(aj:N<=63)(P X:List Nat->Nat->Nat)(I:List Nat->(Nat->Prop)->World->Prop)(C:Nat->Prop)(z:List Nat->By)(F:Ln w y m n p d i g H C)(ah:n0<=w.heap.size)(L:M8 M n0 pb c l s N P X I)(ae:∀a x,z (a++[x])=z a++D7 (P a x) (X a x))(ao:∀a,(z a).size=10*a.length)(a:List Nat)(x:Nat)(ai:a.length<M)(W:World)(r:OA)(v u:Nat)(O:Nat->Prop)(h:Hw w y m n p d i pb c l g off H J s I C z a a (dT r v u) O W):
  (∀V,Cl 244 #[.int .u8 (c.toNat:Int),dI (l:Nat),dI (a.length:Nat)] V λe w'=>e=dR (.int .u64 (De c.toNat l a.length:Nat))/\w'=V)/\
  (∀V,LE w y m n p d i pb c l g off H J s I C z a a (dT r v u) O O W V->Cl 213 #[.int .u8 (c.toNat:Int),LN g off N H x] V λe b=>e=dR (DC (Dy c s N x))/\KV m n p i pb c l a.length b/\b.cell? (dQ d 0)=some (dT r v u)/\Hid (LE w y m n p d i pb c l g off H J s I C z a a (dT r v u) O O W b))/\
  (∀V,LE w y m n p d i pb c l g off H J s I C z a a (dT r v u) O O W V->Cl 272 #[dP pb,.int .u64 (De c.toNat l a.length:Nat),DC (Dy c s N x)] V λe b=>e=dR (.agg #[dI (P a x:Nat),.int .u64 (X a x:Nat)])/\KV m n p i pb c l a.length b/\b.cell? (dQ d 0)=some (dT r v u)/\Hid (∃O',LE w y m n p d i pb c l g off H J s I C z a (a++[x]) (dT r v u) O O' W b))/\
  (∀V,(∃O',LE w y m n p d i pb c l g off H J s I C z a (a++[x]) (dT r v u) O O' W V)->Cl 214 #[.agg #[dI (P a x:Nat),.int .u64 (X a x:Nat)],dT r v u] V λe b=>∃D G E,e=dR (dT D G E)/\KV m n p i pb c l a.length b/\KV m n p i pb c l a.length (b.setCell (dQ d 0) (dT D G E))/\b.cell? (dQ d 0)=some (dT r v u)/\b.frozen? (dQ d 0)=false/\(b.setCell (dQ d 0) (dT D G E)).frozen? (dQ i 0)=false/\
   Hid (KeepsOthers W ((b.setCell (dQ d 0) (dT D G E)).setCell (dQ i 0) (dI ((a.length:Int)+1)))/\PK y d i C W ((b.setCell (dQ d 0) (dT D G E)).setCell (dQ i 0) (dI ((a.length:Int)+1)))/\Nc w y m n p d i pb c l g off H J s I C z (a++[x]) ((b.setCell (dQ d 0) (dT D G E)).setCell (dQ i 0) (dI ((a.length:Int)+1))))):=by
 have e4:=F.e4;have e5:=F.e5;have e6:=F.e6;have ak:=F.i9;have al:=F.i8;have en:=F.en;have ag:c.toNat<256:=c.toNat_lt;refine⟨λV=>Pj V c.toNat l a.length ag af Ω,λV R=>?_,λV R=>?_,λV R=>?_⟩;obtain⟨f,Q⟩:=R;apply(Zgc V _ _ _ _ (f.rd.fy N x) (by grind [Ru]) c).Q;rintro e b⟨rfl,hb⟩;have q:=f.below L hb;exact⟨rfl,⟨q.b4.J,q.b5.J,q.b6.J,q.cx.J⟩,q.cq.J,q,Q.then (Fr.S hb (X:=λ_=>False)) (λ_ _ e=>e.elim)⟩;obtain⟨f,Q⟩:=R;apply(L.put a x O V ai f.st).Q;rintro e b⟨rfl,O',Y,A,q3⟩;have q:=f.put F L Y A q3;exact⟨rfl,⟨q.b4.J,q.b5.J,q.b6.J,q.cx.J⟩,q.cq.J,O',q,Q.then A (λ_ _ e => .inl e)⟩;obtain⟨O',f,Q⟩:=R;have aj:=f.sz;apply(Wk V y f.sz r v u _ f.rs _ _ (L.iv a x) (L.it a x) Γ).Q;rintro e b⟨D,G,E,rfl,Y,A,q3⟩;rw[<-ae]at Y;have hD:=f.done F ah L Θ Y A q3;have S:∀B,B<y->¬Own (dT r v u) B:=λB F e=>by have:=f.rs.2 B e;omega
 have k4:Boxed b m 168 _:=(A.block _ f.b4.lt (S _ Ω)).M f.b4;have k5:Boxed b n 300 _:=(A.block _ f.b5.lt (S _ Ω)).M f.b5;have k6:Boxed b p 3 _:=(A.block _ f.b6.lt (S _ Ω)).M f.b6;have ac:Boxed b d 59 _:=(A.block _ f.cq.lt (S _ Ω)).M f.cq;have ab:Boxed b i 3 _:=(A.block _ f.cx.lt (S _ Ω)).M f.cx;have T:Fr (λj=>O j\/Own (dT r v u) j\/j=d\/j=i) W ((b.setCell (dQ d 0) (dT D G E)).setCell (dQ i 0) (dI ((a.length)+1))):=
  (Fr.set (Q.then A (λ_ _ e => .inr (.inl e))) _ _ (.inr (.inr (.inl rfl)))).set _ _ (.inr (.inr (.inr rfl)))
 refine⟨D,G,E,rfl,⟨k4.J,k5.J,k6.J,ab.J⟩,⟨(k4.other Ω _).J,(k5.other Ω _).J,(k6.other Ω _).J,(ab.other Ω _).J⟩,ac.J,ac.A,(ab.other Ω _).A,⟨T.size,λk o U ho=>?_⟩,⟨T.size,λk U hY am an=>?_⟩,_,O',hD⟩;refine(T.block k (Au.1 U).1 (λe=>?_)).M U;have aa:∀Z t,W.heap[k]? ≠ some (Obj.cells Z t (0,0)):=λZ t K=>by rw[U]at K;cases K;cases ho
 rcases e with e|e|e|e;obtain⟨Z,t,K⟩:=L.cells _ _ _ h.st k e;grind;rcases h.rs.1.2 with⟨K,_⟩|⟨g',c2,L2,K,ad,_⟩;grind [Own,Value.ownBlock];rw[K]at e;simp[Own,Value.ownBlock]at e;subst e;exact aa _ _ ad;subst e;exact aa _ _ h.cq;subst e;exact aa _ _ h.cx;refine T.block k (by have:=h.sz;omega) (λe=>?_);rcases e with e|e|e|e;rcases h.hO k e with h1|h1;simp_all;omega;simp_all;omega;omega
end
section
open Tryz
open Go.RowKit Go.Shelf
attribute [local go_sem] Oper.semAt_some
theorem Ze(k:UInt8)(c:Nat)(hk:k=3/\c=63\/k=2/\c=60)(w:World)(M:Nat)(hM:M<=1000)(n0 pb:Nat)(y:Nat)(aN:y<65536)(g off p z:Nat)(s:By)(au:GL w (some (dQ g off)) p z s)(aQ:p<=z)(hl:p<60000)(P X:List Nat->Nat->Nat)(Q:List Nat->(Nat->Prop)->World->Prop)(G O0:Nat->Prop)(H:List Nat->By)(aR:n0<=w.heap.size)(L:M8 M n0 pb k y s c P X Q)(aJ:H []=⟨#[]⟩)(aI:∀q x,H (q++[x])=H q++D7 (P q x) (X q x))(aK:∀q,(H q).size=10*q.length)(av:Q [] O0 w)(aH:∀j,O0 j->G j)(ak:∀j,G j->j<w.heap.size)(aP:¬G g)(aO:g<w.heap.size)(N:Nat)(hN:N=(p+c-1)/c)(aU:N<=M):
  Cl 237 #[dP pb,.int .u8 (k.toNat:Nat),dI (y:Nat),dT (some (dQ g off)) p z] w (Zud w (w.heap.size+7) Q G H N):=by
 obtain⟨W1,e1,x1,k1,s1,b1⟩:=Df w [dP pb] 168;obtain⟨W2,e2,x2,k2,s2,b2⟩:=Df W1 [.int .u8 (k.toNat:Nat)] 300;obtain⟨W3,e3,x3,k3,s3,b3⟩:=Df W2 [dI (y:Nat)] 3;obtain⟨W4,e4,x4,k4,s4,b4⟩:=Df W3 [dN] 59;obtain⟨W5,e5,x5,k5,s5,b5⟩:=Df W4 [dI 0] 3;obtain⟨W6,e6,x6,k6,s6,b6⟩:=Df W5 [dT (some (dQ g off)) p z] 59;obtain⟨R,e7,x7,Z,s7,b7⟩:=Df W6 [dI (c:Nat)] 3;have J:Bw w R:=b1.M ((b2.Q Ω).M ((b3.Q Ω).M ((b4.Q Ω).M ((b5.Q Ω).M ((b6.Q Ω).M (b7.Q Ω))))));have y1:=Z _ _ _ (k6 _ _ _ (k5 _ _ _ (k4 _ _ _ (k3 _ _ _ (k2 _ _ _ x1)))));have y2:=Z _ _ _ (k6 _ _ _ (k5 _ _ _ (k4 _ _ _ (k3 _ _ _ x2))));have y3:=Z _ _ _ (k6 _ _ _ (k5 _ _ _ (k4 _ _ _ x3)));have y4:=Z _ _ _ (k6 _ _ _ (k5 _ _ _ x4));have y5:=Z _ _ _ (k6 _ _ _ x5);have y6:=Z _ _ _ x6;have t2:W2.heap.size=w.heap.size+1+1:=Ω;have t3:W3.heap.size=w.heap.size+1+1+1:=Ω;have t4:W4.heap.size=w.heap.size+1+1+1+1:=Ω;have t5:W5.heap.size=w.heap.size+1+1+1+1+1:=Ω;have t6:W6.heap.size=w.heap.size+1+1+1+1+1+1:=Ω;have I:R.heap.size=w.heap.size+7:=Ω;rw[s1]at y2;rw[t2]at y3;rw[t3]at y4;rw[t4]at y5;rw[t5]at y6;rw[t6]at x7;have hB:Ln w (w.heap.size+7) w.heap.size (w.heap.size+1) (w.heap.size+1+1) (w.heap.size+1+1+1) (w.heap.size+1+1+1+1) g p G:=⟨rfl,rfl,rfl,rfl,rfl,Ω,ak,aP,aO⟩;have aq:Nc w (w.heap.size+7) w.heap.size (w.heap.size+1) (w.heap.size+1+1) (w.heap.size+1+1+1) (w.heap.size+1+1+1+1) pb k y g off p z s Q G H [] R:=⟨dN,O0,L.aw _ _ _ _ none av ⟨J.os,J.tape,J.output,J.size,λk hk _=>J.block k hk⟩ (λr e=>by cases e),λj hj => .inl (aH j hj),y1,y2,y3,y4,y5,by rw[aJ];exact GD.nil _ _,λj _ e=>by simp[Own,Value.ownBlock]at e,au.below J,Fr.S J,Ω⟩;have aF:=Db aq;have al:=Db I;have ad:=Db hB;have ay:=Db e1;have az:=Db e2;have aA:=Db e3;have aB:=Db e4;have aC:=Db e5;have aD:=Db e6;have aE:=Db e7;have am:R.cell? (dQ (w.heap.size+1+1+1+1+1) 0)=some (dT (some (dQ g off)) p z):=(y6.J 0).M rfl;have an:R.cell? (dQ (w.heap.size+1+1+1+1+1+1) 0)=some (dI (c:Nat)):=(x7.J 0).M rfl;have aw:=Db am;have ax:=Db an;clear x1 x2 x3 x4 x5 x6 x7 k1 k2 k3 k4 k5 k6 Z s1 s2 s3 s4 s5 s6 s7 b1 b2 b3 b4 b5 b6 b7 y1 y2 y3 y4 y5 y6 t2 t3 t4 t5 t6 I e1 e2 e3 e4 e5 e6 e7 J aq am an av au hB;refine(Bg (n:=3)).1 ?_;refine BY func237 rfl trivial ?_ rfl;simp only[ntmps237,AS,Ay,AR,Nat.reduceAdd,Nat.reduceSub,AY,AX,Be,A5,AH,AK];have aW:60<=c/\c<=63:=Ω
 gi_upto_if 14 with fail
 gi_cut [9] from 13 (λs w'=>s=dI (c:Nat)/\w'=((w.alloc (.cells #[dP pb] 168)).alloc (.cells #[.int .u8 (k.toNat:Nat)] 300)).alloc (.cells #[dI (y:Nat)] 3))
 case first=>
  rcases hk with⟨rfl,rfl⟩|⟨rfl,rfl⟩;all_goals
   gi_wp2
   gi_meet
   exact⟨rfl,rfl⟩
 case rest=>
 obtain⟨rfl,rfl⟩:=hcut
 gi_wp2_with (refine⟨trivial,?_⟩;gi_at_call 172;apply(TS _ c Ω Ω _ _ ⟨_,_,_,rfl⟩).Q;rintro e w'⟨rfl,rfl⟩)
 rw[show w.alloc (.cells #[dP pb] 168)=W1 from Da ay,show W1.alloc (.cells #[.int .u8 (k.toNat:Nat)] 300)=W2 from Da az,show W2.alloc (.cells #[dI (y:Nat)] 3)=W3 from Da aA,show W3.alloc (.cells #[dN] 59)=W4 from Da aB,show W4.alloc (.cells #[dI 0] 3)=W5 from Da aC,show W5.alloc (.cells #[dT (some (dQ g off)) p z] 59)=W6 from Da aD,show W6.alloc (.cells #[dI (c:Nat)] 3)=R from Da aE];rename_i K0 aG;have I:=Da al;have aV:N<=1000:=by rw[hN];omega
 refine Er (α:=Nat) rfl Ω (gf:=220) (lb:=#[dP (w.heap.size+1+1+1+1+1),dP (w.heap.size+1+1+1+1+1+1)]) rfl trivial (EX func220 Φ rfl)
  (Zhj 2 Ω (w.heap.size+1+1+1+1+1) (w.heap.size+1+1+1+1+1+1) g off c p z Ω Ω aQ Ω N hN R Ω Ω (Da aw) (Da ax) (PK (w.heap.size+7) (w.heap.size+1+1+1) (w.heap.size+1+1+1+1) G)
   (λA B ap h1 h2=>⟨(AA (w:=A) (a:=dQ (w.heap.size+1+1+1+1+1) 0) (ap.2 (w.heap.size+1+1+1+1+1) Ω (λe=>by have:=ak _ e;omega) Ω Ω)).M h1,(AA (w:=A) (a:=dQ (w.heap.size+1+1+1+1+1+1) 0) (ap.2 (w.heap.size+1+1+1+1+1+1) Ω (λe=>by have:=ak _ e;omega) Ω Ω)).M h2⟩))
  (λh1 h2=>⟨Ae h1.1 h2.1,λk a b c d=>(h2.2 k a b c d).M (h1.2 k a b c d)⟩)
  (λX l o o' hl ho _ _=>⟨by simp[World.putObj],λk hk _ _ _=>by have:=I;simp only[World.putObj];rw[Cc];rw[if_neg Ω]⟩)
  (Ad _ _) (λ_=>rfl)
  (λq X=>Nc w (w.heap.size+7) w.heap.size (w.heap.size+1) (w.heap.size+1+1) (w.heap.size+1+1+1) (w.heap.size+1+1+1+1) pb k y g off p z s Q G H q X)
  (λ_ _ _=>False)
  (λq A B row hs hg hr=>by obtain⟨v,O,h⟩:=hs;exact⟨v,O,h.aq L (Da ad) hg (λr e=>by rw[<-I];exact hr r e)⟩)
  (λ_ _ _ _ _ hs _ _=>hs)
  (Da aF)
  (λx=>{ tmps:=#[dP pb,.int .u8 (k.toNat:Nat),dI (y:Nat),dT (some (dQ g off)) p z,dP w.heap.size,dP (w.heap.size+1),dP (w.heap.size+1+1),undef,dN,dI (c:Nat),dP (w.heap.size+1+1+1),dP (w.heap.size+1+1+1+1),LN g off c p x,u13,u14,u15,u16,dT (some (dQ g off)) p z,dI (c:Nat),.func (.func 220) #[] #[dP (w.heap.size+1+1+1+1+1),dP (w.heap.size+1+1+1+1+1+1)],LN g off c p x,u21,u22,u23,u24,u25,u26,u27,u28,u29,u30,u31,u32,u33,u34],defers:=[] })
  ?assign ?body ?done ?stop
 case assign=>
  intro l x X K f;clear I
  gi_wp2
  exact f
 case body=>
  rintro l q x W⟨v,O,t⟩ aX;obtain⟨ra,rl,rc,rfl⟩:=t.rs.1.a0;obtain⟨h4,h7,h8,ao⟩:=Zor w M hM n0 (w.heap.size+7) w.heap.size (w.heap.size+1) (w.heap.size+1+1) (w.heap.size+1+1+1) (w.heap.size+1+1+1+1) pb k y aN g off p z s c Ω P X Q G H (Da ad) aR L aI aK q x Ω W ra rl rc O t;have H4:=Db h4;have H7:=Db h7;have H8:=Db h8;have ac:=Db ao;have m:Hid (LE w (w.heap.size+7) w.heap.size (w.heap.size+1) (w.heap.size+1+1) (w.heap.size+1+1+1) (w.heap.size+1+1+1+1) pb k y g off p z s Q G H q q (dT ra rl rc) O O W W.drew):=⟨t.below L (Ad _ _).drew,⟨rfl,rfl,rfl,Aa _,λ_ _ _=>rfl⟩⟩;have aL:KV w.heap.size (w.heap.size+1) (w.heap.size+1+1) (w.heap.size+1+1+1+1) pb k y q.length W.drew:=⟨t.b4.J,t.b5.J,t.b6.J,t.cx.J⟩;have Y:W.drew.cell? (dQ (w.heap.size+1+1+1) 0)=some (dT ra rl rc):=t.cq.J;clear h4 h7 h8 ao t I
  gi_step
  gi_step
  gi_step
  refine ZdN (KV w.heap.size (w.heap.size+1) (w.heap.size+1+1) (w.heap.size+1+1+1+1) pb k y q.length) Φ (λhh=>by obtain⟨_,_,hh⟩:=hh;exact hh) Φ aL (λaT=>?_);refine tv 0 (?_) rfl (Or.inl ⟨by rfl,?_⟩) ?_
  rotate_left
  .intro w F
   (try unfold KV at F)
   go_simp<;>with_reducible rfl
  try simp only[pE]
  refine tv 1 (?_) rfl (Or.inl ⟨by rfl,?_⟩) ?_
  rotate_left
  .intro w F
   (try unfold KV at F)
   go_simp<;>with_reducible rfl
  try simp only[pE]
  refine tv 2 (?_) rfl (Or.inl ⟨by rfl,?_⟩) ?_
  rotate_left
  .intro w F
   (try unfold KV at F)
   go_simp<;>with_reducible rfl
  try simp only[pE]
  refine tv 3 (?_) rfl (Or.inl ⟨by rfl,?_⟩) ?_
  rotate_left
  .intro w F
   (try unfold KV at F)
   go_simp<;>with_reducible rfl
  try simp only[pE]
  refine tv 5 (?_) rfl (Or.inl ⟨by rfl,?_⟩) ?_
  rotate_left
  .intro w F
   (try unfold KV at F)
   go_simp<;>with_reducible rfl
  try simp only[pE]
  refine tv 6 (?_) rfl (Or.inl ⟨by rfl,?_⟩) ?_
  rotate_left
  .intro w F
   (try unfold KV at F)
   go_simp<;>with_reducible rfl
  try simp only[pE]
  refine Eo (rs:=[4,9]) Φ Θ ?_;refine(BK (i:=4) rfl ?_ (BK (i:=9) rfl ?_ Ee))
  .intro K f;go_simp;go_at_call 244;apply(Da H4 _).Q;rintro e w'⟨rfl,hw⟩;rw[hw];clear hw;go_wp2_with fail;refine f.out _ _ Ψ (λaM=>?_);clear f K;try simp only[pE]
   refine Eo (rs:=[7,9]) Φ Θ ?_;refine(BK (i:=7) rfl ?_ (BK (i:=9) rfl ?_ Ee))
   .intro K f;go_simp;go_at_call 213;apply(Da H7 _ (Da m)).Q;clear m;rintro e V⟨rfl,ab,Y,m⟩;go_wp2_with fail;refine f.out _ _ ab (λar=>?_);clear f K;try simp only[pE]
    refine Eo (rs:=[8,9]) Φ Θ ?_;refine(BK (i:=8) rfl ?_ (BK (i:=9) rfl ?_ Ee))
    focus
     intro K f;go_simp;go_at_call 272;apply(Da H8 _ (Da m)).Q;clear m;rintro e V8⟨rfl,U,Y,m⟩;go_wp2_with fail;refine f.out _ _ U (λaf=>?_);clear f K;try simp only[pE]
     refine rk 9 (λK f=>?_);go_simp;refine f.out _ _ Ψ (λag=>?_)
    rotate_left
    focus
     intro K f;go_simp;refine f.out _ _ Ψ (λag=>?_);clear f K;try simp only[pE]
     refine rk 8 (λK f=>?_);go_simp;go_at_call 272;apply(Da H8 _ (Da m)).Q;clear m;rintro e V8⟨rfl,U,Y,m⟩;go_wp2_with fail;refine f.out _ _ U (λaf=>?_)
    all_goals
     clear f K;try simp only[pE]
     refine rk 10 (λK f=>?_);go_simp;go_at_call 214;apply(Da ac _ (Da m)).Q;clear m;rintro e ae⟨a',l',c',rfl,C,E,ah,ai,aj,u⟩;go_wp2_with fail;refine f.out _ _ C (λS=>?_);clear f K;try simp only[pE]
     refine rk 11 (λK f=>?_);go_simp;refine f.out _ _ E (λT=>?_);clear f K;try simp only[pE]
     refine AL Φ ?_ _;have cT:=E.2.2.2;clear C S T
     gi_wp2
     exact⟨(Da u).1,(Da u).2.1,(Da u).2.2⟩
   .intro K f;go_simp;refine f.out _ _ Ψ (λag=>?_);clear f K;try simp only[pE]
    refine rk 7 (λK f=>?_);go_simp;go_at_call 213;apply(Da H7 _ (Da m)).Q;clear m;rintro e V⟨rfl,ab,Y,m⟩;go_wp2_with fail;refine f.out _ _ ab (λar=>?_);clear f K;try simp only[pE]
    refine rk 8 (λK f=>?_);go_simp;go_at_call 272;apply(Da H8 _ (Da m)).Q;clear m;rintro e V8⟨rfl,U,Y,m⟩;go_wp2_with fail;refine f.out _ _ U (λaf=>?_);clear f K;try simp only[pE]
    refine rk 10 (λK f=>?_);go_simp;go_at_call 214;apply(Da ac _ (Da m)).Q;clear m;rintro e ae⟨a',l',c',rfl,C,E,ah,ai,aj,u⟩;go_wp2_with fail;refine f.out _ _ C (λS=>?_);clear f K;try simp only[pE]
    refine rk 11 (λK f=>?_);go_simp;refine f.out _ _ E (λT=>?_);clear f K;try simp only[pE]
    refine AL Φ ?_ _;have cT:=E.2.2.2;clear C S T
    gi_wp2
    exact⟨(Da u).1,(Da u).2.1,(Da u).2.2⟩
  .intro K f;go_simp;refine f.out _ _ Ψ (λag=>?_);clear f K;try simp only[pE]
   refine rk 4 (λK f=>?_);go_simp;go_at_call 244;apply(Da H4 _).Q;rintro e w'⟨rfl,hw⟩;rw[hw];clear hw;go_wp2_with fail;refine f.out _ _ Ψ (λaM=>?_);clear f K;try simp only[pE]
   refine rk 7 (λK f=>?_);go_simp;go_at_call 213;apply(Da H7 _ (Da m)).Q;clear m;rintro e V⟨rfl,ab,Y,m⟩;go_wp2_with fail;refine f.out _ _ ab (λar=>?_);clear f K;try simp only[pE]
   refine rk 8 (λK f=>?_);go_simp;go_at_call 272;apply(Da H8 _ (Da m)).Q;clear m;rintro e V8⟨rfl,U,Y,m⟩;go_wp2_with fail;refine f.out _ _ U (λaf=>?_);clear f K;try simp only[pE]
   refine rk 10 (λK f=>?_);go_simp;go_at_call 214;apply(Da ac _ (Da m)).Q;clear m;rintro e ae⟨a',l',c',rfl,C,E,ah,ai,aj,u⟩;go_wp2_with fail;refine f.out _ _ C (λS=>?_);clear f K;try simp only[pE]
   refine rk 11 (λK f=>?_);go_simp;refine f.out _ _ E (λT=>?_);clear f K;try simp only[pE]
   refine AL Φ ?_ _;have cT:=E.2.2.2;clear C S T
   gi_wp2
   exact⟨(Da u).1,(Da u).2.1,(Da u).2.2⟩
 case done=>
  rintro D ys X hD rfl⟨v,O,t⟩ f;have aS:=t.cq.J;obtain⟨ra,rl,rc,rfl⟩:=t.rs.1.a0;have HR:=Db t;clear t I;show K0 _ _;refine aG _ _ ?_
  gi_wp2
  have t:=Da HR;have I:=Da al;refine⟨Θ,.inl ⟨_,_,rfl,BT f,?_⟩⟩;have hg:X.grownBy (X.putObj D (.deferred none)) (some D):=⟨rfl,rfl,rfl,by simp[World.putObj],λk _ hk=>by simp only[World.putObj];rw[Cc,if_neg (λe=>hk (by rw[e]))]⟩;have aa:=t.aq L (Da ad) hg (λr e=>by cases e;exact⟨Ω,_,f,rfl⟩);exact⟨_,EL rfl _ _ _,ra,rl,rc,O,rfl,aa.rs,aa.st,aa.hO,aa.ar,aa.e⟩
 case stop=>
  rintro D c q X _ _ h _;exact h.elim
end
section
open Tryz
open Go.RowKit Go.Shelf
attribute [local go_sem] Oper.semAt_some
theorem ZtI:(prog.info? 245).map (λi=>(i.zero,i.size))=some (some (.agg (List.replicate 60 (dV false)).toArray),60):=Φ
theorem ZsJ:∀w,(zeroValue 245).run prog w=.ok (.agg (List.replicate 60 (dV false)).toArray) w:=(Fj ZtI).1
theorem Zt5(n:Nat)(a:OA)(w:World):
  CallsIn Fence.wide n prog 115 #[.pointer a] w λe w'=>e=dR (.func (.func 169) #[] #[dP w.heap.size])/\w'=w.alloc (.cells #[.pointer a] 37):=by
 refine Bg.2 ?_;go_wp2;go_ret;simp_all
end
section
open Go.RowKit Go.Shelf
attribute [local go_sem] Oper.semAt_some
def SE:By:=⟨#[0]⟩
def Jl:By:=Dy 3 SE 63 0
theorem Sl.ba{a:World}{e:TypeId}{d:Gf}(h:Sl W e c v n d)(l:∀(j:Nat) (cs:Array Value) (t:TypeId),W.heap[j]?=some (Obj.cells cs t (0,0))->a.heap[j]?=some (Obj.cells cs t (0,0))):Sl a e c v n d:=by rcases h.2 with⟨b,h0⟩|⟨i,g,f,b,k,q⟩;exact⟨h.1,Γ⟩;exact⟨h.1,.inr ⟨i,g,f,b,l _ _ _ k,q⟩⟩
theorem Sl.isCells{e:TypeId}{f:Gf}(h:Sl W e d v n f)(a:Own v k):∃cs t,W.heap[k]?=some (Obj.cells cs t (0,0)):=by rcases h.2 with⟨b,h0⟩|⟨g',c',L',b,c,q⟩;grind [Own,Value.ownBlock];rw[b]at a;simp[Own,Value.ownBlock]at a;subst a;exact⟨_,_,c⟩
theorem Gl.ba{e:Nat->Int}{cl:Bool}{l:Value}{c:LI}{i k:Int}{m:Value}{f:LB}(h:Gl w pb b g so e cl d l c i k m f)(a:∀(j:Nat) (cs:Array Value) (t:TypeId),w.heap[j]?=some (Obj.cells cs t (0,0))->w'.heap[j]?=some (Obj.cells cs t (0,0))):Gl w' pb b g so e cl d l c i k m f:=
 ⟨a _ _ _ h.row,h.sa.ba a,Sl.ba h.sp a,h.oa,h.op,h.ap⟩
theorem Gl.e{e:Nat}{j:Nat->Int}{cl:Bool}{c:Value}{f:LI}{n o:Int}{d:Value}{l:LB}(h:Gl w pb e m so j cl i c f n o d l)(a:Fr Z w w')(g:∀k,(k=pb\/Own c k\/Own d k)->¬Z k):Gl w' pb e m so j cl i c f n o d l:=
 ⟨h.row.e a Γ,h.sa.e a (λ_g b=>g _ (.inr (.inl b))),Sl.e h.sp a (λ_g b=>g _ (.inr (.inr b))),h.oa,h.op,h.ap⟩
theorem Gl.isCells{g:Nat->Int}{cl:Bool}{b:Value}{e:LI}{l m:Int}{c:Value}{i:LB}(h:Gl w pb d j so g cl f b e l m c i)(k:Nat)(a:k=pb\/Own b k\/Own c k):∃cs t,w.heap[k]?=some (Obj.cells cs t (0,0)):=by rcases a with rfl|a|a;exact⟨_,_,h.row⟩;exact h.sa.isCells a;exact Sl.isCells h.sp a
theorem Zip{a:Addr}(h:W.cell? a=some v):∃cs t z,W.heap[a.block]?=some (Obj.cells cs t z):=by unfold World.cell? at h;grind
end
section
open Go.RowKit Go.Shelf
attribute [local go_sem] Oper.semAt_some
def Pz(Q:Exit->Act->World->Prop):Exit->Act->World->Prop
 |.normal,a,w=>Q .normal a w
 |_,_,_=>False
theorem Rc:∀e a w,Pz Q e a w->Q e a w:=λe a w h=>by cases e<;>first|exact h|exact h.elim
theorem ON{a:Act}(h:Q .normal a w):Pz Q .normal a w:=h
theorem Gl.top{e:Nat}{d:Nat->Int}{cl:Bool}{g:Value}{k:LI}{p o:Int}{i:Value}{n:LB}(h:Gl w pb b e so d cl c g k p o i n)(a f:Int):Gl ((w.setCell (dQ pb 101) (dI a)).setCell (dQ pb 102) (.int .u64 f)) pb b e so d cl c g k a f i n:=by refine⟨?_,(h.sa.setCell (dQ pb 101) _ h.oa).setCell (dQ pb 102) _ h.oa,Sl.setCell (Sl.setCell h.sp (dQ pb 101) _ h.op) (dQ pb 102) _ h.op,h.oa,h.op,h.ap⟩;have l:=h.row.set 101 (dI a);rw[ZO (j:=3)]at l;have m:=Gb.set (show Gb _ pb 184 (KP b e so d cl c g a o i) from l) 102 (.int .u64 f);rw[ZO (j:=4)]at m;exact m
theorem Xz(p x:Nat)(a:p<65536):GK (D7 p x)=p:=by
 have:(Dg (D7 p x) 2).data.toList=DM p 2:=by unfold Dg;rw[if_pos (by rw[Pg];omega),BG];simp only[D7];simp[Js]
 unfold GK;rw[this,K8 2 p a]
theorem Zs2(p x:Nat)(b:x<18446744073709551616):GQ (D7 p x)=x:=by
 have:(Dg ((D7 p x).extract 2 (D7 p x).size) 8).data.toList=DM x 8:=by unfold Dg;rw[if_pos (by rw[Af,Pg];omega),BG,BG,Pg];simp only[D7];have a:(DM p 2++DM x 8).drop 2=DM x 8:=EO (Js 2 p);simp[a];rw[Ak (by rw[AP,Js];omega),Ak (by rw[Js];omega)]
 unfold GQ;rw[this,K8 8 x (by exact b)]
end
open Tryz
open Go.RowKit
theorem Vo{b:Nat->Option (Nat×Nat)}{a:Gf}{size:Nat}{c:List (Nat×Value)}(d:b i=some (off,size))(hs:v.cells.size=size)(aa:off+size<=a.length):
  Instr.fill b a.toArray ((i,v)::c)=Instr.fill b (Gq a off v.cells.toList).toArray c:=by
 rw[Instr.fill,d];simp only;rw[if_neg Ξ,Rn off v.cells a.toArray Ξ]
def Uq(a b:Value)(m t:Gf):Gf:=[a,b]++m++t
theorem Vw(a b:Value)(m t:Gf)(hm:m.length=96)(ht:t.length=6):(Uq a b m t).length=104:=by grind [Uq]
theorem Zs9(a b x:Value)(m t:Gf):Gq (Uq a b m t) 0 [x]=Uq x b m t:=by rfl
theorem Zs8(a b x:Value)(m t:Gf):Gq (Uq a b m t) 1 [x]=Uq a x m t:=by rfl
def NW:Gf:=[dV false,dI 0,dN,dI 0,.int .u64 0,dN]
theorem Zjl(a:List (Nat×Value)):prog.built 184 a=Instr.fill (#[(0,1),(1,1),(2,96),(98,1),(99,1),(100,3),(103,1)][·]?) (Uq (.pointer none) (.pointer none) (List.replicate 96 (dI 0)) NW).toArray a:=Φ
theorem ZrY(a c so:Nat)(e:Nat->Int)(cl:Bool)(d:Nat):prog.built 184 [(0,dP a),(1,.pointer (some (dQ c so))),(2,.agg (Hl e).toArray),(3,dV cl),(4,dI (d:Nat))]=some (KP a c so e cl d dN 0 0 dN).toArray:=by have b:(List.replicate 96 (Value.int .i64 0)).length=96:=BB;rw[Zjl,Vo (off:=0) (size:=1) rfl rfl (by rw[Vw _ _ _ _ b rfl];decide)];rw[show(Value.pointer _).cells.toList=[dP a] from rfl,Zs9];rw[Vo (off:=1) (size:=1) rfl rfl (by rw[Vw _ _ _ _ b rfl];decide)];rw[show(Value.pointer _).cells.toList=[.pointer (some (dQ c so))] from rfl,Zs8];rw[Vo (off:=2) (size:=96) rfl (by rfl) (by rw[Vw _ _ _ _ b rfl];decide)];rfl
theorem VY{P:Program}{o:Oper}{a:Act}(X:World)(t:TypeId)(c:Array (Nat×Operand))(ho:o.op=.build t c){vs:Array (Nat×Value)}(hv:(c.map λ(i,x)=>(i,a.eval x))=vs){b:Array Value}(hb:P.built t vs.toList=some b):(execOp a.eval o).run P X=.ok (.value (.agg b)) X:=by simp_all[execOp,run_build]
theorem ZqC{P:Program}{c:Array Oper}{o:Oper}{a:Act}{K:Act->World->Prop}{E:Prop}(aa:o.guard=none)(t:TypeId)(x:Operand)(ho:o.op=.box t x)(b:Gf)(e:a.eval x=.agg b.toArray)(h:K (a.put o.dst (dP w.heap.size)) (w.alloc (.cells b.toArray t))):if Region.wanted o (yielded c a.tmps)=true then Oper.wp P o a w K Q else E:=by
 have d:Region.wanted o (yielded c a.tmps)=true:=by grind [Region.wanted]
 rw[if_pos d];unfold Oper.wp execOp;simp only[ho,Instr.box,Cq,e];exact h
theorem Oh:D3 (Dl [(((De 3 0 0:Nat):Int),((16:Nat):Int))]) 96=1504:=by rfl
structure Id(w:World)(stb db:Nat)(vk:Value)(tp tx tn:Int)(vf vn vw ve:Value)(D:LY)(ps:LB)(es:List Int):Prop where
 row:Gb w stb 179 [dP db,vk,dI tp,.int .u64 tx,.int .u64 tn]
 a2:Jg w db vf vn vw ve D
 sw:Iq w vw ps
 se:Sl w 3 1 ve es.length (es.map (.int .i64))
 ne:stb≠db
 ns:¬Own vn stb/\¬Own vw stb/\¬Own ve stb
 nd:¬Own vn db/\¬Own vw db/\¬Own ve db
 d1:∀k,Own vn k->¬Own vw k
 d2:∀k,Own vn k->¬Own ve k
 d3:∀k,Own vw k->¬Own ve k
theorem Id.below{n:Value}{i j g:Int}{m vw l:Value}{D:LY}{e:LB}{d:List Int}(h:Id w f c n i j g m o vw l D e d)(a:Bw w w'):Id w' f c n i j g m o vw l D e d:=
 ⟨(a.block _ h.row.lt).M h.row,⟨(a.block _ h.a2.1.lt).M h.a2.1,⟨h.a2.2.1.1.kept (λk b _=>a.block k b),h.a2.2.1.2⟩,h.a2.2.2⟩,Sl.kept h.sw (λk b _=>a.block k b),h.se.kept (λk b _=>a.block k b),h.ne,h.ns,h.nd,h.d1,h.d2,h.d3⟩
theorem Id.c8{v:Int}{n f vw m:Value}{D:LY}{l:LB}{o:List Int}(h:Id w r c x u v t n f vw m D l o){e:Ending}(C:RG w c n f vw m D l p s e w'):
  ∃b,Id w' r c x u v t n f b m (D.set p s) (l++[(p,s)]) o/\Dm w vw b/\Fr (λk=>k=c\/Own f k\/Own vw k) w w':=by
 obtain⟨_,b,y,z,i,q⟩:=C;have d:∀k,k<w.heap.size->Own b k->Own vw k:=λk a e=>(q k e).elim id Ω;have B:=h.row.lt;have A:=h.a2.1.lt;refine⟨b,⟨h.row.e i (λe=>?_),y,z,h.se.e i (λg j e=>?_),h.ne,⟨h.ns.1,λe=>h.ns.2.1 (d _ B e),h.ns.2.2⟩,⟨h.nd.1,λe=>h.nd.2.1 (d _ A e),h.nd.2.2⟩,λk a e=>h.d1 k a (d k (h.a2.2.1.1.lt a) e),h.d2,λk a e=>h.d3 k (d k (h.se.lt e) a) e⟩,q,i⟩;rcases e with e|e|e;exact h.ne e;exact h.ns.1 e;exact h.ns.2.1 e;rcases e with e|e|e;subst e;exact h.nd.2.2 j;exact h.d2 _ e j;exact h.d3 _ e j
theorem Id.ef{s:Int}{n vw c:Value}{D:LY}{q:LB}{l:List Int}(h:Id w r f v t u s n o vw c D q l){m:Int}{e:Ending}(A:Vq w f n o vw c l m e w'):
  ∃d,Id w' r f v t u s n o vw d D q (l++[m])/\Dm w c d/\Fr (λk=>k=f\/Own c k) w w':=by
 obtain⟨_,d,x,h2,i,p⟩:=A;have j:∀k,k<w.heap.size->Own d k->Own c k:=λk a e=>(p k e).elim id Ω;have z:=h.row.lt;have y:=h.a2.1.lt;refine⟨d,⟨h.row.e i (λe=>?_),⟨x,⟨h.a2.2.1.1.e i (λg b e=>?_),h.a2.2.1.2⟩,h.a2.2.2⟩,Sl.e h.sw i (λg b e=>?_),Ξ,h.ne,⟨h.ns.1,h.ns.2.1,λe=>h.ns.2.2 (j _ z e)⟩,⟨h.nd.1,h.nd.2.1,λe=>h.nd.2.2 (j _ y e)⟩,h.d1,λk a e=>h.d2 k a (j k (h.a2.2.1.1.lt a) e),λk a e=>h.d3 k a (j k (Sl.lt h.sw a) e)⟩,p,i⟩;rcases e with e|e;exact h.ne e;exact h.ns.2.2 e;rcases e with e|e;subst e;exact h.nd.1 b;exact h.d2 _ b e;rcases e with e|e;subst e;exact h.nd.2.1 b;exact h.d3 _ b e
theorem Sl.len{e:TypeId}{a:OA}{d:Gf}(h:Sl w e b (dT a l c) n d):l=n:=by rcases h.2 with⟨e,rfl⟩|⟨g,aa,L,e,_⟩;simp_all;simp_all
theorem Zl:∀{ps:LB},(∀x∈ps,x.2.size=64)->∀(i j:Nat) (x:Nat×By),ps[i]?=some x->j<65->(Ur ps)[i*65+j]?=(Gz x.1 x.2)[j]?
 |[],_,i,j,s,hi,_=>by grind
 |x::D,h,0,j,s,hi,hj=>by simp_all[Ur,List.flatMap_cons,Nat.zero_mul,Nat.zero_add,List.getElem?_append_left,KD]
 |x::D,h,i+1,j,s,hi,hj=>by have h2:=h x BV;have:=Zl (λy a=>h y (AO _ a)) i j s (by simpa using hi) hj;unfold Ur at this ⊢;rw[A9,AJ (by rw[KD];omega),KD,<-this];congr 1;omega
theorem Iq.range{a:OA}{b:LB}(h:Iq w (dT a l c) b)(n:∀x∈b,x.2.size=64)(i:Nat)(x:Nat×By)(d:b[i]?=some x):∃g,a=some (dQ g 0)/\l=b.length/\w.rangeAt g (i*65) (Gz x.1 x.2):=by
 have ab:=(Ac.1 d).1;rcases h.2 with⟨e,h0⟩|⟨g,aa,L,e,k,h1,h2,h3,f⟩;omega;obtain⟨rfl,rfl,rfl⟩:=e;refine⟨g,rfl,rfl,λj v o=>?_⟩;have m:j<65:=by grind [List.getElem?_eq_some_iff,KD]
 have:=Zl n i j x d m;rw[o,<-f,AZ]at this;split at this;rw[k.J];omega;cases this
def Jd(D:LY)(qs:LB):LY:=qs.foldl (λD x=>D.set x.1 x.2) D
theorem VG(D:LY)(a:LB)(p:Nat)(s:By):Jd D (a++[(p,s)])=(Jd D a).set p s:=by simp[Jd]
theorem Id.head{s:Int}{q vw n:Value}{D:LY}{i:LB}{f:List Int}(h:Id w c d v t u s o q vw n D i f)(b:Fr (λk=>k=c) w w'){p:Value}{l m j:Int}(r:Gb w' c 179 [dP d,p,dI l,.int .u64 m,.int .u64 j]):Id w' c d p l m j o q vw n D i f:=
 ⟨r,⟨h.a2.1.e b (λe=>h.ne e.r),⟨h.a2.2.1.1.e b (λg a e=>h.ns.1 (by rw[<-e];exact a)),h.a2.2.1.2⟩,h.a2.2.2⟩,Sl.e h.sw b (λg a e=>h.ns.2.1 (by rw[<-e];exact a)),h.se.e b (λg a e=>h.ns.2.2 (by rw[<-e];exact a)),h.ne,h.ns,h.nd,h.d1,h.d2,h.d3⟩
def IL(w:World)(stb db:Nat)(vk:Value)(tp tx tn:Int)(vf vn vw ve:Value)(D:LY)(ps:LB)(es:List Int)(qs:LB)(wr:World):Prop:=
 ∃vw',Id wr stb db vk tp tx tn vf vn vw' ve (Jd D qs) (ps++qs) es/\Dm w vw vw'/\Fr (λk=>k=db\/Own vn k\/Own vw k) w wr
theorem IL.start{l:Value}{f i e:Int}{k m vw j:Value}{D:LY}{c:LB}{b:List Int}(h:Id w d a l f i e k m vw j D c b):IL w d a l f i e k m vw j D c b [] w:=
 ⟨vw,by rw[Ca];exact h,λg n => .inl n,Fr.refl _ _⟩
theorem Id.bu{m n l:Int}{d e vw c:Value}{D:LY}{b:LB}{f:List Int}(h:Id w k a o m n l d e vw c D b f)(g:b.length<=1000000000000)(p:Nat)(i:p<1536)(s:By)(j:s.size=64):Cl 159 #[dP a,IF p s] w (RG w a d e vw c D b p s):=
 Zgz w a d e vw c D b h.a2 h.sw h.nd.1 h.nd.2.1 h.d1 g p i s j
theorem IL.step{wr X:World}{z:Value}{v:Int}{y j vw:Value}{D:LY}{f:LB}{l:List Int}{i:LB}(h:IL w r c z u v t y j vw x D f l i wr)(d:Bw wr X)(hl:f.length+i.length<=1000000000000)(p:Nat)(C:p<1536)(s:By)(E:s.size=64):
  Cl 159 #[dP c,IF p s] X λe w'=>e=dR (.tuple #[])/\IL w r c z u v t y j vw x D f l (i++[(p,s)]) w'/\∀k,wr.heap.size<=k->k<X.heap.size->w'.heap[k]?=X.heap[k]? := by
 obtain⟨G,b,m,n⟩:=h;have aa:∀k,k=c\/Own j k\/Own G k->k<wr.heap.size:=λk a=>by rcases a with rfl|a|a;exact b.a2.1.lt;exact b.a2.2.1.1.lt a;exact Sl.lt b.sw a
 apply((b.below d).bu Ξ p C s E).Q;intro e w' o;obtain⟨H,q1,F,q⟩:=(b.below d).c8 o;refine⟨o.1,⟨H,by grind [VG,List.append_assoc],λg A=>?_,?_⟩,λk a B=>q.block k B Γ⟩;rcases F g A with e|e;exact m g e;exact .inr (by have:=n.size;have:=d.size;omega);refine(n.then (by grind [Fr.S,Own,vw]) (λ_ _ e=>e)).then q (λk a e=>?_);rcases e with e|e|e;omega;simp_all;exact(m k e).elim (λe => .inr (.inr e)) Ω
def Hn(stb db:Nat)(vn vw ve:Value)(k:Nat):Prop:=k=stb\/k=db\/Own vn k\/Own vw k\/Own ve k
def ZB(w:World)(stb db T:Nat)(vf vn vw ve:Value)(D:LY)(ps:LB)(es:List Int)(va:Value)(eP:LI)(tp tx:Nat)(qs:LB)(e:Ending)(w':World):Prop:=
 e=dR (.tuple #[])/\∃vw' ve',Id w' stb db va (tp:Nat) (tx:Nat) ((T:Nat):Int) vf vn vw' ve' ((Jd D qs).set (T%2) (Ha T tp tx)) (ps++qs++[(T%2,Ha T tp tx)]) (es++[((ps.length+qs.length:Nat):Int)]++[((ps.length+qs.length+1:Nat):Int)])/\Dm w vw vw'/\Dm w ve ve'/\Fr (Hn stb db vn vw ve) w w'/\Sl w' 350 2 va eP.length (DH eP)/\∀k,Own va k->¬Hn stb db vn vw' ve' k
theorem Wd{c:World}{a b:Value}(d:Dm w v a)(e:Dm c a b)(hs:w.heap.size<=c.heap.size):Dm w v b:=λg f=>(e g f).elim (d g) Ω
theorem TQ(t p x:Int):prog.built 191 [(0,.int .u64 t),(1,.agg #[dI p,.int .u64 x])]=some #[.int .u64 t,dI p,.int .u64 x]:=Φ
theorem ZnP(w:World)(a b pb:Nat)(P:Value)(L M:Int)(J:Nat)(t l vw m:Value)(D:LY)(n:LB)(r:List Int)(h:Id w a b P L M (J:Nat) t l vw m D n r)(d1 sb so:Nat)(nd:Nat->Int)(cl:Bool)(hd:Nat)(va:Value)(eP:LI)(d f:Nat)(vp:Value)(c:LB)(o:Gl w pb d1 sb so nd cl hd va eP (d:Nat) (f:Nat) vp c)(hq:∀x∈c,x.1<1536/\x.2.size=64)(aO:0<c.length)(hl:n.length+c.length<=999999999999)(bd:r.length<=999999999998)(T:Nat)(hT:J+1=T)(aR:T<18446744073709551616)(aS:d<65536)(aT:f<18446744073709551616)(A:∀k,k=pb\/Own vp k\/Own va k->¬Hn a b l vw m k):
  Cl 133 #[dP a,dP pb] w (ZB w a b T t l vw m D n r va eP d f c):=by
 obtain⟨N,hN⟩:=ex c.length;have al:∀x∈c,x.2.size=64:=λx hx=>(hq x hx).2;obtain⟨ap,y,cp,rfl⟩:=Sl.a0 o.sp;obtain⟨aa,la,ca,rfl⟩:=o.sa.a0;obtain⟨x0,aV⟩:∃x,c[0]?=some x:=⟨_,Ab aO⟩;obtain⟨g,rfl,aI,-⟩:=Iq.range o.sp al 0 x0 aV;rw[<-hN]at aI;subst aI;have bp:=o.cells.2.2.2.2.2.2;have bu:=o.row.lt;have bw:=h.row.lt;have bg:¬a=pb:=λe=>A pb (.inl rfl) (.inl e.r);have aZ:=Db (IL.start h);have ay:Hid (∀k,k<y->∀wr,IL w a b P L M (J) t l vw m D n r (c.take k) wr->∃p s,s.size=64/\wr.rangeAt g (k*65) (Gz p s)/\∃W q,wr.alloc (.cells (Gz 0 (Dj 64)).toArray 207)=W/\Gb W wr.heap.size 207 (Gz 0 (Dj 64))/\W.setRow wr.heap.size (Gz p s).toArray=q/\q.cell? (dQ a 0)=some (dP b)/\q.rangeAt wr.heap.size 0 (Gz p s)/\Hid (Cl 159 #[dP b,IF p s] q.drew λe w'=>e=dR (.tuple #[])/\w'.cell? (dQ a 0)=some (dP b)/\w'.rangeAt wr.heap.size 0 (Gz p s)/\Hid (IL w a b P L M (J) t l vw m D n r (c.take (k+1)) w'))):=λk u wr F=>by
  obtain⟨⟨p,s⟩,hx⟩:∃x,c[k]?=some x:=⟨_,Ab Ω⟩;have an:=hq _ (Ai hx);have a6:=F;obtain⟨E,z,q2,q3⟩:=a6;have a7:Iq wr (dS g y cp) c:=Sl.e o.sp q3 (λk u e=>A k (.inr (.inl u)) (by rcases e with e|e|e;exact .inr (.inl e);exact .inr (.inr (.inl e));exact .inr (.inr (.inr (.inl e)))));obtain⟨g',bc,-,ae⟩:=Iq.range a7 al k _ hx;cases bc;obtain⟨W,Q,xW,kW,sW,bW⟩:=Df wr (Gz 0 (Dj 64)) 207;obtain⟨q,U⟩:∃X,W.setRow wr.heap.size (Gz p s).toArray=X:=⟨_,rfl⟩;have am:Gb q wr.heap.size 207 (Gz p s):=by rw[<-U];exact Bo W _ _ _ 207 _ xW
  have ab:Bw wr q:=by rw[<-U];exact bW.M ⟨rfl,rfl,rfl,Θ,λj hj=>Bc W _ j _ Ω⟩
  have a8:Bw wr q.drew:=⟨ab.os,ab.tape,ab.output,ab.size,ab.block⟩;have H:Gb q a 179 _:=(ab.block _ z.row.lt).M z.row;refine⟨p,s,an.2,ae,W,q,Q,xW,U,(H.J 0).M rfl,λj v hv=>by rw[am.J,Av];exact hv,?_⟩;apply(F.step a8 (by rw[AP];omega) p an.1 s an.2).Q;rintro e w'⟨rfl,I,r2⟩;have bi:Gb w' wr.heap.size 207 (Gz p s):=(r2 _ (Aa _) am.lt).M am;have e1:c.take (k+1)=c.take k++[(p,s)]:=by rw[Br,hx];rfl
  rw[<-e1]at I;obtain⟨bk,t1,-⟩:=id I;exact⟨rfl,(t1.row.J 0).M rfl,λj v hv=>by rw[bi.J,Av];exact hv,I⟩
 have ax:Hid (∀wr,IL w a b P L M (J) t l vw m D n r c wr->wr.cell? (dQ a 0)=some (dP b)/\Hid (Cl 200 #[dP b] wr λe w'=>e=dR (.tuple #[])/\w'.cell? (dQ pb 103)=some (dS g y cp)/\w'.cell? (dQ a 4)=some (.int .u64 (J))/\w'.frozen? (dQ a 4)=false/\∃W,w'.setCell (dQ a 4) (.int .u64 ((T:Nat)))=W/\
   W.cell? (dQ a 0)=some (dP b)/\W.cell? (dQ a 4)=some (.int .u64 ((T:Nat)))/\W.cell? (dQ pb 101)=some (dI (d))/\W.cell? (dQ pb 102)=some (.int .u64 (f))/\
   Hid (∃E C,Id W a b P L M ((T:Nat)) t l E C (Jd D c) (n++c) (r++[((n.length+c.length):Int)])/\Dm w vw E/\Dm w m C/\Fr (Hn a b l vw m) w W))):=λwr F=>by
  obtain⟨E,z,q2,q3⟩:=F;obtain⟨av,lv,cv,rfl⟩:=Sl.a0 z.sw;have ai:=Sl.len z.sw;refine⟨(z.row.J 0).M rfl,?_⟩;apply(VZ wr b t l m av lv cv z.a2.1 r z.se z.nd.2.2 Ω).Q;intro e w' hw;obtain⟨C,I,r2,r3⟩:=z.ef hw;have aj:lv=n.length+c.length:=by rw[ai,Ah]
  subst aj;have bh:=q3.size;have aE:=(q3.Q (Y:=Hn a b l vw m) (λk _ e=>by rcases e with e|e|e;exact .inr (.inl e);exact .inr (.inr (.inl e));exact .inr (.inr (.inr (.inl e))))).then r3 (λk _ e=>by rcases e with e|e;exact .inr (.inl e);exact .inr (.inr (.inr (.inr e))));have aJ:=o.row.e aE (A pb (.inl rfl));have H:=I.row.set 4 (.int .u64 ((T:Nat):Int));have ac:Fr (λk=>k=a) w' (w'.setCell (dQ a 4) (.int .u64 ((T:Nat)))):=(Fr.refl _ _).set _ _ rfl;have aK:=aJ.e ac (λe=>bg e.r);have r4:=I.head ac H;refine⟨hw.1,(aJ.J 103).M (JR _ _ _ _ _ _ _ _ _ _ 5),(I.row.J 4).M rfl,I.row.A 4,_,rfl,(H.J 0).M rfl,(H.J 4).M rfl,(aK.J 101).M (JR _ _ _ _ _ _ _ _ _ _ 3),(aK.J 102).M (JR _ _ _ _ _ _ _ _ _ _ 4),_,C,r4,q2,Wd (λg hg => .inl hg) r2 bh,aE.then ac (λk _ e => .inl e)⟩
 obtain⟨VK,ag⟩:=ex (IF (T%2) (Ha T d f));have aw:Hid (∀W,W.cell? (dQ a 0)=some (dP b)/\W.cell? (dQ a 4)=some (.int .u64 ((T:Nat)))/\W.cell? (dQ pb 101)=some (dI (d))/\W.cell? (dQ pb 102)=some (.int .u64 (f))->Hid (∃E C,Id W a b P L M ((T:Nat)) t l E C (Jd D c) (n++c) (r++[((n.length+c.length):Int)])/\Dm w vw E/\Dm w m C/\Fr (Hn a b l vw m) w W)->
   Cl 160 #[.agg #[.int .u64 ((T:Nat)),dI (d),.int .u64 (f)]] W.drew λe X=>e=dR VK/\(X.cell? (dQ a 0)=some (dP b)/\X.cell? (dQ a 4)=some (.int .u64 ((T:Nat)))/\X.cell? (dQ pb 101)=some (dI (d))/\X.cell? (dQ pb 102)=some (.int .u64 (f)))/\
    Hid (Cl 159 #[dP b,VK] X λe Y=>e=dR (.tuple #[])/\(Y.cell? (dQ a 0)=some (dP b)/\Y.cell? (dQ a 4)=some (.int .u64 ((T:Nat)))/\Y.cell? (dQ pb 101)=some (dI (d))/\Y.cell? (dQ pb 102)=some (.int .u64 (f)))/\
     Hid (Cl 200 #[dP b] Y λe Z=>e=dR (.tuple #[])/\Gb Z a 179 [dP b,P,dI L,.int .u64 M,.int .u64 ((T:Nat))]/\Z.cell? (dQ pb 100)=some (dT aa la ca)/\Z.cell? (dQ pb 101)=some (dI (d))/\Z.cell? (dQ pb 102)=some (.int .u64 (f))/\
      Hid (ZB w a b T t l vw m D n r (dT aa la ca) eP d f c (dR (.tuple #[])) (((Z.setCell (dQ a 1) (dT aa la ca)).setCell (dQ a 2) (dI (d))).setCell (dQ a 3) (.int .u64 (f))))))):=λW hc hh=>by
  obtain⟨E,C,s1,s2,s3,s4⟩:=Da hh;have ba:=OQ T d f;apply(VC _ T d f aR aS aT).Q;rintro e X⟨rfl,R⟩;have ad:Bw W X:=⟨R.os,R.tape,R.output,R.size,R.block⟩;have aL:=o.row.e s4 (A pb (.inl rfl));have bv:=s4.size;have bm:=ad.size;have af:=s1.below ad;have aM:Gb X pb 184 _:=(ad.block _ aL.lt).M aL;refine⟨by rw[ag],⟨(af.row.J 0).M rfl,(af.row.J 4).M rfl,(aM.J 101).M (JR _ _ _ _ _ _ _ _ _ _ 3),(aM.J 102).M (JR _ _ _ _ _ _ _ _ _ _ 4)⟩,?_⟩;rw[ag];apply(af.bu (by rw[Ah];omega) _ Ω _ ba).Q;intro e Y hw;obtain⟨bk,O,u2,u3⟩:=af.c8 hw;have be:∀k,k<w.heap.size->(k=b\/Own l k\/Own E k)->Hn a b l vw m k:=λk u e=>by rcases e with e|e|e;exact .inr (.inl e);exact .inr (.inr (.inl e));exact(s2 k e).elim (λe => .inr (.inr (.inr (.inl e)))) (λe=>Ω)
  have bb:=s4.then (Fr.S (X:=λ_=>False) ad) (λ_ _ e=>e.elim);have aF:=bb.then u3 be;have aN:=o.row.e aF (A pb (.inl rfl));have bn:=u3.size;refine⟨hw.1,⟨(O.row.J 0).M rfl,(O.row.J 4).M rfl,(aN.J 101).M (JR _ _ _ _ _ _ _ _ _ _ 3),(aN.J 102).M (JR _ _ _ _ _ _ _ _ _ _ 4)⟩,?_⟩;obtain⟨av,lv,cv,rfl⟩:=Sl.a0 O.sw;have ai:=Sl.len O.sw;have aj:lv=n.length+c.length+1:=by rw[ai,Ah,Ah];rfl
  subst aj;apply(VZ Y b t l C av _ cv O.a2.1 _ O.se O.nd.2.2 (by rw[Ah];simp;omega)).Q;intro e Z hz;obtain⟨bj,v1,v2,v3⟩:=O.ef hz;have aG:=aF.then v3 (λk u e=>by rcases e with e|e;exact .inr (.inl e);exact(s3 k e).elim (λe => .inr (.inr (.inr (.inr e)))) (λe=>Ω));have ak:=o.row.e aG (A pb (.inl rfl));have ac:=(((Fr.refl (λk=>k=a) Z).set (dQ a 1) (dT aa la ca) rfl).set (dQ a 2) (dI (d)) rfl).set (dQ a 3) (.int .u64 (f)) rfl;have B:=((v1.row.set 1 (dT aa la ca)).set 2 (dI (d:Nat))).set 3 (.int .u64 (f:Nat));have aH:=aG.then ac (λk _ e => .inl e);have n1:=Wd s2 u2 Ω;have n2:=Wd s3 v2 Ω;refine⟨hz.1,v1.row,(ak.J 100).M (JR _ _ _ _ _ _ _ _ _ _ 2),(ak.J 101).M (JR _ _ _ _ _ _ _ _ _ _ 3),(ak.J 102).M (JR _ _ _ _ _ _ _ _ _ _ 4),rfl,_,bj,v1.head ac B,n1,n2,aH,o.sa.e aH (λk u=>A k (.inr (.inr u))),λk u e=>?_⟩;have br:=o.sa.lt u;refine A k (.inr (.inr u)) ?_;rcases e with e|e|e|e|e;exact .inl e;exact .inr (.inl e);exact .inr (.inr (.inl e));exact(n1 k e).elim (λe => .inr (.inr (.inr (.inl e)))) (λe=>Ω);exact(n2 k e).elim (λe => .inr (.inr (.inr (.inr e)))) (λe=>Ω)
 have a1:=Db hN;have bx:IntKind.u64.wrap ((J)+1)=((T:Nat)):=by simp[IntKind.wrap,IntKind.bits,IntKind.signed];omega
 have bs:¬(y)=0:=Ω;have bt:y<=999999999999:=Ω;obtain⟨dd,aU,aP⟩:=P3;have aX:=Db (TQ ((T:Nat):Int) (d:Nat) (f));clear hT h o hq al aO hl bd aR aS aT A aV ag hN;go_enter func133,ntmps133;go_wp2
 go_loopw [11] (λi wr=>∃k:Nat,k<=y/\i=dI k/\Hid (IL w a b P L M (J) t l vw m D n r (c.take k) wr)) (λi _=>y-(intOf i).toNat)
 case atStart=>exact⟨0,Ao _,rfl,by rw[Cy];exact Da aZ⟩
 case round=>
  obtain⟨k,u,rfl,HI⟩:=hrel;by_cases bf:k<y
  .obtain⟨p,s,aQ,ae,W,q,Q,aW,U,a9,H,az⟩:=Da ay k bf wr (Da HI);have HR:=Db ae;have HW:=Db Q;have HX:=Db aW;have a3:=Db U;have aB:(Gz p s).length=65:=(by rw[KD,aQ]);have HL:=Db aB;have bq:(k)<(y):=Ω;obtain⟨VP,ah⟩:=ex (IF p s);have a2:=Db ah;have aY:=Db H;rw[<-ah]at az;clear ae Q aW U aB ah aQ H;go_upto_region 3 with(first|(refine C4 rfl 207 _ rfl g (k*65) rfl (Gz p s) _ (Da HR) aU aP (by rw[Q5,Da HL]) ?_)|(refine JG rfl 207 rfl Re ?_;rw[Da HW])|(refine Bh rfl 207 _ _ rfl wr.heap.size (Gz p s).toArray rfl rfl 207 _ (Da HX) (by rw[Q5];simp[Da HL]) (by simp[Da HL,KD,JA]) (CH (Rh _ _)) ?_;rw[Da a3]));refine Az (S:=λX=>X.cell? _=some _/\X.rangeAt _ 0 _) Φ ⟨a9,Da aY⟩ (λaA=>?_);refine tk 0 ?_;refine tk 1 ?_;refine tk 2 ?_;refine tk 3 ?_;refine A4 (i:=4) (v:=VP) rfl Φ Φ Φ (λ_ _ _ h=>h) (by rw[Da a2];exact CW (by rfl) 207 _ rfl _ 0 rfl _ _ (λX R=>R.2) aU aP (by rw[Q5,Da HL])) Ψ ?_;try simp only[pE]
   refine rk 5 (λK G=>?_);go_simp;go_at_call 159;apply(Da az).Q;rintro e w'⟨rfl,c3,r3,a0⟩;go_wp2_with fail;refine G.out _ _ ⟨c3,r3⟩ (λbl=>?_);clear G K;try simp only[pE]
   refine AL Φ ?_ _;go_wp2
   go_roundw
   case rel=>exact⟨k+1,Ω,by go_num,a0⟩
   case measure=>simp[intOf];omega
  .obtain rfl:k=y:=Ω;have F:=Da HI;rw[Ak (CV (Da a1).r)]at F;obtain⟨bo,HF⟩:=Da ax wr F;clear F HI ax ay;go_upto_region 8 with(go_at_call 200;apply(Da HF).Q;rintro e w3⟨rfl,m1,m2,m3,W,Q,m4,m5,m6,m7,HS⟩;have HW:=Db Q;clear Q HF);rw[Da HW];clear HW m1 m2 m3;have ao:=Da aw W ⟨m4,m5,m6,m7⟩ HS;have aq:=Db ao;clear ao aw HS;refine Az (S:=λX=>X.cell? _=some _/\X.cell? _=some _/\X.cell? _=some _/\X.cell? _=some _) Φ ⟨m4,m5,m6,m7⟩ (λaA=>?_);refine tk 0 ?_;refine tk 1 ?_;refine tk 2 ?_;refine tk 3 ?_;refine tk 4 ?_;refine tk 5 ?_;refine tk 6 ?_;refine tk 7 ?_;refine tk 8 ?_;refine tk 9 ?_;refine tk 10 ?_;refine tk 11 ?_;refine tk 12 ?_;refine A4 (i:=13) rfl Φ Φ Φ (λ_ _ _ h=>h) (Or.inl ⟨by rfl,λV _=>VY V 191 _ rfl (by simp[Act.eval]) (Da aX)⟩) Ψ ?_;try simp only[pE]
   refine rk 14 (λK G=>?_);go_simp;go_at_call 160;apply(Da aq).Q;rintro e X⟨rfl,aC,ar⟩;go_wp2_with fail;refine G.out _ _ aC (λa4=>?_);clear G K;try simp only[pE]
   refine rk 15 (λK G=>?_);go_simp;go_at_call 159;apply(Da ar).Q;rintro e Y⟨rfl,aD,au⟩;go_wp2_with fail;refine G.out _ _ aD (λa5=>?_);clear G K;try simp only[pE]
   refine AL Φ ?_ _;obtain⟨y0,y1,y2,y3⟩:=aD;clear aq ar a4 a5 aA aC m4 m5 m6 m7;go_wp2_with(go_at_call 200;apply(Da au).Q;rintro e Z⟨rfl,B,z0,z1,z2,HP⟩;have b1:=B.J 1;have b2:=B.J 2;have b3:=B.J 3;have g1:=B.A 1;have g2:=B.A 2;have g3:=B.A 3;clear B au y0 y1 y2 y3)
   go_end0
   exact Da HP
theorem VX{P:Program}{o:Oper}{a:Act}(X:World)(b:BinOp)(t:TypeId)(x y:Operand)(ty:TypeId)(ho:o.op=.binOp b t x y ty)(u v:Value)(hx:a.eval x=u)(hy:a.eval y=v)(hg:(eqGuard b t x y u v).run P X=.ok () X){r:Value}(hr:(binOp b t u v).run P X=.ok r X):(execOp a.eval o).run P X=.ok (.value r) X:=by simp_all[execOp,Sem.run_bind,Result.andThen_ok]
theorem P2:prog.underlying 188=some (.array 64 5):=Φ
theorem RJ(s:By):DC s=.agg (s.data.toList.map Extern.Stop.cell).toArray:=rfl
theorem ZrG(w:World)(a b:By)(ha:a.size=64)(hb:b.size=64):(Op.equalIn 10000 188 (DC a) (DC b)).run prog w=.ok (decide (a=b)) w:=by rw[RJ,RJ,run_equalIn_bytes w 9998 188 5 64 P2 underlying5 (λw=>Φ) a.data.toList b.data.toList Ξ Ξ];congr 1;grind [WideShapes.bytes_inj]
theorem MU(w:World)(a b:By)(c:a.size=64)(d:b.size=64):(binOp .neq 188 (DC a) (DC b)).run prog w=.ok (dV (!decide (a=b))) w:=by have:=run_neq_struct (P:=prog) w 188 (Dd a).toArray (Dd b).toArray;have e:=ZrG w a b c d;simp_all[DC]
theorem GM.same{c:LI}(h:GM c){k a b:Int}(g:(k,a)∈c)(l:(k,b)∈c):a=b:=by obtain⟨i,e⟩:=BO.1 g;obtain⟨j,f⟩:=BO.1 l;rcases CY i j with d|rfl|d;have:=h i j _ _ d e f;grind [Hf];simp_all;have:=h j i _ _ d f e;grind [Hf]
def TO(w:World)(pb db sb so:Nat)(nd:Nat->Int)(cl:Bool)(hd:Nat)(va:Value)(es:LI)(tp tx:Int)(vp:Value)(ps:LB)(r:Nat)(s:By)(q:Nat)(e:Ending)(w':World):Prop:=
 e=dR (.agg #[dI (q:Nat),.int .u64 (Dr s:Nat)])/\∃va' es',Gl w' pb db sb so nd cl hd va' es' tp tx vp ps/\GM es'/\es'.length=es.length+1/\(∀x,x∈es'↔x=((r:Int),(q:Int))\/x∈es)/\Fr (λk=>k=pb\/Own va k) w w'/\Dm w va va'
theorem Zs5(w:World)(pb o z so:Nat)(f:Nat->Int)(cl:Bool)(hd:Nat)(A:Value)(H:LI)(tp tx:Int)(vp:Value)(O:LB)(h:Gl w pb o z so f cl hd A H tp tx vp O)(vb:Value)(eb:LI)(aI:w.cell? (dQ z so)=some vb)(aT:Sl w 350 2 vb eb.length (DH eb))(a6:eb.length<=10000)(aP:GM eb)(r:Nat)(vf:Value)(an:OA)(ln cn:Nat)(vw ve:Value)(D:LY)(hD:Jg w o vf (dT an ln cn) vw ve D)(s:By)(hs:s.size=64)(bt:Nat)(a3:bt<1536)(a2:w.cell? (dQ z (so+1))=some (dI (bt:Nat)))(hh:hd<=1536)(hz:∃k,k<96/\f ((hd/16+k)%96)<=0)(hl:O.length<=1000000)(aO:GM H)(aJ:H.length<=10000)(aN:∀x∈H,x.1≠r)(Q:Ending->World->Prop)(bs:((∀x∈eb,x.1≠r)/\∀e w',OM w pb o z so f cl A H tp tx vp O r s (D5 f 96 hd%1536) e w'->Q e w')\/∃(q:Nat) (s0:By),((r:Int),(q:Int))∈eb/\q<1536/\D[q]?=some s0/\
   ((s0≠s/\∀e w',OM w pb o z so f cl A H tp tx vp O r s (D5 f 96 hd%1536) e w'->Q e w')\/s0=s/\(cl=true->(q/16≠bt/16/\f (q/16)<=8)->∀e w',OM w pb o z so f cl A H tp tx vp O r s (D5 f 96 hd%1536) e w'->Q e w')/\((cl=true->¬(q/16≠bt/16/\f (q/16)<=8))->∀e w',TO w pb o z so f cl hd A H tp tx vp O r s q e w'->Q e w'))):
  Cl 272 #[dP pb,.int .u64 r,DC s] w Q:=by
 obtain⟨d,aW,bb,bn,a8,aZ⟩:=Df w (Dd s) 188;obtain⟨t,aX,aE,a5,a9,a0⟩:=Df d [dI 0,.int .u64 0] 175;have I:=aZ.M (a0.Q Ω);have bS:=h.row.lt;have aQ:=Ag _ _ aI;obtain⟨p,hp⟩:=ex (D5 f 96 hd%1536);rw[<-hp]at bs;have bR:p<1536:=Ω;have aj:=a5 _ _ _ bb;obtain⟨P,U,R,rfl⟩:=Sl.a0 h.sp;have aK:=SH t z so vb eb r ((I.J aQ).M aI) (aT.kept (λk l _=>I.block k l)) a6 aP;have HN:Hid (∀X,Bw w X->Gb X w.heap.size 188 (Dd s)->Gb X d.heap.size 175 [dI 0,.int .u64 0]->Cl 302 #[dP pb] X λe Y=>e=dR (dI p)/\Y.rangeAt w.heap.size 0 (Dd s)/\Y.cell? (dQ pb 103)=some (dT P U R)/\Hid (Gl Y pb o z so f cl (p+1) A H tp tx (dT P U R) O/\Fr (λk=>k=pb) w Y/\Gb Y w.heap.size 188 (Dd s)/\Gb Y d.heap.size 175 [dI 0,.int .u64 0])):=λX n q1 q2=>by have T:=h.below n;obtain⟨c0,c1,c2,c3,c4,c5,c6⟩:=T.cells;apply(ZoL X pb _ T.row f hd hh c2 c4 (T.row.A 99) hz).Q;rintro e Y⟨p',bQ,r0,rfl,r1,r2,r3⟩;have e':p'=p:=Ω;subst e';have q3:=q1.e r2 Ω;have bB:=T.next p' r0 r2;refine⟨rfl,λj v hv=>by rw[q3.J,Av];omega,Γ,bB,(Fr.S n).then r2 Ω,q3,q2.e r2 Ω⟩
 have HA:Hid (∀Y,Hid (Gl Y pb o z so f cl (p+1) A H tp tx (dT P U R) O/\Fr (λk=>k=pb) w Y/\Gb Y w.heap.size 188 (Dd s)/\Gb Y d.heap.size 175 [dI 0,.int .u64 0])->∃Z,Y.drew.alloc (.cells (Gz p s).toArray 207)=Z/\Z.rangeAt w.heap.size 0 (Dd s)/\Z.cell? (dQ pb 103)=some (dT P U R)/\∃F J G C,(Builtin.append_ #[182,182] 182 #[dT P U R,dS Y.heap.size 1 1]).run prog Z=.ok (dT F J G) C/\C.rangeAt w.heap.size 0 (Dd s)/\C.cell? (dQ pb 103)=some (dT P U R)/\C.frozen? (dQ pb 103)=false/\(C.setCell (dQ pb 103) (dT F J G)).rangeAt w.heap.size 0 (Dd s)/\
   Hid (Cl 243 #[.pointer (some (dQ pb 100)),.int .u64 r,dI p] (C.setCell (dQ pb 103) (dT F J G)) λe m=>e=dR (.tuple #[])/\Gb m w.heap.size 188 (Dd s)/\Gb m d.heap.size 175 [dI 0,.int .u64 0]/\Hid (∀w7,Fr (λk=>k=d.heap.size) m w7->OM w pb o z so f cl A H tp tx (dT P U R) O r s p (dR (.agg #[dI (p),.int .u64 (Dr s)])) w7))):=λY hY=>by
  obtain⟨T,hF,q1,q2⟩:=Da hY;obtain⟨Z,hZ,bK,bP,bT,bC⟩:=Df Y.drew (Gz p s) 207;have aC:=((Ad Y.heap.size Y).drew).M bC;have aB:=T.below aC;have bO:=hF.size;have z1:Gb Z w.heap.size 188 (Dd s):=(aC.block _ q1.lt).M q1;have z2:Gb Z d.heap.size 175 [dI 0,.int .u64 0]:=(aC.block _ q2.lt).M q2;obtain⟨v',C,r1,F,J,G,rfl,r2,r3,r4⟩:=SM Z _ O aB.sp _ p s hs bK hl;have bE:∀k,Own (dT P U R) k->k<w.heap.size:=λk l=>Sl.lt h.sp l;have y1:=z1.e r3 Γ;have y2:=z2.e r3 Γ;have y3:=aB.row.e r3 aB.op;have aa:=aB.h7 r2 r3 r4;have aL:w.heap.size≠pb:=Ω;have aM:d.heap.size≠pb:=Ω;have bU:Z.heap.size<=C.heap.size:=r3.size;have x1:Gb (C.setCell (dQ pb 103) (dT F J G)) w.heap.size 188 (Dd s):=(Aw _ _ _ _ aL).M y1;have x2:Gb (C.setCell (dQ pb 103) (dT F J G)) d.heap.size 175 [dI 0,.int .u64 0]:=(Aw _ _ _ _ aM).M y2;refine⟨Z,hZ,λj v hv=>by rw[z1.J,Av];omega,aB.cells.2.2.2.2.2.2,F,J,G,C,r1,λj v hv=>by rw[y1.J,Av];omega,(y3.J 103).M (by grind [JR]),y3.A 103,λj v hv=>by rw[x1.J,Av];omega,?_⟩;have bV:(C.setCell (dQ pb 103) (dT F J G)).heap.size=C.heap.size:=Ξ;have ah:Fr (λk=>k=pb\/Own A k\/Own (dT P U R) k) w (C.setCell (dQ pb 103) (dT F J G)):=by refine Fr.set ?_ _ _ (.inl rfl);refine Fr.then (Fr.then ⟨hF.os,hF.tape,hF.output,hF.size,λk l n=>hF.block k l Ω⟩ (Fr.S aC (X:=λ_=>False)) (λ_ _ h=>h.elim)) r3 Γ
  apply(TM _ pb 100 A H r p aa.cells.2.2.2.2.2.1 (aa.row.A 100) aa.oa aa.sa aJ aO aN).Q;rintro e m⟨rfl,aF,az,m1,m2,m3,m4,m5,m6,E⟩;have ba:∀k,Own A k->k<w.heap.size:=λk l=>h.sa.lt l;have ak:∀k,k≠pb->¬Own A k->k<(C.setCell (dQ pb 103) (dT F J G)).heap.size->m.heap[k]?=(C.setCell (dQ pb 103) (dT F J G)).heap[k]? := λk h1 h2 h3=>E.block k h3 h1 h2;refine⟨rfl,(ak _ aL Γ x1.lt).M x1,(ak _ aM Γ x2.lt).M x2,λw7 h7=>?_⟩;have M:=aa.put m2 m6 E;have aS:Gl w7 pb o z so f cl (p+1) aF az tp tx (dT F J G) (O++[(p,s)]):=by have bI:=E.size;have bo:∀v,(∀g,Own v g->g≠d.heap.size)->∀g,Own v g->¬(λk=>k=d.heap.size) g:=Γ;refine⟨M.row.e h7 Ω,M.sa.e h7 (bo _ (λg N e=>?_)),Sl.e M.sp h7 (bo _ (λg N e=>?_)),M.oa,M.op,M.ap⟩;rcases m6 g N with W|W;have:=ba g W;omega;have:=x2.lt;omega;rcases r4 g N with W|W;have:=bE g W;omega;have:=z2.lt;omega
  refine⟨rfl,aF,az,dT F J G,aS,m3,m4,m5,?_,λg N=>(m6 g N).imp id (λW=>by have:=ah.size;omega),λg N=>(r4 g N).imp id (λW=>by have:=aC.size;omega)⟩;refine Fr.then ⟨E.os.M ah.os,E.tape.M ah.tape,E.output.M ah.output,Ae ah.size E.size,λk l n=>?_⟩ h7 Ω;have aY:k≠pb/\¬Own A k:=Γ;rw[ak k aY.1 aY.2 (As l ah.size)];exact ah.block k l n
 have a1:(Dd s).length=64:=by rw[Dh,hs]
 have bc:=Db a1;have bu:=Db (TR p s hs);have ap:=Db aE;have am:=Db aj;have al:=Db I;have bN:=(h.below I).cells.2.1;have bh:=Db aW;have bi:=Db aX;have bL:=Db (a8);have bM:=Db (a9);rcases bs with⟨bD,ae⟩|⟨q,s0,hq,bG,a7,br⟩;have HG:Hid (Cl 300 #[.pointer (some (dQ z so)),.int .u64 r] t λe X=>e=dR (.tuple #[dI 0,dV false])/\Bw t X):=aK.Q λe X ⟨v,b,he,hF,hB⟩=>by rcases hF with⟨_,hm⟩|⟨rfl,rfl,_⟩;grind;simp_all
 have HQ:=Db ae;clear h aI aT a6 aP aO aJ aN hh hz bb bn a8 aZ aE a5 a9 a0 I aj a1 aW aX hp aQ hD aK a2 a3 bD ae;go_enter func272,ntmps272;go_upto_region 0 with fail;refine A7 ?_;refine Wp rfl 188 _ rfl (Dd s) rfl ?_;rw[Da bh];try simp only[pE]
 go_upto_region 1 with fail;rw[Da bi];go_upto_region 2 with(go_at_call 300;apply(Da HG).Q;rintro e X⟨rfl,aA⟩;have av:=Db aA;clear aA)
 go_quiet (fail)
 have af:Bw w (X.drewN nq):=by have h1:=(Da al).M ((Da av).Q (Da al).size);exact⟨h1.os,h1.tape,h1.output,h1.size,h1.block⟩
 have aR:=Db (Da HN _ af (((Da av).block _ (Da am).lt).M (Da am)) (((Da av).block _ (Da ap).lt).M (Da ap)));clear af HN HG
 rotate_left
 have HG:Hid (Cl 300 #[.pointer (some (dQ z so)),.int .u64 r] t λe X=>e=dR (.tuple #[dI (q),dV true])/\Bw t X):=aK.Q λe X ⟨v,b,he,hF,hB⟩=>by rcases hF with⟨rfl,hm⟩|⟨_,_,hm⟩;rw[aP.same hm hq]at he;simp_all;grind
 obtain⟨V0,aU⟩:=ex (DC s0);obtain⟨VB,aV⟩:=ex (DC s);have bH:=hD.2.1.2 s0 (Ai a7);have ao:Hid (∀V x y,(eqGuard .neq 188 x y V0 VB).run prog V=.ok () V):=λV x y=>by subst aU aV;rfl
 have ac:Hid (∀V,(binOp .neq 188 V0 VB).run prog V=.ok (dV (!decide (s0=s))) V):=λV=>by grind [MU]
 have aw:Hid (∀X,Bw t X->(X.cell? (dQ pb 0)=some (dP o)/\X.rangeAt w.heap.size 0 (Dd s)/\X.cell? (dQ pb 98)=some (dV cl))/\Hid (Cl 239 #[dP o,dI q] X.drew λe X2=>e=dR V0/\(X2.cell? (dQ pb 0)=some (dP o)/\X2.rangeAt w.heap.size 0 (Dd s)/\X2.cell? (dQ pb 98)=some (dV cl))/\Hid (Bw t X2))):=λX n=>by
  have hS:∀X,Bw t X->(X.cell? (dQ pb 0)=some (dP o)/\X.rangeAt w.heap.size 0 (Dd s)/\X.cell? (dQ pb 98)=some (dV cl)):=λX n=>by have c:=I.M (n.Q I.size);have T:=h.below c;have hr:Gb X w.heap.size 188 (Dd s):=(n.block _ aj.lt).M aj;exact⟨T.cells.1,λj v hv=>by rw[hr.J,Av];omega,T.cells.2.2.2.1⟩
  refine⟨hS X n,?_⟩;have c:=I.M (n.Q I.size);have bw:Jg X.drew o vf (dT an ln cn) vw ve D:=⟨(c.block _ hD.1.lt).M hD.1,⟨hD.2.1.1.kept (λk l _=>c.block k l),hD.2.1.2⟩,hD.2.2⟩;apply(TB _ o vf vw ve an ln cn D bw q s0 a7).Q;rintro e X2⟨rfl,hB⟩;have bm:=n.M ⟨hB.os,hB.tape,hB.output,hB.size,λk l=>hB.block k (by have:=n.size;show k<X.heap.size;omega)⟩;exact⟨by rw[aU],hS X2 bm,Db bm⟩
 obtain⟨B,hB⟩:=ex (decide (q/16≠bt/16/\f (q/16)<=8));have aG:=Db hB;have ax:Hid (∀X,Bw t X->Cl 301 #[dP pb,dI q] X λe w'=>e=dR (dV B)/\w'=X):=λX n=>by rw[hB];have c:=I.M (n.Q I.size);have T:=h.below c;exact ZiW X pb z so f bt q bG a3 T.cells.2.2.1 T.cells.2.1 ((c.J aQ).M a2)
 have ab:Hid (∀X,Bw t X->Cl 243 #[.pointer (some (dQ pb 100)),.int .u64 r,dI q] X λe m=>e=dR (.tuple #[])/\Gb m w.heap.size 188 (Dd s)/\Gb m d.heap.size 175 [dI 0,.int .u64 0]/\Hid (∀w7,Fr (λk=>k=d.heap.size) m w7->TO w pb o z so f cl hd A H tp tx (dT P U R) O r s q (dR (.agg #[dI (q),.int .u64 (Dr s)])) w7)):=λX n=>by
  have c:=I.M (n.Q I.size);have aa:=h.below c;have x1:Gb X w.heap.size 188 (Dd s):=(n.block _ aj.lt).M aj;have x2:Gb X d.heap.size 175 [dI 0,.int .u64 0]:=(n.block _ aE.lt).M aE;have ba:∀k,Own A k->k<w.heap.size:=λk l=>h.sa.lt l;have bF:∀k,Own (dT P U R) k->k<w.heap.size:=λk l=>Sl.lt h.sp l;have aL:w.heap.size≠pb:=Ω;have aM:d.heap.size≠pb:=Ω;apply(TM X pb 100 A H r q aa.cells.2.2.2.2.2.1 (aa.row.A 100) aa.oa aa.sa aJ aO aN).Q;rintro e m⟨rfl,aF,az,m1,m2,m3,m4,m5,m6,E⟩;have ak:∀k,k≠pb->¬Own A k->k<X.heap.size->m.heap[k]?=X.heap[k]? := λk h1 h2 h3=>E.block k h3 h1 h2;refine⟨rfl,(ak _ aL Γ x1.lt).M x1,(ak _ aM Γ x2.lt).M x2,λw7 h7=>?_⟩;have M:=aa.put m2 m6 E;have aS:Gl w7 pb o z so f cl hd aF az tp tx (dT P U R) O:=by have bI:=E.size;refine⟨M.row.e h7 Ω,M.sa.e h7 (λg N e=>?_),Sl.e M.sp h7 (λg N e=>?_),M.oa,M.op,M.ap⟩;rcases m6 g N with W|W;have:=ba g W;omega;have:=x2.lt;omega;have:=bF g N;omega
  refine⟨rfl,aF,az,aS,m3,m4,m5,?_,λg N=>(m6 g N).imp id (λW=>by have:=c.size;omega)⟩;refine Fr.then ⟨E.os.M c.os,E.tape.M c.tape,E.output.M c.output,Ae c.size E.size,λk l aY=>?_⟩ h7 Ω;rw[ak k Ω Γ (As l c.size)];exact c.block k l
 have bv:=Db aV;have bj:=Db br;clear h aI aT a6 aP aO aJ aN hh hz bb bn a8 aZ aE a5 a9 a0 I aj a1 aW aX hp aQ hD aK a2 a3 hq a7 aU aV bH br hB;go_enter func272,ntmps272;go_upto_region 0 with fail;refine A7 ?_;refine Wp rfl 188 _ rfl (Dd s) rfl ?_;rw[Da bh];try simp only[pE]
 go_upto_region 1 with fail;rw[Da bi];go_upto_region 2 with(go_at_call 300;apply(Da HG).Q;rintro e X⟨rfl,aA⟩;have av:=Db aA;clear aA);obtain⟨aD,au⟩:=Da aw X (Da av);refine Az (S:=λX=>(X.cell? _=some _/\X.rangeAt _ 0 (Dd s)/\X.cell? _=some _)) Φ aD (λaq=>?_);refine tr 0 ?_;refine tr 1 ?_;refine tr 2 ?_;refine tr 3 ?_;refine tr 4 ?_;refine tr 5 ?_;refine tk 6 ?_;refine tr 7 ?_;refine A4 (i:=9) (v:=VB) rfl Φ Φ Φ (λ_ _ _ h=>h) (by rw[Da bv];exact CW (by rfl) 188 _ rfl w.heap.size 0 rfl (Dd s) _ Γ Kv rfl (by rw[D4,Da bc])) Ψ ?_;try simp only[pE]
 refine rk 8 (λK a=>?_);go_simp;go_at_call 239;apply(Da au).Q;rintro e X2⟨rfl,ar,L⟩;go_wp2_with fail;refine a.out _ _ ar (λai=>?_);clear a K;try simp only[pE]
 have bJ:=Da bj;clear bj;rcases bJ with⟨a4,ae⟩|⟨a4,ae,bl⟩;simp only[a4,decide_false,Bool.not_false]at ac;have HQ:=Db ae;refine A4 (i:=10) (v:=dV true) rfl Φ Φ Φ (λ_ _ _ h=>h) (Or.inl ⟨by rfl,λV _=>VX V .neq 188 _ _ _ rfl V0 VB rfl rfl (Da ao V _ _) (Da ac V)⟩) Ψ ?_;try simp only[pE]
 refine tr 11 ?_;refine tr 12 ?_;refine tu 13 ?_;try simp only[pE]
 refine tu 14 ?_;try simp only[pE]
 refine tu 15 ?_;try simp only[pE]
 refine tu 16 ?_;try simp only[pE]
 refine tu 17 ?_;try simp only[pE]
 refine tu 18 ?_;try simp only[pE]
 refine tu 19 ?_;try simp only[pE]
 refine tu 20 ?_;try simp only[pE]
 refine tu 21 ?_;try simp only[pE]
 refine tr 22 ?_;refine AL Φ ?_ _;have af:Bw w X2:=(Da al).M ((Da L).Q (Da al).size);have aR:=Db (Da HN _ af (((Da L).block _ (Da am).lt).M (Da am)) (((Da L).block _ (Da ap).lt).M (Da ap)));clear af HN HG au aw ac ao aD ar aq ai L ax ab ae
 rotate_left
 simp only[a4,decide_true,Bool.not_true]at ac;have aH:=Db ae;have ay:=Db bl;clear ae bl;refine A4 (i:=10) (v:=dV false) rfl Φ Φ Φ (λ_ _ _ h=>h) (Or.inl ⟨by rfl,λV _=>VX V .neq 188 _ _ _ rfl V0 VB rfl rfl (Da ao V _ _) (Da ac V)⟩) Ψ ?_;try simp only[pE]
 refine tr 11 ?_;refine tr 12 ?_;refine tr 13 ?_;refine tr 14 ?_;cases cl;refine tr 15 ?_;refine tk 16 ?_;refine tr 17 ?_;refine tu 18 ?_;try simp only[pE]
 refine tu 19 ?_;try simp only[pE]
 refine tu 20 ?_;try simp only[pE]
 refine tr 21 ?_;refine tr 22 ?_;refine AL Φ ?_ _;have bd:=Db (Da ab _ (Da L));have HQ:=Db (Da ay (λe=>by cases e));clear ab HG au aw ac ao aD ar aq ai L ax HN HA aH ay
 rotate_left
 refine tr 15 ?_;refine tk 16 ?_;refine tr 17 ?_;refine tr 18 ?_;refine tr 19 ?_;refine rk 20 (λK a=>?_);go_simp;go_at_call 301;apply(Da ax X2 (Da L)).Q;rintro e w'⟨rfl,bq⟩;rw[bq];clear bq;go_wp2_with fail;refine a.out _ _ ar (λbk=>?_);clear a K;try simp only[pE]
 refine tr 21 ?_;refine tr 22 ?_;refine AL Φ ?_ _;cases B;have bd:=Db (Da ab _ (Da L));have HQ:=Db (Da ay (λ_=>of_decide_eq_false (Da aG).r));clear ab HG au aw ac ao aD ar aq ai L ax HN HA bk aH ay aG
 rotate_left
 have af:Bw w X2:=(Da al).M ((Da L).Q (Da al).size);have aR:=Db (Da HN _ af (((Da L).block _ (Da am).lt).M (Da am)) (((Da L).block _ (Da ap).lt).M (Da ap)));have HQ:=Db (Da aH Ξ (Bd (Da aG).r));clear af HN HG au aw ac ao aD ar aq ai L ax ab bk aH ay aG
 rotate_left
 all_goals try
  go_wp2_with(first|(go_at_call 243;apply(Da bd).Q;rintro e m⟨rfl,ag,u,HF⟩;have ad:=Db (RD m (some (dQ w.heap.size 0)) 64 64 s ⟨hs.r,Γ,λj v hv=>⟨_,rfl,by rw[AG,Av,ag.J];omega⟩⟩ Ω);rw[Rm]at ad;obtain⟨n0,n1⟩:=u.c1;obtain⟨g0,g1⟩:=u.f1;clear ag u)|(go_at_call 215;apply(Da ad).Q;rintro e w'⟨rfl,c⟩;rw[c];clear c));exact Am (v:=.agg #[dI (q:Nat),.int .u64 (Dr s:Nat)]) (by simp[results,results272,go_sem,n0,n1]) rfl (Da HQ _ _ (Da HF _ (((Fr.refl (λk=>k=d.heap.size) m).set (dQ d.heap.size 0) _ rfl).set (dQ d.heap.size 1) _ rfl)))
 all_goals
  go_upto_region 4 with(go_at_call 302;apply(Da aR).Q;rintro e Y⟨rfl,e2,m3,HY⟩);obtain⟨Z,hZ,sZ,mZ,F,J,G,C,bp,s5,m5,f5,s6,ab⟩:=Da HA Y HY;have HZ:=Db hZ;have bg:=Db sZ;have be:=Db s5;have bf:=Db s6;clear hZ sZ s5 s6 HA HY;refine Az (S:=λX=>X.rangeAt w.heap.size 0 (Dd s)) Φ e2 (λaq=>?_);refine tr 0 ?_;refine tr 1 ?_;refine tr 2 ?_;refine tr 3 ?_;refine tr 5 ?_;refine A4 (i:=6) (v:=DC s) rfl Φ Φ Φ (λ_ _ _ h=>h) (CW (by rfl) 188 _ rfl w.heap.size 0 rfl (Dd s) _ Γ Kv rfl (by rw[D4,Da bc])) Ψ ?_;try simp only[pE]
  refine A4 (i:=7) (v:=IF p s) rfl Φ Φ Φ (λ_ _ _ h=>h) (Or.inl ⟨by rfl,λX _=>?_⟩) Ψ ?_;exact Zhd X 207 0 1 _ _ rfl (dI (p:Nat)) (DC s) rfl rfl (Da bu);try simp only[pE]
  refine Eo (rs:=[4,8]) Φ Θ ?_;refine BK (i:=4) rfl ?_ (BK (i:=8) rfl ?_ Ee)
  .intro K a;go_simp;refine a.out _ _ aq (λbz=>?_);clear a K;try simp only[pE]
   refine rk 8 (λK a=>?_);refine Sp rfl _ rfl p s hs rfl ?_;rw[show Y.drew.alloc (.cells (Gz p s).toArray 207)=Z from Da HZ];refine a.out _ _ (Da bg) (λai=>?_);clear a K;try simp only[pE]
   refine rk 9 (λK a=>?_);refine Kl rfl _ _ 182 182 rfl _ _ rfl rfl bp ?_;refine a.out _ _ (Da be) (λbA=>?_);clear a K;try simp only[pE]
   refine tr 10 ?_;refine tr 11 ?_;refine rk 12 (λK a=>?_);go_simp;refine a.out _ _ (Da bf) (λbx=>?_);clear a K;try simp only[pE]
   refine AL Φ ?_ _;go_wp2_with(first|(go_at_call 243;apply(Da ab).Q;rintro e m⟨rfl,ag,u,HF⟩;have ad:=Db (RD m (some (dQ w.heap.size 0)) 64 64 s ⟨hs.r,Γ,λj v hv=>⟨_,rfl,by rw[AG,Av,ag.J];omega⟩⟩ Ω);rw[Rm]at ad;obtain⟨n0,n1⟩:=u.c1;obtain⟨g0,g1⟩:=u.f1;clear ag u)|(go_at_call 215;apply(Da ad).Q;rintro e w'⟨rfl,c⟩;rw[c];clear c));exact Am (v:=.agg #[dI (p:Nat),.int .u64 (Dr s:Nat)]) (by simp[results,results272,go_sem,n0,n1]) rfl (Da HQ _ _ (Da HF _ (((Fr.refl (λk=>k=d.heap.size) m).set (dQ d.heap.size 0) _ rfl).set (dQ d.heap.size 1) _ rfl)))
  .intro K a;refine Sp rfl _ rfl p s hs rfl ?_;rw[show Y.drew.alloc (.cells (Gz p s).toArray 207)=Z from Da HZ];refine a.out _ _ (Da bg) (λai=>?_);clear a K;try simp only[pE]
   refine rk 4 (λK a=>?_);go_simp;refine a.out _ _ ai (λbz=>?_);clear a K;try simp only[pE]
   refine rk 9 (λK a=>?_);refine Kl rfl _ _ 182 182 rfl _ _ rfl rfl bp ?_;refine a.out _ _ (Da be) (λbA=>?_);clear a K;try simp only[pE]
   refine tr 10 ?_;refine tr 11 ?_;refine rk 12 (λK a=>?_);go_simp;refine a.out _ _ (Da bf) (λbx=>?_);clear a K;try simp only[pE]
   refine AL Φ ?_ _;go_wp2_with(first|(go_at_call 243;apply(Da ab).Q;rintro e m⟨rfl,ag,u,HF⟩;have ad:=Db (RD m (some (dQ w.heap.size 0)) 64 64 s ⟨hs.r,Γ,λj v hv=>⟨_,rfl,by rw[AG,Av,ag.J];omega⟩⟩ Ω);rw[Rm]at ad;obtain⟨n0,n1⟩:=u.c1;obtain⟨g0,g1⟩:=u.f1;clear ag u)|(go_at_call 215;apply(Da ad).Q;rintro e w'⟨rfl,c⟩;rw[c];clear c));exact Am (v:=.agg #[dI (p:Nat),.int .u64 (Dr s:Nat)]) (by simp[results,results272,go_sem,n0,n1]) rfl (Da HQ _ _ (Da HF _ (((Fr.refl (λk=>k=d.heap.size) m).set (dQ d.heap.size 0) _ rfl).set (dQ d.heap.size 1) _ rfl)))
structure Ge where
 nd:Nat->Int
 cl:Bool
 eb:LI
 bt:Nat
 D:LY
structure Pl where
 hd:Nat
 U:List (Nat×Nat)
 ps:LB
def Ge.at(E:Ge)(r:Nat):Option Nat:=(E.eb.find? (λx=>x.1==(r:Int))).map (λx=>x.2.toNat)
def Ge.aj(E:Ge)(r:Nat)(s:By):Option Nat:=
 match E.at r with
 |some q=>if E.D[q]?=some s/\¬(E.cl=true/\q/16≠E.bt/16/\E.nd (q/16)<=8) then some q else none
 |none=>none
def Ge.put(E:Ge)(st:Pl)(r:Nat)(s:By):Nat×Pl:=
 match E.aj r s with
 |some q=>(q,⟨st.hd,st.U++[(r,q)],st.ps⟩)
 |none=>(D5 E.nd 96 st.hd%1536,⟨D5 E.nd 96 st.hd%1536+1,st.U++[(r,D5 E.nd 96 st.hd%1536)],st.ps++[(D5 E.nd 96 st.hd%1536,s)]⟩)
structure GI(E:Ge):Prop where
 ak:GM E.eb
 len:E.eb.length<=10000
 bt:E.bt<1536
 dl:E.D.length=1536
 pl:∀x∈E.eb,∃q:Nat,x.2=(q:Int)/\q<1536
theorem GI.a7{E:Ge}(h:GI E)(e:E.at r=some q):((r:Int),(q:Int))∈E.eb/\q<1536:=by obtain⟨x,a,rfl⟩:=ED.1 e;obtain⟨q,hq,aa⟩:=h.pl x (EZ a);grind
theorem Ge.fz{E:Ge}(e:E.at r=none):∀x∈E.eb,x.1≠r:=by grind [Ge.at,Option.map_eq_none_iff,List.find?_eq_none]
structure Lc(w:World)(n0 db sb so:Nat)(E:Ge):Prop where
 cb:∃vb,w.cell? (dQ sb so)=some vb/\Sl w 350 2 vb E.eb.length (DH E.eb)/\∀k,Own vb k->k<n0
 ct:w.cell? (dQ sb (so+1))=some (dI (E.bt:Nat))
 dk:∃vf an ln cn vw ve,Jg w db vf (dT an ln cn) vw ve E.D/\∀k,Own (dT an ln cn) k->k<n0
 h5:sb<n0
 im:db<n0
theorem Lc.kept{E:Ge}(h:Lc w n0 c p so E)(l:∀k cs t z,k<n0->w.heap[k]?=some (.cells cs t z)->w'.heap[k]?=some (.cells cs t z)):Lc w' n0 c p so E:=by
 have j:∀(a:Addr) v,a.block<n0->w.cell? a=some v->w'.cell? a=some v:=by grind [Zip,World.cell?_of_block,trans]
 have x:∀(e:TypeId) (d:Nat) (v:Value) (n:Nat) (f:Gf),Sl w e d v n f->(∀k,Own v k->k<n0)->Sl w' e d v n f:=λe d v n f o y=>o.kept (λk _ m=>by obtain⟨R,i⟩:=o.type m;rw[i];exact l k _ _ _ (y k m) i);obtain⟨vb,r,c2,s⟩:=h.cb;obtain⟨C,q,A,u,vw,B,b,g⟩:=h.dk;refine⟨⟨vb,j _ _ h.h5 r,Γ,s⟩,j _ _ h.h5 h.ct,⟨C,q,A,u,vw,B,⟨l c _ _ _ h.im b.1,⟨x _ _ _ _ _ b.2.1.1 g,b.2.1.2⟩,b.2.2⟩,g⟩,h.h5,h.im⟩
def UH(w:World)(pb db sb so:Nat)(E:Ge)(st:Pl)(tp tx:Int)(O:Nat->Prop):Prop:=
 ∃va es vp,Gl w pb db sb so E.nd E.cl st.hd va es tp tx vp st.ps/\GM es/\es.length=st.U.length/\(∀x,x∈es↔∃y∈st.U,x=((y.1:Int),(y.2:Int)))/\∀k,O k↔(k=pb\/Own va k\/Own vp k)
def L7(w:World)(pb db sb so:Nat)(E:Ge)(st:Pl)(tp tx:Int)(O:Nat->Prop)(r:Nat)(s:By)(e:Ending)(w':World):Prop:=
 e=dR (.agg #[dI ((E.put st r s).1:Nat),.int .u64 (Dr s:Nat)])/\∃O',UH w' pb db sb so E (E.put st r s).2 tp tx O'/\Fr O w w'/\∀k,O' k->O k\/w.heap.size<=k
theorem ZqY(w:World)(n0 pb b c so:Nat)(E:Ge)(g:GI E)(st:Pl)(d f:Int)(O:Nat->Prop)(h:UH w pb b c so E st d f O)(t:Lc w n0 b c so E)(r:Nat)(s:By)(V:s.size=64)(ac:∀y∈st.U,y.1≠r)(ab:st.U.length<=10000)(U:st.ps.length<=1000000)(R:st.hd<=1536)(X:∃k,k<96/\E.nd ((st.hd/16+k)%96)<=0):
  Cl 272 #[dP pb,.int .u64 r,DC s] w (L7 w pb b c so E st d f O r s):=by
 obtain⟨C,l,j,P,M,h2,N,n⟩:=h;obtain⟨vb,I,J,c3⟩:=t.cb;obtain⟨vf,H,Y,K,vw,ve,L,d2⟩:=t.dk;have D:∀(a:List _) (q:Nat),(∀x,x∈a↔x=((r:Int),(q:Int))\/x∈l)->∀x,x∈a↔∃y∈st.U++[(r,q)],x=((y.1:Int),(y.2:Int)):=λa q S x=>by rw[S x,N x];simp only[Al,Ax];grind
 have aa:∀q,E.aj r s=some q->∀e w',TO w pb b c so E.nd E.cl st.hd C l d f j st.ps r s q e w'->L7 w pb b c so E st d f O r s e w':=λq p e w' ⟨o,i,a,u,v,Z,z,A,B⟩=>by unfold L7 Ge.put;rw[p];refine⟨o,λk=>k=pb\/Own i k\/Own j k,⟨i,a,j,u,v,Γ,D a q z,Γ⟩,A.Q Γ,λk e=>?_⟩;rcases e with e|e|e;grind;exact(B k e).imp (λe=>(n k).2 (.inr (.inl e))) id;grind
 have ae:E.aj r s=none->∀e w',OM w pb b c so E.nd E.cl C l d f j st.ps r s (D5 E.nd 96 st.hd%1536) e w'->L7 w pb b c so E st d f O r s e w':=λp e w' ⟨o,i,a,G,u,v,Z,z,A,B,p7⟩=>by unfold L7 Ge.put;rw[p];refine⟨o,λk=>k=pb\/Own i k\/Own G k,⟨i,a,G,u,v,Γ,D a _ z,Γ⟩,A.Q Γ,λk e=>?_⟩;rcases e with e|e|e;grind;exact(B k e).imp (λe=>(n k).2 (.inr (.inl e))) id;exact(p7 k e).imp (λe=>(n k).2 (.inr (.inr e))) id
 refine Zs5 w pb b c so _ _ _ C l d f j _ P vb _ I J g.len g.ak r vf H Y K vw ve _ L s V _ g.bt t.ct R X U M Ω Γ _ ?_;cases ha:E.at r with
 |none=>exact .inl ⟨Ge.fz ha,by grind [Ge.aj]⟩
 |some q=>
  obtain⟨T,F⟩:=g.a7 ha;obtain⟨m,W⟩:∃m,E.D[q]?=some m:=⟨_,Ab (by rw[g.dl];exact F)⟩;refine .inr ⟨q,m,T,F,W,?_⟩;by_cases Q:m=s;refine .inr ⟨Q,by grind [Ge.aj],λad=>aa q (by unfold Ge.aj;grind)⟩;grind [Ge.aj]
theorem GI.co{E:Ge}(h:GI E)(st:Pl)(r:Nat)(s:By):(E.put st r s).1<1536:=by unfold Ge.put;split;rename_i q a;unfold Ge.aj at a;split at a;rename_i q' b;split at a;cases a;exact(h.a7 b).2;simp_all;simp_all;omega
theorem Ge.a6(E:Ge)(st:Pl)(r:Nat)(s:By):(E.put st r s).2.U=st.U++[(r,(E.put st r s).1)]:=by grind [Ge.put]
theorem Ge.gf(E:Ge)(st:Pl)(r:Nat)(s:By):(E.put st r s).2.ps.length<=st.ps.length+1:=by unfold Ge.put;grind
theorem Ge.gg(E:Ge)(st:Pl)(r:Nat)(s:By)(h:st.hd<=1536):(E.put st r s).2.hd<=1536:=by grind [Ge.put,D5]
def Ge.U(E:Ge)(R:Nat->Nat)(B:NB):Pl->Nat->List Nat->Pl
 |st,_,[]=>st
 |st,i,x::xs=>E.U R B (E.put st (R i) (B x)).2 (i+1) xs
theorem Ge.ax(E:Ge)(R:Nat->Nat)(B:NB):∀(st:Pl) (i:Nat) (xs:List Nat) (x:Nat),E.U R B st i (xs++[x])=(E.put (E.U R B st i xs) (R (i+xs.length)) (B x)).2
 |st,i,[],x=>rfl
 |st,i,y::xs,x=>by show E.U R B _ (i+1) (xs++[x])=_;rw[Ge.ax E R B _ (i+1) xs x,Ay,show i+1+xs.length=i+(xs.length+1) by omega];rfl
theorem Ge.af(E:Ge)(R:Nat->Nat)(B:NB):∀(st:Pl) (i:Nat) (xs:List Nat),∀y∈(E.U R B st i xs).U,y∈st.U\/∃j,i<=j/\j<i+xs.length/\y.1=R j
 |st,i,[],y,hy => .inl hy
 |st,i,x::xs,y,hy=>by rcases Ge.af E R B _ _ xs y hy with h|⟨j,h1,h2,h3⟩;rw[Ge.a6]at h;grind;grind
theorem Ge.am(E:Ge)(R:Nat->Nat)(B:NB):∀(st:Pl) (i:Nat) (xs:List Nat),(E.U R B st i xs).U.length=st.U.length+xs.length/\(E.U R B st i xs).ps.length<=st.ps.length+xs.length/\(st.hd<=1536->(E.U R B st i xs).hd<=1536)
 |st,i,[]=>⟨rfl,Aa _,id⟩
 |st,i,x::xs=>by obtain⟨a,h2,b⟩:=Ge.am E R B (E.put st (R i) (B x)).2 (i+1) xs;have h4:=Ge.gf E st (R i) (B x);rw[Ge.a6,Ah]at a;refine⟨?_,?_,λh=>b (Ge.gg E st _ _ h)⟩;show(E.U R B _ (i+1) xs).U.length=_;rw[a];simp only[Ay,AR];omega;show(E.U R B _ (i+1) xs).ps.length<=_;rw[Ay];omega
def Hv(n0 pb db sb so:Nat)(E:Ge)(st:Pl)(O:Nat->Prop)(W:World):Prop:=
 Lc W n0 db sb so E/\(∀k,O k->n0<=k)/\n0<=W.heap.size/\UH W pb db sb so E st 0 0 O
theorem Hv.aw{E:Ge}{st:Pl}{c:World}{row:Option Nat}(h:Hv n0 pb g m so E st O W)(i:W.grownBy c row)(q:∀r,row=some r->∃o:Obj,W.heap[r]?=some o/\o.isCells=false):Hv n0 pb g m so E st O c:=by have l:∀(j:Nat) (a:Array Value) (t:TypeId) (z:Nat×Nat),W.heap[j]?=some (Obj.cells a t z)->c.heap[j]?=some (Obj.cells a t z):=λj a t z f=>(i.block j (Au.1 f).1 (λe=>by obtain⟨o,b,d⟩:=q j e.r;rw[f]at b;cases b;cases d)).M f;obtain⟨b,d,p,y,n,A,s,u,v,w,x⟩:=h;exact⟨b.kept (λk a t z _ e=>l k a t z e),d,Ae p i.size,y,n,A,s.ba (λj a t=>l j a t _),u,v,w,x⟩
theorem Hv.a9{E:Ge}{st:Pl}{b:World}(h:Hv n0 pb c g so E st O W)(a:Fr Z W b)(o:∀j,Z j->¬O j/\n0<=j):Hv n0 pb c g so E st O b:=by obtain⟨l,m,n,u,i,v,p,q,r,s,f⟩:=h;refine⟨l.kept (λk cs t z d e=>(a.block k (Au.1 e).1 (λhz=>?_)).M e),m,Ae n a.size,u,i,v,p.e a (λk d e=>(o _ e).1 ((f k).2 d)),q,r,s,f⟩;grind
theorem Hv.cells{e:Nat}{E:Ge}{st:Pl}(h:Hv n0 pb a e so E st O W)(b:O j):∃cs t,W.heap[j]?=some (.cells cs t (0,0)):=by obtain⟨_,_,_,va,es,vp,c,_,_,_,d⟩:=h;exact c.isCells j ((d j).1 b)
theorem Hv.put{E:Ge}(o:GI E)(q:∃j,j<96/\E.nd j<=0){st:Pl}(h:Hv n0 pb b d so E st O W)(r:Nat)(s:By)(x:s.size=64)(v:∀y∈st.U,y.1≠r)(u:st.U.length<=10000)(w:st.ps.length<=1000000)(p:st.hd<=1536):
  Cl 272 #[dP pb,.int .u64 r,DC s] W λe a=>e=dR (.agg #[dI ((E.put st r s).1:Nat),.int .u64 (Dr s:Nat)])/\∃O',Hv n0 pb b d so E (E.put st r s).2 O' a/\Fr O W a/\∀j,O' j->O j\/W.heap.size<=j:=by
 obtain⟨f,m,g,n⟩:=h;obtain⟨j,aa,ab⟩:=q;refine(ZqY W n0 pb b d so E o st 0 0 O n f r s x v u w p ⟨(j+96-st.hd/16%96)%96,Ω,?_⟩).Q ?_;grind;rintro e a⟨rfl,O',A,c,l⟩;refine⟨rfl,O',⟨f.kept (λk cs t z i e=>(c.block k (Au.1 e).1 (λho=>?_)).M e),λk i=>(l k i).elim (m k) (λe=>Ae g e),Ae g c.size,A⟩,c,l⟩;grind
theorem U0(h:De b a i=De b a j):i=j:=by grind [De]
theorem XT(M n0 pb l z so:Nat)(E:Ge)(k:GI E)(f:∃j,j<96/\E.nd j<=0)(st0:Pl)(h1:st0.U.length+M<=10000)(h2:st0.ps.length+M<=1000000)(m:st0.hd<=1536)(a:UInt8)(c:Nat)(aa:∀y∈st0.U,∀i,i<M->y.1≠De a.toNat c i)(s:By)(d:Nat):
  M8 M n0 pb a c s d (λb x=>(E.put (E.U (De a.toNat c) (Dy a s d) st0 0 b) (De a.toNat c b.length) (Dy a s d x)).1) (λ_ x=>Dr (Dy a s d x)) (λb O W=>Hv n0 pb l z so E (E.U (De a.toNat c) (Dy a s d) st0 0 b) O W) where
 aw:=λ_ _ _ _ _ h p q=>h.aw p q
 a9:=λ_ _ _ _ _ h o n=>h.a9 o n
 lt:=λ_ _ _ h _ f=>by obtain⟨cs,t,hb⟩:=h.cells f;grind
 cells:=λ_ _ _ h _ f=>h.cells f
 iv:=λb x=>Nat.lt_trans (k.co _ _ _) Ω
 it:=λ_ x=>Q6 _
 put:=λb x O W hp h=>by obtain⟨l1,l2,r⟩:=Ge.am E (De a.toNat c) (Dy a s d) st0 0 b;refine(h.put k f _ _ (UW _ _ _ _) (λy hy e=>?_) Ω Ω (r m)).Q ?_;grind [Ge.af,U0];rintro e W'⟨rfl,O',u,v,w⟩;refine⟨rfl,O',?_,v,w⟩;have g:=Ge.ax E (De a.toNat c) (Dy a s d) st0 0 b x;rw[Av]at g;rw[g];exact u
def Kd:List UInt8->List UInt8->Nat
 |x::xs,y::ys=>if x=y then Kd xs ys+1 else 0
 |_,_=>0
theorem T6:∀a b,Kd a b<=a.length/\Kd a b<=b.length
 |[],b=>by simp[Kd]
 |x::xs,[]=>by simp[Kd]
 |x::xs,y::ys=>by have:=T6 xs ys;unfold Kd;split;simp only[Ay];omega;simp
theorem Zf:∀(a b:List UInt8) (n:Nat),n<=Kd a b->(Kd a b=n↔¬ ∃x,a[n]?=some x/\b[n]?=some x)
 |[],b,n,h=>by grind [Kd]
 |x::xs,[],n,h=>by grind [Kd]
 |x::xs,y::ys,n,h=>by
  unfold Kd at h ⊢;by_cases c:x=y;rw[if_pos c]at h ⊢;cases n with
  |zero=>simp[c]
  |succ n=>
   have:=Zf xs ys n Ω;simp only[Fs];rw[<-this];omega
  grind
def J5(a b:By):Nat:=Kd a.data.toList b.data.toList
theorem ZhG(a b:By)(w:World)(ha:a.size<=2000000)(_hb:b.size<=2000000):Cl 271 #[dU a,dU b] w λe w'=>e=dR (dI (J5 a b:Nat))/\w'.heap=w.heap/\Bw w w':=by
 obtain⟨N,g⟩:=ex (J5 a b);have o:=T6 a.data.toList b.data.toList;have aa:N<=a.size:=by rw[g];exact o.1
 have ab:N<=b.size:=by rw[g];exact o.2
 have t:∀n,n<=N->(N=n↔¬ ∃x,a.data.toList[n]?=some x/\b.data.toList[n]?=some x):=λn l=>by rw[g]at l ⊢;exact Zf _ _ n l
 rw[<-g];have p:=Db t;clear g o t;go_enter func271,ntmps271;go_wp2
 go_loopw [5] (λv wr=>∃n:Nat,v=dI n/\n<=N/\Hid (wr.heap=w.heap/\Bw w wr)) (λv _=>N-(intOf v).toNat)
 case atStart=>exact⟨0,rfl,Ao _,rfl,Ad _ _⟩
 case round=>
  obtain⟨n,rfl,l,d⟩:=hrel;obtain⟨M,hM⟩:=ex (min a.size b.size);by_cases ac:n<M
  .have u:n<a.size:=Ω;have y:n<b.size:=Ω;have j:a.data.toList[n]?=some a[n]:=(by rw[Ab (by simpa using u)];rfl);have k:b.data.toList[n]?=some b[n]:=(by rw[Ab (by simpa using y)];rfl);have i1:(n:Int)<(a.size:Int):=Ω;have i2:(n:Int)<(b.size:Int):=Ω;by_cases f:a[n]=b[n]
   .have ad:n<N:=(by rcases AD n N with h|h;exact h;obtain rfl:n=N:=Ω;exact absurd ⟨_,j,by rw[f];exact k⟩ ((Da p n (Aa _)).1 rfl));have z:((a[n].toNat:Int)==(b[n].toNat:Int))=true:=(by rw[f];simp);clear j k f;go_upto_region 2 with fail;refine Az (S:=λ_=>True) Φ trivial (λs=>?_);refine tk 0 ?_;refine tk 1 ?_;refine tk 2 ?_;refine tk 3 ?_;refine tk 4 ?_;refine A4 (i:=5) (v:=dI (M:Nat)) rfl Φ Φ Φ (λ_ _ _ h=>h) (Or.inl ⟨by rfl,?_⟩) Ψ ?_
    .intro w c;go_simp;omega
    try simp only[pE]
    refine A4 (i:=6) (v:=dV true) rfl Φ Φ Φ (λ_ _ _ h=>h) (Or.inl ⟨by rfl,?_⟩) Ψ ?_
    .intro w c;go_simp;omega
    try simp only[pE]
    refine tk 7 ?_;refine tk 8 ?_;refine tk 9 ?_;refine A4 (i:=10) (v:=.int .u8 (a[n].toNat:Int)) rfl Φ Φ Φ (λ_ _ _ h=>h) (Or.inl ⟨by rfl,?_⟩) Ψ ?_
    .intro w c;go_simp
    try simp only[pE]
    refine tk 11 ?_;refine tk 12 ?_;refine A4 (i:=13) (v:=.int .u8 (b[n].toNat:Int)) rfl Φ Φ Φ (λ_ _ _ h=>h) (Or.inl ⟨by rfl,?_⟩) Ψ ?_
    .intro w c;go_simp
    try simp only[pE]
    refine A4 (i:=14) (v:=dV true) rfl Φ Φ Φ (λ_ _ _ h=>h) (Or.inl ⟨by rfl,?_⟩) Ψ ?_
    .intro w c;go_simp
    try simp only[pE]
    refine tk 15 ?_;refine AL Φ ?_ _;go_wp2
    go_roundw
    case rel=>exact⟨n+1,by go_num,Ω,(Da d).1,(Da d).2.M ((Ad _ _).drew.Q (Da d).2.size)⟩
    case measure=>simp[intOf];omega
   .have m:N=n:=(Da p n l).2 (λ⟨x,q,r⟩=>f (by rw[j]at q;rw[k]at r;exact FX (q.M r.r)));have z:((a[n].toNat:Int)==(b[n].toNat:Int))=false:=(by rw[Bs];intro h;exact f (FW.1 Ω));clear j k f;go_upto_region 2 with fail;refine Az (S:=λ_=>True) Φ trivial (λs=>?_);refine tk 0 ?_;refine tk 1 ?_;refine tk 2 ?_;refine tk 3 ?_;refine tk 4 ?_;refine A4 (i:=5) (v:=dI (M:Nat)) rfl Φ Φ Φ (λ_ _ _ h=>h) (Or.inl ⟨by rfl,?_⟩) Ψ ?_
    .intro w c;go_simp;omega
    try simp only[pE]
    refine A4 (i:=6) (v:=dV true) rfl Φ Φ Φ (λ_ _ _ h=>h) (Or.inl ⟨by rfl,?_⟩) Ψ ?_
    .intro w c;go_simp;omega
    try simp only[pE]
    refine tk 7 ?_;refine tk 8 ?_;refine tk 9 ?_;refine A4 (i:=10) (v:=.int .u8 (a[n].toNat:Int)) rfl Φ Φ Φ (λ_ _ _ h=>h) (Or.inl ⟨by rfl,?_⟩) Ψ ?_
    .intro w c;go_simp
    try simp only[pE]
    refine tk 11 ?_;refine tk 12 ?_;refine A4 (i:=13) (v:=.int .u8 (b[n].toNat:Int)) rfl Φ Φ Φ (λ_ _ _ h=>h) (Or.inl ⟨by rfl,?_⟩) Ψ ?_
    .intro w c;go_simp
    try simp only[pE]
    refine A4 (i:=14) (v:=dV false) rfl Φ Φ Φ (λ_ _ _ h=>h) (Or.inl ⟨by rfl,?_⟩) Ψ ?_
    .intro w c;go_simp
    try simp only[pE]
    refine tk 15 ?_;refine AL Φ ?_ _;go_wp2;go_ret;exact⟨by rw[m];rfl,(Da d).1,(Da d).2.M ((Ad _ _).drew.Q (Da d).2.size)⟩
  .have m:N=n:=Ω;go_upto_region 2 with fail;refine Az (S:=λ_=>True) Φ trivial (λs=>?_);refine tk 0 ?_;refine tk 1 ?_;refine tk 2 ?_;refine tk 3 ?_;refine tk 4 ?_;refine A4 (i:=5) (v:=dI (M:Nat)) rfl Φ Φ Φ (λ_ _ _ h=>h) (Or.inl ⟨by rfl,?_⟩) Ψ ?_
   .intro w c;go_simp;omega
   try simp only[pE]
   refine A4 (i:=6) (v:=dV false) rfl Φ Φ Φ (λ_ _ _ h=>h) (Or.inl ⟨by rfl,?_⟩) Ψ ?_
   .intro w c;go_simp;omega
   try simp only[pE]
   refine tk 7 ?_;refine tu 8 ?_;try simp only[pE]
   refine tu 9 ?_;try simp only[pE]
   refine tu 10 ?_;try simp only[pE]
   refine tu 11 ?_;try simp only[pE]
   refine tu 12 ?_;try simp only[pE]
   refine tu 13 ?_;try simp only[pE]
   refine tu 14 ?_;try simp only[pE]
   refine tk 15 ?_;refine AL Φ ?_ _;go_wp2;go_ret;exact⟨by rw[m];rfl,(Da d).1,(Da d).2.M ((Ad _ _).drew.Q (Da d).2.size)⟩
