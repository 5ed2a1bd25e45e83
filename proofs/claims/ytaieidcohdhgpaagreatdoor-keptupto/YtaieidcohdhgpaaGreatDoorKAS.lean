/- Kept. -/
import Derived.Test.YtaieidcohdhgpaaGreatDoorKAR
namespace Go.Proofs.YtaieidcohdhgpaaGreatDoor
variable{K:Act->World->Prop}{a0 a1 a3 a4 a5 a6 a7 a8 aB aC aD aE aF aG aH aI aJ aK aM aN aO aP aQ aR aS aT aU aV aW aX aY aZ b0 b1 b2 b3 b4 b5 b6 b7 b8 b9 bA bB bC bD bE bF bG bH bI bJ bK bL bM bN bO bP bQ bR bS bT bU bV bW bX bY bZ ba bb bc bd be bf bg bh bi bj bl bm bn bo bp bq br bs bt bu bv bw bx bz c0 c3 cA cB cC cF cG cH cI cJ cK cM cN cO cP cQ cR cS cT cU cV cW cX cY cZ ca cb cd ce cf cg ch ci cj ck cl cm cn co cp cq cr cs ct cu cv cw cy cz vA vB vC:Value}{w:World}
set_option maxHeartbeats 40000000
set_option maxRecDepth 100000
set_option linter.all false
open Tryz
open Go.RowKit
def WC(w:World)(vb:Nat)(bk:Int->List Bool->By):Prop:=∀W,Bw w W->∀e:Int,e<9223372036854775808->∀(al:OA) (cl:Nat) (lost:List Bool),Lu W al lost->lost.length<=1000000000000->Cl 31 #[dP vb,dI e,dT al lost.length cl] W λr w1=>∃a' l' c',r=dR (dT a' l' c')/\(∀W2,Bw w1 W2->(convert 59 9 (dT a' l' c')).run prog W2=.ok (dU (bk e lost)) W2)/\Bw W w1
theorem ZlB(w:World)(D vb n e E:Nat)(U:Int)(fs z im:By)(t:Int->List Bool->By)(J:OA)(cl:Nat)(k:List Bool)(aw:Lu w J k)(aG:k.length<=1000000000000)(he:e<=1000000000000)(hn:n<=1000000000000)(aH:Jt U)(O:∀W,Bw w W->W.cell? (dQ D 0)=some (dP vb)/\W.cell? (dQ D 4)=some (dU fs))(u:∀W,Bw w W->Cl 64 #[dP vb,dI e] W λr w'=>r=dR (dI n)/\w'=W)(hE:∀W,Bw w W->Cl 30 #[dP vb] W λr w'=>r=dR (dI E)/\w'=W)(hI:∀W,Bw w W->Cl 28 #[dP vb] W λr Q=>∃a d c,r=dR (dT a d c)/\(convert 59 9 (dT a d c)).run prog Q=.ok (dU im) Q/\Bw W Q)(hB:WC w vb t)(L:∀l,(t e l).size=98304)(ar:e=0->fs=z)(au:0<e->t (e-1) []=z)(af:t e (Jq n (-1))=z)(ai:e=E->t e []=im)(ax:∀l,Qr z (t e l) 1536<=KG l n)(R:∀p:Nat,KG (Jq n p) n<=1)(hS:∀W,Bw w W->Cl 207 #[dP D,dI e,dT J k.length cl,dU z,dU (t e []),dU (t e k)] W λr w'=>r=dR (dV true)/\Bw W w'):
  Cl 151 #[dP D,dI e,dT J k.length cl,dI U] w λr w'=>r=dR (dV true)/\Bw w w':=by
 obtain⟨wh,N⟩:=ex (t e []);obtain⟨pt,S⟩:=ex (t e k);have C:z.size=98304:=by rw[<-af];exact L _
 have s2:wh.size=98304:=by rw[N];exact L _
 have s3:pt.size=98304:=by rw[S];exact L _
 rw[<-N,<-S]at hS;have ak:∀W,Lu W none []:=λW j v y=>by simp at y
 have am:∀W,Bw w W->Lu W J k:=λW u j v y=>by obtain⟨g,f,q1,q2⟩:=aw j v y;exact⟨g,f,q1,(u.J (p:=(dQ g (f+j))) (Ag _ _ q2)).M q2⟩
 have an:Hid (∀W,Bw w W->∀(B:Int) G P K C,(G=none/\P=0/\K=0/\(C=wh/\B=e\/C=z/\B=e-1/\0<e))\/(G=J/\P=k.length/\K=cl/\C=pt/\B=e)->Cl 31 #[dP vb,dI B,dT G P K] W λr w2=>∃a d c,r=dR (dT a d c)/\(convert 59 9 (dT a d c)).run prog w2=.ok (dU C) w2/\w2.cell? (dQ D 0)=some (dP vb)/\Hid (Bw w w2)):=λW u B G P K C T=>by
  have ae:∀l:List Bool,Lu W G l->l.length=P->l.length<=1000000000000->B<9223372036854775808->t B l=C->Cl 31 #[dP vb,dI B,dT G P K] W λr w2=>∃a d c,r=dR (dT a d c)/\(convert 59 9 (dT a d c)).run prog w2=.ok (dU C) w2/\w2.cell? (dQ D 0)=some (dP vb)/\Hid (Bw w w2):=λl h1 h2 h3 h4 h5=>by subst h2 h5;apply(hB W u B h4 G K l h1 h3).Q;rintro r w2⟨a,d,c,rfl,r2,r3⟩;have:=u.M (r3.Q u.size);exact⟨a,d,c,rfl,r2 _ (Ad _ _),(O w2 this).1,this⟩
  rcases T with⟨rfl,rfl,rfl,⟨rfl,rfl⟩|⟨rfl,rfl,Y⟩⟩|⟨rfl,rfl,rfl,rfl,rfl⟩;exact ae [] (ak W) rfl Θ Ω N.r;exact ae [] (ak W) rfl Θ Ω (au Y);exact ae k (am W u) rfl aG Ω S.r
 have aq:Hid (∀W,Bw w W->∀(p:Int) s,s=t e (Jq n p)->Cl 205 #[dI n,dI p] W λr I=>∃g:Nat,r=dR (dS g n n)/\I.cell? (dQ D 0)=some (dP vb)/\Hid (Cl 31 #[dP vb,dI e,dS g n n] I λr w2=>∃a d c,r=dR (dT a d c)/\(convert 59 9 (dT a d c)).run prog w2=.ok (dU s) w2/\w2.cell? (dQ D 0)=some (dP vb)/\Hid (Bw w w2))):=λW u p s T=>by subst T;apply(ZT W n hn p).Q;rintro r I⟨g,rfl,q1,q2⟩;have aa:=u.M (q2.Q u.size);refine⟨g,rfl,(O I aa).1,?_⟩;have:=hB I aa e Ω (some (dQ g 0)) n (Jq n p) q1 (by rw[Sw];exact hn);rw[Sw]at this;apply this.Q;rintro r w2⟨a,d,c,rfl,r2,r3⟩;have:=aa.M (r3.Q aa.size);exact⟨a,d,c,rfl,r2 _ (Ad _ _),(O w2 this).1,this⟩
 have ad:Hid (∀W,Bw w W->∀s b,(s=wh/\b=n)\/(s=pt/\b=KG k n)\/(∃p:Nat,s=t e (Jq n p))/\b=1->Cl 206 #[dU z,dU s] W λr w'=>∃o:Nat,r=dR (dI o)/\(o:Int)<=(b:Nat)/\Hid (Bw w w')):=λW u s b T=>by
  have hl:∃l,s=t e l/\KG l n<=b:=by rcases T with⟨rfl,rfl⟩|⟨rfl,rfl⟩|⟨⟨p,rfl⟩,rfl⟩;exact⟨_,N,Yf _ _⟩;exact⟨_,S,Aa _⟩;exact⟨_,rfl,R p⟩
  obtain⟨l,rfl,hl⟩:=hl;apply(Zh4 W z _ C (L _)).Q;rintro r w'⟨rfl,_,q⟩;exact⟨_,rfl,by have:=ax l;omega,u.M (q.Q u.size)⟩
 have aC:Hid (∀W,Bw w W->Lu W J k):=am;have HX:=Db O;have HW:=Db (u w (Ad _ _));have HE:=Db hE;have HI:=Db hI;have HS:=Db hS;rw[<-N]at ai;have az:=Db ai;have aD:=Db L;obtain⟨x0,x4⟩:=O w (Ad _ _);have ao:=Db af;clear O u hB hE hI hS ax R N S aw am ak L ai af au;have ay:(¬((0:Int)<e)/\fs=z)\/(0:Int)<e:=by rcases Bn e with h|h;exact .inl ⟨Ω,ar h⟩;exact .inr Ω
 have X:Hid (Bw w w):=Ad _ _;clear ar;go_enter func151,ntmps151;go_upto_if 29 with(go_at_call 64;apply(Da HW).Q;rintro r Q⟨rfl,hw⟩;subst Q)
 go_cut [10] (λs w'=>s=dU z/\Hid (Bw w w'))
 case first=>
  rcases ay with⟨h0,rfl⟩|aO
  .go_wp2
   go_meet
   case rel=>exact⟨rfl,X⟩
  .have aP:IntKind.i64.wrap ((e:Int)-1)=e-1:=(by rw[AI];omega);go_wp2_with(go_at_call 31;apply(Da an _ (Ad _ _) _ _ _ _ _ (.inl ⟨rfl,rfl,rfl,.inr ⟨rfl,rfl,Ω⟩⟩)).Q;rintro r Q⟨a0,l0,c0,rfl,aI,-,X⟩)
   go_meet
   case rel=>exact⟨rfl,X⟩
 case rest=>
 obtain⟨rfl,ab⟩:=hcut;clear x0 x4 ay X;obtain⟨x0,-⟩:=Da HX _ (Da ab);go_upto_region 5 with fail
 go_cut [11] (λs w'=>s=dU z/\Hid (Bw w w'))
 case first=>
  go_region_law (first|(refine O8 rfl 205 _ _ 3 3 rfl _ _ (by first|go_simp|rfl) (by first|go_simp|rfl) (by go_simp) (Da aq _ (by first|exact(Da ab).drew|exact Da ab) (-1) _ (Da ao).r) ?_;rintro r I⟨g,rfl,xs,V⟩;refine⟨_,rfl,?_⟩)|(refine Pa rfl 31 _ _ _ 25 3 69 rfl _ _ _ (by first|go_simp|rfl) (by first|go_simp|rfl) (by first|go_simp|rfl) (by go_simp) (Da V) ?_;rintro r w2⟨a,d,c,rfl,M,x2,ac⟩;refine⟨_,rfl,?_⟩))
  all_goals
   go_wp2_with fail
   go_meet
   exact⟨rfl,ac⟩
 case rest=>
 clear x0;obtain⟨rfl,x⟩:=hcut;obtain⟨x3,-⟩:=Da HX _ (Da x);go_upto_region 9 with(go_at_call 31;apply(Da an _ (Da x) _ _ _ _ _ (by first|exact .inl ⟨rfl,rfl,rfl,.inl ⟨rfl,rfl⟩⟩|exact .inr ⟨rfl,rfl,rfl,rfl,rfl⟩)).Q;(try clear M);clear x3 x;rintro r w3⟨a2,l2,c2,rfl,M,x3,x⟩);clear M
 go_cut [101] (λs w'=>s=dV false/\Hid (Bw w w'))
 case first=>
  have ag:(¬((e:Int)=E))\/E=e/\wh=im:=by by_cases q:e=E;exact .inr ⟨q.r,Da az q⟩;exact .inl Ω
  rcases ag with ag|⟨ag,rfl⟩
  case' inr=>subst E
  all_goals
   go_wp2_with(first|(go_at_call 30;apply(Da HE _ (Da x)).Q;rintro r w4⟨rfl,hw⟩;subst w4)|(go_at_call 28;apply(Da HI _ (Da x)).Q;rintro r w4⟨a2,l2,c2,rfl,M,av⟩;replace x:=Db ((Da x).M (av.Q (Da x).size));clear av))
   go_meet
   exact⟨rfl,x⟩
 case rest=>
 clear x3 x;obtain⟨rfl,x⟩:=hcut;clear ao;go_wp2_with fail
 go_loopw [15,16] (λl i wr=>∃m:Nat,m<=n/\i=dI m/\l=dI (KG k m:Nat)/\Hid (Bw w wr)) (λ_ i _=>n-(intOf i).toNat)
 case atStart=>exact⟨0,Ao _,rfl,rfl,x⟩
 case round=>
  obtain⟨m,hm,rfl,rfl,F⟩:=hrel;have aK:=Yf k m;have H:=V9 k m;by_cases aL:m<n
  .have aM:(m:Int)<(n:Int):=Ω;cases y:k[m]? with
   |none=>
    have Z:=E9.1 y;have z1:(k.length:Int)<=m:=Ω;rw[y,if_pos Θ]at H;clear y Z;go_wp2
    go_roundw
    case rel=>exact⟨m+1,Ω,by go_num,by rw[H];go_num,F⟩
    case measure=>simp[intOf];omega
   |some v=>
    have Z:=(Ac.1 y).1;have z1:¬((k.length:Int)<=m):=Ω;obtain⟨gl,fl,rfl,cv⟩:=Da aC wr (Da F) m v y;cases v
    .rw[y,if_pos Θ]at H;clear y Z;go_wp2
     go_roundw
     case rel=>exact⟨m+1,Ω,by go_num,by rw[H];go_num,F⟩
     case measure=>simp[intOf];omega
    .rw[y,if_neg Θ]at H;clear y Z;go_wp2
     go_roundw
     case rel=>exact⟨m+1,Ω,by go_num,by rw[H];rfl,F⟩
     case measure=>simp[intOf];omega
  .obtain rfl:m=n:=Ω;clear H;have ah:¬((16:Int)<m)\/(16:Int)<m/\(0:Int)<m/\0<m:=Ω;rcases ah with ah|⟨ah,aJ,aF⟩
   .go_wp2_with(first|(go_at_call 206;apply(Da ad _ (by first|exact Da A|exact Da F) _ _ (by first|exact .inl ⟨rfl,rfl⟩|exact .inr (.inl ⟨rfl,rfl⟩))).Q;rintro r w5⟨o,rfl,ho,A⟩)|(go_at_call 207;apply(Da HS _ (by first|exact Da A|exact Da F)).Q;rintro r w6⟨rfl,aE⟩));all_goals
     go_ret;exact⟨rfl,(Da A).M (aE.Q (Da A).size)⟩
   .go_upto_region 20 with(first|(go_at_call 206;apply(Da ad _ (by first|exact Da A|exact Da F) _ _ (by first|exact .inl ⟨rfl,rfl⟩|exact .inr (.inl ⟨rfl,rfl⟩))).Q;rintro r w5⟨o,rfl,ho,A⟩));have x5:=(Da HX _ (Da A)).1;obtain⟨p,Y⟩:=ex (QO U m);have aB:Hid (∀W,Cl 66 #[dI U,dI m] W λe w'=>e=dR (dI (p:Nat))/\w'=W):=λW=>by rw[Y];exact Zh3 W U m aH aF hn
    obtain⟨sa,aj⟩:=ex (t e (Jq m p));have s5:sa.size=98304:=(by rw[aj];exact Da aD _);have ap:=Db aj;clear aj Y;go_region_law (first|(refine O8 rfl 66 _ _ 3 3 rfl _ _ (by first|go_simp|rfl) (by first|go_simp|rfl) (by go_simp) (Da aB _) ?_;rintro r w7⟨rfl,hw⟩;subst w7;refine⟨_,rfl,?_⟩)|(refine O8 rfl 205 _ _ 3 3 rfl _ _ (by first|go_simp|rfl) (by first|go_simp|rfl) (by go_simp) (Da aq _ (by first|exact(Da A).drew|exact Da A) p sa (Da ap)) ?_;rintro r I⟨g,rfl,xs,V⟩;refine⟨_,rfl,?_⟩)|(refine Pa rfl 31 _ _ _ 25 3 69 rfl _ _ _ (by first|go_simp|rfl) (by first|go_simp|rfl) (by first|go_simp|rfl) (by go_simp) (Da V) ?_;rintro r w2⟨a,d,c,rfl,M,x2,ac⟩;refine⟨_,rfl,?_⟩))
    all_goals
     clear M V;go_wp2_with(first|(go_at_call 206;apply(Da ad _ (Da ac) _ _ (.inr (.inr ⟨⟨p,Da ap⟩,rfl⟩))).Q;rintro r w8⟨o2,rfl,R,aA⟩;have aN:(o2:Int)<=1:=R;clear R));go_ret;exact⟨rfl,Da aA⟩
def Ma(u:By)(i:Nat):Bool:=(u.data.toList[i]?.getD 0).toNat%2==1
def L9(u:By)(m:Nat):List Bool:=(List.range m).map (Ma u)
theorem RW(u:By)(m:Nat):(L9 u m).length=m:=by grind [L9]
theorem Zrh(u:By)(m:Nat):L9 u (m+1)=L9 u m++[Ma u m]:=by unfold L9;rw[B8,AE];rfl
def Lq(u:By)(n:Nat):Nat->Bool
 |0=>true
 |m+1=>Lq u n m && (!(Ma u m) || decide (n<=m))
theorem Zt7(u:By)(n m:Nat):Lq u n m=true↔QL (L9 u m) n:=by
 have h:∀m,Lq u n m=true↔∀k,k<m->Ma u k=true->n<=k:=λm=>by
  induction m with
  |zero=>simp[Lq]
  |succ m ih=>
   unfold Lq;grind
 rw[h];unfold QL L9;constructor;intro h k a;rw[A8]at a;rcases AD k m with q|q;rw[CK q]at a;exact h k q (by simpa using a);rw[Bp (by simpa using q)]at a;cases a;intro h k a b;exact h k (by rw[A8,CK a];simpa using b)
structure PA(en:List Nat)(e:Int)(j:Nat):Prop where
 lt:j<en.length
 lo:∀i x,i+1=j->en[i]?=some x->(x:Int)<=e
 hi:∀i x,j<=i->i+1<en.length->en[i]?=some x->e<x
def Pw(wn:Int->Nat)(en:List Nat)(e:Int)(lost:List Bool)(j fr:Nat):Prop:=∃x,en[j]?=some x/\((x:Int)<=e\/QL lost (wn e)/\e=x-1->fr=j)/\(¬((x:Int)<=e\/QL lost (wn e)/\e=x-1)->fr=j-1)
def Nu(w0 w:World)(v:Value)(u:By)(m:Nat):Prop:=Bw w0 w/\Sl w 4 1 v m ((L9 u m).map .bool)/\∀k,Own v k->w0.heap.size<=k
theorem Nu.rd{i w:World}{a:OA}{l c:Nat}{u:By}{m:Nat}(h:Nu i w (dT a l c) u m):l=m/\∀W,Bw w W->Lu W a (L9 u m):=by
 refine⟨h.2.1.len,λW d j v f=>?_⟩;rcases h.2.1.2 with⟨_,e⟩|⟨g,aa,R,e,b,g1,g2,g3,g4⟩;subst e;cases f;obtain⟨rfl,rfl,rfl⟩:=e;refine⟨g,0,rfl,?_⟩;rw[d.J (p:=(dQ g (0+j))) b.lt,Av,b.J];have e1:(R.take (l*1))[j]?=R[j]? := by grind
 simp_all
theorem Nu.dq{j:World}{v:Value}{u:By}{m:Nat}(h:Nu j w v u m)(hm:m<=1000000000000):∃a l c W,(Builtin.append_ #[69,69] 69 #[v,dS w.heap.size 1 1]).run prog (w.alloc (.cells #[dV (Ma u m)] 4))=.ok (dT a l c) W/\Nu j W (dT a l c) u (m+1):=by obtain⟨f,n,o⟩:=h;have g:Bw w (w.alloc (.cells #[dV (Ma u m)] 4)):=(Ad _ _).alloc Θ _;obtain⟨v',w',p,a,l,c,rfl,i,e,r⟩:=SL _ v _ (by rw[RW];exact n.kept (λk d _=>g.block k d)) _ _ (D9 _ _ _) (by grind [RW]);rw[RW,<-Zrh]at i;have b:=f.M (g.Q f.size);refine⟨a,l,c,w',p,⟨e.os.M b.os,e.tape.M b.tape,e.output.M b.output,Ae b.size e.size,λk d=>(e.block k (As d b.size) Γ).M (b.block k d)⟩,i,λk d=>?_⟩;rcases r k d with q|q;exact o k q;have:=b.size;omega
def PD:Code->Code
 |.seq a _=>a
 |c=>c
theorem Zpy(w wr:World)(h vb L E j D q:Nat)(e b:Int)(n:Nat)(fs y:By)(t:Int->List Bool->By)(z:List Bool)(k:OA)(l:Nat)(T:Bool)(c6:e<=E+1)(hE:E<=100000000000){ab an cc IZ c1 ac ad ae af ag ah ai aj ak am ao ap aq ar au av aw ax ay az aA a9:Value}(o3:wr.cell? (dQ L 3)=some (dI b))(x0:wr.cell? (dQ h 0)=some (dP vb))(x4:wr.cell? (dQ h 4)=some (dU fs))(F:¬e<0->¬(E:Int)<e->Cl 151 #[dP h,dI e,dT k q l,dI b] wr λr w'=>r=dR (dV true)/\Bw wr w')(G:∀W,Bw wr W->∀S,S=t e z->Cl 31 #[dP vb,dI e,dT k q l] W λr c=>∃d g f,r=dR (dT d g f)/\(convert 59 9 (dT d g f)).run prog c=.ok (dU S) c/\Hid (∀W2,Bw c W2->(convert 59 9 (dT d g f)).run prog W2=.ok (dU S) W2)/\c.cell? (dQ h 0)=some (dP vb)/\c.cell? (dQ h 4)=some (dU fs)/\Hid (Bw wr c))(I:∀W,Bw wr W->W.cell? (dQ h 0)=some (dP vb)/\Cl 31 #[dP vb,dI e,dT k q l] W λr c=>∃d g f,r=dR (dT d g f)/\Hid (Cl 90 #[dP h,dT d g f,dI D,dI j] c λr w'=>r=dR (dV true)/\Bw w w'))(H:∀W,Bw wr W->Cl 28 #[dP vb] W λr c=>∃d g f,r=dR (dT d g f)/\(convert 59 9 (dT d g f)).run prog c=.ok (dU y) c/\Bw W c)(X:e<0->t e z=fs)(Y:(E:Int)<e->t e z=y)(p:∀a x,Code.wp prog (LK 15 (Tryz.f91.body.getD .skip)) (bodyPost prog Tryz.f91 λr w'=>r=dR (dV true)/\Bw w w') a x->K a x):
  Code.wp prog (PD (LK 14 (Tryz.f91.body.getD .skip))) (Exit.then K (bodyPost prog Tryz.f91 λr w'=>r=dR (dV true)/\Bw w w')) { tmps:=#[dP h,vA,vB,dP L,vC,dI E,dI e,dI n,dT k q l,dV T,ab,an,dI j,dI D,dV true,a6,bh,bt,bF,bH,bI,bJ,bK,bL,bM,bN,bO,bP,bQ,bR,bS,bT,bU,bV,bW,bX,bY,bZ,b0,b1,b2,b3,b4,b5,b6,b7,b8,b9,ca,cb,cc,cd,ce,cf,cg,ch,ci,cj,ck,cl,cm,cn,co,cp,cq,cr,cs,ct,cu,cv,cw,cy,cz,cA,cB,cC,cF,IZ,cG,cH,cI,cJ,cK,cM,cN,cO,cP,cQ,cR,cS,cT,cU,cV,cW,cX,cY,cZ,c0,c1,c3,ac,ad,ae,af,ag,ah,ai,aj,ak,am,ao,ap,aq,ar,au,av,aw,ax,ay,az,aA,aB,aC,aD,aE,aF,aG,aH,aI,aJ,aK,aM,aN,aO,aP,aQ,aR,aS,aT,aU,aV,aW,aX,aY,aZ,a0,a1,a3,a4,a5,a7,a8,a9,ba,bb,bc,bd,be,bf,bg,bi,bj,bl,bm,bn,bo,bp,bq,br,bs,bu,bv,bw,bx,bz,bA,bB,bC,bD,bE,bG],defers:=[] } wr:=by
 have A:=Db F;have s:=Db G;have C:=Db I;have B:=Db H;clear F G I H;generalize hQ:bodyPost prog Tryz.f91 (λr w'=>r=dR (dV true)/\Bw w w')=Q at p ⊢
 unfold Tryz.f91 at p;unfold Tryz.f91;simp only[LK,PD,CS]at p ⊢;rw[<-hQ]at p ⊢;clear hQ
 go_cut [14] (λo w'=>o=dV true/\Hid (Bw wr w'))
 case first=>
  have Z:e<0\/(¬e<0/\(E)<e)\/(¬e<0/\¬(E)<e):=Ω;rcases Z with m|⟨m,u⟩|⟨m,u⟩
  .go_upto_region 25 with fail;go_region_law (refine Pa rfl 31 _ _ _ 25 3 69 rfl _ _ _ (by first|go_simp|rfl) (by first|go_simp|rfl) (by first|go_simp|rfl) (by go_simp) (Da s _ (by first|exact(Ad _ _).drew|exact Ad _ _) fs (X m).r) ?_;rintro r c⟨d,g,f,rfl,aa,-,M,y4,i⟩;refine⟨_,rfl,?_⟩)
   all_goals
    go_wp2_with fail
    go_meet
    exact⟨rfl,i⟩
  .have U:=Y u;go_upto_region 27 with fail;go_region_law (first|(refine Pa rfl 31 _ _ _ 25 3 69 rfl _ _ _ (by first|go_simp|rfl) (by first|go_simp|rfl) (by first|go_simp|rfl) (by go_simp) (Da s _ (by first|exact(Ad _ _).drew|exact Ad _ _) y U.r) ?_;rintro r c⟨d,g,f,rfl,aa,O,M,y4,i⟩;refine⟨_,rfl,?_⟩)|(refine Wi rfl 28 _ 25 rfl _ (by first|go_simp|rfl) (by go_simp) (Da B _ (by first|exact Da i|exact(Da i).drew)) ?_;rintro r w2⟨a2,l2,c2,rfl,c4,v⟩;have c5:=Da O w2 v;refine⟨_,rfl,?_⟩))
   all_goals
    go_wp2_with fail
    go_meet
    exact⟨rfl,(Da i).M (v.Q (Da i).size)⟩
  .go_wp2_with(go_at_call 151;apply(Da A m u).Q;rintro r c⟨rfl,V⟩)
   go_meet
   exact⟨rfl,V⟩
 case rest=>
 obtain⟨rfl,N⟩:=hcut;obtain⟨M,J⟩:=Da C wc (Da N);have R:=Db J;clear J C s B A o3 x0 x4;go_wp2_with(first|(go_at_call 31;apply(Da R).Q;rintro r c⟨d,g,f,rfl,P⟩)|(go_at_call 90;apply(Da P).Q;rintro r w2⟨rfl,v⟩));go_ret;simp_all
theorem Zpx(w wr:World)(l vb P L ec kc E D:Nat)(ka:OA)(e b:Int)(n:Nat)(fs O:By)(d:List Nat)(T:Int->Nat)(F:Int->List Bool->By)(v:List Bool)(B:OA)(C:Nat)(m:Bool)(dw : -1<=e)(ay:e<=E+1)(hE:E<=100000000000)(dA:0<d.length)(dB:d.length<=1000000000000){a9 c2 c4 c5 c6 c7 IZ c8 c9 da db dc dd de df dg dh di dj dk dl dm dn dp dq dr ds dt du a2:Value}(ag:∀i x:Nat,d[i]?=some x->wr.cell? (dQ L i)=some (dI x)/\x<=E)(ah:m=true↔QL v (T e))(x2:wr.cell? (dQ l 2)=some (dT ka d.length kc))(x3:wr.cell? (dQ l 3)=some (dS L d.length ec))(o3:wr.cell? (dQ P 3)=some (dI b))(x0:wr.cell? (dQ l 0)=some (dP vb))(x4:wr.cell? (dQ l 4)=some (dU fs))(Y:¬e<0->¬(E:Int)<e->Cl 151 #[dP l,dI e,dT B D C,dI b] wr λr w'=>r=dR (dV true)/\Bw wr w')(Z:∀W,Bw wr W->∀S,S=F e v->Cl 31 #[dP vb,dI e,dT B D C] W λr g=>∃a' l' c',r=dR (dT a' l' c')/\(convert 59 9 (dT a' l' c')).run prog g=.ok (dU S) g/\Hid (∀W2,Bw g W2->(convert 59 9 (dT a' l' c')).run prog W2=.ok (dU S) W2)/\g.cell? (dQ l 0)=some (dP vb)/\g.cell? (dQ l 4)=some (dU fs)/\Hid (Bw wr g))(ab:∀j t,PA d e j->Pw T d e v j t->∀W,Bw wr W->W.cell? (dQ l 0)=some (dP vb)/\Cl 31 #[dP vb,dI e,dT B D C] W λr g=>∃a' l' c',r=dR (dT a' l' c')/\Hid (Cl 90 #[dP l,dT a' l' c',dI t,dI j] g λr w'=>r=dR (dV true)/\Bw w w'))(aa:∀W,Bw wr W->Cl 28 #[dP vb] W λr g=>∃a' l' c',r=dR (dT a' l' c')/\(convert 59 9 (dT a' l' c')).run prog g=.ok (dU O) g/\Bw W g)(ac:e<0->F e v=fs)(ad:(E:Int)<e->F e v=O)(G:∀a x,Code.wp prog (LK 9 (Tryz.f91.body.getD .skip)) (bodyPost prog Tryz.f91 λr w'=>r=dR (dV true)/\Bw w w') a x->K a x):
  Code.wp prog (PD (LK 8 (Tryz.f91.body.getD .skip))) (Exit.then K (bodyPost prog Tryz.f91 λr w'=>r=dR (dV true)/\Bw w w')) { tmps:=#[dP l,vA,vB,dP P,vC,dI E,dI e,dI n,dT B D C,dV m,aB,aN,aY,a9,bl,bw,bI,bT,b4,b6,b7,b8,b9,ca,cb,cd,ce,cf,cg,ch,ci,cj,ck,cl,cm,cn,co,cp,cq,cr,cs,ct,cu,cv,cw,cy,cz,cA,cB,cC,cF,cG,cH,cI,cJ,cK,cM,cN,cO,cP,cQ,cR,cS,cT,cU,cV,cW,cX,cY,cZ,c0,c2,c3,c4,c5,c6,c7,IZ,c8,c9,da,db,dc,dd,de,df,dg,dh,di,dj,dk,dl,dm,dn,dp,dq,dr,ds,dt,du,aC,aD,aE,aF,aG,aH,aI,aJ,aK,aM,aO,aP,aQ,aR,aS,aT,aU,aV,aW,aX,aZ,a0,a1,a2,a3,a4,a5,a6,a7,a8,ba,bb,bc,bd,be,bf,bg,bh,bi,bj,bm,bn,bo,bp,bq,br,bs,bt,bu,bv,bx,bz,bA,bB,bC,bD,bE,bF,bG,bH,bJ,bK,bL,bM,bN,bO,bP,bQ,bR,bS,bU,bV,bW,bX,bY,bZ,b0,b1,b2,b3,b5],defers:=[] } wr:=by
 have ao:=Db ag;have J:Hid (∀i x:Nat,d[i]?=some x->wr.cell? (dQ L i)=some (dI x)):=Γ;have aw:=Db ah;have aj:=Db Y;have an:=Db Z;have au:=Db ab;have aq:=Db aa;have ar:=Db o3;have av:=Db x4;have ak:=Db ac;have am:=Db ad;clear Y Z ab aa ag ah o3 x4 ac ad;have aA:IntKind.i64.wrap ((d.length)-1)=((d.length-1:Nat)):=by grind [IntKind.wrap_i64]
 generalize hQ:bodyPost prog Tryz.f91 (λr w'=>r=dR (dV true)/\Bw w w')=Q at G ⊢
 unfold Tryz.f91 at G;unfold Tryz.f91;simp only[LK,PD,CS]at G ⊢;rw[<-hQ]at G ⊢;clear hQ;go_wp2_with fail;clear aA
 go_loopw [12] (λk dv=>∃j:Nat,k=dI j/\dv=wr/\j<d.length/\Hid (∀i x,j<=i->i+1<d.length->d[i]?=some x->e<x)) (λk _=>(intOf k).toNat)
 case atStart=>exact⟨d.length-1,rfl,rfl,Ω,λi x u p=>Ω⟩
 case round=>
  obtain⟨j,rfl,dC,hj,I⟩:=hrel
  rename World=>wz
  subst wz;have dy:(j)<d.length:=Ω;by_cases M:0<j/\∃x:Nat,d[j-1]?=some x/\e<x
  .obtain⟨z,x,s,dx⟩:=M;have X:=Da J _ _ s;have z0:(0)<j:=Ω;have ai:IntKind.i64.wrap ((j)-1)=((j-1:Nat)):=(by rw[AI];omega);have az:((j-1:Nat))<d.length:=Ω;go_wp2
   go_roundw
   case rel=>
    refine⟨j-1,rfl,by first|rfl|trivial,Ω,λi y u p h3=>?_⟩;rcases AD (j-1) i with q|q;exact Da I i y Ω p h3;obtain rfl:i=j-1:=Ω;simp_all
   case measure=>simp[intOf];omega
  .have U:Hid (PA d e j):=⟨hj,λi x u p=>by have:i=j-1:=Ω;subst this;exact Int.not_lt.1 (λq=>Ξ),Da I⟩;go_upto_region 15 with fail
   go_cut [93] (λc w'=>c=dV false/\w'=wr)
   case first=>
    rcases Bn j with z|z
    .subst z;go_wp2
     go_meet
     simp_all
    .obtain⟨x,s⟩:∃x,d[j-1]?=some x:=⟨_,Ab Ω⟩;have X:=Da J _ _ s;have z0:(0)<j:=Ω;have ai:IntKind.i64.wrap ((j)-1)=((j-1:Nat)):=(by rw[AI];omega);have az:((j-1:Nat))<d.length:=Ω;have dz:=(Da U).lo _ x Ω s;clear M;go_wp2
     go_meet
     simp_all
   case rest=>
   obtain⟨rfl,N⟩:=hcut;subst wc;clear M I;go_upto_if 98 with fail
   go_cut [13] (λf w'=>f=dI (j-1:Nat)/\w'=wr)
   case first=>
    rcases Bn j with z|z
    .subst z;go_wp2
     go_meet
     simp_all
    .have z0:(0)<j:=Ω;have ai:IntKind.i64.wrap ((j)-1)=((j-1:Nat)):=(by rw[AI];omega);go_wp2
     go_meet
     simp_all
   case rest=>
   obtain⟨rfl,N⟩:=hcut;subst wc;obtain⟨x,s⟩:∃x,d[j]?=some x:=Ξ;have X:=Da J _ _ s;have dE:=(Da ao _ _ s).2;have dD:IntKind.i64.wrap ((x)-1)=x-1:=(by rw[AI];omega);obtain⟨o,af⟩:∃c:Bool,c=true↔((x)<=e\/m=true/\e=x-1):=⟨decide _,decide_eq_true_iff⟩;have V:=Db af;clear af;go_upto_region 20 with fail
   go_cut [124] (λc w'=>c=dV o/\w'=wr)
   case first=>
    have ax:((x)<=e/\o=true)\/(¬((x)<=e)/\m=false/\o=false)\/(¬((x)<=e)/\m=true/\¬(e=x-1)/\o=false)\/(¬((x)<=e)/\m=true/\e=x-1/\o=true):=by
     have:=Da V;have hf:¬((x)<=e\/m=true/\e=x-1)->o=false:=λh=>by
      cases hc:o with
      |false=>rfl
      |true=>exact absurd (this.1 hc) h
     by_cases A:(x)<=e;exact .inl ⟨A,this.2 (.inl A)⟩;cases m with
     |false=>exact .inr (.inl ⟨A,rfl,hf (by rintro(h|⟨h,_⟩);exact A h;cases h)⟩)
     |true=>
      by_cases R:e=x-1;exact .inr (.inr (.inr ⟨A,rfl,R,this.2 (.inr ⟨rfl,R⟩)⟩));exact .inr (.inr (.inl ⟨A,rfl,R,hf Ω⟩))
    rcases ax with⟨u,rfl⟩|⟨u,rfl,rfl⟩|⟨u,rfl,p,rfl⟩|⟨u,rfl,p,rfl⟩
    case' inr.inr.inr=>have ae:=ET.2 p
    case' inr.inr.inr=>clear p
    case' inr.inr.inl=>have ae:=Bs.2 p
    all_goals
     go_wp2
     go_meet
     first|exact⟨rfl,rfl⟩|exact⟨by rw[ae],rfl⟩
   case rest=>
   obtain⟨rfl,N⟩:=hcut;subst wc;obtain⟨t,H⟩:=ex (if o=true then j else j-1);go_upto_if 124 with fail
   go_cut [13] (λf w'=>f=dI (t)/\w'=wr)
   case first=>
    cases o
    .rw[if_neg Δ]at H;subst H;go_wp2
     go_meet
     simp_all
    .rw[if_pos rfl]at H;subst H;go_wp2
     go_meet
     simp_all
   case rest=>
   obtain⟨rfl,N⟩:=hcut;subst wc;have ap:Hid (Pw T d e v j t):=by refine⟨x,s,?_⟩;rw[<-Da aw,<-Da V];simp_all
   go_upto_block 4 with fail
   exact Zpy w wr l vb P E j t D e b n fs O F v B C m ay hE (Da ar) x0 (Da av) (λu p=>Da aj Ω Ω) (Da an) (Da au j t (Da U) (Da ap)) (Da aq) (λh=>Da ak Ω) (λh=>Da am Ω) Ψ
theorem ZnD(w:World)(z vb:Nat)(ka:OA)(kc K ec E:Nat)(fs im:By)(B:Int->Nat)(A:List Nat)(J:Int->List Bool->By)(kk a b:Int)(s t u:By)(hu:u.size<=1048576)(ha:Jt a)(hE:E<=100000000000)(aO:0<A.length)(aP:A.length<=1000000000000)(an:∀(i x:Nat),A[i]?=some x->w.cell? (dQ K i)=some (dI x)/\x<=E)(hx:∀W,Bw w W->W.cell? (dQ z 0)=some (dP vb)/\W.cell? (dQ z 2)=some (dT ka A.length kc)/\W.cell? (dQ z 3)=some (dS K A.length ec)/\W.cell? (dQ z 4)=some (dU fs))(ad:∀W,Bw w W->Cl 30 #[dP vb] W λr w'=>r=dR (dI E)/\w'=W)(af:∀W,Bw w W->∀e:Int,e<9223372036854775808->Cl 64 #[dP vb,dI e] W λr w'=>r=dR (dI (B e:Nat))/\w'=W)(ar:∀e:Int,e<0\/E<e->B e=0)(aV:∀e,B e<=1000000000000)(hI:∀W,Bw w W->Cl 28 #[dP vb] W λr d=>∃f o g,r=dR (dT f o g)/\(convert 59 9 (dT f o g)).run prog d=.ok (dU im) d/\Bw W d)(hB:WC w vb J)(aj:∀e l,e<0->J e l=fs)(ak:∀l,J ((E+1:Nat):Int) l=im)(ac:∀W,Bw w W->∀e:Nat,e<=E->∀v cl (lost:List Bool),Lu W v lost->lost.length<=1000000000000->Cl 151 #[dP z,dI e,dT v lost.length cl,dI b] W λr w'=>r=dR (dV true)/\Bw W w')(aq:∀W,Bw w W->∀(e:Int),-1<=e->e<=E+1->∀v cl (lost:List Bool) (j G:Nat),Lu W v lost->lost.length<=1000000000000->PA A e j->Pw B A e lost j G->Cl 31 #[dP vb,dI e,dT v lost.length cl] W λr d=>∃f o g,r=dR (dT f o g)/\Bw W d/\Hid (∀W2,Bw d W2->Cl 90 #[dP z,dT f o g,dI G,dI j] W2 λr w'=>r=dR (dV true)/\Bw W2 w')):
  Cl 91 #[dP z,.agg (Gm 14 kk a b s t u).toArray] w λr w'=>r=dR (dV true)/\Bw w w':=by
 obtain⟨e,he⟩:∃e:Int,e=(QO a (E+3):Nat)-1:=⟨_,rfl⟩;have aS:=Zq7 a (n:=E+3) Ω;have R : -1<=e/\e<=E+1:=Ω;obtain⟨n,T⟩:=ex (B e);have aZ:n<=1000000000000:=Ξ;have aR:e<0\/(E:Int)<e->n=0:=λh=>by rw[T];exact ar e h
 have av:=Db ad;have ax:Hid (∀W,Cl 66 #[dI a,dI (E+3:Nat)] W λr w'=>r=dR (dI (e+1))/\w'=W):=λW=>by have:=Zh3 W a (E+3) ha Ω Ω;rw[show e+1=((QO a (E+3):Nat):Int) by omega];exact this
 have aw:Hid (∀W,Bw w W->Cl 64 #[dP vb,dI e] W λr w'=>r=dR (dI n)/\w'=W):=λW y=>by rw[T];exact af W y e Ω
 have HI:=Db hI;have HB:=Db hB;have au:=Db ac;have aE:=Db aq;have Q:=Db hx;have aB:=Db an;have az:=Db aj;have aA:=Db ak;have aF:=Db T;have aW:z<w.heap.size:=Ag _ _ (hx w (Ad _ _)).1;have aT:IntKind.i64.wrap ((E:Int)+3)=((E+3:Nat):Int):=by grind [IntKind.wrap_i64]
 have aU:IntKind.i64.wrap (e+1-1)=e:=by grind [IntKind.wrap_i64]
 clear ad af hI hB ac aq hx an aj ak ar aV he aS T;go_enter func91,ntmps91;obtain⟨I,aG,O,-,-,M⟩:=Df w (Gm 14 kk a b s t u) 51;obtain⟨ob,aa⟩:=ex w.heap.size;rw[<-aa]at O;have o2:=O.J 2;have aD:=Db aa;obtain⟨x0,x2,x3,x4⟩:=Da Q I M;clear aa;go_upto_region 1 with fail;rw[<-Da aD];clear aG;have X:Hid (∀W,Bw I W->Gb W ob 51 (Gm 14 kk a b s t u)/\Bw w W):=λW y=>⟨(y.block _ O.lt).M O,M.M (y.Q M.size)⟩;go_upto_region 4 with(first|(go_at_call 30;apply(Da av _ M).Q;rintro r d⟨rfl,hw⟩;subst d)|(go_at_call 66;apply(Da ax _).Q;rintro r d⟨rfl,hw⟩;subst d)|(go_at_call 64;apply(Da aw _ M).Q;rintro r d⟨rfl,hw⟩;subst d))
 go_cut [46] (λc w'=>c=dV false/\w'=I)
 case first=>
  have hc:(e<0/\n=0)\/(¬e<0/\(E:Int)<e/\n=0)\/(¬e<0/\¬(E:Int)<e):=Ω;have aY:¬((n:Int)<0):=Ω;rcases hc with⟨hc,hz⟩|⟨aH,aI,hz⟩|⟨aH,aI⟩
  case' inl=>subst hz
  case' inr.inl=>subst hz
  all_goals
   go_wp2
   go_meet
   simp_all
 case rest=>
 obtain⟨rfl,hw⟩:=hcut;subst wc;clear o2 x0 x2 x3 x4 O aT aU aR;go_wp2_with fail
 go_loopw [8,9,10] (λl v i wr=>∃(m:Nat) (f:OA) (o g:Nat),m<=u.size/\i=dI m/\l=dT f o g/\v=dV (Lq u n m)/\Hid (Nu I wr (dT f o g) u m)) (λ_ _ i _=>u.size-(intOf i).toNat)
 case atStart=>exact⟨0,none,0,0,Ao _,rfl,rfl,rfl,Ad _ _,⟨rfl,.inl ⟨rfl,rfl⟩⟩,λk hk=>by simp_all[Own,Value.ownBlock]⟩
 case round=>
  obtain⟨m,D,lL,F,hm,rfl,rfl,rfl,C⟩:=hrel;have o6:=(Da X _ (Da C).1).1.J 6;by_cases aN:m<u.size
  .have aX:(m:Int)<(u.size:Int):=Ω;go_upto_region 12 with fail;have ap:(((u[m].toNat:Nat):Int)%2==1)=Ma u m:=(by unfold Ma;rw[Ab (show m<u.data.toList.length from aN)];show _=(u[m].toNat%2==1);by_cases q:u[m].toNat%2=1;rw[q];have:((u[m].toNat:Nat):Int)%2=1:=Ω;rw[this];rfl;have:¬(((u[m].toNat:Nat):Int)%2=1):=Ω;rw[Bs.2 this,Bs.2 q]);rw[ap];obtain⟨aM,lM,cM,W,hr,ah⟩:=(Da C).dq Ω;have ab:Hid (Lq u n (m+1)=(Lq u n m && (!(Ma u m) || decide (n<=m)))):=rfl;have aC:=Db ah;clear ap C ah o6;generalize Lq u n m=v at *
   generalize Ma u m=lb at *
   have aJ:(v=false/\Lq u n (m+1)=false)\/(v=true/\lb=false/\Lq u n (m+1)=true)\/(v=true/\lb=true/\(n:Int)<=m/\Lq u n (m+1)=true)\/(v=true/\lb=true/\¬((n:Int)<=m)/\Lq u n (m+1)=false):=by
    rw[Da ab];by_cases q:n<=m
    .have:(n:Int)<=m:=Ω;cases v<;>cases lb<;>simp[q,this]
    .have:¬((n:Int)<=m):=Ω;cases v<;>cases lb<;>simp[q,this]
   clear ab;rcases aJ with⟨rfl,L⟩|⟨rfl,rfl,L⟩|⟨rfl,rfl,aQ,L⟩|⟨rfl,rfl,aQ,L⟩;all_goals
    have ay:=Db L;clear L;go_wp2_with(at_builtin;refine Aq _ rfl _ _ 69 69 rfl _ _ rfl rfl _ _ hr ?_)
    go_roundw
    case rel=>exact⟨m+1,aM,lM,cM,Ω,by go_num,rfl,by rw[Da ay],aC⟩
    case measure=>simp[intOf];omega
  .obtain rfl:m=u.size:=Ω;obtain⟨aK,U⟩:=(Da C).rd;obtain⟨_,N⟩:=Da X _ (Da C).1;have ao:=Zt7 u n u.size;have Z:=RW u u.size;generalize L9 u u.size=lost at *
   generalize Lq u n u.size=v at *
   subst aK;have tr:∀{W},Bw wr W->Bw w W:=λh=>N.M (h.Q N.size);have Y:lost.length<=1000000000000:=Ω;obtain⟨x0,x2,x3,x4⟩:=Da Q _ N;have ae:¬e<0->¬(E:Int)<e->Cl 151 #[dP z,dI e,dT D u.size F,dI b] wr λr w'=>r=dR (dV true)/\Bw wr w':=λh1 h2=>by have:=Da au wr N e.toNat Ω D F lost (U wr (Ad _ _)) Y;rw[Z,show((e.toNat:Nat):Int)=e by omega]at this;exact this
   have ag:∀W,Bw wr W->∀S,S=J e lost->Cl 31 #[dP vb,dI e,dT D u.size F] W λr d=>∃f o g,r=dR (dT f o g)/\(convert 59 9 (dT f o g)).run prog d=.ok (dU S) d/\Hid (∀W2,Bw d W2->(convert 59 9 (dT f o g)).run prog W2=.ok (dU S) W2)/\d.cell? (dQ z 0)=some (dP vb)/\d.cell? (dQ z 4)=some (dU fs)/\Hid (Bw wr d):=λW y S hS=>by have:=Da HB W (tr y) e Ω D F lost (U W y) Y;rw[Z]at this;apply this.Q;rintro r d⟨f,o,g,rfl,V,q2⟩;have P:=y.M (q2.Q y.size);obtain⟨y0,_,_,y4⟩:=Da Q d (tr P);subst hS;exact⟨f,o,g,rfl,V _ (Ad _ _),V,y0,y4,P⟩
   have ai:∀j G,PA A e j->Pw B A e lost j G->∀W,Bw wr W->W.cell? (dQ z 0)=some (dP vb)/\Cl 31 #[dP vb,dI e,dT D u.size F] W λr d=>∃f o g,r=dR (dT f o g)/\Hid (Cl 90 #[dP z,dT f o g,dI G,dI j] d λr w'=>r=dR (dV true)/\Bw w w'):=λj G hj hf W y=>by have:=Da aE W (tr y) e R.1 R.2 D F lost j G (U W y) Y hj hf;rw[Z]at this;refine⟨(Da Q W (tr y)).1,this.Q ?_⟩;rintro r d⟨f,o,g,rfl,V,q2⟩;have P:=(tr y).M (V.Q (tr y).size);refine⟨f,o,g,rfl,(Da q2 d (Ad _ _)).Q ?_⟩;rintro r w2⟨rfl,q3⟩;exact⟨rfl,P.M (q3.Q P.size)⟩
   have am:∀i x:Nat,A[i]?=some x->wr.cell? (dQ K i)=some (dI x)/\x<=E:=λi x h=>by have:=Da aB i x h;exact⟨(N.J (p:=dQ K i) (Ag _ _ this.1)).M this.1,this.2⟩
   have H:=Db (And.intro am (And.intro (by rw[<-Da aF];exact ao:v=true↔QL lost (B e)) (And.intro ae (And.intro ag ai))));have o3:=(Da X _ (Da C).1).1.J 3;clear am ae ag ai ao C U;go_upto_region 14 with fail;exact Zpx w wr z vb ob K ec kc E u.size ka e b n fs im A B J lost D F v R.1 R.2 hE aO aP (Da H).1 (Da H).2.1 x2 x3 o3 x0 x4 (Da H).2.2.1 (Da H).2.2.2.1 (Da H).2.2.2.2 (λW y=>Da HI W (tr y)) (λh=>Da az e lost h) (λh=>by have:=Da aA lost;rw[show((E+1:Nat):Int)=e by omega]at this;exact this) Ψ
section
variable{T:Nat}{F:LY}{ps:LB}{ep:List Int}{s:KS}{kb:List RT}{en:List Nat}
theorem Ztu(h:Hu T F ps ep s kb en)(o:Gy s)(n:Hp s)(p:s.tn<=T){e:Int}(h1 : -1<=e)(h2:e<=ep.length+1){l:List Bool}{j f:Nat}(c:PA en e j)(r:Pw (λe=>Is ep ps.length e) en e l j f):∃i b,f<=i/\i<=j/\kb[i]?=some b/\GP T b (Ic F ps ep e l):=by
 obtain⟨x,g,f1,f2⟩:=r;have ac:f<=j:=by grind
 have t:=c.lt;by_cases e0:e<0;have aa:j=0:=by rcases Bn j with q|q;omega;have:=c.lo (j-1) _ Ω (Ab Ω);omega
 obtain⟨b,d,a⟩:=h.zero;grind [Yw];by_cases e1:e<=ep.length;obtain⟨k,rfl⟩:∃k:Nat,e=k:=⟨e.toNat,Ω⟩;exact ZtP h Ω l ⟨t,λi y d a=>by have:=c.lo i y d a;omega,λi y d a u=>by have:=c.hi i y d a u;omega⟩ g Γ Γ;have m:e=((ep.length+1:Nat)):=Ω;obtain⟨b,d,a⟩:=h.ci;have ab:j=en.length-1:=by by_cases q:j+1<en.length;have:=c.hi j x (Aa _) q g;have:=h.gq x (Ai g);omega;omega
 have hl:=h.ll;exact⟨j,b,Ω,Aa _,Ξ,by rw[m,ZF h];exact⟨s,rfl,o,n,a,p⟩⟩
theorem Zom(h:Hu T F ps ep s kb en)(e:Int)(a:List Bool)(k:Nat)(hk:k<1536):(let S:=I9 (λi=>Gn (DI (Ic F ps ep e (Jq (Is ep ps.length e) (i:Nat)))) k) (Gn (DI (Lf F ps ep e)) k) (Gn (DI (Ic F ps ep e [])) k) (Is ep ps.length e);(S.1=0->Gn (DI (Ic F ps ep e a)) k=Gn (DI (Lf F ps ep e)) k/\Gn (DI (Ic F ps ep e [])) k=Gn (DI (Lf F ps ep e)) k)/\(S.1=1->(a[S.2]?=some true->Gn (DI (Ic F ps ep e a)) k=Gn (DI (Lf F ps ep e)) k)/\(a[S.2]? ≠ some true->Gn (DI (Ic F ps ep e a)) k=Gn (DI (Ic F ps ep e [])) k))):=by
 have hs:=h.se e;have c:GY ep ps.length e=Hc ep ps.length e+Is ep ps.length e:=by grind [Is]
 have b:(Lf F ps ep e)[k]?=some ((Lf F ps ep e)[k]'(by rw[(h.len e []).2.1];omega)):=Ab _;generalize (Lf F ps ep e)[k]' Γ=b0 at b
 have e0:=Rs (h.len e []).2.2.2 b;have e1:∀l,Gn (DI (Ic F ps ep e l)) k=Jw (Ny ps (Hc ep ps.length e) k) b0 l (Is ep ps.length e):=λl=>by refine Rs (h.len e l).2.2.1 ?_;unfold Ic;rw[c];exact Xp (by rw[Ue,h.fl];omega) (by rw[h.g0];omega) _
 grind [Zol,Gn,Zn5]
end
section
variable{K:KS->Prop}{N n0:Nat}{w0 w:World}{xb vb tb db stb rb:Nat}{fs:By}{kp ep:Value}{kts:List (Nat×Value×Value)}{L:List (By×Int)}{F:LY}{kb:List RT}{en:List Nat}
theorem GF.h1{W:World}{D:LY}{r:Ending}{e:World}(h:GF W D r e):∃b d c,r=dR (dT b d c)/\(∀a,Bw e a->(convert 59 9 (dT b d c)).run prog a=.ok (dU (DI D)) a)/\Bw W e:=by obtain⟨b,d,c,rfl,f,j⟩:=h;exact⟨b,d,c,rfl,λa g=>YG ⟨f.1.kept (λk i _=>g.block k i),f.2⟩,j⟩
theorem Hb.hm(h:Hb n0 w0 w xb vb tb db stb rb fs kp ep kts L F kb en)(hs:GZ K (Own ep) N n0 w vb stb db fs kb en)(hN:N<=1900000000)(hl:kts.length<=1000000000000)(hF:∀(i:Nat) (b:RT),kb[i]?=some b->b.2.length+1<=2000000)(kk a b:Int)(ha:Jt a)(hb:Jt b)(s t u:By)(hu:u.size<=1048576):
  Cl 91 #[dP xb,.agg (Gm 14 kk a b s t u).toArray] w λe w'=>e=dR (dV true)/\Bw w w':=by
 obtain⟨U,ps,eq,st,o,c,ac,hI,hC,ae,ah,aj⟩:=hs.dk h.ai Ω;have ai:=h.kl;have B:=c.ll;have ag:=(Ac.1 c.el).1;obtain⟨V,lK,X,rfl⟩:=h.cm.a0;have ad:lK=en.length:=by have:=h.cm.len;omega
 subst ad;rcases h.bj.2 with⟨_,e⟩|⟨Y,cE,R,e,hR,g1,g2,g3,g4⟩;omega;subst e;have tr:∀{W W'},Bw w W->Bw W W'->Bw w W':=λM P=>M.M (P.Q M.size);have Z:∀e l,(DI (Ic U ps eq e l)).size=98304:=λe l=>by rw[RV (c.len e l).2.2.1,(c.len e l).1]
 have hx:∀W,Bw w W->W.cell? (dQ xb 0)=some (dP vb)/\W.cell? (dQ xb 2)=some (dT V en.length X)/\W.cell? (dQ xb 3)=some (dS Y en.length cE)/\W.cell? (dQ xb 4)=some (dU fs):=λW d=>by have:=(h.below d).ac;exact⟨(Gb.J this 0).M rfl,(Gb.J this 2).M rfl,(Gb.J this 3).M rfl,(Gb.J this 4).M rfl⟩
 have Q:∀W,Bw w W->WC W vb (λe l=>DI (Ic U ps eq e l)):=λW d m n e O E cl y G B=>(o.br m (tr d n) e O E cl y G B).Q λ_ _ q=>q.h1;have aa:∀W,Bw w W->Cl 28 #[dP vb] W λr I=>∃z C A,r=dR (dT z C A)/\(convert 59 9 (dT z C A)).run prog I=.ok (dU (DI st.D)) I/\Bw W I:=λW d=>(o.ii W d).Q λr I q=>by obtain⟨z,C,A,H,D,q3⟩:=q.h1;grind [Below.refl]
 have af:∀e:Int,e<0\/(eq.length)<e->Is eq ps.length e=0:=λe O=>by have:=c.se e;unfold Is;rcases O with q|q;simp_all[GY,if_pos];obtain⟨k,rfl⟩:∃k:Nat,e=((k+1:Nat)):=⟨(e-1).toNat,Ω⟩;grind [Hc,Uf,Uv,UR,List.getElem?_eq_none]
 refine ZnD w xb vb V X Y cE _ fs _ _ en _ kk a b s t u hu ha Ω Ω Ω (λi x hi=>⟨?_,c.gq x (Ai hi)⟩) hx o.ik o.wr af (λe=>?_) aa (Q w (Ad _ _)) (by grind [Yw]) (by grind [ZF]) ?_ ?_;rw[hR.J];have e1:(R.take (en.length*1))[i]?=R[i]? := by grind
 simp_all;have:=c.se e;grind [Is];intro W d e O E cl y G B;have hn:Is eq ps.length e<=1000000000000:=by have:=c.se e;grind [Is]
 refine ZlB W xb vb _ e _ b fs _ _ _ E cl y G B Ω hn hb Γ (λm n=>o.wr m (tr d n) e Ω) (λm n=>o.ik m (tr d n)) (λm n=>aa m (tr d n)) (Q W d) Γ (λq=>?_) (λq=>?_) ?_ (λq=>?_) (λl=>c.hy _ l) (λp=>Zib _ p) (λm n=>?_);rw[ac,Zr1 Ω];show DI _=DI _;rw[c.bs Ω];show DI _=DI _;rw[c.dz];show DI _=DI _;rw[q,c.whole];refine ZkV m xb vb _ e _ _ _ _ E cl y (λj v hv=>?_) B hn (by rw[<-c.dz];simp_all) (Z _ _) (Z _ _) Γ Γ (λJ S=>o.wr J Γ e Ω) (λJ S i g hi hg=>?_) (λi _=>Ae (c.hy _ _) (Zib _ i)) (by grind [Zom]);obtain⟨g,f,H,D⟩:=G j v hv;exact⟨g,f,H,(n.J (p:=(dQ g (f+j))) (Ag _ _ D)).M D⟩;have:=Q J Γ J (Ad _ _) e Ω _ (Is eq ps.length e) _ hg (by grind [Sw]);rw[Sw]at this;apply this.Q;rintro r I⟨z,C,A,rfl,H,D⟩;exact⟨z,C,A,rfl,H _ (Ad _ _),D⟩;intro W d e M P E cl y j fr G B hj ab;obtain⟨i0,b0,H,D,q3,q4⟩:=Ztu c hI hC ae M P hj ab;apply(o.br W d e Ω E cl y G B).Q;rintro r I⟨z,C,A,rfl,r1,r2⟩;refine⟨z,C,A,rfl,r2,λJ S=>?_⟩;exact(h.below Γ).ej q4 Ω (c.len e y).2.2.1 (c.len e y).1 (r1.1.kept (λk hk _=>S.block k hk)) H D (by have:=hj.lt;omega) Ω q3 hF
end
section
variable{K:KS->Prop}{N n0:Nat}{w0 w w':World}{xb vb tb db stb rb:Nat}{fs:By}{kp ep:Value}{kts:List (Nat×Value×Value)}{L:List (By×Int)}{F:LY}{kb:List RT}{en:List Nat}
theorem Ztw(h:Hb n0 w0 w xb vb tb db stb rb fs kp ep kts L F kb en)(n:GZ K (Own ep) N n0 w vb stb db fs kb en)(p:N<=1900000000)(r:kts.length<=1000000000000)(k:∀(i:Nat) (b:RT),kb[i]?=some b->b.2.length+1<=2000000)(g a b:Int)(l:Jt a)(d:Jt b)(s t u:By)(v:u.size<=1048576):
  Cl 38 #[dP xb,.agg (Gm 14 g a b s t u).toArray] w λe w'=>e=dR (dV true)/\Bw w w':=by
 have o:Hid (∀W,Bw w W->Cl 91 #[dP xb,.agg (Gm 14 g a b s t u).toArray] W λe w'=>e=dR (dV true)/\Bw W w'):=λW j=>(h.below j).hm (n.below j) p r k g a b l d s t u v;clear h n k l d;go_enter func38,ntmps38;obtain⟨W,j,c,-,-,d⟩:=Df w (Gm 14 g a b s t u) 51;obtain⟨o0,o1,o2,o3,o4,o5,o6⟩:=c.c6;go_wp2_with(apply(Da o _ d).Q;rintro e w1⟨rfl,q⟩);go_ret;exact⟨rfl,d.M (q.Q d.size)⟩
def Ih(n0:Nat)(w0:World)(xb vb tb db stb rb:Nat)(fs:By)(m f:Nat)(w:World):Prop:=
 ∃N kp ep kts L F kb en,Hb n0 w0 w xb vb tb db stb rb fs kp ep kts L F kb en/\GZ (λ_=>True) (Own ep) N n0 w vb stb db fs kb en/\N<=1600*m/\kts.length<=m+1/\F.length<=f+2/\∀(i:Nat) (b:RT),kb[i]?=some b->b.2.length<=f+2
section
variable{m f:Nat}
theorem Ih.below(h:Ih n0 w0 xb vb tb db stb rb fs m f w)(a:Bw w w'):Ih n0 w0 xb vb tb db stb rb fs m f w':=by obtain⟨N,kp,ep,kts,L,F,kb,en,b,c,d⟩:=h;exact⟨N,kp,ep,kts,L,F,kb,en,b.below a,c.below a,d⟩
theorem Ih.ek(h:Ih n0 w0 xb vb tb db stb rb fs m f w){b a:Nat}(hm:m<=b)(hf:f<=a):Ih n0 w0 xb vb tb db stb rb fs b a w:=by obtain⟨N,kp,ep,kts,L,F,kb,en,c,d,h3,h4,h5,h6⟩:=h;exact⟨N,kp,ep,kts,L,F,kb,en,c,d,Ω,Ω,Ω,Γ⟩
theorem Ih.post(h:Hb n0 w0 w xb vb tb db stb rb fs kp ep kts L F kb en)(l:GZ (λ_=>True) (Own ep) N n0 w vb stb db fs kb en)(g:N<=1600*m)(j:kts.length<=m+1)(h6:∀(i:Nat) (b:RT),kb[i]?=some b->b.2.length<=f+2){d:List (By×Int)}{c:LY}{e:Ending}(a:Kw (Zk n0 kts) w vb tb rb xb kp ep (dU fs) d c e w')(k:c.length<=f+3):e=dR (dV true)/\Ih n0 w0 xb vb tb db stb rb fs m (f+1) w':=
 ⟨a.1,N,kp,ep,kts,d,c,kb,en,h.step a.2.1 a.2.2.2,l.step a.2.1,g,j,k,Γ⟩
theorem Ih.step(h:Ih n0 w0 xb vb tb db stb rb fs m f w)(hf:f<=1100000)(k d a b:Int)(g:Jt a)(i:Jt b)(s t u:By)(j:s.size<=1048576)(l:t.size<=1048576)(n:u.size<=1048576):
  Cl 36 #[dP xb,.agg (Gm k d a b s t u).toArray] w λe w'=>e=dR (dV true)/\Ih n0 w0 xb vb tb db stb rb fs m (f+1) w':=by
 obtain⟨N,kp,ep,kts,L,F,kb,en,c,h2,h3,h4,h5,h6⟩:=h;exact(ZqD w vb tb rb xb kp ep _ L F c.ac c.md d a b s t u (Rz Sa) Ω k g.2 i.2 j l n).Q λe w' ⟨L',F',hp,hF⟩=>by grind [Ih.post]
theorem Ih.c8(h:Ih n0 w0 xb vb tb db stb rb fs m f w)(hf:f<=1100000)(k d a b:Int)(s t u:By)(o:s.size<=1048576)(p:u.size<=1048576):
  Cl 37 #[dP xb,.agg (Gm k d a b s t u).toArray] w λe w'=>e=dR (dV true)/\Ih n0 w0 xb vb tb db stb rb fs m (f+1) w':=by
 obtain⟨N,kp,ep,kts,L,F,kb,en,c,g,i,j,h5,l⟩:=h;exact(ZI w vb tb rb xb kp ep _ L F c.ac c.md Ω k d a b s t u o p).Q λe w' n=>Ih.post c g i j l n (by have:=ZhJ L F s a u;omega)
theorem Ih.a9(h:Ih n0 w0 xb vb tb db stb rb fs m f w)(hm:m<=1048576)(hf:f<=1100000)(k d a b:Int)(hk:k<=14)(y:Jt a)(c:Jt b)(s t u:By)(A:u.size<=1048576):
  Cl 38 #[dP xb,.agg (Gm k d a b s t u).toArray] w λe w'=>e=dR (dV true)/\Ih n0 w0 xb vb tb db stb rb fs (m+1) f w':=by
 have l:∀(e:Ending) w',(e=dR (dV true)/\Bw w w')->e=dR (dV true)/\Ih n0 w0 xb vb tb db stb rb fs (m+1) f w':=λe w' q=>⟨q.1,(h.below q.2).ek (Ef _) (Aa _)⟩;by_cases v:k<=10;exact(Znt w _ k d a b s t u v).Q l;obtain⟨N,kp,ep,kts,L,F,kb,en,g,j,h3,h4,n,x⟩:=h;have p:∀(e:Ending) w',(e=dR (dV true)/\MO N n0 w0 xb vb tb db stb rb fs kts.length L F kb en w')->e=dR (dV true)/\Ih n0 w0 xb vb tb db stb rb fs (m+1) f w':=by rintro e w'⟨q,M,mm,B,r,C,r1,r2,D,E⟩;refine⟨q,M,B,r,C,L,F,_,_,D,E,Ω,Ω,n,λi b c=>?_⟩;rcases AD i kb.length with z|z;rw[Ap z]at c;exact x i b c;rw[AJ z]at c;rw[Ax.1 (Ai c)];exact n
 have o:∀(i:Nat) (b:RT),kb[i]?=some b->b.2.length+1<=2000000:=Γ;obtain rfl|rfl|rfl|rfl:k=11\/k=12\/k=13\/k=14:=Ω;exact(Ztz g j Ω Ω d a b s t u).Q p;exact(Zty g j Ω Ω d a b s t u).Q p;exact(Ztx g j Ω Ω o d a b s t u).Q l;exact(Ztw g j Ω Ω o d a b y c s t u A).Q l
theorem Ih.held(h:Ih n0 w0 xb vb tb db stb rb fs m f w):(w.cell? ⟨xb,0,none⟩=some (dP vb)/\w.cell? ⟨xb,1,none⟩=some (dP rb))/\Below n0 w0 w/\Cl 18 #[dP vb,dP rb] w λe w'=>e=dR (dV true)/\Ih n0 w0 xb vb tb db stb rb fs m f w':=by have b:=h;obtain⟨N,kp,ep,kts,L,F,kb,en,a,h2,h3,h4,h5,h6⟩:=h;exact⟨⟨(Gb.J a.ac 0).M rfl,(Gb.J a.ac 1).M rfl⟩,a.aa,(Zpn (Rz Sa) w vb tb rb L F a.md).Q λe w' q=>⟨q.1,b.below q.2⟩⟩
end
end
structure Lb where
 k:Int
 kk:Int
 a:Int
 b:Int
 s:By
 t:By
 u:By
def Lb.ok(o:Lb):Prop:=Jt o.a/\Jt o.b/\o.s.size<=1048576/\o.t.size<=1048576/\o.u.size<=1048576
def Nd(w:World)(sa:OA)(os:List Lb):Prop:=∀(m:Nat) (o:Lb),os[m]?=some o->∃g f,sa=some ⟨g,f,none⟩/\w.cell? ⟨g,f+m*7,none⟩=some (dI o.k)/\w.cell? ⟨g,f+m*7+1,none⟩=some (dI o.kk)/\w.cell? ⟨g,f+m*7+2,none⟩=some (dI o.a)/\w.cell? ⟨g,f+m*7+3,none⟩=some (dI o.b)/\w.cell? ⟨g,f+m*7+4,none⟩=some (dU o.s)/\w.cell? ⟨g,f+m*7+5,none⟩=some (dU o.t)/\w.cell? ⟨g,f+m*7+6,none⟩=some (dU o.u)
def Yu(w:World)(e:Ending)(w':World):Prop:=e=dR (dV true)/\Bw w w'
theorem Nd.below{w':World}{i:OA}{c:List Lb}(h:Nd w i c)(a:Bw w w'):Nd w' i c:=λm o ho=>by obtain⟨g,f,e,d,j,k,l,n,q,r⟩:=h m o ho;have b:g<w.heap.size:=Ag _ _ d;exact⟨g,f,e,(a.J (p:=⟨g,f+m*7,none⟩) b).M d,(a.J (p:=⟨g,f+m*7+1,none⟩) b).M j,(a.J (p:=⟨g,f+m*7+2,none⟩) b).M k,(a.J (p:=⟨g,f+m*7+3,none⟩) b).M l,(a.J (p:=⟨g,f+m*7+4,none⟩) b).M n,(a.J (p:=⟨g,f+m*7+5,none⟩) b).M q,(a.J (p:=⟨g,f+m*7+6,none⟩) b).M r⟩
theorem ZoB(w:World)(hp:GU w)(E:OA)(c:Nat)(h:List Lb)(hn:h.length<=1048576)(ab:∀o∈h,o.ok)(l:Nd w E h):
  Cl 14 #[dT E h.length c,dI 14] w (Yu w):=by
 have aa:=M3 w hp;have af:Hid (∀W,Bw w W->Nd W E h):=λW d=>l.below d;have O:=Db ab;clear hp l ab;go_enter func14,ntmps14;go_wp2_with fail;apply aa.Q;rintro e w1⟨xb,vb,tb,db,stb,rb,kp,ep,kts,rfl,ag,Y,Z⟩;obtain⟨P,j⟩:=ex (Ih w.heap.size w xb vb tb db stb rb (DI JO));have z:Hid (P 0 0 w1):=by rw[j];exact⟨0,kp,ep,kts,[],[],_,_,Y,Z,Ω,Ω,Θ,λi b hb=>by rw[Ax.1 (Ai hb)];simp⟩
 have G:∀n:Nat,n<100->Jt n:=λn hn=>⟨Ω,Ω⟩;have H:Hid (Cl 36 #[dP xb,.agg (Gm 1 0 0 0 ⟨#[47,97]⟩ ⟨#[]⟩ ⟨#[]⟩).toArray] w1 λe w'=>e=dR (dV true)/\Hid (P 0 1 w')):=by rw[j]at z ⊢;exact Ih.step z Ω 1 0 0 0 (G 0 Ω) (G 0 Ω) ⟨#[47,97]⟩ ⟨#[]⟩ ⟨#[]⟩ (by simp[ByteArray.size]) (by simp[ByteArray.size]) (by simp[ByteArray.size])
 have V:Hid (∀W,P 0 1 W->Cl 37 #[dP xb,.agg (Gm 0 0 3 0 ⟨#[47,97,47,102]⟩ ⟨#[]⟩ ⟨#[120,121,122]⟩).toArray] W λe w'=>e=dR (dV true)/\Hid (P 0 2 w')):=λW d=>by rw[j]at d ⊢;exact Ih.c8 d Ω 0 0 3 0 ⟨#[47,97,47,102]⟩ ⟨#[]⟩ ⟨#[120,121,122]⟩ (by simp[ByteArray.size]) (by simp[ByteArray.size])
 have y:Hid (∀m f W,P m f W->Bw w W):=λm f W d=>by rw[j]at d;exact d.held.2.1
 have T:Hid (∀m W (o:Lb),m<=1048576->o.ok->P m (m+2) W->Cl 36 #[dP xb,.agg (Gm o.k o.kk o.a o.b o.s o.t o.u).toArray] W λe w'=>e=dR (dV true)/\Hid (P m (m+3) w')):=λm W o A ho d=>by obtain⟨B,C,o3,o4,D⟩:=ho;rw[j]at d ⊢;exact d.step Ω o.k o.kk o.a o.b B C o.s o.t o.u o3 o4 D
 have I:Hid (∀m W (o:Lb),m<=1048576->o.ok->o.k<=14->P m (m+3) W->Cl 38 #[dP xb,.agg (Gm o.k o.kk o.a o.b o.s o.t o.u).toArray] W λe w'=>e=dR (dV true)/\Hid (P (m+1) (m+3) w')):=λm W o A ho q d=>by obtain⟨B,C,o3,o4,D⟩:=ho;rw[j]at d ⊢;exact d.a9 A Ω o.k o.kk o.a o.b q B C o.s o.t o.u D
 have M:Hid (∀m W,P m (m+2) W->P (m+1) (m+3) W):=λm W d=>by rw[j]at d ⊢;exact d.ek Ω Ω
 have r:Hid (∀m f W,P m f W->(W.cell? ⟨xb,0,none⟩=some (dP vb)/\W.cell? ⟨xb,1,none⟩=some (dP rb))/\P m f W.drew/\Cl 18 #[dP vb,dP rb] W λe w'=>e=dR (dV true)/\P m f w'):=λm f W d=>by rw[j]at d ⊢;exact⟨d.held.1,d.below (Ad _ _).drew,d.held.2.2⟩
 clear aa Y Z ag j G z;go_wp2_with fail;apply(Da H).Q;rintro e w2⟨rfl,Q⟩;clear H;go_wp2_with fail;apply(Da V w2 (Da Q)).Q;rintro e w3⟨rfl,ac⟩;clear V Q;go_wp2_with fail
 go_loopw [7] (λi wr=>∃m:Nat,m<=h.length/\i=dI m/\Hid (P m (m+2) wr)) (λi _=>h.length-(intOf i).toNat)
 case atStart=>exact⟨0,Ao _,rfl,ac⟩
 case round=>
  obtain⟨m,A,rfl,v⟩:=hrel;by_cases ah:m<h.length
  .obtain⟨o,ho⟩:∃o,h[m]?=some o:=⟨_,Ab ah⟩;have l:=λW d=>Da af W d m o ho;obtain⟨g,f,rfl,q0,q1,q2,q3,q4,q5,q6⟩:=l wr (Da y _ _ _ (Da v));have S:Hid (∀W,Bw w W->W.cell? ⟨g,f+m*7,none⟩=some (dI o.k)/\W.cell? ⟨g,f+m*7+1,none⟩=some (dI o.kk)/\W.cell? ⟨g,f+m*7+2,none⟩=some (dI o.a)/\W.cell? ⟨g,f+m*7+3,none⟩=some (dI o.b)/\W.cell? ⟨g,f+m*7+4,none⟩=some (dU o.s)/\W.cell? ⟨g,f+m*7+5,none⟩=some (dU o.t)/\W.cell? ⟨g,f+m*7+6,none⟩=some (dU o.u)):=λW d=>by obtain⟨g',f',X,p⟩:=l W d;simp only[CX,FT,and_true]at X;obtain⟨rfl,rfl⟩:=X;exact p
   have U:=Db (Da T m wr o Ω (Da O o (Ai ho)) (Da v));have J:Hid (∀W,o.k<=14->P m (m+3) W->Cl 38 #[dP xb,.agg (Gm o.k o.kk o.a o.b o.s o.t o.u).toArray] W λe w'=>e=dR (dV true)/\Hid (P (m+1) (m+3) w')):=λW q d=>Da I m W o Ω (Da O o (Ai ho)) q d;have ae:Hid (P (m+1) (m+1+2) wr):=Da M m wr (Da v);obtain⟨k,kk,a,b,s,t,u⟩:=o;clear ho l T I M;simp only at q0 q1 q2 q3 q4 q5 q6 S U J;by_cases q:k<=14
   .go_wp2_with fail;apply(Da U).Q;rintro e w4⟨rfl,R⟩;clear q0 q1 q2 q3 q4 q5 q6;obtain⟨p0,p1,p2,p3,p4,p5,p6⟩:=Da S w4 (Da y _ _ _ (Da R));go_wp2_with fail;apply(Da J w4 q (Da R)).Q;rintro e w5⟨rfl,ad⟩;go_wp2
    go_roundw
    case rel=>exact⟨m+1,Ω,by go_num,ad⟩
    case measure=>simp[intOf];omega
   .go_wp2
    go_roundw
    case rel=>exact⟨m+1,Ω,by go_num,ae⟩
    case measure=>simp[intOf];omega
  .obtain rfl:m=h.length:=Ω;obtain⟨⟨y0,y1⟩,hd,hc⟩:=Da r _ _ _ (Da v);have HC:=Db (Da r _ _ _ hd).2.2;clear hd hc;go_upto_region 18 with fail;go_region_held3 (λW=>W.cell? ⟨xb,0,none⟩=some (dP vb)/\W.cell? ⟨xb,1,none⟩=some (dP rb)) (go_keep)
    (first|(go_at_call 18;apply(Da HC).Q;rintro e w6⟨rfl,x⟩;have z0:=(Da r _ _ _ x).1.1;have z1:=(Da r _ _ _ x).1.2;have HQ:=Db x;clear x))
   all_goals
    go_wp2;go_ret;exact⟨rfl,Da y _ _ _ (Da HQ)⟩
theorem Zo1(w:World)(i:GU w)(b:OA)(c:Nat)(a:List Lb)(d:a.length<=1048576)(g:∀o∈a,o.ok)(k:Nd w b a):
  Cl 4 #[dT b a.length c] w (Yu w):=by
 have h:=ZoB w i b c a d g k;go_enter func4,ntmps4;go_wp2_with fail;apply h.Q;rintro e w1⟨rfl,j⟩;go_wp2;go_ret;exact⟨rfl,j⟩
