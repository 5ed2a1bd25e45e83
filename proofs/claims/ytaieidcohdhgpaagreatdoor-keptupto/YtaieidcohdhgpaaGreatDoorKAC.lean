/- Kept. -/
import Derived.Test.YtaieidcohdhgpaaGreatDoorKAA
import Derived.Test.YtaieidcohdhgpaaGreatDoorKAB
import Derived.Deep.DeepCutAuto
namespace Go.Proofs.YtaieidcohdhgpaaGreatDoor
variable{p:By}{F:LY}{L:List (By×Int)}{a g j k n:Nat}{X:Nat->Prop}{b d f v:Value}{w w':World}
set_option maxHeartbeats 40000000
set_option maxRecDepth 100000
set_option linter.all false
open Tryz
open Go.RowKit
abbrev BG:=@Lib.extract_data
theorem WK:∀(l:List UInt8) (i:Nat),(∀j,j<i->l[j]? ≠ some 47)->l[i]?=some 47->Lib.indexByte l 47=i
 |[],i,_,h=>by simp at h
 |a::l,0,_,h=>by simp at h;simp[Lib.indexByte,h]
 |a::l,i+1,h,h1=>by have b:a≠47:=λe=>h 0 Ω (by simp[e]);have:=WK l i (λj hj=>by have:=h (j+1) Ω;simpa using this) (by simpa using h1);simp[Lib.indexByte,b,this]
theorem Xi:∀(l:List UInt8),(∀j:Nat,l[j]? ≠ some 47)->Lib.indexByte l 47 = -1
 |[],_=>by simp[Lib.indexByte]
 |a::l,h=>by have b:a≠47:=λe=>h 0 (by simp[e]);have:=Xi l (λj=>by have:=h (j+1);simpa using this);simp[Lib.indexByte,b,this]
def pc(s:By):LY:=Lib.splitB ⟨#[47]⟩ 0 (Lib.countB s ⟨#[47]⟩) s
theorem Zie(s:By):Lib.indexB s ⟨#[47]⟩=Lib.indexByte s.data.toList 47:=Lib.index_one _ _
theorem US(s:By)(h:∀j:Nat,s.data.toList[j]? ≠ some 47):pc s=[s]:=
 Lib.splitB_miss _ _ _ _ ((Zie s).M (Xi _ h))
theorem PR(s:By)(i:Nat)(h:∀j,j<i->s.data.toList[j]? ≠ some 47)(b:s.data.toList[i]?=some 47):pc s=s.extract 0 i::pc (s.extract (i+1) s.size):=by have a:=(Zie s).M (WK _ i h b);unfold pc;rw[Lib.countB_hit s ⟨#[47]⟩ i (Aa 1) a,C9 1,Lib.splitB_hit _ _ _ _ i a];rfl
theorem QD(p:By)(f:Nat):(p.extract f p.size).data.toList=p.data.toList.drop f:=Lib.extract_to_end p f
theorem Zta(p:By)(f i:Nat)(hf:f<=i)(h:∀j,f<=j->j<i->p.data.toList[j]? ≠ some 47)(a:p.data.toList[i]?=some 47):
  pc (p.extract f p.size)=p.extract f i::pc (p.extract (i+1) p.size):=by
 have aa:i<p.size:=(Ac.1 a).1;rw[PR _ (i-f) (λj hj=>by rw[QD,BF];exact h _ Ω Ω) (by rw[QD,BF,show f+(i-f)=i by omega];exact a)];have e1:(p.extract f p.size).extract 0 (i-f)=p.extract f i:=by apply AW;rw[BG,BG,BG];grind
 grind [WideShapes.bytes_inj,QD,List.drop_drop]
theorem Ztb(p:By)(f:Nat)(h:∀j,f<=j->p.data.toList[j]? ≠ some 47):pc (p.extract f p.size)=[p.extract f p.size]:=
 US _ (λj=>by rw[QD,BF];exact h _ Ω)
def Dc(p:By):LY:=if p.toList==[47] then [] else pc (p.extract 1 p.size)
def Di(p:By):Bool:=p.toList==[47] || (p.data.toList[0]? == some 47 && decide ((pc (p.extract 1 p.size)).length<=6) && (pc (p.extract 1 p.size)).all DZ)
theorem SW:(prog.info? 9).map (λi=>(i.zero,i.size,i.bytes))=some (some (dU ⟨#[]⟩),1,16):=Φ
theorem Zt1(p:By)(k:Nat)(h:k<p.size):p.data.toList[k]?=some p[k]:=by rw[Ab Ξ];rfl
theorem Ua(p:By)(k:Nat)(h:k<p.size):((p[k].toNat:Int) != 47)=true↔p.data.toList[k]? ≠ some 47:=by rw[Zt1 p k h,EC];constructor;intro a b;simp_all;intro a b;exact a (by rw[CX];exact FW.1 Γ)
theorem T2(p:By):(pc p).length<=p.size+1:=by have:=Lib.splitB_length_le ⟨#[47]⟩ 0 (Lib.countB p ⟨#[47]⟩) p;have h2:=Lib.countB_le ⟨#[47]⟩ (Aa 1) _ p (Aa _);grind [pc]
theorem QB(p:By)(w:World)(hp:p.size<=2000000):
  Cl 103 #[dU p] w λe w'=>∃a n c,e=dR (.tuple #[dT a n c,dV (Di p)])/\(Di p=true->n=(Dc p).length)/\Bw w w':=by
 obtain⟨b,A⟩:=ex (Di p);rw[<-A];cases h0:(p.toList==[47]) with
 |true=>
  obtain rfl:b=true:=by grind [Di]
  have C:(Dc p).length=0:=by grind [Dc]
  have HN:=Db C;clear A C;go_enter func103,ntmps103;go_wp2
  go_ret2
  exact⟨none,0,0,rfl,by grind [Da],Ad _ _⟩
 |false=>
 have X:=Zo p;by_cases t:p.size<1
 .have am:p.toList.isEmpty=true:=Ξ;obtain rfl:b=false:=by simp_all[Di]
  clear A X;go_enter func103,ntmps103;go_wp2
  go_ret2
  exact⟨none,0,0,rfl,λh=>(by cases h),Ad _ _⟩
 have am:p.toList.isEmpty=false:=Ξ;have au:0<p.size:=Ω;clear X;have T:=Ua p 0 au;cases o:((p[0].toNat:Int) != 47) with
 |true=>
  have B:=T.1 o;obtain rfl:b=false:=by grind [Di]
  clear A T B;go_enter func103,ntmps103;go_wp2
  go_ret2
  exact⟨none,0,0,rfl,λh=>(by cases h),Ad _ _⟩
 |false=>
 have M:p.data.toList[0]?=some 47:=by simp_all
 have V:b=(decide ((pc (p.extract 1 p.size)).length<=6) && (pc (p.extract 1 p.size)).all DZ):=by grind [Di]
 have C:Dc p=pc (p.extract 1 p.size):=by grind [Dc]
 have E:=Db V;have HN:=Db C;obtain⟨i0,ap,ay,az,aA⟩:=Bk SW;have av:=T2 (p.extract 1 p.size);have aw:(p.extract 1 p.size).size<=p.size:=Ξ;have aD:=Db (show(pc (p.extract 1 p.size)).length<=2000001 by omega);clear A V C T M av aw;go_enter func103,ntmps103;go_wp2_with fail
 go_loopw [4,5,6] (λv f i wr=>∃(a:OA) (n c d k:Nat) (l:LY),v=dT a n c/\f=dI d/\i=dI k/\1<=d/\d<=k/\k<=p.size+1/\n=l.length/\
   Hid (Sl wr 9 1 (dT a n c) l.length (l.map .string))/\Hid (k<=p.size->pc (p.extract 1 p.size)=l++pc (p.extract d p.size))/\Hid (k=p.size+1->pc (p.extract 1 p.size)=l)/\Hid (∀g,(Value.slice a n c).ownBlock=some g->w.heap.size<=g)/\Hid (l.all DZ=true)/\Hid (∀j,d<=j->j<k->p.data.toList[j]? ≠ some 47)/\Bw w wr) (λ_ _ i _=>p.size+1-(intOf i).toNat)
 case atStart=>exact⟨none,0,0,1,1,[],rfl,rfl,rfl,Aa _,Aa _,Ω,rfl,⟨rfl,Γ⟩,λ_=>rfl,λh=>Ω,λg h=>by grind [Value.ownBlock],rfl,λj t o=>Ω,Ad _ _⟩
 case round=>
  obtain⟨a,n,c,d,k,l,rfl,rfl,rfl,an,ao,hk,y,N,ac,ad,ar,O,R,q⟩:=hrel;by_cases H:k=p.size+1
  .have Q:=Da ad H;have W:b=decide ((n:Int)<=6):=(by rw[Da E,Q,Da O,y];grind);have ab:n=(Dc p).length:=(by grind [Da]);have ak:=Db ab;have ah:=Db W;clear W ab y Q E N ac ad O R;subst H;have hd:¬((p.size:Int)+1<=p.size):=Ω;have e3:=Da ah;subst e3;go_wp2
   go_ret2
   exact⟨a,n,⟨c,rfl⟩,λ_=>Da ak,q⟩
  have aq:k<=p.size:=Ω;have ae:=Da ac aq;by_cases P:k<p.size/\p.data.toList[k]? ≠ some 47
  .obtain⟨I,B⟩:=P;have hq:=(Ua p k I).2 B;have aj:=Db B;have ai:=Db y;clear B y H;go_wp2
   go_roundw
   case rel=>exact⟨a,n,c,d,k+1,l,rfl,rfl,by go_num,an,Ω,Ω,Da ai,N,λ_=>ae,λh=>Ω,ar,O,λj t o=>by rcases AD j k with h|h;exact Da R j t h;obtain rfl:j=k:=Ω;exact Da aj,q⟩
   case measure=>simp[intOf];omega
  ·obtain⟨D,ax,af,ag⟩:∃D,pc (p.extract d p.size)=p.extract d k::D/\(k+1<=p.size->D=pc (p.extract (k+1) p.size))/\(k+1=p.size+1->D=[]):=(by by_cases I:k<p.size;have M:p.data.toList[k]?=some 47:=(by simp_all);exact⟨_,Zta p d k ao (Da R) M,Γ,λh=>Ω⟩;obtain rfl:k=p.size:=Ω;exact⟨[],Ztb p d (λj t o=>by rcases AD j p.size with h|h;grind [Da];simp_all),Ω,Γ⟩);have G:(¬k<p.size)\/(k<p.size/\∃h:k<p.size,((p[k].toNat) != 47)=false):=(by grind [absurd,Ua]);have Y:pc (p.extract 1 p.size)=(l++[p.extract d k])++D:=Ξ;have J:(p.extract d k).size<=maxLen:=(by grind [maxLen,ByteArray.size_extract]);have aG:l.length+1<=2000001:=(by grind [Da]);have K:=Db Y;have aB:=Db P;have aF:=Db af;have U:=Db ag;have aC:=Db y;clear ax af ag P ae Y y H;obtain⟨r,m,s,w1,S,x⟩:∃r m s w',(Builtin.append_ #[84,84] 84 #[dT a n c,dS wr.heap.size 1 1]).run prog (wr.alloc (.cells #[dU (p.extract d k)] 9))=.ok (dT r m s) w'/\Hid (m=(l++[p.extract d k]).length/\Sl w' 9 1 (dT r m s) (l++[p.extract d k]).length ((l++[p.extract d k]).map .string)/\Bw w w'/\∀g,(Value.slice r m s).ownBlock=some g->w.heap.size<=g):=by
    have al:Sl (wr.alloc (.cells #[dU (p.extract d k)] 9)) 9 1 (dT a n c) l.length (l.map .string):=Sl.a3 ((Da N).bp.alloc _);have F:Bw wr (wr.alloc (.cells #[dU (p.extract d k)] 9)):=(Ad _ _).alloc (Aa _) _;obtain⟨v',w',t,o,z,h4⟩:=J1 _ 84 84 9 i0 _ 1 16 underlying84 ap ay az aA rfl Δ _ _ _ al _ 1 1 _ rfl
     (λj u hu=>by rw[AG,Av,World.cell?_alloc_at _ _ _ _ rfl];simpa using hu) (by grind [Value.oneCell']) (by grind [maxLen]) Ω
    obtain⟨r,m,s,rfl⟩:=o.a0;have Q:m=l.length+1:=(by rcases o.2 with⟨h,h'⟩|⟨g,aE,L,h,_⟩;omega;simp_all);refine⟨r,m,s,w',t,Ξ,Ξ,?_⟩;refine⟨⟨z.os.M q.os,z.tape.M q.tape,z.output.M q.output,Ae q.size (Ae F.size z.size),λi Z=>?_⟩,λg hg=>?_⟩
    rotate_left
    rcases h4 g hg with h|h;grind [Da];have:=F.size;have:=q.size;omega;have aa:=As Z q.size;rw[z.block i (As aa F.size) (λe=>?_),F.block i aa,q.block i Z];grind [Da]
   cases hok:DZ (p.extract d k) with
   |false=>
    obtain rfl:b=false:=(by rw[Da E,Da K];grind);clear S E;rcases G with G|⟨I,_,hq⟩
    .go_wp2_with(go_at_call 162;apply(RS _ _ J).Q;rintro e w'⟨rfl,rfl⟩)
     go_ret2
     simp_all
    .go_wp2_with(go_at_call 162;apply(RS _ _ J).Q;rintro e w'⟨rfl,rfl⟩)
     go_ret2
     simp_all
   |true=>
    rcases G with G|⟨I,_,hq⟩
    .go_wp2_with(first|(go_at_call 162;apply(RS _ _ J).Q;rintro e w'⟨rfl,rfl⟩)|(at_builtin;refine Aq _ rfl _ _ 84 84 rfl _ _ rfl rfl _ _ S ?_))
     go_roundw
     case rel=>exact⟨r,m,s,k+1,k+1,l++[p.extract d k],rfl,by go_num,by go_num,Ω,Aa _,Ω,(Da x).1,(Da x).2.1,Γ,λh=>by rw[Da K,Da U h,Ca],(Da x).2.2.2,Ξ,λj t o=>Ω,(Da x).2.2.1⟩
     case measure=>grind [intOf]
    .go_wp2_with(first|(go_at_call 162;apply(RS _ _ J).Q;rintro e w'⟨rfl,rfl⟩)|(at_builtin;refine Aq _ rfl _ _ 84 84 rfl _ _ rfl rfl _ _ S ?_))
     go_roundw
     case rel=>exact⟨r,m,s,k+1,k+1,l++[p.extract d k],rfl,by go_num,by go_num,Ω,Aa _,Ω,(Da x).1,(Da x).2.1,by grind [Da],λh=>by rw[Da K,Da U h,Ca],(Da x).2.2.2,Ξ,λj t o=>Ω,(Da x).2.2.1⟩
     case measure=>grind [intOf]
theorem YS(l:List UInt8):(∀j:Nat,l[j]? ≠ some 47)\/∃i:Nat,(∀j,j<i->l[j]? ≠ some 47)/\l[i]?=some 47:=by
 induction l with
 |nil=>simp_all
 |cons a l ih=>
  by_cases h:a=47;exact .inr ⟨0,Ω,Γ⟩;rcases ih with ih|⟨i,h1,h2⟩;grind;exact .inr ⟨i+1,Γ,Ξ⟩
theorem Zno(l:List Nat)(x:Nat)(h:x∈l):x<=l.sum:=by
 induction l with
 |nil=>grind
 |cons a l ih=>
  grind
theorem WR:∀(k:Nat) (s:By),s.size<=k->((pc s).map (λx=>x.size+1)).sum=s.size+1:=by
 intro k
 induction k with
 |zero=>
  simp_all[List.eq_nil_of_length_eq_zero,US]
 |succ k ih=>
  intro s hs;rcases YS s.data.toList with h|⟨i,b,a⟩;grind [US];have hi:i<s.size:=(Ac.1 a).1;rw[PR s i b a,A6,FQ,ih _ (by grind [ByteArray.size_extract])];grind [ByteArray.size_extract]
theorem sum_le(l:LY)(h:l.all DZ=true):(l.map (λx=>x.size+1)).sum<=l.length*13:=by
 induction l with
 |nil=>simp
 |cons a l ih=>
  have ha:a.size<=12:=by simp_all[DZ,Bool.and_eq_true,decide_eq_true_eq]
  grind
theorem UD(p:By)(h:Di p=true):p.size<=78:=by unfold Di at h;rw[CE]at h;rcases h with h|h;have a:p.toList=[47]:=Ξ;rw[BR]at a;have:p.data.toList.length=p.size:=AF;grind;have a:=WR _ (p.extract 1 p.size) (Aa _);grind [sum_le,ByteArray.size_extract]
theorem YM(p:By):Lib.hasPrefix p.data.toList [47]=(p.data.toList[0]? == some 47):=by
 cases h:p.data.toList with
 |nil=>rfl
 |cons a l=>simp[Lib.hasPrefix,List.isPrefixOf];grind
def UI(p:By)(w:World)(e:Ending)(w':World):Prop:=
 ((Di p=false/\e=dR (.tuple #[dN,dV false]))\/
  (Di p=true/\∃a c,e=dR (.tuple #[.slice a (Dc p).length c,dV true])/\Sl w' 9 1 (.slice a (Dc p).length c) (Dc p).length ((Dc p).map .string)))/\Bw w w'
theorem Wa(p:By)(m:Int)(w:World)(hp:p.size<=2000000)(L:w.cell? (dQ 0 0)=some (dI m)):Cl 224 #[dU p] w (UI p w):=by
 obtain⟨b,l⟩:=ex (Di p);cases h0:(p.toList==[47]) with
 |true=>
  have f:Dc p=[]:=by grind [Dc]
  have a:Di p=true:=by grind [Di]
  have d:=Db (show UI p w (dR (.tuple #[dN,dV true])) w from⟨.inr ⟨a,none,0,Ξ,by rw[f];exact⟨rfl,Γ⟩⟩,Ad _ _⟩);clear l f a;go_enter func224,ntmps224;go_wp2
  go_ret2
  exact Da d
 |false=>
 by_cases ac:78<p.size
 .have a:Di p=false:=by grind [Di,UD]
  have d:=Db (show UI p w (dR (.tuple #[dN,dV false])) w from⟨Γ,Ad _ _⟩);clear l a;go_enter func224,ntmps224;go_wp2
  go_ret2
  exact Da d
 cases c:(p.data.toList[0]? == some 47) with
 |false=>
  have a:Di p=false:=by grind [Di]
  have d:=Db (show UI p w (dR (.tuple #[dN,dV false])) w from⟨Γ,Ad _ _⟩);have u:=YM p;rw[c]at u;clear l a c;go_enter func224,ntmps224;go_wp2_with(go_at_call 194;apply(Tryz.strings_HasPrefix _ _ _).Q;rintro e w'⟨rfl,rfl⟩)
  go_ret2
  exact Da d
 |true=>
  have u:=YM p;rw[c]at u;have ae:1<=p.size:=by have:p.data.toList[0]?=some 47:=Ξ;have z:=(Ac.1 this).1;have h3:p.data.toList.length=p.size:=AF;omega
  have f:Dc p=pc (p.extract 1 p.size):=by grind [Dc]
  have a:Di p=(decide ((pc (p.extract 1 p.size)).length<=6) && (pc (p.extract 1 p.size)).all DZ):=by grind [Di]
  have C:(pc (p.extract 1 p.size)).length=Lib.countB (p.extract 1 p.size) ⟨#[47]⟩+1:=Lib.splitB_all ⟨#[47]⟩ (Aa 1) 0 _ _ rfl;have g:=Tryz.strings_Split (p.extract 1 p.size) ⟨#[47]⟩ m w (by grind [ByteArray.size_extract]) L (Aa 1);rw[<-C]at g;change Cl 262 #[dU (p.extract 1 p.size),dU ⟨#[47]⟩] w λe w'=>e=dR (dS w.heap.size (pc (p.extract 1 p.size)).length (pc (p.extract 1 p.size)).length)/\w'=w.alloc (.cells ((pc (p.extract 1 p.size)).map Value.string).toArray 9) at g;have A:=T2 (p.extract 1 p.size);have K:(p.extract 1 p.size).size<=2000000:=by grind [ByteArray.size_extract]
  have v:∀x∈pc (p.extract 1 p.size),x.size<=2000001:=λx y=>by have c:=WR _ (p.extract 1 p.size) (Aa _);have z:x.size+1<=((pc (p.extract 1 p.size)).map (λx=>x.size+1)).sum:=Zno _ _ Γ;omega
  obtain⟨P,o⟩:=ex (pc (p.extract 1 p.size));have J:Sl (w.alloc (.cells (P.map Value.string).toArray 9)) 9 1 (dS w.heap.size P.length P.length) P.length (P.map .string):=
   ⟨Θ,.inr ⟨_,P.length,P.map _,rfl,Bv w _,Aa _,by unfold maxLen;rw[o];omega,Θ,by simp_all[Nat.mul_one,List.take_of_length_le]⟩⟩
  have s:Bw w (w.alloc (.cells (P.map Value.string).toArray 9)):=(Ad _ _).alloc (Aa _) _;rw[<-o]at f a g A v;have I:Hid (P.length<=6->P.all DZ=true->UI p w (dR (.tuple #[dS w.heap.size P.length P.length,dV true])) (w.alloc (.cells (P.map Value.string).toArray 9))):=λc z=>
   ⟨Γ,s⟩
  have H:Hid ((¬P.length<=6)\/P.all DZ=false->UI p w (dR (.tuple #[dN,dV false])) (w.alloc (.cells (P.map Value.string).toArray 9))):=λh=>
   ⟨Γ,s⟩
  have B:∀k,(w.alloc (.cells (P.map Value.string).toArray 9)).cell? (dQ w.heap.size k)=(P[k]?).map Value.string:=Ξ;have HC:=Db B;have ab:=Db v;have ad:P.length<=2000001:=Ω;clear l a C A K o J s f B v c;by_cases h6:6<P.length
  .go_enter func224,ntmps224;go_wp2_with(first|(go_at_call 194;apply(Tryz.strings_HasPrefix _ _ _).Q;rintro e w'⟨rfl,j⟩;rw[j];clear j)|(go_at_call 262;apply g.Q;rintro e w'⟨rfl,rfl⟩))
   go_ret2
   simp_all[Da]
  .go_enter func224,ntmps224;go_wp2_with(first|(go_at_call 194;apply(Tryz.strings_HasPrefix _ _ _).Q;rintro e w'⟨rfl,j⟩;rw[j];clear j)|(go_at_call 262;apply g.Q;rintro e w'⟨rfl,rfl⟩))
   go_loop [25,6] (λi _=>∃k:Nat,k<=P.length/\i=dI k/\Hid ((P.take k).all DZ=true)) (λi _=>P.length-(intOf i).toNat)
   case atStart=>exact⟨0,Ao _,rfl,rfl⟩
   case round=>
    obtain⟨k,hk,rfl,t⟩:=hrel;by_cases E:k<P.length
    .have y:=Ab E;have q:(w.alloc (.cells (P.map Value.string).toArray 9)).cell? (dQ w.heap.size k)=some (dU P[k]):=Ξ;have G:P[k].size<=maxLen:=(by grind [maxLen,Da,List.getElem_mem]);cases hokk:DZ P[k] with
     |false=>
      have D:P.all DZ=false:=Γ;have n:=Db (Da H (.inr D));clear D y;go_wp2_with(go_at_call 263;apply(Zg1 _ _ G).Q;rintro e w'⟨rfl,rfl⟩)
      go_ret2
      exact Da n
     |true=>
      have F:(P.take (k+1)).all DZ=true:=(by rw[Bu E,List.all_append,Da t];simp[hokk]);have aa:=Db F;clear F y;go_wp2_with(go_at_call 263;apply(Zg1 _ _ G).Q;rintro e w'⟨rfl,rfl⟩)
      go_round
      case rel=>grind
      case measure=>grind [intOf]
    .obtain rfl:k=P.length:=Ω;have r:=Da t;rw[BD]at r;have n:=Db (Da I Ω r);clear r t;go_wp2
     go_ret2
     exact Da n
def Iw(x:By×Int):Gf:=[dU x.1,dI x.2]
def DQ(es:List (By×Int)):Gf:=es.flatMap Iw
theorem Pn(b:List (By×Int)):(DQ b).length=b.length*2:=by
 induction b with
 |nil=>rfl
 |cons a l ih=>grind [DQ,Iw]
theorem Wm(a b:List (By×Int)):DQ (a++b)=DQ a++DQ b:=by simp[DQ]
theorem Ui(b:List (By×Int)):∀u∈DQ b,u.oneCell'=true:=by intro u a;simp only[DQ,Ez,Iw,AM,Ey,or_false]at a;obtain⟨x,_,rfl|rfl⟩:=a<;>simp[Value.oneCell']
theorem Vj(b:List (By×Int))(k:Nat)(x:By×Int)(h:b[k]?=some x):(DQ b)[k*2]?=some (dU x.1)/\(DQ b)[k*2+1]?=some (dI x.2):=by
 induction b generalizing k with
 |nil=>grind
 |cons a l ih=>
  cases k with
  |zero=>grind [DQ,Iw]
  |succ k=>
   have:=ih k h;simp only[DQ,A9]at this ⊢;have e:∀r,(Iw a++List.flatMap Iw l)[(k+1)*2+r]?=(List.flatMap Iw l)[k*2+r]? := λr=>by rw[AJ (by simp[Iw];omega)];congr 1;simp[Iw];omega
   have c:=e 0;simp only[Ep]at c;rw[c,e 1];exact this
def RdL(w:World)(a:OA)(L:List (By×Int)):Prop:=∀(k:Nat) (x:By×Int),L[k]?=some x->∃g,a=some (dQ g 0)/\w.cell? (dQ g (k*2))=some (dU x.1)/\w.cell? (dQ g (k*2+1))=some (dI x.2)
theorem Sl.ao(h:Sl w 103 2 v L.length (DQ L)):∃a c,v=dT a L.length c/\RdL w a L:=by rcases h.2 with⟨rfl,f⟩|⟨g,e,R,rfl,b,hc,aa,hL,hT⟩;have:=AC f;subst this;exact⟨none,0,rfl,λk x h=>Γ⟩;refine⟨_,e,rfl,λk x d=>⟨g,rfl,?_,?_⟩⟩;have:=(Vj L k x d).1;rw[b.J];grind;have:=(Vj L k x d).2;rw[b.J];grind
def GG(L:List (By×Int))(p:By)(r:Int):Prop:=
 (r = -1/\∀(k:Nat) x,L[k]?=some x->x.1≠p)\/(∃(k:Nat) (x:By×Int),r=k/\L[k]?=some x/\x.1=p/\∀(j:Nat) y,j<k->L[j]?=some y->y.1≠p)
theorem U1(w:World)(n:Nat)(v:Value)(L:List (By×Int))(p:By)(hc:w.cell? (dQ n 0)=some v)(f:Sl w 103 2 v L.length (DQ L))(hn:L.length<=2000000):
  Cl 101 #[dP n,dU p] w λe w'=>∃r,(e=dR (dI r)/\GG L p r)/\w'=w:=by
 obtain⟨a,c,rfl,m⟩:=f.ao;have o:=Db m;clear f m;go_enter func101,ntmps101;go_wp2
 go_loop [5] (λi=>∃k:Nat,k<=L.length/\i=dI k/\Hid (∀(j:Nat) y,j<k->L[j]?=some y->y.1≠p)) (λi=>L.length-(intOf i).toNat)
 case atStart=>exact⟨0,Ao _,rfl,λj y h=>Ω⟩
 case round=>
  obtain⟨k,hk,rfl,t⟩:=hrel;by_cases l:k<L.length
  .obtain⟨g,rfl,q0,q1⟩:=Da o k _ (Ab l);cases hq:(L[k].1.toList==p.toList) with
   |true=>
    have b:L[k].1=p:=(by grind [Ul]);have d:=Db (show GG L p (k:Int) from .inr ⟨k,_,rfl,Ab l,b,Da t⟩);clear b;go_wp2;go_ret;exact⟨⟨_,rfl,Da d⟩,rfl⟩
   |false=>
    have b:L[k].1≠p:=Γ;have q:Hid (∀(j:Nat) y,j<k+1->L[j]?=some y->y.1≠p):=λj y h hy=>by rcases AD j k with s|s;grind [Da];grind
    clear b;go_wp2
    go_round
    case rel=>exact⟨k+1,Ω,by go_num,q⟩
    case measure=>grind [intOf]
  .obtain rfl:k=L.length:=Ω;have d:=Db (show GG L p (-1) from .inl ⟨rfl,by grind [Da,List.getElem?_eq_some_iff]⟩);go_wp2;go_ret;exact⟨⟨_,rfl,Da d⟩,rfl⟩
def Ku:List UInt8->Option Nat
 |[]=>none
 |c::l=>match Ku l with
  |some k=>some (k+1)
  |none=>if c=47 then some 0 else none
theorem Sn:∀{l:List UInt8},Ku l=none->∀j:Nat,l[j]? ≠ some 47
 |[],_,j=>by simp
 |c::l,h,j=>by
  unfold Ku at h;cases hl:Ku l with
  |some k=>rw[hl]at h;cases h
  |none=>
   rw[hl]at h;cases j with
   |zero=>simp;intro e;simp[e]at h
   |succ j=>simpa using Sn hl j
theorem Sc:∀{l:List UInt8} {k:Nat},Ku l=some k->l[k]?=some 47/\∀j,k<j->l[j]? ≠ some 47
 |[],k,h=>by cases h
 |c::l,k,h=>by
  unfold Ku at h;cases hl:Ku l with
  |some k'=>
   rw[hl]at h;obtain rfl:k=k'+1:=(by simpa using h.r);have:=Sc hl;refine⟨by simpa using this.1,λj a=>?_⟩;cases j with
   |zero=>omega
   |succ j=>simpa using this.2 j Ω
  |none=>
   rw[hl]at h;by_cases e:c=47;rw[if_pos e]at h;obtain rfl:k=0:=(by simpa using h.r);refine⟨by simp[e],λj a=>?_⟩;cases j with
   |zero=>omega
   |succ j=>simpa using Sn hl j
   rw[if_neg e]at h;cases h
def DX(p:By):By:=p.extract 0 ((Ku p.data.toList).getD 0)
def KT(p:By):Prop:=∃k,Ku p.data.toList=some k
theorem Uu(p:By)(w:World)(hp:p.size<=2000000)(h:KT p):Cl 148 #[dU p] w λe w'=>e=dR (dU (DX p))/\w'=w:=by
 obtain⟨k,d⟩:=h;obtain⟨a,b⟩:=Sc d;have c:DX p=p.extract 0 k:=by grind [DX]
 have aa:k<p.size:=by have b:=(Ac.1 a).1;simp_all
 rw[c];have H1:=Db a;have H2:=Db b;clear a b d c;go_enter func148,ntmps148;go_wp2
 go_loop [3] (λi=>∃n:Nat,k<=n/\n<p.size/\i=dI n) (λi=>(intOf i).toNat)
 case atStart=>exact⟨p.size-1,Ω,Ω,Γ⟩
 case round=>
  obtain⟨n,ab,hn,rfl⟩:=hrel;by_cases f:n=k
  .subst f;have g:((p[n].toNat) != 47)=false:=(by grind [absurd,Da,Ua]);go_wp2;go_ret;simp_all
  .have g:((p[n].toNat) != 47)=true:=(by grind [Ua,Da]);go_wp2
   go_round
   case rel=>exact⟨n-1,Ω,Ω,Γ⟩
   case measure=>grind [intOf]
def JD(q:By×Int->Bool)(L:List (By×Int))(k:Nat):Nat:=(L.take k).countP q
theorem Vk(q:By×Int->Bool)(L:List (By×Int))(k:Nat)(h:k<L.length):JD q L (k+1)=JD q L k+if q L[k]=true then 1 else 0:=by unfold JD;rw[Bu h,AU,Bm]
theorem Tm(q:By×Int->Bool)(L:List (By×Int))(k:Nat):JD q L k<=k:=by grind [JD,Nat.le_trans,List.countP_le_length,List.length_take_le]
theorem TU(q:By×Int->Bool)(L:List (By×Int)):JD q L L.length=L.countP q:=by simp[JD]
def DN(d:By)(x:By×Int):Bool:=(DX x.1).toList==d.toList
def DF(f:Int)(x:By×Int):Bool:=x.2==f
theorem ZhK(w:World)(o:Nat)(v:Value)(L:List (By×Int))(d:By)(hc:w.cell? (dQ o 0)=some v)(b:Sl w 103 2 v L.length (DQ L))(hn:L.length<=2000000)(h:∀x∈L,x.1.size<=2000000/\KT x.1):
  Cl 149 #[dP o,dU d] w λe w'=>e=dR (dI (L.countP (DN d):Nat))/\w'=w:=by
 obtain⟨a,c,rfl,j⟩:=b.ao;have r:=Db j;have q:=Db h;have p:=Db (TU (DN d) L);clear b j h;go_enter func149,ntmps149;go_wp2
 go_loop [5,6] (λn i=>∃k:Nat,k<=L.length/\i=dI k/\n=dI (JD (DN d) L k)) (λ_ i=>L.length-(intOf i).toNat)
 case atStart=>exact⟨0,Ao _,rfl,rfl⟩
 case round=>
  obtain⟨k,hk,rfl,rfl⟩:=hrel;have ab:=Tm (DN d) L k;by_cases f:k<L.length
  .obtain⟨g,rfl,q0,q1⟩:=Da r k _ (Ab f);obtain⟨m,l⟩:=Da q L[k] (BE _);have aa:=Db (Vk (DN d) L k f);cases hq:((DX L[k].1).toList==d.toList) with
   |true=>
    have s:Hid (JD (DN d) L (k+1)=JD (DN d) L k+1):=(by simp_all[DN]);go_wp2_with(go_at_call 148;apply(Uu _ _ m l).Q;rintro e w'⟨rfl,rfl⟩)
    go_round
    case rel=>exact⟨k+1,Ω,by go_num,by grind [Da]⟩
    case measure=>grind [intOf]
   |false=>
    have s:Hid (JD (DN d) L (k+1)=JD (DN d) L k):=(by simp_all[DN]);go_wp2_with(go_at_call 148;apply(Uu _ _ m l).Q;rintro e w'⟨rfl,rfl⟩)
    go_round
    case rel=>grind [Da]
    case measure=>grind [intOf]
  .obtain rfl:k=L.length:=Ω;go_wp2;go_ret;exact⟨by rw[<-Da p];rfl,rfl⟩
theorem Vt(w:World)(j:Nat)(v:Value)(L:List (By×Int))(f:Int)(hc:w.cell? (dQ j 0)=some v)(b:Sl w 103 2 v L.length (DQ L))(hn:L.length<=2000000):
  Cl 113 #[dP j,dI f] w λe w'=>e=dR (dI (L.countP (DF f):Nat))/\w'=w:=by
 obtain⟨a,c,rfl,h⟩:=b.ao;have m:=Db h;have l:=Db (TU (DF f) L);clear b h;go_enter func113,ntmps113;go_wp2
 go_loop [5,6] (λn i=>∃k:Nat,k<=L.length/\i=dI k/\n=dI (JD (DF f) L k)) (λ_ i=>L.length-(intOf i).toNat)
 case atStart=>exact⟨0,Ao _,rfl,rfl⟩
 case round=>
  obtain⟨k,hk,rfl,rfl⟩:=hrel;have ab:=Tm (DF f) L k;by_cases d:k<L.length
  .obtain⟨g,rfl,q0,q1⟩:=Da m k _ (Ab d);have aa:=Db (Vk (DF f) L k d);cases hq:(L[k].2==f) with
   |true=>
    have o:Hid (JD (DF f) L (k+1)=JD (DF f) L k+1):=(by simp_all[DF]);go_wp2
    go_round
    case rel=>exact⟨k+1,Ω,by go_num,by grind [Da]⟩
    case measure=>grind [intOf]
   |false=>
    have o:Hid (JD (DF f) L (k+1)=JD (DF f) L k):=(by simp_all[DF]);go_wp2
    go_round
    case rel=>grind [Da]
    case measure=>grind [intOf]
  .obtain rfl:k=L.length:=Ω;go_wp2;go_ret;exact⟨by rw[<-Da l];rfl,rfl⟩
def GC(L:List (By×Int))(p:By):Option Int:=(L.find? (λx=>decide (x.1=p))).map (·.2)
theorem KJ{r:Int}(h:GG L p r):(r = -1/\GC L p=none)\/(∃(k:Nat) (x:By×Int),r=k/\L[k]?=some x/\x.1=p/\GC L p=some x.2):=by rcases h with⟨rfl,h⟩|⟨k,x,rfl,h1,h2,h3⟩;grind [GC,List.find?_eq_none,List.getElem?_of_mem];grind [GC,List.find?_eq_some_iff_getElem,List.getElem?_eq_some_iff,List.getElem?_eq_getElem]
def Jy(p:By):Nat->Nat->LY
 |0,_=>[]
 |n+1,i=>if p.data.toList[i]?=some 47 then p.extract 0 i::Jy p n (i+1) else Jy p n (i+1)
def Kh(L:List (By×Int)):LY->Int
 |[]=>0
 |q::r=>match GC L q with
  |none=>3
  |some f=>if 0<=f then 4 else Kh L r
theorem ZC(w:World)(y:Nat)(v:Value)(L:List (By×Int))(p:By)(I:w.cell? (dQ y 0)=some v)(s:Sl w 103 2 v L.length (DQ L))(M:L.length<=2000000)(hp:p.size<=2000000):
  Cl 104 #[dP y,dU p] w λe w'=>e=dR (dI (Kh L (Jy p (p.size-1) 1)))/\w'=w:=by
 have z:=λq=>U1 w y v L q I s M;obtain⟨a,c,rfl,B⟩:=s.ao;have G:=Db B;have E:=Db z;clear s B z;obtain⟨r,u⟩:=ex (Kh L (Jy p (p.size-1) 1));rw[<-u];have n:=Db u;clear u;go_enter func104,ntmps104;go_wp2
 go_loopw [5] (λi wr=>∃k:Nat,1<=k/\(k<=p.size\/k=1)/\i=dI k/\Hid (r=Kh L (Jy p (p.size-k) k))/\wr=w) (λi _=>p.size-(intOf i).toNat)
 case atStart=>grind
 case round=>
  obtain⟨k,ab,hk,rfl,b,rfl⟩:=hrel;by_cases K:k<p.size
  .have m:Jy p (p.size-k) k=if p.data.toList[k]?=some 47 then p.extract 0 k::Jy p (p.size-(k+1)) (k+1) else Jy p (p.size-(k+1)) (k+1):=(by rw[show p.size-k=(p.size-(k+1))+1 by omega];rfl);by_cases l:p.data.toList[k]?=some 47
   .have N:((p[k].toNat) != 47)=false:=(by grind [absurd,Ua]);rw[if_pos l]at m;have d:=Db m;clear m l;go_wp2_with fail;apply(Da E _).Q;rintro e w'⟨f,⟨rfl,t⟩,C⟩;rw[C];clear C;rcases KJ t with⟨rfl,h⟩|⟨j,x,rfl,o,D,h⟩
    .obtain rfl:r=3:=(by rw[Da b,Da d];simp[Kh,h]);clear b d n;go_wp2;go_ret;simp_all
    .obtain⟨g,rfl,q0,q1⟩:=Da G j x o;have aa:=(Ac.1 o).1;by_cases J:0<=x.2
     .obtain rfl:r=4:=(by rw[Da b,Da d];simp_all[Kh]);clear b d n h D o t;go_wp2;go_ret;simp_all
     .have A:r=Kh L (Jy p (p.size-(k+1)) (k+1)):=(by rw[Da b,Da d];simp[Kh,h,J]);have F:=Db A;clear b d n h D o t A;go_wp2
      go_roundw
      case rel=>grind
      case measure=>grind [intOf]
   .have N:=(Ua p k K).2 l;rw[if_neg l]at m;have F:Hid (r=Kh L (Jy p (p.size-(k+1)) (k+1))):=Ξ;clear m l;go_wp2
    go_roundw
    case rel=>grind
    case measure=>grind [intOf]
  .have H:p.size-k=0:=Ω;obtain rfl:r=0:=(by rw[Da b,H];rfl);clear b n;go_wp2;go_ret;simp_all
def RdF(w:World)(a:OA)(F:LY):Prop:=∀(k:Nat) (x:By),F[k]?=some x->∃g,a=some (dQ g 0)/\w.cell? (dQ g k)=some (dU x)
theorem Sl.dx(h:Sl w 9 1 v F.length (F.map .string)):∃a c,v=dT a F.length c/\RdF w a F:=by rcases h.2 with⟨rfl,d⟩|⟨g,b,R,rfl,e,hc,aa,hL,hT⟩;have:=AC d;subst this;exact⟨none,0,rfl,λk x h=>Γ⟩;refine⟨_,b,rfl,λk x hx=>⟨g,rfl,?_⟩⟩;have:(F.map Value.string)[k]?=some (dU x):=Γ;rw[e.J];grind
structure Ms(w:World)(rb:Nat)(vl vf:Value)(L:List (By×Int))(F:LY):Prop where
 c0:w.cell? (dQ rb 0)=some vl
 c1:w.cell? (dQ rb 1)=some vf
 sl:Sl w 103 2 vl L.length (DQ L)
 sf:Sl w 9 1 vf F.length (F.map .string)
 nl:L.length<=2000000
 nf:F.length<=2000000
 ok:∀x∈L,x.1.size<=2000000/\KT x.1
 cd:∀s∈F,s.size<=2000000
def qD(x:By×Int):Bool:=decide (x.2<0)
def KH(L:List (By×Int))(k:Nat):Nat:=(List.range k).countP (λf:Nat=>decide (0<L.countP (DF (f:Int))))
theorem Znk(L:List (By×Int))(k:Nat):KH L (k+1)=KH L k+if 0<L.countP (DF k) then 1 else 0:=by unfold KH;rw[B8,AU,Bm];by_cases h:0<L.countP (DF (k))<;>simp[h]
theorem Yh(L:List (By×Int))(k:Nat):KH L k<=k:=by grind [KH,Nat.le_trans,List.countP_le_length]
def Q3(L:List (By×Int))(F:LY):Nat:=1+L.countP qD+KH L F.length
theorem ZoJ(w:World)(m:Nat)(t z:Value)(L:List (By×Int))(F:LY)(h:Ms w m t z L F):
  Cl 152 #[dP m] w λe w'=>e=dR (dI (Q3 L F:Nat))/\w'=w:=by
 have p:=λf=>Vt w m t L f h.c0 h.sl h.nl;obtain⟨a,c,rfl,s⟩:=h.sl.ao;obtain⟨a2,c2,rfl,_⟩:=h.sf.dx;have aa:=h.c0;have ab:=h.c1;have ai:=h.nl;have ah:=h.nf;have u:=Db s;have HA:=Db (TU qD L);have o:=Db p;obtain⟨r,l⟩:=ex (Q3 L F);rw[<-l];have v:=Db l;clear h s p l;go_enter func152,ntmps152;go_wp2
 go_loop [3,4] (λn i=>∃k:Nat,k<=L.length/\i=dI k/\n=dI ((JD qD L k+1:Nat))) (λ_ i=>L.length-(intOf i).toNat)
 case atStart=>exact⟨0,Ao _,rfl,rfl⟩
 case round=>
  obtain⟨k,hk,rfl,rfl⟩:=hrel;have af:=Tm qD L k;by_cases q:k<L.length
  .obtain⟨g,rfl,q0,q1⟩:=Da u k _ (Ab q);have x:=Db (Vk qD L k q);by_cases y:L[k].2<0
   .have d:Hid (JD qD L (k+1)=JD qD L k+1):=(by simp_all[qD]);go_wp2
    go_round
    case rel=>grind [Da]
    case measure=>grind [intOf]
   .have d:Hid (JD qD L (k+1)=JD qD L k):=(by simp_all[qD]);go_wp2
    go_round
    case rel=>grind [Da]
    case measure=>grind [intOf]
  .obtain rfl:k=L.length:=Ω;go_wp2_with fail
   go_loopw [3,5] (λn i wr=>∃k:Nat,k<=F.length/\i=dI k/\n=dI ((1+L.countP qD+KH L k:Nat))/\wr=w) (λ_ i _=>F.length-(intOf i).toNat)
   case atStart=>exact⟨0,Ao _,rfl,by grind [Da,KH],rfl⟩
   case round=>
    obtain⟨j,hj,rfl,rfl,rfl⟩:=hrel;have ag:=Yh L j;have ad:L.countP qD<=L.length:=AV;by_cases ae:j<F.length
    .have x:=Db (Znk L j);have ac:L.countP (DF j)<=L.length:=AV;by_cases y:0<L.countP (DF j)
     focus
      have d:Hid (KH L (j+1)=KH L j+1):=Ξ
     rotate_left
     focus
      have d:Hid (KH L (j+1)=KH L j):=Ξ
     all_goals
      go_wp2_with(go_at_call 113;apply(Da o _).Q;rintro e w'⟨rfl,b⟩;rw[b];clear b)
      go_roundw
      case rel=>exact⟨j+1,Ω,by go_num,by grind [Da],trivial⟩
      case measure=>grind [intOf]
    .obtain rfl:j=F.length:=Ω;go_wp2;go_ret;exact⟨by rw[Da v];rfl,rfl⟩
def J2(L:List (By×Int))(F:LY):Nat->Nat
 |0=>0
 |k+1=>J2 L F k+if 0<L.countP (DF (k:Int)) then((F[k]?.getD ⟨#[]⟩).size+63)/64 else 0
theorem Zqx{x:By}(h:0<L.countP (DF (j:Int)))(hx:F[j]?=some x):J2 L F (j+1)=J2 L F j+(x.size+63)/64:=by simp_all[J2]
theorem ZsN(h:¬0<L.countP (DF (j:Int))):J2 L F (j+1)=J2 L F j:=by rw[J2,if_neg h];rfl
theorem TH(L:List (By×Int))(F:LY)(h:∀s∈F,s.size<=2000000)(k:Nat):J2 L F k<=k*40000:=by
 induction k with
 |zero=>simp[J2]
 |succ k ih=>
  unfold J2;have:((F[k]?.getD ⟨#[]⟩).size+63)/64<=40000:=by
   cases hk:F[k]? with
   |none=>exact(by decide:((⟨#[]⟩:By).size+63)/64<=40000)
   |some x=>
    grind
  grind
def JM(L:List (By×Int))(F:LY):Nat:=J2 L F F.length
theorem R7(w:World)(l:Nat)(t y:Value)(L:List (By×Int))(F:LY)(h:Ms w l t y L F):
  Cl 52 #[dP l] w λe w'=>e=dR (dI (JM L F:Nat))/\w'=w:=by
 have p:=λf=>Vt w l t L f h.c0 h.sl h.nl;obtain⟨a2,c2,rfl,s⟩:=h.sf.dx;have aa:=h.c1;have ae:=h.nl;have ad:=h.nf;have m:=Db p;have u:=Db s;have o:=Db h.cd;obtain⟨r,d⟩:=ex (JM L F);rw[<-d];have v:=Db d;clear h p d s;go_enter func52,ntmps52;go_wp2_with fail
 go_loopw [3,4] (λn i wr=>∃k:Nat,k<=F.length/\i=dI k/\n=dI ((J2 L F k:Nat))/\wr=w) (λ_ i _=>F.length-(intOf i).toNat)
 case atStart=>exact⟨0,Ao _,rfl,rfl,rfl⟩
 case round=>
  obtain⟨j,hj,rfl,rfl,rfl⟩:=hrel;have ac:=TH L F (Da o) j;by_cases x:j<F.length
  .have ab:L.countP (DF j)<=L.length:=AV;have b:=Ab x;by_cases q:0<L.countP (DF j)
   .have c:Hid (J2 L F (j+1)=J2 L F j+(F[j].size+63)/64):=Zqx q b;obtain⟨g,rfl,q0⟩:=Da u j _ b;have af:=Da o F[j] (BE _);clear b;go_wp2_with(go_at_call 113;apply(Da m _).Q;rintro e w'⟨rfl,a⟩;rw[a];clear a)
    go_roundw
    case rel=>exact⟨j+1,Ω,by go_num,by rw[Da c];go_num,trivial⟩
    case measure=>grind [intOf]
   .have c:Hid (J2 L F (j+1)=J2 L F j):=ZsN q;clear b;go_wp2_with(go_at_call 113;apply(Da m _).Q;rintro e w'⟨rfl,a⟩;rw[a];clear a)
    go_roundw
    case rel=>exact⟨j+1,Ω,by go_num,by rw[Da c],trivial⟩
    case measure=>grind [intOf]
  .obtain rfl:j=F.length:=Ω;go_wp2;go_ret;exact⟨by rw[Da v];rfl,rfl⟩
def Ks(L:List (By×Int))(F:LY)(p:By)(n:Nat):Bool:=decide (L.countP (DN (DX p))<20/\L.length<100/\Q3 L F+n<=60)
theorem T5(w:World)(j:Nat)(k q:Value)(L:List (By×Int))(F:LY)(h:Ms w j k q L F)(p:By)(s:p.size<=2000000)(u:KT p)(n:Nat)(hn:n<=1):
  Cl 102 #[dP j,dU p,dI n] w λe w'=>e=dR (dV (Ks L F p n))/\w'=w:=by
 have l:=Uu p w s u;have o:=ZhK w j k L (DX p) h.c0 h.sl h.nl h.ok;have m:=ZoJ w j k q L F h;obtain⟨a,c,rfl,t⟩:=h.sl.ao;have aa:=h.c0;have ae:=h.nl;have ad:=h.nf;have ab:L.countP (DN (DX p))<=L.length:=AV;have ac:Q3 L F<=4000001:=by grind [qD,List.countP_le_length,Yh,Q3]
 obtain⟨r,d⟩:=ex (Ks L F p n);rw[<-d];unfold Ks at d;have f:=Db l;have i:=Db o;have g:=Db m;clear h t l o m;by_cases h1:L.countP (DN (DX p))<20
 .by_cases h2:L.length<100
  .by_cases h3:Q3 L F+n<=60
   focus
    obtain rfl:r=true:=Ξ
   rotate_left
   focus
    obtain rfl:r=false:=Ξ
   all_goals
    clear d;go_enter func102,ntmps102;go_wp2_with(first|(go_at_call 148;apply(Da f).Q;rintro e w'⟨rfl,b⟩;rw[b];clear b)|(go_at_call 149;apply(Da i).Q;rintro e w'⟨rfl,b⟩;rw[b];clear b)|(go_at_call 152;apply(Da g).Q;rintro e w'⟨rfl,b⟩;rw[b];clear b));go_ret;exact⟨by simp;omega,rfl⟩
  .obtain rfl:r=false:=Ξ;clear d;go_enter func102,ntmps102;go_wp2_with(first|(go_at_call 148;apply(Da f).Q;rintro e w'⟨rfl,b⟩;rw[b];clear b)|(go_at_call 149;apply(Da i).Q;rintro e w'⟨rfl,b⟩;rw[b];clear b)|(go_at_call 152;apply(Da g).Q;rintro e w'⟨rfl,b⟩;rw[b];clear b));go_ret;simp_all
 .obtain rfl:r=false:=Ξ;clear d;go_enter func102,ntmps102;go_wp2_with(first|(go_at_call 148;apply(Da f).Q;rintro e w'⟨rfl,b⟩;rw[b];clear b)|(go_at_call 149;apply(Da i).Q;rintro e w'⟨rfl,b⟩;rw[b];clear b)|(go_at_call 152;apply(Da g).Q;rintro e w'⟨rfl,b⟩;rw[b];clear b));go_ret;simp_all
structure Fr(X:Nat->Prop)(w w':World):Prop where
 os:w'.os=w.os
 tape:w'.tape=w.tape
 output:w'.output=w.output
 size:w.heap.size<=w'.heap.size
 block:∀k,k<w.heap.size->¬X k->w'.heap[k]?=w.heap[k]?
theorem Fr.refl(X:Nat->Prop)(w:World):Fr X w w:=⟨rfl,rfl,rfl,Aa _,Γ⟩
theorem Fr.S(h:Bw w w'):Fr X w w':=⟨h.os,h.tape,h.output,h.size,λk a _=>h.block k a⟩
theorem Fr.Q{Y:Nat->Prop}(h:Fr X w w')(aa:∀k,k<w.heap.size->X k->Y k):Fr Y w w':=⟨h.os,h.tape,h.output,h.size,λk a hn=>h.block k a Γ⟩
theorem Fr.M{a b c:World}(h:Fr X a b)(k:Fr X b c):Fr X a c:=
 ⟨k.os.M h.os,k.tape.M h.tape,k.output.M h.output,Ae h.size k.size,λi d e=>(k.block i (As d h.size) e).M (h.block i d e)⟩
theorem Fr.ez{row:Option Nat}(h:w.grownBy w' row)(hX:∀k,row=some k->X k):Fr X w w':=
 ⟨h.os,h.tape,h.output,h.size,λk a hn=>h.block k a Γ⟩
theorem Fr.set(h:Fr X w w')(a:Addr)(u:Value)(hX:X a.block):Fr X w (w'.setCell a u):=
 ⟨h.os,h.tape,h.output,by simpa [World.setCell] using h.size,λk b c=>by rw[Aw _ _ _ _ Γ];exact h.block k b c⟩
theorem Gb.e{e:TypeId}{L:Gf}(h:Gb w g e L)(b:Fr X w w')(a:¬X g):Gb w' g e L:=by unfold Gb;rw[b.block g h.lt a];exact h
theorem Sl.e{e:TypeId}{b:Gf}(h:Sl w e a v n b)(d:Fr X w w')(c:∀g,v.ownBlock=some g->¬X g):Sl w' e a v n b:=
 h.kept (λk f e=>d.block k f (c k e))
structure Gj(w:World)(rb:Nat)(vl vf:Value)(L:List (By×Int))(F:LY):Prop where
 hd:Gb w rb 89 [vl,vf]
 sl:Sl w 103 2 vl L.length (DQ L)
 sf:Sl w 9 1 vf F.length (F.map .string)
 nl:L.length<=2000000
 nf:F.length<=2000000
 ok:∀x∈L,x.1.size<=2000000/\KT x.1
 cd:∀s∈F,s.size<=2000000
 bj:∀g,vl.ownBlock=some g->vf.ownBlock≠some g
theorem Gj.c{c:Value}(h:Gj w a c b L F):Ms w a c b L F:=
 ⟨(h.hd.J 0).M rfl,(h.hd.J 1).M rfl,h.sl,h.sf,h.nl,h.nf,h.ok,h.cd⟩
theorem Sl.type{e:TypeId}{b:Gf}(h:Sl w e a v n b)(hg:v.ownBlock=some g):∃L,Gb w g e L:=by rcases h.2 with⟨rfl,_⟩|⟨g',aa,L,rfl,hr,_⟩;grind [Value.ownBlock];grind [Value.ownBlock]
theorem Gb.type{e a:TypeId}{L b:Gf}(h:Gb w g e L)(h':Gb w g a b):e=a:=by grind [Gb]
theorem Gj.h9(h:Gj w a b d L F):b.ownBlock≠some a:=λe=>by obtain⟨R,c⟩:=h.sl.type e;exact absurd (c.type h.hd) Δ
theorem Gj.f0(h:Gj w a d b L F):b.ownBlock≠some a:=λe=>by obtain⟨R,c⟩:=h.sf.type e;exact absurd (c.type h.hd) Δ
def Jp(rb:Nat)(vl vf:Value)(k:Nat):Prop:=k=rb\/vl.ownBlock=some k\/vf.ownBlock=some k
theorem Gj.e{e:Value}(h:Gj w a f e L F)(c:Fr X w w')(b:∀k,Jp a f e k->¬X k):Gj w' a f e L F:=
 ⟨h.hd.e c (b a (.inl rfl)),h.sl.e c (λg d=>b g (.inr (.inl d))),h.sf.e c (λg d=>b g (.inr (.inr d))),h.nl,h.nf,h.ok,h.cd,h.bj⟩
def Gc(w:World)(rb:Nat)(vl vf:Value)(w':World)(L':List (By×Int))(F':LY):Prop:=
 ∃vl' vf',Gj w' rb vl' vf' L' F'/\Fr (Jp rb vl vf) w w'/\(∀k,Jp rb vl' vf' k->Jp rb vl vf k\/w.heap.size<=k)
theorem Gc.same{d:Nat}{a:Value}(h:Gj w d b a L F)(c:Bw w w'):Gc w d b a w' L F:=
 ⟨b,a,h.e (X:=λ_=>False) (Fr.S c) Γ,Fr.S c,Γ⟩
def JV(L:List (By×Int))(p:By):Int:=if Di p=true then Kh L (Jy p (p.size-1) 1) else 1
theorem Ra(w:World)(d:Nat)(k o:Value)(L:List (By×Int))(F:LY)(h:Gj w d k o L F)(p:By)(j:p.size<=2000000):
  Cl 100 #[dP d,dU p] w λe w'=>e=dR (dI (JV L p))/\Bw w w':=by
 have m:=QB p w j;have i:∀w',Bw w w'->Cl 104 #[dP d,dU p] w' λe q=>e=dR (dI (Kh L (Jy p (p.size-1) 1)))/\q=w':=λw' b=>by have f:=(h.e (X:=λ_=>False) (Fr.S b) Γ).c;exact ZC w' d k L p f.c0 f.sl f.nl j
 have l:=Db i;have g:=Db (show JV L p=if Di p=true then Kh L (Jy p (p.size-1) 1) else 1 from rfl);clear i h;go_enter func100,ntmps100;go_wp2_with fail;apply m.Q;rintro e w1⟨a,n,c,rfl,_,b⟩;cases hok:Di p with
 |false=>
  go_wp2;go_ret;exact⟨by rw[Da g,hok];rfl,b⟩
 |true=>
  go_wp2_with(apply(Da l _ b).Q;rintro e w'⟨rfl,hw⟩);go_ret;exact⟨by rw[Da g,hok];rfl,b⟩
theorem OE:(prog.info? 103).map (λi=>(i.zero,i.size,i.bytes))=some (some (.agg #[dU ⟨#[]⟩,dI 0]),2,24):=Φ
def Ka(L:List (By×Int))(F:LY)(p:By):Int×List (By×Int):=
 if JV L p≠0 then(JV L p,L) else if (p.toList==[47])=true\/(GC L p).isSome=true then(6,L) else if Ks L F p 1=false then(8,L) else(0,L++[(p,-1)])
theorem M5(w W:World)(a:Nat)(o t:Value)(L:List (By×Int))(F:LY)(h:Gj w a o t L F)(b:Bw w W)(hL:L.length+1<=2000000)(p:By)(f:Int)(hp:p.size<=2000000)(aa:KT p)(nb:Nat)(E:Gb W nb 103 (Iw (p,f))):
  ∃d l i w2,(Builtin.append_ #[87,87] 87 #[o,dS nb 1 1]).run prog W=.ok (dT d l i) w2/\w2.cell? (dQ a 0)=some o/\w2.frozen? (dQ a 0)=false/\
   Hid (Gc w a o t (w2.setCell (dQ a 0) (dT d l i)) (L++[(p,f)]) F):=by
 obtain⟨M,C,I,J,K⟩:=Bk OE;have q:=h.e (X:=λ_=>False) (Fr.S b) Γ;obtain⟨v',w2,N,v,m,y⟩:=J1 W 87 87 103 M _ 2 24 underlying87 C I J K rfl Δ o _ _ q.sl _ 1 1 (Iw _) rfl
  (λj u hu=>by rw[AG,Av,E.J];omega) (Ui [(p,f)]) (by grind [maxLen]) Ω
 obtain⟨d,l,i,rfl⟩:=v.a0;have H:=m.block a q.hd.lt (λe=>h.h9 e.r);have r:Gb w2 a 89 [o,t]:=by unfold Gb;rw[H];exact q.hd
 refine⟨d,l,i,w2,N,(r.J 0).M rfl,r.A 0,dT d l i,t,⟨?_,?_,?_,?_,h.nf,?_,h.cd,?_⟩,?_,?_⟩;exact r.set 0 _;have G:(Value.slice d l i).ownBlock≠some a:=λe=>by obtain⟨R,A⟩:=v.type e;exact absurd (A.type r) Δ
 have:=v.setCell (dQ a 0) (dT d l i) G;rw[Ah,Wm];exact this;refine(q.sf.kept (λk c e=>m.block k c (λz=>?_))).setCell _ _ (λe=>h.f0 e);exact h.bj k z.r e;simp_all;intro x s;rcases Al.1 s with s|s;exact h.ok x s;simp_all;intro g B e;rcases y g B with n|n;exact h.bj g n e;have:=q.sf.lt e;omega;refine Fr.set ⟨m.os.M b.os,m.tape.M b.tape,m.output.M b.output,Ae b.size m.size,λk c D=>?_⟩ _ _ (.inl rfl);rw[m.block k (As c b.size) (λe=>D (.inr (.inl e.r))),b.block k c];rintro k (rfl|c|c);exact .inl (.inl rfl);rcases y k c with n|n;exact .inl (.inr (.inl n));exact .inr (Ae b.size n);exact .inl (.inr (.inr c))
theorem UF(p:By)(h:Di p=true):KT p:=by
 have h0:p.data.toList[0]?=some 47:=by unfold Di at h;rw[CE]at h;rcases h with h|h;grind [ByteArray.toList_eq];simp_all
 cases hl:Ku p.data.toList with
 |none=>grind [absurd,Sn]
 |some k=>exact⟨k,hl⟩
theorem Zt4(h:JV L p=0):Di p=true:=by unfold JV at h;grind
theorem ZoR(w:World)(c:Nat)(k d:Value)(L:List (By×Int))(F:LY)(h:Gj w c k d L F)(U:L.length+1<=2000000)(p:By)(z:p.size<=2000000):
  Cl 43 #[dP c,dU p] w λe w'=>e=dR (dI (Ka L F p).1)/\Gc w c k d w' (Ka L F p).2 F:=by
 have t:=Ra w c k d L F h p z;obtain⟨m,n⟩:=ex (JV L p);obtain⟨R,b⟩:=ex (Ka L F p);rw[<-n]at t;rw[<-b];unfold Ka at b;rw[<-n]at b;have H:=h.c.c0;by_cases q:m≠0
 .rw[if_pos q]at b;have ab:(m != 0)=true:=Ξ;have i:Hid (∀w',Bw w w'->Gc w c k d w' R.2 F):=λw' a=>by grind [Gc.same]
  have g:Hid (R.1=m):=by rw[b];rfl
  clear b h n q;go_enter func43,ntmps43;go_wp2_with(go_at_call 100;apply t.Q;rintro e f⟨rfl,a⟩);go_ret;exact⟨by rw[Da g];rfl,Da i _ a⟩
 .rw[if_neg q]at b;obtain rfl:m=0:=Ω;have K:=Zt4 n.r;have A:=UF p K;by_cases E:(p.toList==[47])=true
  .rw[if_pos (.inl E)]at b;have i:Hid (∀w',Bw w w'->Gc w c k d w' R.2 F):=λw' a=>by grind [Gc.same]
   have g:Hid (R.1=6):=(by rw[b];rfl);clear b h n q;go_enter func43,ntmps43;go_wp2_with(go_at_call 100;apply t.Q;rintro e f⟨rfl,a⟩);go_ret;exact⟨by rw[Da g];rfl,Da i _ a⟩
  have aa:(p.toList==[47])=false:=Ξ;have J:∀w',Bw w w'->Cl 101 #[dP c,dU p] w' λe B=>∃r,(e=dR (dI r)/\GG L p r)/\B=w':=λw' a=>by have o:=(h.e (X:=λ_=>False) (Fr.S a) Γ).c;exact U1 w' c k L p o.c0 o.sl o.nl
  have M:∀w',Bw w w'->Cl 102 #[dP c,dU p,dI ((1:Nat):Int)] w' λe B=>e=dR (dV (Ks L F p 1))/\B=w':=λw' a=>by have o:=(h.e (X:=λ_=>False) (Fr.S a) Γ).c;exact T5 w' c k d L F o p z A 1 (Aa _)
  have G:∀f,Bw w f->_:=λf a=>M5 w (f.alloc (.cells #[dU p,dI (-1)] 103)) c k d L F h (a.M (((Ad _ _).alloc (Aa _) _).Q a.size)) U p (-1) z A f.heap.size (Bv f _);have N:=λw' (a:Bw w w')=>Gc.same h a;have I:∀w',Bw w w'->w'.cell? (dQ c 0)=some k:=λw' a=>(a.J (p:=dQ c 0) h.hd.lt).M H;have W:=h.hd.lt;obtain⟨v,mv,y,rfl⟩:=h.sl.a0;have Q:=Db J;have C:=Db M;have O:=Db G;have D:=Db N;have P:=Db I;clear h J M G N I n q K A E H;go_enter func43,ntmps43;go_wp2_with(go_at_call 100;apply t.Q;rintro e f⟨rfl,a⟩);apply(Da Q _ a).Q;rintro e w'⟨r,⟨rfl,s⟩,l⟩;rw[l];clear l;have ac:=Da P _ a;have ad:c<f.heap.size:=As W a.size;rcases KJ s with⟨rfl,u⟩|⟨j,x,rfl,V,Y,u⟩
  .rw[if_neg Ξ]at b;cases hroom:Ks L F p 1 with
   |false=>
    rw[if_pos hroom]at b;have i:Hid (∀w',Bw w w'->Gc w c (dT v mv y) d w' R.2 F):=λw' a=>by rw[b];exact Da D w' a
    have g:Hid (R.1=8):=(by rw[b];rfl);clear b u s;go_wp2_with(go_at_call 102;apply(Da C _ a).Q;rintro e w'⟨rfl,l⟩;rw[l];clear l);go_ret;exact⟨by rw[Da g];rfl,Da i _ a⟩
   |true=>
    rw[if_neg Ξ]at b;obtain⟨S,Z,T,w2,r1,r2,r3,r4⟩:=Da O f a;have i:Hid (Gc w c (dT v mv y) d (w2.setCell (dQ c 0) (dT S Z T)) R.2 F):=Ξ;have g:Hid (R.1=0):=(by rw[b];rfl);clear b u s;go_wp2_with(first|(go_at_call 102;apply(Da C _ a).Q;rintro e w'⟨rfl,l⟩;rw[l];clear l)|(at_builtin;refine Aq _ rfl _ _ 87 87 rfl _ _ rfl rfl _ _ r1 ?_));go_ret;exact⟨by rw[Da g];rfl,Da i⟩
  .rw[if_pos Γ]at b;have i:Hid (∀w',Bw w w'->Gc w c (dT v mv y) d w' R.2 F):=λw' a=>by rw[b];exact Da D w' a
   have g:Hid (R.1=6):=(by rw[b];rfl);clear b u s V Y;go_wp2;go_ret;exact⟨by rw[Da g];rfl,Da i _ a⟩
section
variable{w:World}{rb:Nat}{vl vf:Value}{L:List (By×Int)}{F:LY}
theorem Gj.at(h:Gj w rb vl vf L F)(a:Bw w w'):Gj w' rb vl vf L F:=h.e (Fr.S a) (λ_ _=>id)
theorem Gj.find(h:Gj w rb vl vf L F)(p:By):Cl 101 #[dP rb,dU p] w λe a=>∃r,(e=dR (dI r)/\GG L p r)/\a=w:=U1 w rb vl L p h.c.c0 h.sl h.nl
theorem Gj.da(h:Gj w rb vl vf L F)(p:By)(a:p.size<=2000000):Cl 104 #[dP rb,dU p] w λe b=>e=dR (dI (Kh L (Jy p (p.size-1) 1)))/\b=w:=ZC w rb vl L p h.c.c0 h.sl h.nl a
theorem Gj.cy(h:Gj w rb vl vf L F)(d:By):Cl 149 #[dP rb,dU d] w λe w'=>e=dR (dI (L.countP (DN d):Nat))/\w'=w:=ZhK w rb vl L d h.c.c0 h.sl h.nl h.ok
end
theorem Zhn(b:List (By×Int))(i:Nat):(DQ b).take (i*2)=DQ (b.take i):=by
 induction b generalizing i with
 |nil=>simp[DQ]
 |cons a l ih=>
  cases i with
  |zero=>rfl
  |succ i=>
   have:=ih i;simp only[DQ,A9,Fe]at this ⊢;rw[<-this,show(i+1)*2=(Iw a).length+i*2 by simp[Iw];omega,EM]
theorem Zho(b:List (By×Int))(i:Nat):(DQ b).drop (i*2)=DQ (b.drop i):=by
 induction b generalizing i with
 |nil=>simp[DQ]
 |cons a l ih=>
  cases i with
  |zero=>rfl
  |succ i=>
   have:=ih i;simp only[DQ,A9,Fh]at this ⊢;rw[<-this,show(i+1)*2=(Iw a).length+i*2 by simp[Iw];omega,EN]
def KE(L:List (By×Int))(p:By):List (By×Int):=L.eraseP (λx=>decide (x.1=p))
theorem XB:∀(L:List (By×Int)) (p:By) (k:Nat) (x:By×Int),L[k]?=some x->x.1=p->(∀(j:Nat) y,j<k->L[j]?=some y->y.1≠p)->KE L p=L.take k++L.drop (k+1)
 |[],_,k,x,h,_,_=>by simp at h
 |a::l,p,0,x,h,h1,_=>by simp at h;subst h;simp[KE,h1]
 |a::l,p,k+1,x,h,h1,h2=>by have b:=h2 0 a Ω Θ;have:=XB l p k x (by simpa using h) h1 (λj y hj c=>h2 (j+1) y Ω (by simpa using c));simp only[KE]at this ⊢;rw[Ft (by simpa using b),this];simp
def J9(L:List (By×Int))(p:By):Int×List (By×Int):=
 if JV L p≠0 then(JV L p,L) else if (p.toList==[47])=true then(7,L) else
 match GC L p with
 |none=>(3,L)
 |some f=>if f<0/\0<L.countP (DN p) then(7,L) else(0,KE L p)
theorem SD(w d:World)(rb:Nat)(g o:Nat)(vf:Value)(L:List (By×Int))(F:LY)(h:Gj w rb (dS g L.length o) vf L F)(A:Bw w d)(k:Nat)(H:k<L.length):
  ∃q t r w2,(Builtin.append_ #[87,87] 87 #[dN,dS g k o]).run prog d=.ok (dT q t r) w2/\w2.cell? (dQ rb 0)=some (dS g L.length o)/\
   ∀a c,(L.length-(k+1)≠0->a=⟨g,(k+1)*2,none⟩)->∃f m l p,(Builtin.append_ #[87,87] 87 #[dT q t r,dT (some a) (L.length-(k+1)) c]).run prog w2=.ok (dT f m l) p/\p.cell? (dQ rb 0)=some (dS g L.length o)/\p.frozen? (dQ rb 0)=false/\
    Hid (Gc w rb (dS g L.length o) vf (p.setCell (dQ rb 0) (dT f m l)) (L.take k++L.drop (k+1)) F):=by
 obtain⟨M,G,I,J,K⟩:=Bk OE;have n:=h.at A;have ad:=h.nl;obtain⟨a',c',P,ae⟩:=n.sl.ao;cases P;have E:∀(W:World),(∀j,W.cell? (dQ g j)=d.cell? (dQ g j))->∀j u,(DQ L)[j]?=some u->W.cell? (dQ g j)=some u:=λW V j u B=>by rcases n.sl.2 with⟨e,_⟩|⟨g',ab,R,e,U,_,_,_,hT⟩;omega;cases e;rw[V,U.J];grind
 have Z:(DQ (L.take k)).length=k*2:=by grind [Pn,List.length_take]
 obtain⟨v1,w2,r1,N,v,r4⟩:=J1 d 87 87 103 M _ 2 24 underlying87 G I J K rfl Δ _ 0 [] ⟨rfl,.inl ⟨rfl,rfl⟩⟩ _ k o _ Z
  (λj u B=>by rw[AG,Av];refine E d Γ j u ?_;rw[<-Zhn,AZ]at B;simp_all) (Ui _) (by grind [maxLen]) Ω
 obtain⟨q,t,r,rfl⟩:=N.a0;have ac:∀x,(Value.slice q t r).ownBlock=some x->d.heap.size<=x:=λx b=>(r4 x b).resolve_left (by grind [Value.ownBlock]);have s:Bw d w2:=⟨v.os,v.tape,v.output,v.size,λk H=>v.block k H (by grind [Value.ownBlock])⟩;have T:=n.at s;refine⟨q,t,r,w2,r1,T.c.c0,λa c X=>?_⟩;have Y:(DQ (L.drop (k+1))).length=(L.length-(k+1))*2:=by rw[Pn,AN]
 obtain⟨v2,p,s1,O,y,s4⟩:=J1 w2 87 87 103 M _ 2 24 underlying87 G I J K rfl Δ _ _ _ N a _ c _ Y
  (λj u B=>by by_cases S:L.length-(k+1)=0;simp_all;rw[X S,AG];refine E w2 (λj=>s.J (n.sl.lt rfl)) _ u ?_;rw[<-Zho,BF]at B;omega) (Ui _) (by grind [maxLen]) Ω
 obtain⟨f,m,l,rfl⟩:=O.a0;have C:∀x,(Value.slice f m l).ownBlock=some x->d.heap.size<=x:=λx b=>by rcases s4 x b with Q|Q;simp_all;have:=s.size;omega
 have D:=s.M ⟨y.os,y.tape,y.output,y.size,λi hi=>y.block i (by have:=s.size;omega) Γ⟩;have z:=n.at D;refine⟨f,m,l,p,s1,z.c.c0,z.hd.A 0,dT f m l,vf,⟨z.hd.set 0 _,?_,?_,?_,h.nf,?_,h.cd,?_⟩,?_,?_⟩;have aa:(Value.slice f m l).ownBlock≠some rb:=λe=>by have:=C rb e;have:=n.hd.lt;omega
 have:=O.setCell (dQ rb 0) (dT f m l) aa;grind [Wm];exact z.sf.setCell _ _ (λe=>h.f0 e);grind;intro x b;rcases Al.1 b with b|b;exact h.ok x (BS b);exact h.ok x (List.mem_of_mem_drop b);intro x b e;have:=C x b;have:=n.sf.lt e;omega;exact Fr.set (Fr.S (A.M (D.Q A.size))) _ _ (.inl rfl);rintro x (rfl|b|b);exact .inl (.inl rfl);exact .inr (Ae A.size (C x b));exact .inl (.inr (.inr b))
theorem Zne(w:World)(rb:Nat)(vl vf:Value)(L:List (By×Int))(F:LY)(h:Gj w rb vl vf L F)(p:By)(hp:p.size<=2000000):
  Cl 89 #[dP rb,dU p] w λe w'=>e=dR (dI (J9 L p).1)/\Gc w rb vl vf w' (J9 L p).2 F:=by
 have I:=Ra w rb vl vf L F h p hp;obtain⟨z,D⟩:=ex (JV L p);obtain⟨R,b⟩:=ex (J9 L p);rw[<-D]at I;rw[<-b];unfold J9 at b;rw[<-D]at b;have s:=Db h;by_cases A:z≠0
 .rw[if_pos A]at b;have al:(z != 0)=true:=by rw[EC];exact A
  have f:Hid (∀w',Bw w w'->Gc w rb vl vf w' R.2 F):=λw' a=>by rw[b];exact Gc.same h a
  have i:Hid (R.1=z):=by rw[b];exact rfl
  clear b h D A;go_enter func89,ntmps89;go_wp2_with(go_at_call 100;apply I.Q;rintro e j⟨rfl,a⟩);go_ret;exact⟨by rw[Da i];rfl,Da f _ a⟩
 .rw[if_neg A]at b;obtain rfl:z=0:=Ω;have U:Hid (∀j,Bw w j->Cl 101 #[dP rb,dU p] j λe ak=>∃r,(e=dR (dI r)/\GG L p r)/\ak=j):=λj a=>(h.at a).find p;have C:Hid (∀j,Bw w j->Cl 149 #[dP rb,dU p] j λe w'=>e=dR (dI (L.countP (DN p)))/\w'=j):=λj a=>(h.at a).cy p;have am:L.countP (DN p)<=L.length:=AV;have ao:=h.nl;have aj:=h.hd.lt;cases h1:(p.toList==[47]) with
  |true=>
   rw[if_pos h1]at b;have ae:(p.toList != [47])=false:=(by simp only[bne,h1];rfl);have f:Hid (∀w',Bw w w'->Gc w rb vl vf w' R.2 F):=λw' a=>by rw[b];exact Gc.same h a
   have i:Hid (R.1=7):=(by rw[b];exact rfl);clear b h D A;go_enter func89,ntmps89;go_wp2_with(go_at_call 100;apply I.Q;rintro e j⟨rfl,a⟩);apply(Da U _ a).Q;rintro e w'⟨r,⟨rfl,N⟩,c⟩;rw[c];clear c N;go_wp2;go_ret;exact⟨by rw[Da i];rfl,Da f _ a⟩
  |false=>
  rw[if_neg (by rw[h1];simp)]at b;have ae:(p.toList != [47])=true:=by simp only[bne,h1];rfl
  obtain⟨av,d,rfl,W⟩:=h.sl.ao;have ac:=Db W;clear h D A W;go_enter func89,ntmps89;go_wp2_with(go_at_call 100;apply I.Q;rintro e j⟨rfl,a⟩);apply(Da U _ a).Q;rintro e w'⟨r,⟨rfl,N⟩,c⟩;rw[c];clear c;have an:=((Da s).at a).c.c0;have ap:=As aj a.size;rcases N with⟨rfl,V⟩|⟨k,x,rfl,B,Q,O⟩
  .have E:=(KJ (.inl ⟨rfl,V⟩)).elim (λh=>h.2) (λ⟨_,_,h,_⟩=>Ω);rw[E]at b;have f:Hid (∀w',Bw w w'->Gc w rb (dT av L.length d) vf w' R.2 F):=λw' a=>by rw[b];exact Gc.same (Da s) a
   have i:Hid (R.1=3):=(by rw[b];exact rfl);clear b E V;go_wp2;go_ret;exact⟨by rw[Da i];rfl,Da f _ a⟩
  .have E:GC L p=some x.2:=(KJ (.inr ⟨k,x,rfl,B,Q,O⟩)).elim (λh=>by have:=h.1;omega) (λ⟨k2,x2,h2,T,_,h5⟩=>by have:k2=k:=Ω;subst this;rw[B]at T;cases T;exact h5);rw[E]at b;have ah:=(Ac.1 B).1;obtain⟨g,rfl,q0,Z⟩:=(Da ac) k x B;have hg:=(Da s).sl.lt rfl;have aq:=(a.J (p:=(dQ g (k*2+1))) hg).M Z;obtain⟨a1,n1,c1,w2,t1,t2,t3⟩:=SD w j rb g d vf L F (Da s) a k ah;have q:=Db t3;have X:=XB L p k x B Q O;have H:=Db X;clear E O Q B q0 Z t3 X;by_cases P:x.2<0
   .by_cases Y:0<L.countP (DN p)
    .have l:R=(7,L):=(by rw[b];simp[P,Y]);have f:Hid (∀w',Bw w w'->Gc w rb (dS g L.length d) vf w' R.2 F):=λw' a=>by rw[l];exact Gc.same (Da s) a
     have i:Hid (R.1=7):=(by rw[l];exact rfl);clear b l;go_wp2_with(go_at_call 149;apply(Da C _ a).Q;rintro e w'⟨rfl,c⟩;rw[c];clear c);go_ret;exact⟨by rw[Da i];rfl,Da f _ a⟩
    .have l:R=(0,KE L p):=(by rw[b];simp[P,Y]);have i:Hid (R.1=0):=(by rw[l];exact rfl);have o:Hid (R.2=L.take k++L.drop (k+1)):=(by rw[l];exact Da H);clear b l H;obtain⟨af,ai⟩:L.length<=d/\d<=9223372036854775807:=(by rcases(Da s).sl.2 with⟨e,_⟩|⟨g',ad,R',e,_,J,K,_⟩;cases e;cases e;exact⟨J,K⟩);have ag:(k)<=d:=Ω;by_cases M:d=k+1
     focus
      obtain⟨t,v,u,y,m,u2,S,n⟩:=Da q (dQ g 0) 0 (λh=>absurd h Ω);have G:L.length=k+1:=Ω;have f:Hid (Gc w rb (dS g L.length d) vf (y.setCell (dQ rb 0) (dT t v u)) R.2 F):=(by rw[Da o];exact Da n);have aa:=Db M;have ab:=Db G;clear n q o G
     rotate_left
     focus
      obtain⟨t,v,u,y,m,u2,S,n⟩:=Da q _ (d-(k+1)) (λ_=>rfl);have f:Hid (Gc w rb (dS g L.length d) vf (y.setCell (dQ rb 0) (dT t v u)) R.2 F):=(by rw[Da o];exact Da n);clear n q o
     all_goals
      go_wp2_with(first|(go_at_call 149;apply(Da C _ a).Q;rintro e w'⟨rfl,c⟩;rw[c];clear c)|(at_builtin;refine Aq _ rfl _ _ 87 87 rfl _ _ rfl rfl _ _ t1 ?_;clear t1)|(at_builtin;refine Aq _ rfl _ _ 87 87 rfl _ _ rfl rfl _ _ m ?_;clear m));go_ret;exact⟨by rw[Da i];rfl,Da f⟩
   .have l:R=(0,KE L p):=(by rw[b];simp[P]);have i:Hid (R.1=0):=(by rw[l];exact rfl);have o:Hid (R.2=L.take k++L.drop (k+1)):=(by rw[l];exact Da H);clear b l H;obtain⟨af,ai⟩:L.length<=d/\d<=9223372036854775807:=(by rcases(Da s).sl.2 with⟨e,_⟩|⟨g',ad,R',e,_,J,K,_⟩;cases e;cases e;exact⟨J,K⟩);have ag:(k)<=d:=Ω;by_cases M:d=k+1
    focus
     obtain⟨t,v,u,y,m,u2,S,n⟩:=Da q (dQ g 0) 0 (λh=>absurd h Ω);have G:L.length=k+1:=Ω;have f:Hid (Gc w rb (dS g L.length d) vf (y.setCell (dQ rb 0) (dT t v u)) R.2 F):=(by rw[Da o];exact Da n);have aa:=Db M;have ab:=Db G;clear n q o G
    rotate_left
    focus
     obtain⟨t,v,u,y,m,u2,S,n⟩:=Da q _ (d-(k+1)) (λ_=>rfl);have f:Hid (Gc w rb (dS g L.length d) vf (y.setCell (dQ rb 0) (dT t v u)) R.2 F):=(by rw[Da o];exact Da n);clear n q o
    all_goals
     go_wp2_with(first|(go_at_call 149;apply(Da C _ a).Q;rintro e w'⟨rfl,c⟩;rw[c];clear c)|(at_builtin;refine Aq _ rfl _ _ 87 87 rfl _ _ rfl rfl _ _ t1 ?_;clear t1)|(at_builtin;refine Aq _ rfl _ _ 87 87 rfl _ _ rfl rfl _ _ m ?_;clear m));go_ret;exact⟨by rw[Da i];rfl,Da f⟩
def DJ(L:List (By×Int))(p:By):Int:=Kh L (Jy p (p.size-1) 1)
def J3(L:List (By×Int))(F:LY)(a b:By):Int×List (By×Int):=
 if (Di a && Di b)=false then(1,L) else
 if DJ L a≠0 then(DJ L a,L) else
 if (a.toList==[47])=true then(5,L) else
 match GC L a with
 |none=>(3,L)
 |some f=>if f<0 then(5,L) else
  if DJ L b≠0 then(DJ L b,L) else
  if (b.toList==[47])=true\/(GC L b).isSome=true then(6,L) else
  if Ks L F b 0=false then(8,L) else(0,L++[(b,f)])
theorem GG.d5{x:By×Int}(b:L[k]?=some x)(e:x.1=p)(d:∀(j:Nat) y,j<k->L[j]?=some y->y.1≠p):GC L p=some x.2:=
 (KJ (.inr ⟨k,x,rfl,b,e,d⟩)).elim (λh=>Ω) (λ⟨f,x2,h2,a,_,c⟩=>by have:f=k:=Ω;subst this;rw[b]at a;cases a;exact c)
theorem Zrj(w:World)(n:Nat)(G o:Value)(L:List (By×Int))(F:LY)(h:Gj w n G o L F)(hL:L.length+1<=2000000)(a b:By)(T:a.size<=2000000)(I:b.size<=2000000):
  Cl 44 #[dP n,dU a,dU b] w λe w'=>e=dR (dI (J3 L F a b).1)/\Gc w n G o w' (J3 L F a b).2 F:=by
 obtain⟨R,c⟩:=ex (J3 L F a b);rw[<-c];unfold J3 at c;have S:=Db h;have P:Hid (∀p q,Bw w q->Cl 101 #[dP n,dU p] q λe H=>∃r,(e=dR (dI r)/\GG L p r)/\H=q):=λp q d=>(h.at d).find p;have O:Hid (∀p q,p.size<=2000000->Bw w q->Cl 104 #[dP n,dU p] q λe H=>e=dR (dI (DJ L p))/\H=q):=λp q hp d=>(h.at d).da p hp;have Q:Hid (∀q,Di b=true->Bw w q->Cl 102 #[dP n,dU b,dI ((0:Nat))] q λe H=>e=dR (dV (Ks L F b 0))/\H=q):=λq N d=>T5 q n G o L F (h.at d).c b I (UF b N) 0 (Ao _);have v:Hid (∀w',Bw w w'->Gc w n G o w' L F):=λw' d=>Gc.same h d;have ab:Hid _:=λW f nb N d hn=>M5 w W n G o L F h d hL b f I (UF b N) nb hn;have af:=h.hd.lt;obtain⟨E,s,rfl,aa⟩:=h.sl.ao;have ac:=Db aa;clear h aa;go_enter func44,ntmps44;go_wp2_with fail;apply(QB a _ T).Q;rintro e q⟨a1,n1,c1,rfl,_,U⟩;go_wp2_with fail;apply(QB b _ I).Q;rintro e w2⟨a2,n2,c2,rfl,_,ad⟩;have d:=U.M (ad.Q U.size);cases hoa:Di a with
 |false=>
  have u:R=(1,L):=by rw[c,hoa];rfl
  have m:Hid (Gc w n (dT E L.length s) o w2 R.2 F):=by rw[u];exact Da v _ d
  have l:Hid (R.1=1):=by rw[u];exact rfl
  clear c u;go_wp2;go_ret;exact⟨by rw[Da l];rfl,Da m⟩
 |true=>
 cases hob:Di b with
 |false=>
  have u:R=(1,L):=by rw[c,hoa,hob];rfl
  have m:Hid (Gc w n (dT E L.length s) o w2 R.2 F):=by rw[u];exact Da v _ d
  have l:Hid (R.1=1):=by rw[u];exact rfl
  clear c u;go_wp2;go_ret;exact⟨by rw[Da l];rfl,Da m⟩
 |true=>
 rw[hoa,hob,if_neg Θ]at c;obtain⟨C,K⟩:=ex (DJ L a);have z:=Da O a w2 T d;rw[<-K]at c z;by_cases t:C≠0
 .rw[if_pos t]at c;have ae:(C != 0)=true:=by rw[EC];exact t
  have m:Hid (Gc w n (dT E L.length s) o w2 R.2 F):=by rw[c];exact Da v _ d
  have l:Hid (R.1=C):=by rw[c];exact rfl
  clear c t K;go_wp2_with(go_at_call 104;apply z.Q;rintro e w'⟨rfl,i⟩;rw[i];clear i);go_ret;exact⟨by rw[Da l];rfl,Da m⟩
 rw[if_neg t]at c;obtain rfl:C=0:=Ω;go_wp2_with(go_at_call 104;apply z.Q;rintro e w'⟨rfl,i⟩;rw[i];clear i);apply(Da P a _ d).Q;rintro e w'⟨r,⟨rfl,B⟩,i⟩;rw[i];clear i;have ag:=((Da S).at d).c.c0;have aj:=As af d.size;clear z K t;cases h1:(a.toList==[47]) with
 |true=>
  rw[if_pos h1]at c;have m:Hid (Gc w n (dT E L.length s) o w2 R.2 F):=by rw[c];exact Da v _ d
  have l:Hid (R.1=5):=by rw[c];exact rfl
  clear c B;go_wp2;go_ret;exact⟨by rw[Da l];rfl,Da m⟩
 |false=>
 rw[if_neg (by rw[h1];simp)]at c;rcases B with⟨rfl,Z⟩|⟨k,x,rfl,J,hx,V⟩
 .have A:=(KJ (.inl ⟨rfl,Z⟩)).elim (λh=>h.2) (λ⟨_,_,h,_⟩=>Ω);rw[A]at c;have m:Hid (Gc w n (dT E L.length s) o w2 R.2 F):=by rw[c];exact Da v _ d
  have l:Hid (R.1=3):=by rw[c];exact rfl
  clear c A Z;go_wp2;go_ret;exact⟨by rw[Da l];rfl,Da m⟩
 rw[GG.d5 J hx V]at c;have ai:=(Ac.1 J).1;obtain⟨g,rfl,q0,q1⟩:=(Da ac) k x J;have X:=(Da S).sl.lt rfl;have ah:=As X d.size;have ak:=(d.J (p:=(dQ g (k*2+1))) X).M q1;clear V hx J q0 q1;by_cases Y:x.2<0
 .have u:R=(5,L):=by rw[c];simp[Y]
  have m:Hid (Gc w n (dS g L.length s) o w2 R.2 F):=by rw[u];exact Da v _ d
  have l:Hid (R.1=5):=by rw[u];exact rfl
  clear c u;go_wp2;go_ret;exact⟨by rw[Da l];rfl,Da m⟩
 simp only[if_neg Y]at c;obtain⟨D,M⟩:=ex (DJ L b);have z:=Da O b w2 I d;rw[<-M]at c z;by_cases t:D≠0
 .rw[if_pos t]at c;have ae:(D != 0)=true:=by rw[EC];exact t
  have m:Hid (Gc w n (dS g L.length s) o w2 R.2 F):=by rw[c];exact Da v _ d
  have l:Hid (R.1=D):=by rw[c];exact rfl
  clear c t M;go_wp2_with(go_at_call 104;apply z.Q;rintro e w'⟨rfl,i⟩;rw[i];clear i);go_ret;exact⟨by rw[Da l];rfl,Da m⟩
 rw[if_neg t]at c;obtain rfl:D=0:=Ω;clear t M;cases h2:(b.toList==[47]) with
 |true=>
  rw[if_pos _]at c;have m:Hid (Gc w n (dS g L.length s) o w2 R.2 F):=by rw[c];exact Da v _ d
  have l:Hid (R.1=6):=by rw[c];exact rfl
  clear c;go_wp2_with(go_at_call 104;apply z.Q;rintro e w'⟨rfl,i⟩;rw[i];clear i);go_ret;exact⟨by rw[Da l];rfl,Da m⟩
 |false=>
 go_wp2_with(go_at_call 104;apply z.Q;rintro e w'⟨rfl,i⟩;rw[i];clear i);apply(Da P b _ d).Q;rintro e w'⟨r,⟨rfl,B⟩,i⟩;rw[i];clear i;rcases KJ B with⟨rfl,A⟩|⟨j,y,rfl,hj,hy,A⟩
 .rw[if_neg (by simp[h2,A])]at c;cases hroom:Ks L F b 0 with
  |false=>
   rw[if_pos hroom]at c;have m:Hid (Gc w n (dS g L.length s) o w2 R.2 F):=(by rw[c];exact Da v _ d);have l:Hid (R.1=8):=(by rw[c];exact rfl);clear c A B;go_wp2_with(go_at_call 102;apply(Da Q _ hob d).Q;rintro e w'⟨rfl,i⟩;rw[i];clear i);go_ret;exact⟨by rw[Da l];rfl,Da m⟩
  |true=>
   rw[if_neg (by rw[hroom];simp)]at c;obtain⟨a',n',c',w3,r1,r2,r3,r4⟩:=Da ab _ x.2 w2.heap.size hob (d.M ((((Ad _ _).alloc (Aa _) _).drew).Q d.size)) (Bv w2 _);have m:Hid (Gc w n (dS g L.length s) o (w3.setCell (dQ n 0) (dT a' n' c')) R.2 F):=(by rw[c];exact Da r4);have l:Hid (R.1=0):=(by rw[c];exact rfl);clear c A B r4;go_wp2_with(go_at_call 102;apply(Da Q _ hob d).Q;rintro e w'⟨rfl,i⟩;rw[i];clear i);go_region_law (refine Kl rfl _ _ 87 87 rfl _ _ (by simp[Act.eval]) (by simp[Act.eval]) r1 ?_)
   all_goals (
    go_wp2;go_ret;exact⟨by rw[Da l];rfl,Da m⟩)
 .rw[if_pos (.inr (by simp[A]))]at c;have m:Hid (Gc w n (dS g L.length s) o w2 R.2 F):=by rw[c];exact Da v _ d
  have l:Hid (R.1=6):=by rw[c];exact rfl
  clear c A B hj hy;go_wp2;go_ret;exact⟨by rw[Da l];rfl,Da m⟩
def Jh(p q:By):Bool:=decide (q.size<p.size) && (p.extract 0 q.size).toList==q.toList && p.data.toList[q.size]? == some 47
theorem ZqH(p:By)(k:Nat)(h:k<p.size):((p[k].toNat:Int)==47)=(p.data.toList[k]? == some 47):=by grind [Ua,bne,absurd]
theorem VN(p q:By)(w:World)(_hp:p.size<=2000000)(hq:q.size<=2000000):Cl 147 #[dU p,dU q] w λe w'=>e=dR (dV (Jh p q))/\w'=w:=by
 obtain⟨r,a⟩:=ex (Jh p q);rw[<-a];unfold Jh at a;by_cases d:q.size<p.size
 .cases h2:((p.extract 0 q.size).toList==q.toList) with
  |true=>
   have f:=ZqH p _ d;have b:r=((p[q.size].toNat:Int)==47):=Ξ;have c:=Db b;clear a b f;go_enter func147,ntmps147;go_wp2;go_ret;exact⟨by rw[Da c];rfl,rfl⟩
  |false=>
   obtain rfl:r=false:=Ξ;clear a;go_enter func147,ntmps147;go_wp2;go_ret;simp_all
 .obtain rfl:r=false:=Ξ;clear a;go_enter func147,ntmps147;go_wp2;go_ret;simp_all
def mv(a b:By)(x:By×Int):By×Int:=if (Jh x.1 a || decide (x.1=a))=true then(b++x.1.extract a.size x.1.size,x.2) else x
def Kt(a b:By)(x:By×Int):Bool:=Jh x.1 a && decide (6<((Dc x.1).length:Int)-(Dc a).length+(Dc b).length)
def J4(L:List (By×Int))(a b:By):Int×List (By×Int):=
 if (Di a && Di b)=false then(1,L) else
 if DJ L a≠0 then(DJ L a,L) else
 if (a.toList==[47])=true then(7,L) else
 match GC L a with
 |none=>(3,L)
 |some f=>if f<0/\Jh b a=true then(7,L) else
  if DJ L b≠0 then(DJ L b,L) else
  if (b.toList==[47])=true\/(GC L b).isSome=true then(6,L) else
  if ((DX a).toList != (DX b).toList)=true/\20<=L.countP (DN (DX b)) then(8,L) else
  if L.any (Kt a b)=true then(8,L) else(0,L.map (mv a b))
theorem ZrA(h:p.data.toList[k]?=some 47):KT p:=by
 cases hl:Ku p.data.toList with
 |none=>grind [absurd,Sn]
 |some j=>exact⟨j,hl⟩
theorem ZnK(b:List (By×Int))(i:Nat)(p:By)(x:By×Int)(h:b[i]?=some x):(DQ b).set (i*2) (dU p)=DQ (b.set i (p,x.2)):=by
 induction b generalizing i with
 |nil=>rfl
 |cons a l ih=>
  cases i with
  |zero=>grind [DQ,Iw]
  |succ i=>
   have:=ih i h;simp only[DQ,A9,F3]at this ⊢;rw[<-this,BN _ _ (by simp[Iw];omega)];simp only[Iw,Ay,AR];rw[show(i+1)*2-(0+1+1)=i*2 by omega]
theorem Gj.fa{b:Nat}(h:Gj w a (dS g n b) f L F)(i:Nat)(x:By×Int)(hx:L[i]?=some x)(p:By)(hp:p.size<=2000000)(hs:KT p)(W:World)(m:W.heap=(w.setCell (dQ g (i*2)) (dU p)).heap):Gj W a (dS g n b) f (L.set i (p,x.2)) F:=by
 have o:a≠g:=λe=>h.h9 (by grind [Value.ownBlock]);have d:∀k,k≠g->W.heap[k]?=w.heap[k]? := by grind [Below.heap_setCell]
 refine⟨?_,?_,?_,by simpa using h.nl,h.nf,?_,h.cd,h.bj⟩;unfold Gb;rw[d a o];exact h.hd;refine⟨by rw[Pn],?_⟩;rcases h.sl.2 with⟨e,_⟩|⟨g',aa,R,e,l,h3,j,h5,h6⟩;grind;cases e;refine .inr ⟨g,b,R.set (i*2) (dU p),Θ,?_,Ξ,j,Ξ,?_⟩;unfold Gb;rw[m];exact l.set _ _;grind [List.take_set,List.length_set,ZnK];exact h.sf.kept (λk hk e=>d k (λe'=>h.bj g rfl Ξ));intro y c;rcases EY c with c|rfl;exact h.ok y c;simp_all
theorem YQ{α : Type}(l:List α)(m:Nat)(x : α)(h:l[m]?=some x):l.set m x=l:=by apply C1;grind
def LQ(a b:By)(L:List (By×Int))(m:Nat):List (By×Int):=(L.take m).map (mv a b)++L.drop m
theorem mvT_at(a b:By)(L:List (By×Int))(m:Nat)(h:m<L.length):(LQ a b L m)[m]?=some L[m]:=by unfold LQ;grind
theorem Zre(a b:By)(L:List (By×Int))(m:Nat)(h:m<L.length):LQ a b L (m+1)=(LQ a b L m).set m (mv a b L[m]):=by unfold LQ;rw[BN _ _ Γ,AT,AP,BI Ω,Cw,Bu h,A2 h,AE,Ar];rfl
theorem Zrf(w:World)(n:Nat)(vl s:Value)(L:List (By×Int))(F:LY)(h:Gj w n vl s L F)(a b:By)(O:a.size<=2000000)(ah:b.size<=2000000)(a6:∀x∈L,Di x.1=true)(a5:∀(i j:Nat) x y,L[i]?=some x->L[j]?=some y->x.1=y.1->i=j):
  Cl 88 #[dP n,dU a,dU b] w λe w'=>e=dR (dI (J4 L a b).1)/\Gc w n vl s w' (J4 L a b).2 F:=by
 obtain⟨R,c⟩:=ex (J4 L a b);rw[<-c];unfold J4 at c;have HW:=Db h;have aB:Hid (∀p z,Bw w z->Cl 101 #[dP n,dU p] z λe ay=>∃r,(e=dR (dI r)/\GG L p r)/\ay=z):=λp z l=>(h.at l).find p;have aA:Hid (∀p z,p.size<=2000000->Bw w z->Cl 104 #[dP n,dU p] z λe ay=>e=dR (dI (DJ L p))/\ay=z):=λp z G l=>(h.at l).da p G;have A:Hid (∀w',Bw w w'->Gc w n vl s w' L F):=λw' l=>Gc.same h l;have bd:Hid (∀d z,Bw w z->Cl 149 #[dP n,dU d] z λe w'=>e=dR (dI (L.countP (DN d):Nat))/\w'=z):=λd z l=>(h.at l).cy d;have aH:=Db a6;have bc:=Db a5;have aF:=Db h.ok;have br:=h.hd.lt;have bQ:=h.nl;obtain⟨av,u,rfl,aX⟩:=h.sl.ao;have aG:=Db aX;clear h aX a6 a5;go_enter func88,ntmps88;go_wp2_with fail;apply(QB a _ O).Q;rintro e z⟨a1,n1,c1,rfl,bp,aI⟩;go_wp2_with fail;apply(QB b _ ah).Q;rintro e w2⟨a2,n2,c2,rfl,aP,bg⟩;have l:=aI.M (bg.Q aI.size);have a8:=Db aP;clear bp aP;cases hoa:Di a with
 |false=>
  have C:R=(1,L):=by rw[c,hoa];rfl
  have q:Hid (Gc w n (dT av L.length u) s w2 R.2 F):=by rw[C];exact Da A _ l
  have o:Hid (R.1=1):=by rw[C];exact rfl
  clear c C;go_wp2;go_ret;exact⟨by rw[Da o];rfl,Da q⟩
 |true=>
 cases hob:Di b with
 |false=>
  have C:R=(1,L):=by rw[c,hoa,hob];rfl
  have q:Hid (Gc w n (dT av L.length u) s w2 R.2 F):=by rw[C];exact Da A _ l
  have o:Hid (R.1=1):=by rw[C];exact rfl
  clear c C;go_wp2;go_ret;exact⟨by rw[Da o];rfl,Da q⟩
 |true=>
 rw[hoa,hob,if_neg Θ]at c;have bv:=UF a hoa;have aZ:=UF b hob;obtain⟨P,aq⟩:=ex (DJ L a);have E:=Da aA a w2 O l;rw[<-aq]at c E;by_cases B:P≠0
 .rw[if_pos B]at c;have bk:(P != 0)=true:=by rw[EC];exact B
  have q:Hid (Gc w n (dT av L.length u) s w2 R.2 F):=by rw[c];exact Da A _ l
  have o:Hid (R.1=P):=by rw[c];exact rfl
  clear c B aq;go_wp2_with(go_at_call 104;apply E.Q;rintro e w'⟨rfl,f⟩;rw[f];clear f);go_ret;exact⟨by rw[Da o];rfl,Da q⟩
 rw[if_neg B]at c;obtain rfl:P=0:=Ω;go_wp2_with(go_at_call 104;apply E.Q;rintro e w'⟨rfl,f⟩;rw[f];clear f);apply(Da aB a _ l).Q;rintro e w'⟨r,⟨rfl,X⟩,f⟩;rw[f];clear f;have bJ:=((Da HW).at l).c.c0;have bR:n<w2.heap.size:=As br l.size;clear E aq B;cases D:(a.toList==[47]) with
 |true=>
  rw[if_pos D]at c;have be:(a.toList != [47])=false:=by simp only[bne,D];rfl
  have q:Hid (Gc w n (dT av L.length u) s w2 R.2 F):=by rw[c];exact Da A _ l
  have o:Hid (R.1=7):=by rw[c];exact rfl
  clear c X;go_wp2;go_ret;exact⟨by rw[Da o];rfl,Da q⟩
 |false=>
 rw[if_neg (by rw[D];simp)]at c;have be:(a.toList != [47])=true:=by simp only[bne,D];rfl
 rcases X with⟨rfl,aW⟩|⟨k,x,rfl,ae,hx,aL⟩
 .have K:GC L a=none:=(KJ (.inl ⟨rfl,aW⟩)).elim (λh=>h.2) (λ⟨_,_,h,_⟩=>Ω);rw[K]at c;have q:Hid (Gc w n (dT av L.length u) s w2 R.2 F):=by rw[c];exact Da A _ l
  have o:Hid (R.1=3):=by rw[c];exact rfl
  clear c K aW;go_wp2;go_ret;exact⟨by rw[Da o];rfl,Da q⟩
 rw[GG.d5 ae hx aL]at c;have bP:=(Ac.1 ae).1;obtain⟨g,rfl,q0,q1⟩:=(Da aG) k x ae;have hg:g<w.heap.size:=(Da HW).sl.lt rfl;have bN:g<w2.heap.size:=As hg l.size;have bT:=(l.J (p:=(dQ g (k*2+1))) hg).M q1;have HK:=Db ae;have HX:=Db hx;clear aL hx ae q0 q1;have an:=VN b a w2 ah O;by_cases v:x.2<0/\Jh b a=true
 .have C:R=(7,L):=by rw[c];simp[v]
  have q:Hid (Gc w n (dS g L.length u) s w2 R.2 F):=by rw[C];exact Da A _ l
  have o:Hid (R.1=7):=by rw[C];exact rfl
  obtain⟨aU,bF⟩:=v;clear c C;go_wp2_with(go_at_call 147;apply an.Q;rintro e w'⟨rfl,f⟩;rw[f];clear f);go_ret;exact⟨by rw[Da o];rfl,Da q⟩
 simp only[if_neg v]at c;obtain⟨Q,ac⟩:=ex (DJ L b);have E:=Da aA b w2 ah l;rw[<-ac]at c E;have aJ:(¬x.2<0)\/(x.2<0/\Jh b a=false):=by
  by_cases h:x.2<0;exact .inr ⟨h,by cases hq:Jh b a with
   |false=>rfl
   |true=>exact absurd ⟨h,hq⟩ v⟩
  exact .inl h
 clear v;have a7:Hid (∀(j:Nat) (y:By×Int),L[j]?=some y->((Jh y.1 a || ((j:Int)==(k:Int)))=true->mv a b y=(b++y.1.extract a.size y.1.size,y.2))/\((Jh y.1 a || ((j:Int)==(k:Int)))=false->mv a b y=y)):=λj y hy=>by
  have bm:((j:Int)==(k:Int))=decide (y.1=a):=by
   by_cases e:y.1=a;have:=Da bc j k y x hy (Da HK) (e.M (Da HX).r);subst this;simp[e];have:j≠k:=λe'=>by subst e';rw[Da HK]at hy;cases hy;exact e (Da HX)
   simp[e];omega
  unfold mv;rw[bm];exact⟨λh=>by rw[if_pos h],λh=>by rw[if_neg (by rw[h];simp)]⟩
 go_upto_region 11 with fail
 go_cut [69] (λt wc=>t=dV false/\wc=w2)
 case first=>
  rcases aJ with aU|⟨aU,bE⟩;all_goals
   go_wp2_with(go_at_call 147;apply an.Q;rintro e w'⟨rfl,f⟩;rw[f];clear f)
   go_meet
   exact⟨rfl,rfl⟩
 case rest=>
  obtain⟨rfl,aw⟩:=hcut;subst aw;by_cases B:Q≠0
  .rw[if_pos B]at c;have bk:(Q != 0)=true:=(by rw[EC];exact B);have q:Hid (Gc w n (dS g L.length u) s wc R.2 F):=(by rw[c];exact Da A _ l);have o:Hid (R.1=Q):=(by rw[c];exact rfl);clear c B ac;go_wp2_with(go_at_call 104;apply E.Q;rintro e w'⟨rfl,f⟩;rw[f];clear f);go_ret;exact⟨by rw[Da o];rfl,Da q⟩
  rw[if_neg B]at c;obtain rfl:Q=0:=Ω;clear B ac aJ;cases S:(b.toList==[47]) with
  |true=>
   rw[if_pos (.inl S)]at c;have q:Hid (Gc w n (dS g L.length u) s wc R.2 F):=(by rw[c];exact Da A _ l);have o:Hid (R.1=6):=(by rw[c];exact rfl);clear c;go_wp2_with(go_at_call 104;apply E.Q;rintro e w'⟨rfl,f⟩;rw[f];clear f);go_ret;exact⟨by rw[Da o];rfl,Da q⟩
  |false=>
  go_wp2_with(go_at_call 104;apply E.Q;rintro e w'⟨rfl,f⟩;rw[f];clear f);apply(Da aB b _ l).Q;rintro e w'⟨r,⟨rfl,X⟩,f⟩;rw[f];clear f an E;rcases KJ X with⟨rfl,K⟩|⟨j,y,rfl,hj,hy,K⟩
  rotate_left
  .rw[if_pos (.inr (by simp[K]))]at c;have q:Hid (Gc w n (dS g L.length u) s wc R.2 F):=(by rw[c];exact Da A _ l);have o:Hid (R.1=6):=(by rw[c];exact rfl);clear c K X hj hy;go_wp2;go_ret;exact⟨by rw[Da o];rfl,Da q⟩
  rw[if_neg (by simp[S,K])]at c;clear K X;have ab:=Uu a wc O bv;have ao:=Uu b wc ah aZ;have ax:=Da bd (DX b) wc l;have bI:L.countP (DN (DX b))<=L.length:=AV;go_upto_region 18 with fail;obtain⟨ak,N⟩:∃t:Bool,t=decide (((DX a).toList != (DX b).toList)=true/\20<=L.countP (DN (DX b))):=⟨_,rfl⟩
  go_cut [95] (λt wd=>t=dV ak/\wd=wc)
  case first=>
   cases hq:((DX a).toList != (DX b).toList) with
   |false=>
    obtain rfl:ak=false:=(by rw[N,hq];simp);have ai:(DX a).toList=(DX b).toList:=(by simpa using hq);have HQ:=Db ai;clear N ai c;go_wp2_with fail;apply ab.Q;rintro e w'⟨rfl,f⟩;rw[f];clear f ab;go_wp2_with(first|(go_at_call 148;apply ao.Q;rintro e w'⟨rfl,f⟩;rw[f];clear f)|(go_at_call 149;apply ax.Q;rintro e w'⟨rfl,f⟩;rw[f];clear f));all_goals first|(exact absurd (Da HQ) Ψ)|(go_meet;exact⟨rfl,rfl⟩)
   |true=>
    have ai:¬(DX a).toList=(DX b).toList:=(by simpa using hq);have ht:ak=decide (20<=L.countP (DN (DX b))):=(by rw[N,hq];simp);have HT:=Db ht;clear N c ht;go_wp2_with fail;apply ab.Q;rintro e w'⟨rfl,f⟩;rw[f];clear f ab;go_wp2_with(first|(go_at_call 148;apply ao.Q;rintro e w'⟨rfl,f⟩;rw[f];clear f)|(go_at_call 149;apply ax.Q;rintro e w'⟨rfl,f⟩;rw[f];clear f))
    go_meet
    exact⟨by rw[Da HT];exact Cp Value.bool (by rw[Em];simp[ai];omega),rfl⟩
  case rest=>
   obtain⟨rfl,bx⟩:=hcut;subst bx;clear ab ao ax;cases ak with
   |true=>
    rw[if_pos (by simpa using N.r)]at c;have q:Hid (Gc w n (dS g L.length u) s wc R.2 F):=(by rw[c];exact Da A _ l);have o:Hid (R.1=8):=(by rw[c];exact rfl);clear c N;go_wp2;go_ret;exact⟨by rw[Da o];rfl,Da q⟩
   |false=>
   rw[if_neg (by simpa using N.r)]at c;clear N;have aT:=QB a wc O;go_wp2_with fail;apply aT.Q;rintro e w3⟨a3,n3,c3,rfl,aQ,bh⟩;clear aT;have au:=aQ hoa;have ar:=Da a8 hob;have ba:=Db au;have a9:=Db ar;have bj:=l.M (bh.Q l.size);have bo:n3<=6/\n2<=6:=by
    have:∀p,Di p=true->(Dc p).length<=6:=λp G=>by unfold Di at G;unfold Dc;split;simp;rename_i bq;rw[CE]at G;rcases G with G|G;exact absurd G bq;simp only[AQ,An]at G;exact G.1.2
    exact⟨by rw[au];exact this a hoa,by rw[ar];exact this b hob⟩
   obtain⟨bA,bz⟩:=bo;clear aQ au ar;have bD:=l;go_wp2_with fail
   go_loopw [15,16,17,18] (λi _ _ _ wr=>∃m:Nat,m<=L.length/\i=dI m/\Hid ((L.take m).any (Kt a b)=false)/\Bw w wr) (λi _ _ _ _=>L.length-(intOf i).toNat)
   case atStart=>exact⟨0,Ao _,rfl,rfl,bj⟩
   case round=>
    obtain⟨m,hm,rfl,ap,T⟩:=hrel;have bl:=((Da HW).at T).c.c0;by_cases M:m<L.length
    .have U:L[m]?=some L[m]:=Ab M;obtain⟨g',ad,p0,p1⟩:=(Da aG) m _ U;obtain rfl:g=g':=(by simpa using ad);have bS:=(T.J (p:=(dQ g (m*2))) hg).M p0;obtain⟨aj,_⟩:=Da aF L[m] (BE _);have bw:=Da aH L[m] (BE _);have aa:=VN L[m].1 a wr aj O;have aV:=QB L[m].1 wr aj;have H:(L.take (m+1)).any (Kt a b)=((L.take m).any (Kt a b) || Kt a b L[m]):=(by rw[Bu M,List.any_append];simp);rw[Da ap,No]at H;have Y:=Db H;clear H U ad p0 p1;go_wp2_with fail;apply aa.Q;rintro e w'⟨rfl,f⟩;rw[f];clear f aa;go_wp2_with fail;apply aV.Q;rintro e w4⟨a4,n4,c4,rfl,aR,bi⟩;have aS:=aR bw;have aE:=Db aS;have am:=T.M (bi.Q T.size);clear aV aR aS;have bB:n4<=2000001:=(by rw[Da aE];unfold Dc;split;simp;have:=T2 (L[m].1.extract 1 L[m].1.size);have S:(L[m].1.extract 1 L[m].1.size).size<=L[m].1.size:=(by simp[ByteArray.size_extract]);omega);have V:Kt a b L[m]=(Jh L[m].1 a && decide (6<(n4:Int)-n3+n2)):=(by unfold Kt;rw[Da aE,Da ba,Da a9]);cases hbeg2:Jh L[m].1 a with
     |false=>
      have al:Hid ((L.take (m+1)).any (Kt a b)=false):=(by show _=_;rw[Da Y,V,hbeg2];rfl);clear V Y;go_wp2
      go_roundw
      case rel=>exact⟨m+1,Ω,by go_num,al,am⟩
      case measure=>simp[intOf];omega
     |true=>
      by_cases h6:6<(n4:Int)-n3+n2
      .have H:L.any (Kt a b)=true:=(by rw[EB];exact⟨L[m],BE _,by rw[V,hbeg2];simp[h6]⟩);rw[if_pos H]at c;have q:Hid (Gc w n (dS g L.length u) s w4 R.2 F):=(by rw[c];exact Da A _ am);have o:Hid (R.1=8):=(by rw[c];exact rfl);clear c H V Y;go_wp2;go_ret;exact⟨by rw[Da o];rfl,Da q⟩
      .have al:Hid ((L.take (m+1)).any (Kt a b)=false):=(by show _=_;rw[Da Y,V,hbeg2];simp;omega);clear V Y;go_wp2
       go_roundw
       case rel=>exact⟨m+1,Ω,by go_num,al,am⟩
       case measure=>simp[intOf];omega
    .obtain rfl:m=L.length:=Ω;have H:L.any (Kt a b)=false:=(by have:=Da ap;rwa [BD]at this);rw[if_neg (by rw[H];simp)]at c;clear ap H;have bs:=(Da HW).at T;have a0:∀j (hj:j<L.length),(b++L[j].1.extract a.size L[j].1.size).size<=2000000/\KT (b++L[j].1.extract a.size L[j].1.size):=λj hj=>by have D:=UD b hob;have S:=UD _ (Da aH L[j] (BE _));refine⟨by simp[ByteArray.size_append,ByteArray.size_extract];omega,?_⟩;obtain⟨kk,bn⟩:=aZ;have aM:=(Sc bn).1;refine ZrA (k:=kk) ?_;have e:(b++L[j].1.extract a.size L[j].1.size).data.toList=b.data.toList++(L[j].1.extract a.size L[j].1.size).data.toList:=(by simp[ByteArray.data_append]);rw[e,Ap (Ac.1 aM).1];exact aM
     have bb:=Db a0;clear a0;go_wp2_with fail
     go_loopw [19,20] (λi _ wr=>∃m:Nat,m<=L.length/\i=dI m/\Hid (Gj wr n (dS g L.length u) s (LQ a b L m) F)/\Hid (Fr (Jp n (dS g L.length u) s) w wr)) (λi _ _=>L.length-(intOf i).toNat)
     case atStart=>exact⟨0,Ao _,rfl,by show Gj _ _ _ _ _ _;simpa [LQ] using bs,Fr.S T⟩
     case round=>
      obtain⟨m,hm,rfl,J,I⟩:=hrel;have bl:=(Da J).c.c0;by_cases M:m<L.length
      .have U:=mvT_at a b L m M;obtain⟨a',c',e',aY⟩:=(Da J).sl.ao;obtain⟨g',ad,p0,p1⟩:=aY m _ U;simp only[BC]at e';obtain⟨rfl,ac,rfl⟩:=e';clear ac;obtain rfl:g=g':=(by simpa using ad);obtain⟨aj,_⟩:=Da aF L[m] (BE _);have aa:=VN L[m].1 a wr aj O;have aO:=Da a7 m _ (Ab M);have ag:=Db aO;have bO:g<wr.heap.size:=(Da J).sl.lt rfl;have bM:wr.frozen? (dQ g (m*2))=false:=(by obtain⟨R',bf⟩:=(Da J).sl.type (g:=g) rfl;exact bf.A _);have aC:=Db U;have aN:=Zre a b L m M;have aD:=Db aN;clear aO aY U ad p1 aN;cases v:(Jh L[m].1 a || ((m:Int)==(k:Int))) with
       |false=>
        have af:=(Da ag).2 v;have Z:Hid (Gj wr n (dS g L.length u) s (LQ a b L (m+1)) F):=(by show Gj _ _ _ _ _ _;rw[Da aD,af,YQ _ _ _ (Da aC)];exact Da J);obtain⟨bG,bH⟩:=Bool.or_eq_false_iff.1 v;clear af v ag;go_wp2_with(go_at_call 147;apply aa.Q;rintro e w'⟨rfl,f⟩;rw[f];clear f)
        go_roundw
        case rel=>first|exact⟨m+1,Ω,by go_num,Z,I⟩|((repeat apply Exists.intro);exact⟨⟨m+1,Ω,by go_num,Z,I⟩,rfl⟩)
        case measure=>simp[intOf];omega
       |true=>
        have af:=(Da ag).1 v;obtain⟨bt,bu⟩:=Da bb m M;have Z:Hid (∀W:World,W.heap=(wr.setCell (dQ g (m*2)) (dU (b++L[m].1.extract a.size L[m].1.size))).heap->Gj W n (dS g L.length u) s (LQ a b L (m+1)) F):=λW hW=>by rw[Da aD,af];exact(Da J).fa m _ (Da aC) _ bt bu W hW
        have az:Hid (∀W:World,W.heap=(wr.setCell (dQ g (m*2)) (dU (b++L[m].1.extract a.size L[m].1.size))).heap->W.os=wr.os->W.tape=wr.tape->W.output=wr.output->Fr (Jp n (dS g L.length u) s) w W):=λW hW D S h3=>by have:=(Da I).set (dQ g (m*2)) (dU (b++L[m].1.extract a.size L[m].1.size)) (.inr (.inl rfl));exact⟨D.M (Da I).os,S.M (Da I).tape,h3.M (Da I).output,by rw[hW];exact this.size,λi hi hn=>by rw[hW];exact this.block i hi hn⟩
        have bC:a.size<=L[m].1.size:=(by rw[CE]at v;rcases v with h|h;unfold Jh at h;simp only[AQ,An]at h;omega;have e:m=k:=(by have:=ET.1 h;omega);subst e;have:=Da HK;rw[Ab M]at this;cases this;rw[Da HX];exact Aa _);have hd:Jh L[m].1 a=true\/(Jh L[m].1 a=false/\((m:Int)==(k:Int))=true):=by
         cases hq:Jh L[m].1 a with
         |true=>exact .inl rfl
         |false=>rw[hq,No]at v;exact .inr ⟨rfl,v⟩
        clear af v ag;go_upto_region 32 with(go_at_call 147;apply aa.Q;rintro e w'⟨rfl,f⟩;rw[f];clear f)
        go_cut [20,168] (λ_ t wc=>t=dV true/\wc=wr)
        case first=>
         rcases hd with hd|⟨bK,bL⟩;all_goals
          go_wp2
          go_meet
          exact⟨rfl,rfl⟩
        case rest=>
         obtain⟨rfl,aw⟩:=hcut;subst aw;go_wp2_with fail
         go_region
         all_goals
          go_wp2
          go_roundw
          case rel=>first|exact⟨m+1,Ω,by go_num,Da Z _ rfl,Da az _ rfl rfl rfl rfl⟩|((repeat apply Exists.intro);exact⟨⟨m+1,Ω,by go_num,Da Z _ rfl,Da az _ rfl rfl rfl rfl⟩,rfl⟩)
          case measure=>simp[intOf];omega
      .obtain rfl:m=L.length:=Ω;have aK:LQ a b L L.length=L.map (mv a b):=(by simp[LQ]);have q:Hid (Gc w n (dS g L.length u) s wr R.2 F):=(by rw[c];have D:=Da J;rw[aK]at D;exact⟨_,_,D,Da I,λ_ h => .inl h⟩);have o:Hid (R.1=0):=(by rw[c];exact rfl);clear c aK J I;go_wp2;go_ret;exact⟨by rw[Da o];rfl,Da q⟩
theorem QE(h:w.grownBy w' none):Bw w w':=⟨h.os,h.tape,h.output,h.size,λk a=>h.block k a Θ⟩
def Uo(s:By)(at_ n:Int):By:=s.extract (min at_.toNat s.size) (min at_.toNat s.size+min n.toNat (s.size-min at_.toNat s.size))
def JL(L:List (By×Int))(F:LY)(p:By)(at_ n:Int):By×Int:=
 if Di p=false then(⟨#[]⟩,1) else
 if at_<0\/n<0 then(⟨#[]⟩,2) else
 if DJ L p≠0 then(⟨#[]⟩,DJ L p) else
 if (p.toList==[47])=true then(⟨#[]⟩,5) else
 match GC L p with
 |none=>(⟨#[]⟩,3)
 |some f=>if f<0 then(⟨#[]⟩,5) else(Uo (F[f.toNat]?.getD ⟨#[]⟩) at_ n,0)
theorem ZqU(w:World)(H:Nat)(vl vf:Value)(L:List (By×Int))(F:LY)(h:Gj w H vl vf L F)(O:∀x∈L,x.2<F.length)(p:By)(U:p.size<=2000000)(m n:Int)(ha:m<=9223372036854775807)(hn:n<=9223372036854775807):
  Cl 112 #[dP H,dU p,dI m,dI n] w λe w'=>e=dR (.tuple #[dU (JL L F p m n).1,dI (JL L F p m n).2])/\Bw w w':=by
 obtain⟨R,a⟩:=ex (JL L F p m n);rw[<-a];unfold JL at a;have o:=Db h;have aa:=Db O;obtain⟨av,cv,rfl,V⟩:=h.sl.ao;obtain⟨af,cf,rfl,W⟩:=h.sf.dx;have ab:=Db V;have ac:=Db W;clear h V W O;go_enter func112,ntmps112;go_wp2_with fail;apply(QB p _ U).Q;rintro e w2⟨a2,n2,I,rfl,_,d⟩;cases hob:Di p with
 |false=>
  have b:R=(⟨#[]⟩,1):=by rw[a,hob];rfl
  have l:=Db b;clear a b;go_wp2
  go_ret2
  exact⟨by rw[Da l];rfl,d⟩
 |true=>
 rw[hob,if_neg Θ]at a;by_cases Q:m<0
 .have c:=a;have b:R=(⟨#[]⟩,2):=by rw[c,if_pos (.inl Q)]
  have l:=Db b;clear a b;clear c;go_wp2
  go_ret2
  exact⟨by rw[Da l];rfl,d⟩
 by_cases S:n<0
 .have c:=a;have b:R=(⟨#[]⟩,2):=by rw[c,if_pos (.inr S)]
  have l:=Db b;clear a b;clear c;go_wp2
  go_ret2
  exact⟨by rw[Da l];rfl,d⟩
 rw[if_neg Ω]at a;obtain⟨y,E⟩:=ex (DJ L p);have B:Cl 104 #[dP H,dU p] w2 λe am=>e=dR (dI (DJ L p))/\am=w2:=((Da o).at d).da p U;rw[<-E]at a B;by_cases z:y≠0
 .have an:(y != 0)=true:=by rw[EC];exact z
  rw[if_pos z]at a;clear z E;have b:R=(⟨#[]⟩,y):=by rw[a]
  have l:=Db b;clear a b;go_wp2_with(go_at_call 104;apply B.Q;rintro e w'⟨rfl,t⟩;rw[t];clear t)
  go_ret2
  exact⟨by rw[Da l];rfl,d⟩
 rw[if_neg z]at a;obtain rfl:y=0:=Ω;go_wp2_with(go_at_call 104;apply B.Q;rintro e w'⟨rfl,t⟩;rw[t];clear t);have K:=((Da o).at d).find p;apply K.Q;rintro e w'⟨r,⟨rfl,M⟩,t⟩;rw[t];clear t K;have ao:=((Da o).at d).c.c0;have ap:=((Da o).at d).c.c1;clear B E z;cases h1:(p.toList==[47]) with
 |true=>
  have ae:(p.toList != [47])=false:=by simp only[bne,h1];rfl
  rw[if_pos h1]at a;clear M;have b:R=(⟨#[]⟩,5):=by rw[a]
  have l:=Db b;clear a b;go_wp2
  go_ret2
  exact⟨by rw[Da l];rfl,d⟩
 |false=>
 rw[if_neg (by rw[h1];simp)]at a;have ae:(p.toList != [47])=true:=by simp only[bne,h1];rfl
 rcases M with⟨rfl,T⟩|⟨k,x,rfl,A,Y,N⟩
 .have P:GC L p=none:=(KJ (.inl ⟨rfl,T⟩)).elim (λh=>h.2) (λ⟨_,_,h,_⟩=>Ω);rw[P]at a;clear P T;have b:R=(⟨#[]⟩,3):=by rw[a]
  have l:=Db b;clear a b;go_wp2
  go_ret2
  exact⟨by rw[Da l];rfl,d⟩
 rw[GG.d5 A Y N]at a;have aq:=(Ac.1 A).1;have ag:=Da aa x (Ai A);obtain⟨g,rfl,q0,Z⟩:=(Da ab) k x A;have hg:g<w.heap.size:=(Da o).sl.lt rfl;have ak:=(d.J (p:=(dQ g (k*2+1))) hg).M Z;clear N Y A q0 Z;by_cases G:x.2<0
 .have c:R=(⟨#[]⟩,5):=by rw[a];simp[G]
  have b:R=(⟨#[]⟩,5):=by exact c
  have l:=Db b;clear a b;clear c;go_wp2
  go_ret2
  exact⟨by rw[Da l];rfl,d⟩
 simp only[if_neg G]at a;obtain⟨f,J⟩:∃f:Nat,x.2=(f:Int):=⟨x.2.toNat,Ω⟩;rw[J]at a ak ag;have ah:f<F.length:=Ω;have D:F[f]?=some F[f]:=Ab ah;obtain⟨gf,rfl,s0⟩:=(Da ac) f _ D;have ai:gf<w.heap.size:=(Da o).sf.lt rfl;have al:=(d.J (p:=dQ gf f) ai).M s0;have aj:F[f].size<=2000000:=(Da o).cd _ (BE _);rw[Bf,D]at a;have c:R=(Uo F[f] m n,0):=a;have ar:=(Da o).nf;clear D s0 a;obtain⟨s,X⟩:=ex (F[f]);rw[<-X]at c al aj;obtain⟨i,rfl⟩:∃i:Nat,m=i:=⟨m.toNat,Ω⟩;obtain⟨j,rfl⟩:∃j:Nat,n=j:=⟨n.toNat,Ω⟩;unfold Uo at c;rw[Bf,Bf]at c;have au:(0:Int)<=(f:Int):=Ω;clear X J G Q S;have v:=Db c;clear c;have C:Bw w w2.drew:=d.drew;by_cases c1:s.size<i
 .have q:R=(ByteArray.empty,0):=by rw[Da v,FH Ω,Cw,Nat.min_zero,Ep];simp
  have u:=Db q;clear q v;by_cases I:0<j
  .go_wp2_with fail
   go_region
   all_goals
    go_wp2
    go_ret2
    exact⟨by rw[Da u];rfl,C⟩
  .obtain rfl:j=0:=Ω;go_wp2_with fail
   go_region
   all_goals
    go_wp2
    go_ret2
    exact⟨by rw[Da u];rfl,C⟩
 .by_cases I:s.size-i<j
  focus
   have q:R=(s.extract i (i+(s.size-i)),0):=(by rw[Da v,BI Ω,FH Ω]);have u:=Db q;have ad:(s.size:Int)-(i:Int)<(j:Int):=Ω
  rotate_left
  focus
   have q:R=(s.extract i (i+j),0):=(by rw[Da v,BI Ω,BI Ω]);have u:=Db q;have ad:¬(s.size:Int)-(i:Int)<(j:Int):=Ω
  all_goals
   clear q v;go_wp2_with fail
   go_region
   all_goals
    go_wp2
    go_ret2
    exact⟨by rw[Da u];rfl,C⟩
def Dg(s:By)(n:Nat):By:=if n<=s.size then s.extract 0 n else s++⟨(List.replicate (n-s.size) 0).toArray⟩
theorem Q0:(prog.info? 5).map (λi=>(i.zero,i.size,i.bytes))=some (some (.int .u8 0),1,1):=Φ
theorem ZhZ:∀(n:Nat) (r:By),(List.replicate n (0:Int)).foldl (λr n=>r.push (UInt8.ofNat n.toNat)) r=r++⟨(List.replicate n (0:UInt8)).toArray⟩
 |0,r=>by apply AW;simp[ByteArray.data_append]
 |n+1,r=>by rw[Ff,List.foldl_cons,ZhZ n];apply AW;simp[ByteArray.data_append,ByteArray.data_push,List.replicate_succ]
theorem Yi(s:By)(n:Nat)(w:World)(hs:s.size<=2000000)(hn:n<=2000000):Cl 107 #[dU s,dI n] w λe w'=>e=dR (dU (Dg s n))/\Bw w w':=by
 obtain⟨r,a⟩:=ex (Dg s n);rw[<-a];unfold Dg at a;by_cases h:n<=s.size
 .rw[if_pos h]at a;subst a;go_enter func107,ntmps107;go_wp2;go_ret;exact⟨rfl,Ad _ _⟩
 .rw[if_neg h]at a;have c:=Db a;clear a;obtain⟨v,p,t,u,ac⟩:=Bk Q0;obtain⟨m,i⟩:=ex (n-s.size);have j:(n:Int)-(s.size:Int)=(m:Int):=Ω;rw[<-i]at c;have b:=Db j;have f:∀W:World,W.ownsRow 0 5 1 (dS w.heap.size m m) m (madeCells (Value.int .u8 0).cells (m*1)).toList->(convert 59 9 (dS w.heap.size m m)).run prog W=.ok (dU ⟨(List.replicate m 0).toArray⟩) W:=λW d=>by have l:(madeCells (Value.int .u8 0).cells (m*1)).toList=(List.replicate m (0)).map (Value.int .u8):=(by rw[B2];exact(CT _ m).M Θ);rw[l]at d;have g:=run_loadCells_list (P:=prog) W (dQ w.heap.size 0) ((List.replicate m (0:Int)).map (Value.int .u8)) (d.cells rfl);rw[AT,BB]at g;rw[run_convert_bytes_string W 59 9 5 _ _ _ underlying59 underlying5 underlying9,run_bytesToString W _ m m _ g,ZhZ];congr 2
  have k:=Db f;have ab:m<=2000000:=Ω;clear f j i;go_enter func107,ntmps107;go_wp2_with(refine Ct _ rfl _ _ 59 rfl 0 5 v (.int .u8 0) 1 underlying59 p t u _ _ _ _ m rfl rfl (Da b) (Da b) Γ (by grind [maxLen]) (Ao _) ?_;intro x q o;have aa:=Da k x q);go_ret;exact⟨by rw[Da c];rfl,QE o⟩
theorem Xw(W:World)(t e:TypeId)(i:TypeInfo)(z:Value)(size bytes:Nat)(q:prog.underlying t=some (.slice e))(p:prog.info? e=some i)(E:i.zero=some z)(C:i.size=size)(y:i.bytes=bytes)(F:z.cells.size=size)(D:0<size)(v:Value)(n:Nat)(j:Gf)(f:Sl W e size v n j)(w:∀u∈j,u.oneCell'=true)(hn:n<=maxLen)(hb:n*bytes<=140737488355328):
  ∃b d c w',(Builtin.append_ #[t,t] t #[dN,v]).run prog W=.ok (dT b d c) w'/\Sl w' e size (dT b d c) n j/\Bw W w'/\(∀g,(Value.slice b d c).ownBlock=some g->W.heap.size<=g):=by
 rcases f.2 with⟨rfl,rfl⟩|⟨g,s,L,rfl,hR,h3,h4,h5,h6⟩;have l:=AC (by simpa using f.1);subst l;obtain⟨h,w',m,o,a,r⟩:∃h w',(Builtin.append_ #[t,t] t #[dN,dN]).run prog W=.ok h w'/\h=dN/\w'=W/\True:=by refine⟨dN,W,?_,rfl,rfl,trivial⟩;simp[Builtin.append_,run_underlying q,sizeOf,typeInfo,p,Builtin.lenOf,Builtin.firstCells]
 subst o;subst a;exact⟨none,0,0,w',m,Ω,Ad _ _,by grind [Value.ownBlock]⟩;have A:=f.bp.cells rfl;obtain⟨h,w',m,o,a,r⟩:=J1 W t t e i z size bytes q p E C y F D dN 0 [] ⟨Θ,Γ⟩ _ n s j f.1 A w Ω Ξ;obtain⟨b,d,c,rfl⟩:=o.a0;refine⟨b,d,c,w',m,Ξ,⟨a.os,a.tape,a.output,a.size,λk B=>a.block k B (by grind [Value.ownBlock])⟩,λx l=>(r x l).resolve_left (by grind [Value.ownBlock])⟩
theorem Rv(w:World)(K:Nat)(O N:Value)(L:List (By×Int))(F:LY)(h:Gj w K O N L F):
  Cl 106 #[dP K] w λe w'=>e=dR (dP w.heap.size)/\∃vl' vf',Gj w' w.heap.size vl' vf' L F/\Bw w w'/\∀k,Jp w.heap.size vl' vf' k->w.heap.size<=k:=by
 obtain⟨i0,U,Z,aa,ab⟩:=Bk OE;obtain⟨i9,V,ac,ad,ae⟩:=Bk SW;have ah:=h.nl;have ag:=h.nf;obtain⟨c,n⟩:=ex ((w.alloc (.cells #[dN,dN] 89)).drew);have o:Bw w c:=by rw[n];exact((Ad _ _).alloc (Aa _) _).drew
 have B:Gb c w.heap.size 89 [dN,dN]:=by rw[n];exact Bv w _
 have aj:w.heap.size+1<=c.heap.size:=by rw[n];show _<=(w.alloc _).heap.size;simp
 obtain⟨d,j,f,P,r1,C,D,E⟩:=Xw c 87 103 i0 _ 2 24 underlying87 U Z aa ab rfl Δ O _ _ (h.at o).sl (Ui L) (by unfold maxLen;omega) Ω;have p:=B.e (X:=λ_=>False) (Fr.S D) id;have y:=o.M (D.Q o.size);obtain⟨a,i⟩:=ex ((P.setCell (dQ w.heap.size 0) (dT d j f)).drew);have b:Bw w a:=by rw[i];exact(y.setCell (Aa _) _).drew
 have q:Gb a w.heap.size 89 [dT d j f,dN]:=by rw[i];exact p.set 0 _
 have A:(Value.slice d j f).ownBlock≠some w.heap.size:=λe=>by have:=E _ e;omega
 have H:Sl a 103 2 (dT d j f) L.length (DQ L):=by rw[i];exact(C.setCell _ _ A)
 obtain⟨l,s,m,Q,s1,M,t,v⟩:=Xw a 84 9 i9 _ 1 16 underlying84 V ac ad ae rfl Δ N _ _ (h.at b).sf (by intro u Y;obtain⟨x,_,rfl⟩:=AB.1 Y;rfl) (by unfold maxLen;omega) Ω;have r:=q.e (X:=λ_=>False) (Fr.S t) id;have W:a.heap.size=P.heap.size:=by rw[i];simp[World.setCell,World.drew]
 have I:(Value.slice l s m).ownBlock≠some w.heap.size:=λe=>by have:=v _ e;have:=b.size;have:=q.lt;omega
 have G:∃vl' vf',Gj (Q.setCell (dQ w.heap.size 1) (dT l s m)) w.heap.size vl' vf' L F/\Bw w (Q.setCell (dQ w.heap.size 1) (dT l s m))/\∀k,Jp w.heap.size vl' vf' k->w.heap.size<=k:=by refine⟨dT d j f,dT l s m,⟨r.set 1 _,?_,?_,h.nl,h.nf,h.ok,h.cd,?_⟩,?_,?_⟩;exact(H.e (Fr.S t) (λ_ _=>id)).setCell _ _ A;exact M.setCell _ _ I;intro g T e;have:=v g e;have:=C.lt T;omega;exact(b.M (t.Q b.size)).setCell (Aa _) _;rintro k (rfl|z|z);exact Aa _;have:=E k z;omega;have:=v k z;have:=b.size;omega
 have R:=Db G;have af:=h.c.c0;have S:=h.c.c1;have J:=h.hd.lt;have y0:=B.J 0;have y1:=p.J 0;have ak:=p.A 0;have y2:=q.J 1;have y3:=r.J 1;have al:=r.A 1;have t2:=(b.J J).M S;subst n;have ai:=As J y.size;subst i;clear G h o y b C D E M t v B p q r H A I W;go_enter func106,ntmps106;go_wp2;go_region_law (refine Kl rfl _ _ 87 87 rfl _ _ (by simp[Act.eval]) (by simp[Act.eval]) r1 ?_)
 all_goals
  go_wp2;go_region_law (refine Kl rfl _ _ 84 84 rfl _ _ (by simp[Act.eval]) (by simp[Act.eval]) s1 ?_)
  all_goals
   go_wp2;go_ret;exact⟨rfl,Da R⟩
