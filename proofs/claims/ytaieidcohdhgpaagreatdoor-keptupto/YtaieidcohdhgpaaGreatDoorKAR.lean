/- Kept. -/
import Derived.Test.YtaieidcohdhgpaaGreatDoorKAQ
namespace Go.Proofs.YtaieidcohdhgpaaGreatDoor
variable{fs:By}{x:By×Int}{Q:Exit->Act->World->Prop}{e:Int}{K:KS->Prop}{D F:LY}{L:List (By×Int)}{B N a c d i j m n n0 tb vb:Nat}{f g:Nat->Nat}{X:Nat->Prop}{o:Oper}{P:Program}{E:Prop}{b:RT}{W w w':World}
set_option maxHeartbeats 40000000
set_option maxRecDepth 100000
set_option linter.all false
open Tryz
open Go.RowKit
theorem GZ.free{stb db:Nat}{kb:List RT}{en:List Nat}(h:GZ K X N n0 w vb stb db fs kb en):∃f:Nat,f<=1536/\∀X,Bw w X->Cl 84 #[dP stb] X λe w'=>e=dR (dI f)/\Bw w w':=by obtain⟨s,vk,vf,vn,vw,ve,ps,ep,D,a0,b,a2,a3,a4,g,a6⟩:=h;exact⟨_,Qt (Dl s.es) 96,λX a=>((b.below a).free g.ok).Q λ_ _ ⟨c,d⟩=>⟨c,a.M (d.Q a.size)⟩⟩
section
variable{K:KS->Prop}{N n0:Nat}{w0 w:World}{xb vb tb db stb rb:Nat}{fs:By}{kp ep:Value}{kts:List (Nat×Value×Value)}{L:List (By×Int)}{F:LY}{kb:List RT}{en:List Nat}
theorem Hb.tr(h:Hb n0 w0 w xb vb tb db stb rb fs kp ep kts L F kb en):M9 w tb L F:=by obtain⟨G,I,C,ρ,vl,vf,hv,c,aa,b,a,hz⟩:=h.md;exact⟨G,I,C,ρ,c,b,⟨b.tg a,a.ch⟩⟩
theorem Hb.f5(h:Hb n0 w0 w xb vb tb db stb rb fs kp ep kts L F kb en):n0<=w.heap.size/\vb<w.heap.size/\∀k,Own ep k->k<w.heap.size:=
 ⟨Ae h.lo.1 h.aa.size,Gb.lt h.ai,λ_ a=>h.bj.lt a⟩
def Li(N n0:Nat)(w0:World)(xb vb tb db stb rb:Nat)(fs:By)(kp ep:Value)(kts:List (Nat×Value×Value))(L:List (By×Int))(F:LY)(kb:List RT)(en:List Nat)(w':World):Prop:=
 Hb n0 w0 w' xb vb tb db stb rb fs kp ep kts L F kb en/\∃M m,M<=N+1600/\GZ (λ_=>True) (Own ep) M n0 w' vb stb db fs (kb++[(L,F)]) (en++[m])
theorem Li.below(h:Li N n0 w0 xb vb tb db stb rb fs kp ep kts L F kb en w)(a:Bw w w'):Li N n0 w0 xb vb tb db stb rb fs kp ep kts L F kb en w':=by obtain⟨b,M,m,c,d⟩:=h;exact⟨b.below a,M,m,c,d.below a⟩
theorem Hb.ht(h:Hb n0 w0 w xb vb tb db stb rb fs kp ep kts L F kb en)(g:GZ K (Own ep) N n0 w vb stb db fs kb en)(hN:N<=1900000000):
  Cl 26 #[dP vb] w λe w'=>e=dR (dI 0)/\Li N n0 w0 xb vb tb db stb rb fs kp ep kts L F kb en w':=by
 refine NC w vb tb db stb h.ai _ (λw' q=>q.1.ai) ?_;have b:Bw w w.drew:=(Ad _ _).drew;have a:=h.below b;obtain⟨G,I,C,ρ,⟨rd,V,E,vi,d⟩,f,c⟩:=a.tr;apply((g.below b).cw Ω a.f5.1 a.f5.2.1 a.f5.2.2 f d c).Q;rintro e w'⟨i,⟨m,_,j⟩,k⟩;exact⟨i,a.store k,N+1,m,Ω,j⟩
theorem Hb.hq(h:Hb n0 w0 w xb vb tb db stb rb fs kp ep kts L F kb en)(i:GZ K (Own ep) N n0 w vb stb db fs kb en)(v:N<=1900000000):
  Cl 33 #[dP vb] w λe w'=>(∃r:Nat,e=dR (dI r))/\Li N n0 w0 xb vb tb db stb rb fs kp ep kts L F kb en w':=by
 have A:=Kx w vb tb h.ai.ai;have c1:w.cell? (dQ vb 1)=some (dP tb):=(Gb.J h.ai 1).M rfl;have c3:w.cell? (dQ vb 3)=some (dP stb):=(Gb.J h.ai 3).M rfl;obtain⟨f,aa,k⟩:=i.free;have o:Hid (∀X,Bw w X->Cl 84 #[dP stb] X λe w'=>e=dR (dI (f))/\Bw w w'/\w'.cell? (dQ vb 1)=some (dP tb)/\w'.cell? (dQ vb 3)=some (dP stb)):=λX d=>by apply(k X d).Q;rintro e w'⟨rfl,b⟩;exact⟨rfl,b,(Gb.J (h.below b).ai 1).M rfl,(Gb.J (h.below b).ai 3).M rfl⟩
 have n:Hid (∀X,Bw w X->Cl 85 #[dP stb,dP tb] X λe w'=>e=dR (.tuple #[])/\w'.cell? (dQ vb 1)=some (dP tb)/\w'.cell? (dQ vb 3)=some (dP stb)/\∃c:Nat,c<=1536/\Hid (Cl 84 #[dP stb] w' λe l=>e=dR (dI (c))/\Li N n0 w0 xb vb tb db stb rb fs kp ep kts L F kb en l)):=λX d=>by
  have a:=h.below d;apply(M1 (i.below d) a.tr v a.f5.1 h.lo.2.1 a.f5.2.1 a.f5.2.2).Q;rintro e w'⟨rfl,⟨M,m,_,q⟩,_,C⟩;have g:=a.store C;refine⟨rfl,(Gb.J g.ai 1).M rfl,(Gb.J g.ai 3).M rfl,?_⟩;have u:M<=N+1600:=by obtain⟨s,_,_,_,_,_,_,_,_,a0,_⟩:=q;grind [Qt,Dl]
  obtain⟨f,y,x⟩:=q.free;refine⟨f,y,(x w' (Ad _ _)).Q ?_⟩;rintro e l⟨rfl,b⟩;exact⟨rfl,Li.below ⟨g,M,m,u,q.Q Γ⟩ b⟩
 generalize Li N n0 w0 xb vb tb db stb rb fs kp ep kts L F kb en=P at *
 clear h i k;go_enter func33,ntmps33;go_upto_region 4 with(first|(go_at_call 53;apply A.Q;rintro e w'⟨rfl,rfl⟩)|(go_at_call 84;apply(Da o _ (by grind [Below.refl])).Q;rintro e w1⟨rfl,j,d1,d3⟩))
 go_region_held3 (λW=>W.cell? (dQ vb 1)=some (dP tb)/\W.cell? (dQ vb 3)=some (dP stb)) (go_keep) (first|(go_at_call 85;apply(Da n _ (by first|exact j|exact j.drew)).Q;rintro e w2⟨rfl,k1,k3,c,hF,p⟩))
 go_wp2_with(go_at_call 84;apply(Da p).Q;rintro e w3⟨rfl,B⟩;have t:=Db B);go_ret;exact⟨⟨64*(c-f),Cp (λz=>Ending.returned (.int _ z)) Ω⟩,Da t⟩
end
theorem O8{c:Array Oper}{a:Act}{K:Act->World->Prop}(hg:o.guard=none)(f:FuncId)(x y:Operand)(t s:TypeId)(ab:o.op=Op.call { callee:=Callee.value (.func f),args:=#[x,y],argTypes:=#[t,s] })(u v:Value)(hx:a.eval x=u)(hy:a.eval y=v)(aa:(callFunc f #[u,v]).run P w=.ok (.enter f #[u,v]) w){b:Ending->World->Prop}(g:Calls P f #[u,v] w b)(d:∀e w',b e w'->∃v,e=dR v/\K (a.put o.dst v) w'):
  if Region.wanted o (yielded c a.tmps)=true then Oper.wp P o a w K Q else E:=by
 have k:Region.wanted o (yielded c a.tmps)=true:=by grind [Region.wanted]
 rw[if_pos k];unfold Oper.wp;have hf:a.eval (.func f)=.func (.func f) #[] #[]:=rfl;have h:(execOp a.eval o).run P w=.ok (.enter f #[u,v]) w:=by grind [execOp,resolve,Deferred.ofValue,invoke]
 rw[h,Oper.upon_enter];refine g.Q (λe w' j=>?_);obtain⟨v,rfl,i⟩:=d e w' j;exact i
theorem Zm4{p:By}{f:Int}(h:GC L p=some f)(F:LY)(i:Int)(d:By):(DT L F p i d).2.1=L/\(DT L F p i d).2.2.length=F.length:=by unfold DT Qb Ko;grind
theorem ZoU(h:x∈L):∃f,GC L x.1=some f:=by
 unfold GC;cases e:L.find? (λy=>decide (y.1=x.1)) with
 |none=>grind
 |some y=>simp_all
def u2(x y:Int):By:=⟨#[UInt8.ofNat (IntKind.u8.wrap x).toNat,UInt8.ofNat (IntKind.u8.wrap y).toNat]⟩
theorem XL(x:Int):(.int .u8 (((UInt8.ofNat (IntKind.u8.wrap x).toNat).toNat:Nat):Int):Value)=.int .u8 (IntKind.u8.wrap x):=by grind [IntKind.wrap_u8,UInt8.toNat_ofNat']
theorem Tn{nb:Nat}(x y:Int)(h:Gb W nb 5 [.int .u8 (IntKind.u8.wrap x),.int .u8 (IntKind.u8.wrap y)]):(convert 59 9 (dS nb 2 2)).run prog W=.ok (dU (u2 x y)) W:=by refine UQ ⟨rfl,.inr ⟨nb,2,_,rfl,h,Aa _,Δ,rfl,?_⟩⟩ rfl;have e1:=XL x;have e2:=XL y;show [_,_]=[Value.int .u8 _,Value.int .u8 _];simp_all
theorem TF.tx{G:Gh}{I:LF}(h:TF G I):TX G I:=⟨h.nd,λx a=>(h.rg x a).2.1,h.us,h.ch⟩
section
def LP(n1:Nat)(w:World)(vb tb rc xb:Nat)(L:List (By×Int))(F:LY)(E:Prop)(W:World):Prop:=
 ∃Fc Lv Fv,D8 W xb vb rc dN dN (dU ⟨#[]⟩)/\Md (λk=>k<n1) W vb tb rc L Fc Lv Fv/\Fc.length=F.length/\(E->L=Lv/\Fc=Fv)/\Below n1 w W/\w.heap.size<=W.heap.size
def Ww(n1:Nat)(w:World)(E:Prop)(e:Ending)(w':World):Prop:=(∃b:Bool,e=dR (dV b)/\(E->b=true))/\Below n1 w w'/\w.heap.size<=w'.heap.size
theorem Zr2{b:World}(h:Below a w W)(c:Fr (JT (λk=>k<a) tb W) W b)(e:a<=w.heap.size):Below a w b:=
 OS h c (λk d=>Nat.le_of_not_lt d.2) e
theorem LP.c8{g:Nat}(h:LP d w vb tb g c L F E W)(a:Jf L F)(B:d<=w.heap.size)(hF:F.length+1<=2000000)(k:x∈L)(u:By)(D:u.size<=1048576)(s:By)(C:s=x.1):
  Cl 37 #[dP c,.agg (Gm 0 0 0 0 s ⟨#[]⟩ u).toArray] W λe w'=>∃b:Bool,e=dR (dV b)/\(E->b=true)/\LP d w vb tb g c L F E w':=by
 subst C;obtain⟨i,o,n,r,t,j,h4,v,z⟩:=h;obtain⟨f,A⟩:=ZoU k;obtain⟨p,q⟩:=Zm4 A i 0 u;apply(Z4 W vb tb g c _ _ _ L i o n r t ⟨a.len,λy G=>by rw[j];exact a.fv y G,a.ok,a.un⟩ Ω 0 0 0 0 _ _ u (Ae (UD _ (a.ok x k)) Δ) D).Q;rintro e w'⟨rfl,l,H,m⟩;rw[p]at m;refine⟨_,rfl,λe=>?_,_,_,_,H,m,q.M j,λe=>?_,Zr2 v l B,Ae z l.size⟩;simp_all;simp_all
theorem Zld{vl vf:Value}{f:RT}(hV:L3 w j vb f)(Y:Gj w B vl vf L F)(ag:∀k,Jp B vl vf k->k<j)(z:Jf L F)(hF:F.length+1<=2000000)(U:j<=w.heap.size):
  Cl 150 #[dP vb,dP B] w (Ww j w ((L,F)=f)):=by
 obtain⟨tb,G,I,CI,ρ,N,ae,af,ah,ax,_⟩:=hV;have HC:Hid (∀W,Bw w W->Cl 106 #[dP B] W λe C=>∃c,e=dR (dP c)/\∀r,Bw C r->∀a,Gb r a 55 [dP vb,dP c,dN,dN,dU ⟨#[]⟩]->LP j w vb tb c a L F ((L,F)=f) r):=λW l=>by apply(Rv W B vl vf L F (Y.e (Fr.S l) (λ_ _=>id))).Q;rintro e C⟨rfl,az,ay,q1,A,Z⟩;refine⟨_,rfl,λr T a O=>⟨F,f.1,f.2,O,?_,rfl,(by rintro rfl;exact⟨rfl,rfl⟩),?_,?_⟩⟩;have o:=l.M ((A.M (T.Q A.size)).Q l.size);obtain⟨d,s,N⟩:=N;obtain⟨rd,V,E,vi,hT⟩:=ae;exact⟨G,I,CI,ρ,az,ay,⟨d,s,(o.block _ (Gb.lt N)).M N⟩,⟨rd,V,E,vi,hT.below o (Aa _)⟩,⟨q1.e (X:=λ_=>False) (Fr.S T) (λ_ _=>id),λk D e=>by have:=Z k D;have:=l.size;omega⟩,af,ah.tx,⟨λk D=>by have:=o.size;omega,λk D => .inr Ω⟩⟩;exact(l.M ((A.M (T.Q A.size)).Q l.size)).Q U;have:=l.size;have:=A.size;have:=T.size;omega
 obtain⟨av,cv,rfl,aw⟩:=Y.sl.ao;have Q:Hid (∀c a W,LP j w vb tb c a L F ((L,F)=f) W->W.cell? (dQ B 0)=some (dT av L.length cv)/\∀(m:Nat) x,L[m]?=some x->∃g,av=some (dQ g 0)/\W.cell? (dQ g (m*2))=some (dU x.1)/\W.cell? (dQ g (m*2+1))=some (dI x.2)):=λc a W h=>by obtain⟨_,_,_,_,_,_,_,n,p⟩:=h;have t:=Y.e ⟨n.os,n.tape,n.output,p,λk D e=>n.block k (Nat.lt_of_not_le e)⟩ (λk D e=>by have:=ag k D;omega);refine⟨t.c.c0,λm x O=>?_⟩;obtain⟨a',c',S,au⟩:=t.sl.ao;simp only[BC,true_and]at S;obtain⟨rfl,rfl⟩:=S;exact au m x O
 have HW:Hid (∀c a W,LP j w vb tb c a L F ((L,F)=f) W->∀(m:Nat) x,L[m]?=some x->∀u:By,u.size<=1048576->Cl 37 #[dP a,.agg (Gm 0 0 0 0 x.1 ⟨#[]⟩ u).toArray] W λe w'=>∃b:Bool,e=dR (dV b)/\((L,F)=f->b=true)/\LP j w vb tb c a L F ((L,F)=f) w'):=λc a W h m x O u H=>
  h.c8 z U hF (Ai O) u H _ rfl
 have HB:Hid (∀c a W r,LP j w vb tb c a L F ((L,F)=f) W->Bw W r->LP j w vb tb c a L F ((L,F)=f) r):=λc a W r h o=>by obtain⟨Fc,Lv,Fv,t,h2,h3,h4,n,p⟩:=h;exact⟨Fc,Lv,Fv,(o.block _ (Gb.lt t)).M t,h2.below o,h3,h4,n.M (o.Q (Ae U p)),Ae p o.size⟩
 have HH:Hid (∀c a W,LP j w vb tb c a L F ((L,F)=f) W->W.cell? (dQ a 1)=some (dP c)/\Cl 18 #[dP vb,dP c] W (Ww j w ((L,F)=f))):=λc a W h=>by obtain⟨Fc,Lv,Fv,t,h2,h3,h4,n,p⟩:=h;refine⟨(Gb.J t 1).M rfl,(TV (Rz Sa) W vb tb c L Fc Lv Fv h2 ⟨z.len,λy hy=>by rw[h3];exact z.fv y hy,z.ok,z.un⟩).Q ?_⟩;rintro e w'⟨⟨b,q1,A⟩,Z⟩;exact⟨⟨b,q1,λe=>A (h4 e)⟩,n.M (Z.Q (Ae U p)),Ae p Z.size⟩
 have aA:=z.len;have HN:Hid (∀c a W,LP j w vb tb c a L F ((L,F)=f) W->Below j w W/\w.heap.size<=W.heap.size):=λc a W ⟨_,_,_,_,_,_,_,n,p⟩=>⟨n,p⟩;generalize LP j w vb tb=P at *
 clear Y ag z hF N ae af ah ax aw;go_enter func150,ntmps150;go_wp2_with(first|(go_at_call 106;apply(Da HC _ (by first|exact Ad _ _|exact(Ad _ _).drew)).Q;rintro e C⟨c,rfl,HP⟩));have aa:=HP _ ((Ad _ C).alloc (Aa _) _) _ (D9 C _ 55);clear HP;obtain⟨a,ai⟩:=ex C.heap.size;rw[<-ai]at aa ⊢;have am:=Db aa;clear aa ai
 go_loopw [6] (λi wr=>∃m:Nat,m<=L.length/\i=dI m/\Hid (P c a L F ((L,F)=f) wr)) (λi _=>L.length-(intOf i).toNat)
 case atStart=>exact⟨0,Ao _,rfl,am⟩
 case round=>
  obtain⟨m,hm,rfl,K⟩:=hrel;have r0:=(Da Q _ _ _ (Da K)).1;by_cases ab:m<L.length
  .obtain⟨g,rfl,J,p1⟩:=(Da Q _ _ _ (Da K)).2 m _ (Ab ab);have HG:Hid (∀W,P c a L F ((L,F)=f) W->W.cell? (dQ B 0)=some (dS g L.length cv)/\W.cell? (dQ g (m*2))=some (dU L[m].1)):=λW l=>by refine⟨(Da Q _ _ _ l).1,?_⟩;obtain⟨g',S,q,_⟩:=(Da Q _ _ _ l).2 m L[m] (Ab ab);cases S;exact q
   have R:=Db (λW l=>Da HW c a W l m L[m] (Ab ab));obtain⟨⟨ps,pf⟩,ad⟩:∃x,x=L[m]:=⟨_,rfl⟩;rw[<-ad]at J p1 R HG;simp only at J p1 R HG;clear ad;by_cases aB:pf<0
   .go_wp2
    go_roundw
    case rel=>exact⟨m+1,Ω,by go_num,K⟩
    case measure=>simp[intOf];omega
   .have ap:=Tn (W:=(wr.alloc (.cells #[.int .u8 (IntKind.u8.wrap (IntKind.i64.wrap (65+(m:Int).tmod 26))),.int .u8 (IntKind.u8.wrap (IntKind.i64.wrap (65+IntKind.i64.wrap ((m:Int)/26))))] 5)).drew) (nb:=wr.heap.size) _ _ (D9 wr _ 5);have aq:=Tn (W:=wr.alloc (.cells #[.int .u8 (IntKind.u8.wrap (IntKind.i64.wrap (65+(m:Int).tmod 26))),.int .u8 (IntKind.u8.wrap (IntKind.i64.wrap (65+IntKind.i64.wrap ((m:Int)/26))))] 5)) (nb:=wr.heap.size) _ _ (D9 wr _ 5);have ar:=Tn (W:=wr.drew.alloc (.cells #[.int .u8 (IntKind.u8.wrap (IntKind.i64.wrap (65+(m:Int).tmod 26))),.int .u8 (IntKind.u8.wrap (IntKind.i64.wrap (65+IntKind.i64.wrap ((m:Int)/26))))] 5)) _ _ (D9 wr.drew _ 5);obtain⟨u,H⟩:=ex (u2 (IntKind.i64.wrap (65+(m:Int).tmod 26)) (IntKind.i64.wrap (65+IntKind.i64.wrap ((m)/26))));rw[<-H]at ap aq ar;have aC:¬9223372036854775807<5+u.size:=(by rw[H];exact(by decide:¬9223372036854775807<5+2));have ao:Hid (∀W,P c a L F ((L,F)=f) W->Cl 37 #[dP a,.agg #[dI 0,dI 0,dI 0,dI 0,dU ps,dU ⟨#[]⟩,dU ((⟨#[102,105,108,101,32]⟩)++u)]] W λe w'=>∃b:Bool,e=dR (dV b)/\Hid ((L,F)=f->b=true)/\Hid (P c a L F ((L,F)=f) w')):=λW l=>Da R W l _ (by rw[H,Aj];exact(by decide:5+2<=1048576));have an:=Db (Da HB _ _ _ _ (Da K) (((Ad _ wr).alloc (Aa _) (.cells #[.int .u8 (IntKind.u8.wrap (IntKind.i64.wrap (65+(m:Int).tmod 26))),.int .u8 (IntKind.u8.wrap (IntKind.i64.wrap (65+IntKind.i64.wrap ((m:Int)/26))))] 5)).drew));have M:Bw wr (wr.alloc (.cells #[.int .u8 (IntKind.u8.wrap (IntKind.i64.wrap (65+(m:Int).tmod 26))),.int .u8 (IntKind.u8.wrap (IntKind.i64.wrap (65+IntKind.i64.wrap ((m)/26))))] 5)):=(Ad _ wr).alloc (Aa _) _;have k0:=(M.J (Ag _ _ r0)).M r0;have k1:=(M.J (Ag _ _ J)).M J;have k2:=(M.drew.J (Ag _ _ r0)).M r0;have k3:=(M.drew.J (Ag _ _ J)).M J;clear H R HG M;go_upto_region 6 with fail;go_region_law (first|(refine O8 rfl 37 _ _ 56 51 rfl _ _ (by first|go_simp|rfl) (by first|go_simp|rfl) (by go_simp) (Da ao _ (Da an)) ?_;rintro e w2⟨b2,rfl,aj,ac⟩;refine⟨_,rfl,?_⟩))
    all_goals
     cases b2
     .have al:=Db (Da HN _ _ _ (Da ac));go_wp2;exact Am (v:=dV false) (by simp[results,results150,go_sem]) rfl ⟨⟨false,rfl,Da aj⟩,Da al⟩
     .go_wp2
      go_roundw
      case rel=>exact⟨m+1,Ω,by go_num,ac⟩
      case measure=>simp[intOf];omega
  .obtain rfl:m=L.length:=Ω;have hh:=Da HH _ _ _ (Da K);have c1:=hh.1;have ak:=Db hh.2;clear hh;go_wp2_with(go_at_call 18;apply(Da ak).Q;rintro e w2⟨⟨b,rfl,o⟩,hq⟩);go_ret;exact⟨⟨b,rfl,o⟩,hq⟩
end
theorem L3.below(h:L3 w n vb b)(a:Bw w w'):L3 w' n vb b:=by obtain⟨tb,G,I,e,ρ,⟨d,s,c⟩,⟨i,V,E,j,g⟩,f⟩:=h;exact⟨tb,G,I,e,ρ,⟨d,s,(a.block _ (Gb.lt c)).M c⟩,⟨i,V,E,j,g.below a (Aa _)⟩,f⟩
theorem L3.cr(h:L3 w n vb b)(c:∀t R,Gb w B t R->t=5)(h0:0<B)(hB:B<n)(j:Nat)(v:Value):L3 (w.setCell (dQ B j) v) n vb b:=by
 obtain⟨tb,G,I,o,ρ,l,⟨A,V,E,C,h⟩,p,q,r,f⟩:=h;have a:Fr (λk=>k=B) w (w.setCell (dQ B j) v):=(Fr.refl _ _).set _ _ rfl;refine⟨tb,G,I,o,ρ,Gt.e l a (λe=>?_),⟨A,V,E,C,h.pk.e a (λe=>?_),h.t.e a (λe=>?_),h.d.e a (λk t d e s=>?_),h.i.e a (λg i e=>?_),h.si,λx m=>(h.av x m).e a (λg i e=>?_),h.lo⟩,p,q,r,f⟩;subst e;obtain⟨d,z⟩:=l.row;have:=c _ _ z;revert this;decide;omega;subst e;have:=c _ _ h.t;revert this;decide;subst e;have:=c _ _ s;subst this;decide;subst e;obtain⟨d,u⟩:=h.i.type i;have:=c _ _ u;revert this;decide;cases ha:x.2.a with
 |none=>grind [Value.ownBlock]
 |some y=>
  have h1:=f x m y ha;grind [Value.ownBlock]
theorem L3.held{f d:Value}(h:L3 w n vb b)(m:Gj w a f d L F)(k:Jf L F):
  Cl 18 #[dP vb,dP a] w (LH w ((L,F)=b)):=by
 obtain⟨tb,G,I,g,ρ,o,l,i,j,h5,hN⟩:=h;apply(TV (Z:=λ_=>False) (Rz Sa) w vb tb a L F _ _ ⟨G,I,g,ρ,f,d,o,l,⟨m,Γ⟩,i,j.tx,⟨Γ,Γ⟩⟩ k).Q;rintro e w'⟨⟨c,q1,q2⟩,p⟩;exact⟨Γ,p⟩
def LO(W:World)(B N:Nat):Prop:=∃(R:Gf) (M:Nat×Nat),W.heap[B]?=some (.cells R.toArray 5 M)/\N<=R.length/\R.length<=M.1
theorem LO.type(h:LO W B N){t:TypeId}{R:Gf}(hr:Gb W B t R):t=5:=by obtain⟨R',M,h1,_⟩:=h;grind [Gb]
theorem LO.at(h:LO W B N)(hj:j<N):(∃v,W.cell? (dQ B j)=some v)/\W.frozen? (dQ B j)=false:=by obtain⟨R,M,h1,h2,h3⟩:=h;refine⟨⟨R[j],?_⟩,?_⟩;grind [World.cell?];grind [World.frozen?]
theorem LO.set(h:LO W B N)(j:Nat)(v:Value):LO (W.setCell (dQ B j) v) B N:=by obtain⟨R,M,a,h2,h3⟩:=h;exact⟨R.set j v,M,by simp[World.setCell,Array.getElem?_modify,a],Ξ,Ξ⟩
theorem LO.lt(h:LO W B N):B<W.heap.size:=by obtain⟨R,M,h1,_⟩:=h;grind
def Me(w:World)(n vb B N:Nat)(b:RT)(W:World):Prop:=Bw w W/\L3 W n vb b/\(w.heap.size<=B/\0<B)/\B<n/\n<=W.heap.size/\LO W B N
theorem Me.set(h:Me w n vb B N b W)(j:Nat)(v:Value):Me w n vb B N b (W.setCell (dQ B j) v):=by obtain⟨a,f,c,d,h5,e⟩:=h;exact⟨⟨a.os,a.tape,a.output,by grind [World.setCell],λk g=>(Aw _ _ _ _ Γ).M (a.block k g)⟩,f.cr (λ_ _=>e.type) c.2 d j v,c,d,Ξ,e.set j v⟩
theorem Me.below{c:World}(h:Me w n vb B N b W)(a:Bw W c):Me w n vb B N b c:=by obtain⟨d,f,g,i,j,e⟩:=h;exact⟨d.M (a.Q d.size),f.below a,g,i,Ae j a.size,by have k:=e.lt;obtain⟨R,M,l,m⟩:=e;exact⟨R,M,(a.block _ k).M l,m⟩⟩
theorem ZrV(W:World)(s:By)(d:s.size=98304):∃c W1,(convert 9 59 (dU s)).run prog W=.ok (dS W.heap.size 98304 c) W1/\98304<=c/\Bw W W1/\LO W1 W.heap.size 98304/\∀j v,(Dd s)[j]?=some v->W1.cell? (dQ W.heap.size j)=some v:=by
 have h:=run_bytes_of_string (P:=prog) W 9 59 5 s Φ Φ Φ;rw[d]at h;obtain⟨c,g⟩:=ex (grownCap W 98304 0 5);have i:98304<=c:=by grind [grownCap_ge]
 rw[<-g]at h;obtain⟨R,a⟩:=ex (bytesRow s c);rw[<-a]at h;have aa:98304<=R.size:=by simp_all[bytesRow,Array.size_append,Array.size_map]
 have b:(W.drew.alloc (.cells R 5 (R.size,R.size+1))).heap[W.heap.size]?=some (.cells R.toList.toArray 5 (R.size,R.size+1)):=by show(W.heap.push _)[W.heap.size]? = _;simp
 refine⟨c,_,h,i,(Ad _ _).drew.alloc Θ _,⟨R.toList,_,b,Ω,Θ⟩,λj v e=>?_⟩;have hj:j<98304:=by grind [List.getElem?_eq_some_iff,Dh]
 have f:(W.drew.alloc (.cells R 5 (R.size,R.size+1))).cell? (dQ W.heap.size j)=R[j]? := by rw[cell_of_row _ _ j _ 5 _ b]
 rw[f,a];unfold bytesRow;unfold Dd at e;rw[Array.getElem?_append_left (by rw[Array.size_map];have:s.data.size=98304:=d;omega),Array.getElem?_map];simpa using e
theorem Zk6(w:World)(A:Nat)(q H M:Nat)(y:w.cell? (dQ A 2)=some (dS q H M))(a:OA)(l c:Nat)(s:By)(G:Sl w 5 1 (dT a l c) l (Dd s))(hl:l=98304)(aj:s.size=98304)(x d f:Nat)(h1:x<=f)(h2:f<=d)(ar:d<H)(au:d<1000000000000)(b:RT)(r:Nat->Nat)(E:Nat->Prop)(hE:E f)(X:∀i,i<=d->w.cell? (dQ q i)=some (.pointer (some ⟨r i,0,none⟩)))(P:∀W B c,Bw w W->w.heap.size<=B->LO W B 98304->98304<=c->(∀j v,(Dd s)[j]?=some v->W.cell? (dQ B j)=some v)->Cl 27 #[dS B 98304 c] W λe w1=>∃vb,e=dR (.tuple #[dP vb,dI 0])/\Me w W.heap.size vb B 98304 b w1)(N:∀n vb B W i,i<=d->Me w n vb B 98304 b W->Cl 18 #[dP vb,.pointer (some ⟨r i,0,none⟩)] W (LH W (E i)))(O:∀n vb B W i,i<=d->Me w n vb B 98304 b W->Cl 150 #[dP vb,.pointer (some ⟨r i,0,none⟩)] W (Ww n W (E i))):
  Cl 90 #[dP A,dT a l c,dI x,dI d] w λe w'=>e=dR (dV true)/\Bw w w':=by
 have ak:=UQ G Ω;have HS:=Db G;have HO:=Db P;have HH:=Db N;have HL:=Db O;have u:=Db X;have F:=Ag _ _ y;clear G P N O X;subst hl;go_enter func90,ntmps90;go_wp2
 go_loopw [10] (λi wr=>∃m:Nat,x<=m/\m<=f/\i=dI m/\Hid (Bw w wr)) (λi _=>d+1-(intOf i).toNat)
 case atStart=>exact⟨x,Aa _,h1,rfl,Ad _ _⟩
 case round=>
  obtain⟨m,an,ao,rfl,t⟩:=hrel;have Z:=((Da t).J F).M y;have ap:(m)<=(d):=Ω;obtain⟨c1,L,ah,ag,R,U,S⟩:=ZrV wr s aj;have K:=Db (Da HO L _ c1 ((Da t).M (R.Q (Da t).size)) (Da t).size U ag S);clear R U S;go_wp2_with(go_at_call 27;apply(Da K).Q;rintro e w1⟨vb,rfl,V⟩;have HQ:=Db V;clear V);clear K ah Z
  go_loopw [14] (λk wq=>∃j:Nat,j<=98304/\k=dI j/\Hid (Me w L.heap.size vb wr.heap.size 98304 b wq)) (λk _=>98304-(intOf k).toNat)
  case atStart=>exact⟨0,Ao _,rfl,HQ⟩
  case round=>
   obtain⟨j,hj,rfl,g⟩:=hrel;by_cases ai:j<98304
   .obtain⟨⟨v0,g0⟩,g1⟩:=(Da g).2.2.2.2.2.at ai;have ae:=Db ((Da g).set j (.int .u8 77));have al:(0)<=(j):=Ω;have am:(j:Int)<98304:=Ω;go_wp2
    go_roundw
    case rel=>exact⟨j+1,Ω,by go_num,ae⟩
    case measure=>simp[intOf];omega
   .obtain rfl:j=98304:=Ω;have D:=(Da g).1;have Z:=(D.J F).M y;have k3:=(D.J (Ag _ _ (Da u m Ω))).M (Da u m Ω);clear D;have ac:Hid (∀h,Bw wr h->h.cell? (dQ A 2)=some (dS q H M)/\h.cell? (dQ q m)=some (.pointer (some ⟨r m,0,none⟩))/\Cl 150 #[dP vb,.pointer (some ⟨r m,0,none⟩)] h λe I=>∃o:Bool,e=dR (dV o)/\Hid (E m->o=true)/\Hid (Bw w I)):=λh af=>by have z:=(Da g).below af;have C:=z.1;refine⟨(C.J (p:=dQ A 2) F).M y,(C.J (p:=dQ q m) (Ag _ _ (Da u m Ω))).M (Da u m Ω),(Da HL _ _ _ _ m Ω z).Q ?_⟩;rintro e I⟨⟨o,q1,q2⟩,q3,q4⟩;have:=z.2.2.1.1;have:=z.2.2.2.1;exact⟨o,q1,q2,C.M (q3.Q Ω)⟩
    have T:Hid (m=f->E m):=λe=>e ▸ hE;go_wp2_with(first|(go_at_call 16;apply(Qn 0 _).Q;rintro e w2⟨rfl,rfl⟩)|(go_at_call 18;apply(Da (Db (Da HH _ _ _ _ m Ω (Da g)))).Q;rintro e w2⟨⟨b1,rfl,Q⟩,Y⟩;have aa:=Db Q;obtain⟨n2,n3,n4⟩:=Da ac _ Y;have ad:=Db n4;clear Q Y n4)|(go_at_call 150;apply(Da ad).Q;rintro e I⟨o,rfl,ab,J⟩));all_goals first
     |exact Am (v:=dV true) (by simp[results,results90,go_sem]) rfl ⟨rfl,Da J⟩
     |(have aq:m≠f:=(λe=>by first|exact absurd (Da aa (Da T e)) (Ψ)|exact Bool.noConfusion ((Da ab (Da T e)).r.M Ψ));exact⟨⟨m+1,Ω,Ω,by go_num,J⟩,by simp[intOf];omega⟩)
section
variable{n0:Nat}{w0 w:World}{xb vb tb db stb rb:Nat}{fs:By}{kp ep:Value}{kts:List (Nat×Value×Value)}{L:List (By×Int)}{F:LY}{kb:List RT}{en:List Nat}
theorem Hb.pk(h:Hb n0 w0 w xb vb tb db stb rb fs kp ep kts L F kb en):GU w:=by obtain⟨G,I,C,ρ,vl,vf,hv,⟨rd,V,E,vi,a⟩,_⟩:=h.md;exact a.pk
theorem Hb.ej(h:Hb n0 w0 w xb vb tb db stb rb fs kp ep kts L F kb en){T:Nat}(U:GP T b D)(V:T+1<18446744073709551616)(Q:∀x∈D,x.size=64)(ac:D.length=1536){a:OA}{l:Nat}(hs:Sl w 5 1 (dT a l c) (DI D).size (Dd (DI D))){v p s:Nat}(O:v<=s)(P:s<=p)(ag:p<kb.length)(ae:kb.length<=1000000000000)(Y:kb[s]?=some b)(S:∀(i:Nat) (b:RT),kb[i]?=some b->b.2.length+1<=2000000):
  Cl 90 #[dP xb,dT a l c,dI v,dI p] w λe w'=>e=dR (dV true)/\Bw w w':=by
 have ab:(DI D).size=98304:=by grind [RV]
 have hl:l=98304:=by have:=hs.len;omega
 subst hl;have ad:=h.kl;rcases h.cm.2 with⟨_,h0⟩|⟨E,N,R,e,z,g1,g2,g3,g4⟩;omega;subst e;have af:=Gb.lt h.ac;have ah:∀i,i<kts.length->w.cell? (dQ E i)=some (.pointer (some ⟨(kts[i]?.getD (0,.pointer none,.pointer none)).1,0,none⟩)):=λi o=>by
  rw[z.J];have e1:(R.take (kts.length*1))[i]?=R[i]? := by grind
  simp_all
 have I:∀i,i<=p->∀W,Bw w W->∃d u t,kb[i]?=some d/\Gj W (kts[i]?.getD (0,.pointer none,.pointer none)).1 u t d.1 d.2/\Jf d.1 d.2/\∀k,Jp (kts[i]?.getD (0,.pointer none,.pointer none)).1 u t k->k<w.heap.size:=λi o W m=>by obtain⟨d,H⟩:∃d,kb[i]?=some d:=Γ;obtain⟨q,j,f,r⟩:=h.kt i d H;rw[j];exact⟨d,q.2.1,q.2.2,H,f.e (X:=λ_=>False) (Fr.S m) Γ,r,λk A=>by obtain⟨_,_,z,_⟩:=Kb f A;exact z.lt⟩
 refine Zk6 w xb E _ N ((Gb.J h.ac 2).M rfl) a 98304 c _ Ξ rfl ab v p s O P Ω Ω b (λi=>(kts[i]?.getD (0,.pointer none,.pointer none)).1) (λi=>kb[i]?=some b) Y Γ ?_ ?_ ?_;intro W B M m hB y Z aa;apply(NZ U V W B M y.lt Z aa Q (h.below m).pk).Q;rintro e w1⟨C,rfl,j,f⟩;have G:=y.lt;obtain⟨K,J,m1,m2⟩:=y;exact⟨C,rfl,m.M (f.Q m.size),j,Ω,G,f.size,K,J,(f.block _ G).M m1,m2⟩;intro n C B W i o g;obtain⟨d,u,t,j,f,r,_⟩:=I i o W g.1;apply(g.2.1.held f r).Q;simp_all;intro n C B W i o g;obtain⟨d,u,t,j,f,r,q4⟩:=I i o W g.1;apply(Zld g.2.1 f (λk A=>by have:=q4 k A;have:=g.2.2.1.1;have:=g.2.2.2.1;omega) r (S i d j) g.2.2.2.2.1).Q;simp_all
end
def Gn(s:By)(i:Nat):By:=s.extract (i*64) ((i+1)*64)
theorem VQ(w:World)(s:By)(hs:s.size=98304)(i:Nat)(hi:i<1536):Cl 247 #[dU s,dI i] w λe w'=>e=dR (dU (Gn s i))/\w'=w:=by go_enter func247,ntmps247;go_wp2;go_ret;exact⟨rfl,rfl⟩
def Qr(a b:By)(n:Nat):Nat:=(List.range n).countP (λi=>decide (Gn a i≠Gn b i))
theorem ZoF(a b:By)(n:Nat):Qr a b (n+1)=Qr a b n+if Gn a n≠Gn b n then 1 else 0:=by unfold Qr;rw[B8,AU,Bm];simp
theorem Ztc(a b:By)(n:Nat):Qr a b n<=n:=by have:=AV (p:=λi=>decide (Gn a i≠Gn b i)) (l:=List.range n);rw[Bl]at this;exact this
theorem Zh4(w:World)(a b:By)(g:a.size=98304)(h:b.size=98304):Cl 206 #[dU a,dU b] w λe w'=>e=dR (dI (Qr a b 1536:Nat))/\w'.heap=w.heap/\Bw w w':=by
 have l:Hid (∀(i:Nat) W,i<1536->Cl 247 #[dU a,dI i] W λe w'=>e=dR (dU (Gn a i))/\w'=W):=λi W c=>VQ W a g i c;have o:Hid (∀(i:Nat) W,i<1536->Cl 247 #[dU b,dI i] W λe w'=>e=dR (dU (Gn b i))/\w'=W):=λi W c=>VQ W b h i c;clear g h;go_enter func206,ntmps206;go_wp2
 go_loopw [5,6] (λn i wr=>∃m:Nat,m<=1536/\i=dI m/\n=dI (Qr a b m)/\Hid (Bw w wr/\wr.heap=w.heap)) (λ_ i _=>1536-(intOf i).toNat)
 case atStart=>exact⟨0,Ao _,rfl,rfl,Ad _ _,rfl⟩
 case round=>
  obtain⟨m,hm,rfl,rfl,f⟩:=hrel;have aa:=Ztc a b m;have k:=ZoF a b m;by_cases j:m<1536
  .have ab:(m)<1536:=Ω;have d:Hid (∀s W,s=a\/s=b->Cl 247 #[dU s,dI m] W λe w'=>e=dR (dU (Gn s m))/\w'=W):=λs W p=>by rcases p with rfl|rfl;exact Da l m W j;exact Da o m W j
   by_cases q:Gn a m=Gn b m
   focus
    rw[if_neg Γ]at k
   rotate_left
   focus
    rw[if_pos q]at k;have ac:((Gn a m).toList==(Gn b m).toList)=false:=by grind [beq_eq_false_iff_ne,Ul]
   all_goals
    go_wp2_with(first|(go_at_call 247;apply(Da d _ _ Ξ).Q;rintro e w2⟨rfl,rfl⟩))
    go_roundw
    case rel=>grind
    case measure=>grind [intOf]
  .obtain rfl:m=1536:=Ω;go_wp2;go_ret;exact⟨rfl,(Da f).2,(Da f).1⟩
def Jq(n:Nat)(but:Int):List Bool:=(List.range n).map (λi:Nat=>((i:Int) != but))
theorem Sw(n:Nat)(a:Int):(Jq n a).length=n:=by grind [Jq]
theorem Zt2(w:World)(vb tb a o:Nat)(h:Hd w vb tb a o)(e:Int)(b:OA)(l c:Nat)(D:LY)(k:Cl 80 #[dP a,dI e,dT b l c] w (GF w D)):Cl 31 #[dP vb,dI e,dT b l c] w (GF w D):=by have m:=Kx w vb tb h.ai;have d:=Db k;have c2:w.cell? (dQ vb 2)=some (dP a):=(Gb.J h 2).M rfl;go_enter func31,ntmps31;go_wp2_with(first|(apply m.Q;rintro e w'⟨rfl,rfl⟩)|(apply(Da d).Q;rintro e w'⟨i,n,j,rfl,f⟩;have g:=Db f));go_ret;exact⟨i,n,j,rfl,Da g⟩
theorem se_le{ep:List Int}(hm:ep.Pairwise (· <= ·))(c:∀x∈ep,0<=x/\x<=n)(e:Int):Hc ep n e<=GY ep n e/\GY ep n e<=n:=by
 have b:∀e:Int,GY ep n e<=n:=λe=>by unfold GY;split;omega;split;rename_i x f;have:=c x (Ai f);omega;omega
 refine⟨?_,b e⟩;unfold Hc;split;omega;rename_i h0;have a:=b (e-1);unfold GY at a ⊢;rw[if_neg Ω]at a ⊢;rw[if_neg Ω];obtain⟨k,d⟩:∃k:Nat,e-1=k:=⟨(e-1).toNat,Ω⟩;have aa:e=((k+1:Nat):Int):=Ω;rw[d]at a ⊢;grind [List.getElem?_eq_some_iff,List.getElem?_eq_getElem,List.pairwise_iff_getElem]
theorem Zjy(w:World)(a:Nat)(s t:Nat)(e:Int)(hs:s<=t)(ht:t<=1000000000000)(d:Cl 142 #[dP a,dI e] w λr w'=>r=dR (dI (t:Nat))/\w'=w)(f:Cl 140 #[dP a,dI e] w λr w'=>r=dR (dI (s:Nat))/\w'=w):
  Cl 128 #[dP a,dI e] w λr w'=>r=dR (dI (t-s:Nat))/\w'=w:=by
 have b:=Db d;have c:=Db f;have hw:IntKind.i64.wrap ((t:Int)-(s:Int))=((t-s:Nat):Int):=by grind [IntKind.wrap_i64]
 go_enter func128,ntmps128;go_wp2_with(first|(apply(Da b).Q;rintro e w'⟨rfl,rfl⟩)|(apply(Da c).Q;rintro e w'⟨rfl,rfl⟩));go_ret;simp_all
theorem ZsL(w:World)(vb tb a f:Nat)(h:Hd w vb tb a f)(e:Int)(n:Nat)(c:Cl 128 #[dP a,dI e] w λr w'=>r=dR (dI (n:Nat))/\w'=w):Cl 64 #[dP vb,dI e] w λr w'=>r=dR (dI (n:Nat))/\w'=w:=by have d:=Kx w vb tb h.ai;have b:=Db c;have c2:w.cell? (dQ vb 2)=some (dP a):=(Gb.J h 2).M rfl;go_enter func64,ntmps64;go_wp2_with(first|(apply d.Q;rintro e w'⟨rfl,rfl⟩)|(apply(Da b).Q;rintro e w'⟨rfl,rfl⟩));go_ret;simp_all
theorem MJ:(prog.info? 4).map (λi=>(i.zero,i.size,i.bytes))=some (some (dV false),1,1):=Φ
theorem MB:prog.underlying 69=some (.slice 4):=Φ
def K2(n:Nat)(but:Int)(m:Nat):Gf:=(List.range n).map (λi:Nat => dV (decide (i<m) && ((i:Int) != but)))
theorem ZkX(n:Nat)(a:Int)(m:Nat):(K2 n a m).length=n:=by grind [K2]
theorem ZqL(n:Nat)(a:Int)(h:m<n):(K2 n a m).set m (dV (((m:Int) != a)))=K2 n a (m+1):=by refine C1 (λi=>?_);unfold K2;by_cases hi:i<n;by_cases e:m=i;simp_all;grind [decide];simp_all
theorem ZqM(n:Nat)(a:Int):K2 n a n=(Jq n a).map .bool:=by unfold K2 Jq;rw[BP];refine Ch (λi b=>?_);have:=Cz.1 b;simp[this]
theorem ZT(w:World)(n:Nat)(hn:n<=1000000000000)(a:Int):Cl 205 #[dI n,dI a] w λe w'=>∃g:Nat,e=dR (dS g n n)/\Lu w' (some (dQ g 0)) (Jq n a)/\Bw w w':=by
 obtain⟨B,s,z,A,ad⟩:=Bk MJ;go_enter func205,ntmps205;go_wp2_with(at_make;refine Ct _ rfl _ _ 69 rfl 0 4 B _ 1 MB s z A _ _ _ _ n rfl rfl rfl rfl Γ (by grind [maxLen]) (Ao _) ?_;intro w1 l h;have q:=Db (And.intro (Sl.a3 l) (QE h));clear l h)
 go_loopw [6] (λi wr=>∃m:Nat,m<=n/\i=dI m/\Hid (Gb wr w.heap.size 4 (K2 n a m)/\Bw w wr)) (λi _=>n-(intOf i).toNat)
 case atStart=>
  obtain⟨o,C⟩:=Da q;rw[B2,show(madeCells (Value.bool false).cells n).toList=List.replicate n (dV false) from CT (dV false) n]at o;rcases o.2 with⟨e,_⟩|⟨g,ab,R,e,f,g1,g2,g3,g4⟩;grind;simp only[BC,CX,FT]at e;obtain⟨⟨rfl,_,_⟩,_,rfl⟩:=e;have r:R=K2 n a 0:=by simp_all[List.take_of_length_le,K2,List.map_const']
  rw[r]at f;exact⟨0,Ao _,rfl,f,C⟩
 case round=>
  obtain⟨m,hm,rfl,b⟩:=hrel;by_cases u:m<n
  .obtain⟨p,y⟩:∃p,(K2 n a m)[m]?=some p:=(by grind [List.getElem?_eq_getElem,ZkX]);have c0:=((Da b).1.J m).M y;have f0:=(Da b).1.A m;have aa:Hid (Gb (wr.setCell (dQ w.heap.size m) (dV (((m) != a)))) w.heap.size 4 (K2 n a (m+1))/\Bw w (wr.setCell (dQ w.heap.size m) (dV (((m) != a))))):=(by obtain⟨d,c⟩:=Da b;refine⟨by rw[<-ZqL n a u];exact d.set m _,?_⟩;exact⟨c.os,c.tape,c.output,by simpa [World.setCell] using c.size,λk t=>(Aw _ _ _ _ Γ).M (c.block k t)⟩);have ac:(m)<(n):=Ω;go_wp2;grind [intOf]
  .obtain rfl:m=n:=Ω;go_wp2;go_ret;refine⟨w.heap.size,rfl,λj v x=>⟨w.heap.size,0,rfl,?_⟩,(Da b).2⟩;have d:=(Da b).1;rw[ZqM]at d;rw[Av,d.J,A8,x];rfl
def Is(ep:List Int)(n:Nat)(e:Int):Nat:=GY ep n e-Hc ep n e
def Ic(F:LY)(ps:LB)(ep:List Int)(e:Int)(lost:List Bool):LY:=DD F ps (Hc ep ps.length e) lost (GY ep ps.length e)
structure DkI(w:World)(vb:Nat)(F:LY)(ps:LB)(ep:List Int)(D:LY):Prop where
 ii:∀W,Bw w W->Cl 28 #[dP vb] W (GF W D)
 ik:∀W,Bw w W->Cl 30 #[dP vb] W λe w'=>e=dR (dI (ep.length:Nat))/\w'=W
 wr:∀W,Bw w W->∀e:Int,e<9223372036854775808->Cl 64 #[dP vb,dI e] W λr w'=>r=dR (dI (Is ep ps.length e:Nat))/\w'=W
 br:∀W,Bw w W->∀e:Int,e<9223372036854775808->∀(al:OA) (cl:Nat) (lost:List Bool),Lu W al lost->lost.length<=1000000000000->Cl 31 #[dP vb,dI e,dT al lost.length cl] W (GF W (Ic F ps ep e lost))
theorem GZ.dk{b:Nat}{B:List RT}{z:List Nat}(h:GZ K X N n0 w vb i b fs B z)(A:Hd w vb tb b i)(hN:N<=2000000000):∃F g ep s,DkI w vb F g ep s.D/\Hu (N+1) F g ep s B z/\fs=DI F/\Gy s/\Hp s/\s.tn<=N+1/\ep.length<=2*N/\g.length<=353*N:=by obtain⟨s,vk,vf,vn,vw,ve,g,ep,F,a0,c,t,a3,d,D,E,G,H,I,aa,ab,ac,C⟩:=h;obtain⟨m,Q,o,rfl⟩:=c.st.se.a0;obtain⟨n,lw,p,rfl⟩:=c.st.sw.a0;have q:Q=ep.length:=c.st.se.len;have O:=Sl.len c.st.sw;subst q O;have l:∀W,Bw w W->Hd W vb tb b i:=λW a=>(a.block _ (Gb.lt A)).M A;refine⟨F,g,ep,s,⟨λW a=>?_,λW a=>?_,λW a e j=>?_,λW a e j u cl P M L=>?_⟩,d,C,D,E,G,I,H⟩;exact WL W vb tb b i (l W a) _ _ _ _ _ (c.below a).st.a2;exact Xe W vb tb b i (l W a) _ _ _ (((c.below a).st.a2.1.J 3).M rfl);have f:=c.below a;have v:W.cell? (dQ b 2)=some (dT n g.length p):=(f.st.a2.1.J 2).M rfl;have y:W.cell? (dQ b 3)=some (dT m ep.length o):=(f.st.a2.1.J 3).M rfl;have q:=se_le d.gm d.d8 e;exact ZsL W vb tb b i (l W a) e _ (Zjy W b _ _ e q.1 Ω (T8 W b n m _ p _ o ep v y f.st.se (λx r=>(d.d8 x r).1) e j) (ZhR W b n m _ p _ o ep v y f.st.se (λx r=>(d.d8 x r).1) e j));have f:=c.below a;exact Zt2 W vb tb b i (l W a) e u _ cl _ (ZlC W b _ _ _ _ _ F g ep f.st.a2 ⟨t.1.kept (λk J _=>a.block k J),t.2⟩ d.fl f.st.sw d.gh Ω f.st.se d.d8 e j u cl P M L)
theorem Xf{f:By->List UInt8}:∀(D:LY) (i:Nat) (s:By),(∀x∈D,(f x).length=64)->D[i]?=some s->((D.flatMap f).drop (i*64)).take 64=f s
 |[],_,_,_,h=>by grind
 |x::D,0,s,hl,h=>by simp_all
 |x::D,i+1,s,hl,h=>by have hx:=hl x Θ;rw[A9,show(i+1)*64=(f x).length+i*64 by omega,<-F6,List.drop_left];exact Xf D i s (λy a=>hl y (by simp[a])) h
theorem Rs(aa:∀x∈D,x.size=64){s:By}(h:D[i]?=some s):Gn (DI D) i=s:=by refine K5 ?_;unfold Gn;rw[Km,show(i+1)*64-i*64=64 by omega];simp_all[BL,DI,Xf]
section
variable{F:LY}{ps:LB}{st:Nat}{lost:List Bool}
theorem YB:∀k,k<=ps.length->DD F ps st [] k=Jd F (ps.take k):=λk hk=>by
 have h:∀k,DD F ps st [] k=DD F ps k [] k:=λk=>by
  have h2:∀m j,DD F ps st [] j=DD F ps m [] j:=λm j=>by
   induction j with
   |zero=>rfl
   |succ j ih=>
    have e:∀st,Jb st [] j=false:=(by grind [Jb]);show(if Jb st [] j=true then _ else _)=(if Jb m [] j=true then _ else _);simp_all
  grind
 simp_all[Ud]
theorem Zi:∀d,(∀j,j<d->lost[j]?=some true)->DD F ps st lost (st+d)=DD F ps st lost st
 |0,_=>rfl
 |d+1,h=>by
  have e:Jb st lost (st+d)=true:=by unfold Jb;rw[BM,h d Ω];simp
  show DD F ps st lost (st+d+1)=_;rw[UX e];exact Zi d (λj hj=>h j Ω)
def KG(lost:List Bool)(d:Nat):Nat:=(List.range d).countP (λi=>decide (lost[i]? ≠ some true))
theorem V9(lost:List Bool)(d:Nat):KG lost (d+1)=KG lost d+if lost[d]? ≠ some true then 1 else 0:=by unfold KG;rw[B8,AU,Bm];simp
def Un(A B:LY):Nat:=(List.range 1536).countP (λi=>decide (A[i]? ≠ B[i]?))
theorem Zq8(A B:LY)(p:Nat)(x:By):Un A (B.set p x)<=Un A B+1:=by
 have h:∀l:List Nat,l.Nodup->l.countP (λi=>decide (A[i]? ≠ (B.set p x)[i]?))<=l.countP (λi=>decide (A[i]? ≠ B[i]?))+if p∈l then 1 else 0:=λl=>by
  induction l with
  |nil=>simp_all
  |cons i l ih=>
   grind
 grind [List.range,List.nodup_range,Un]
theorem Yp:∀d,Un (DD F ps st lost st) (DD F ps st lost (st+d))<=KG lost d
 |0=>by unfold Un;simp
 |d+1=>by
  have ih:=Yp d;rw[V9];by_cases e:lost[d]?=some true;grind [Jb,Nat.add_sub_cancel_left,Un,DD,UX];cases q:ps[st+d]? with
  |some x=>
   grind [Uy,Zq8,DD]
  |none=>
   have e3:DD F ps st lost (st+d+1)=DD F ps st lost (st+d):=(by show(if Jb st lost (st+d)=true then _ else _)=_;simp_all);grind
end
theorem ZoG{A B:LY}(b:∀x∈A,x.size=64)(c:∀x∈B,x.size=64)(aa:A.length=1536)(ab:B.length=1536):Qr (DI A) (DI B) 1536=Un A B:=by refine FA (λi a=>?_);have a:=Cz.1 a;rw[Rs b (Ab (by omega:i<A.length)),Rs c (Ab (by omega:i<B.length)),Ab (by omega:i<A.length),Ab (by omega:i<B.length)];simp
section
variable{T:Nat}{F:LY}{ps:LB}{ep:List Int}{s:KS}{kb:List RT}{en:List Nat}
def Lf(F:LY)(ps:LB)(ep:List Int)(e:Int):LY:=Jd F (ps.take (Hc ep ps.length e))
theorem Hu.se(h:Hu T F ps ep s kb en)(e:Int):Hc ep ps.length e<=GY ep ps.length e/\GY ep ps.length e<=ps.length:=se_le h.gm h.d8 e
theorem Hu.g0(h:Hu T F ps ep s kb en)(e:Int)(a:List Bool):DD F ps (Hc ep ps.length e) a (Hc ep ps.length e)=Lf F ps ep e:=
 Ud _ (Aa _) (by have:=h.se e;omega)
theorem Zr1(h:e<=0):Lf F ps ep e=F:=by unfold Lf Hc;rw[if_pos h,Cy];rfl
theorem Hu.bs(h:Hu T F ps ep s kb en)(he:0<e):Ic F ps ep (e-1) []=Lf F ps ep e:=by have hs:=h.se (e-1);simp_all[Ic,Lf,YB,Hc,if_neg]
theorem Hu.dz(h:Hu T F ps ep s kb en)(e:Int):Ic F ps ep e (Jq (Is ep ps.length e) (-1))=Lf F ps ep e:=by
 have hs:=h.se e;unfold Ic;have a:GY ep ps.length e=Hc ep ps.length e+Is ep ps.length e:=by grind [Is]
 rw[a,Zi _ (λj b=>?_),h.g0];unfold Jq;rw[A8,CK b];simp
theorem Hu.whole(h:Hu T F ps ep s kb en):Ic F ps ep ep.length []=s.D:=by unfold Ic;rw[YB _ (h.se ep.length).2,Uv,BD,h.ed]
theorem Hu.len(h:Hu T F ps ep s kb en)(e:Int)(a:List Bool):(Ic F ps ep e a).length=1536/\(Lf F ps ep e).length=1536/\(∀x∈Ic F ps ep e a,x.size=64)/\∀x∈Lf F ps ep e,x.size=64:=by
 have b:∀st a k,∀x∈DD F ps st a k,x.size=64:=λst a k=>Rb h.f64 (λx d=>(h.gh x d).2) k;have c:∀st a k,(DD F ps st a k).length=1536:=λst a k=>by rw[Ue,h.fl]
 refine⟨c _ _ _,?_,b _ _ _,?_⟩;rw[<-h.g0 e []];simp_all;rw[<-h.g0 e []];grind
theorem Hu.hy(h:Hu T F ps ep s kb en)(e:Int)(a:List Bool):Qr (DI (Lf F ps ep e)) (DI (Ic F ps ep e a)) 1536<=KG a (Is ep ps.length e):=by
 obtain⟨b,c,d,f⟩:=h.len e a;rw[ZoG f d c b,<-h.g0 e a];have hs:=h.se e;have e1:GY ep ps.length e=Hc ep ps.length e+Is ep ps.length e:=by grind [Is]
 grind [Ic,Yp]
theorem Yf(a:List Bool)(d:Nat):KG a d<=d:=by have:=AV (p:=λi=>decide (a[i]? ≠ some true)) (l:=List.range d);rw[Bl]at this;exact this
theorem Zib(n p:Nat):KG (Jq n p) n<=1:=by
 have h:∀d,d<=n->KG (Jq n p) d<=if p<d then 1 else 0:=λd=>by
  induction d with
  |zero=>grind [KG]
  |succ d ih=>
   intro hd;have:=ih Ω;rw[V9];have e:(Jq n p)[d]?=some ((d) != (p:Int)):=(by unfold Jq;rw[A8,CK Ω];rfl);rw[e];by_cases q:d=p;subst q;simp at this ⊢;omega;have q2:((d) != (p:Int))=true:=Γ;grind
 grind
end
def Jw(wv:Nat->Option By)(b0:By)(lost:List Bool):NB
 |0=>b0
 |d+1=>if lost[d]?=some true then Jw wv b0 lost d else(wv d).getD (Jw wv b0 lost d)
def Ny(ps:LB)(st k j:Nat):Option By:=match ps[st+j]? with
 |some x=>if x.1=k then some x.2 else none
 |none=>none
section
variable{F:LY}{ps:LB}{st k:Nat}{lost:List Bool}{b0:By}
theorem Xp(c:k<(DD F ps st lost st).length)(a:(DD F ps st lost st)[k]?=some b0):∀d,(DD F ps st lost (st+d))[k]?=some (Jw (Ny ps st k) b0 lost d)
 |0=>a
 |d+1=>by
  have ih:=Xp c a d;unfold Jw;by_cases e:lost[d]?=some true;simp_all[Jb,Nat.add_sub_cancel_left,DD];have b:Jb st lost (st+d)=false:=by grind [Jb,Nat.add_sub_cancel_left]
  show(DD F ps st lost (st+d+1))[k]? = _;cases q:ps[st+d]? with
  |some x=>
   have f:Ny ps st k d=if x.1=k then some x.2 else none:=(by grind [Ny]);rw[Uy b q,f];grind
  |none=>
   simp_all[DD,Jb,Ny]
variable{wv:Nat->Option By}
theorem RF:∀n,(∀j,j<n->lost[j]? ≠ some true->∀c,wv j=some c->c=b0)->Jw wv b0 lost n=b0
 |0,_=>rfl
 |d+1,h=>by
  have ih:=RF d (λj hj=>h j Ω);unfold Jw;split;exact ih;rename_i e;cases q:wv d with
  |none=>exact ih
  |some c=>exact h d Ω e c q
theorem Y0{b:Nat}{c:By}(f:lost[b]? ≠ some true)(g:wv b=some c):∀n,b<n->(∀j,b<j->j<n->wv j=none)->Jw wv b0 lost n=c
 |0,h,_=>by omega
 |d+1,h,hn=>by
  unfold Jw;by_cases e:b=d;simp_all
  .rw[hn d Ω Ω];split<;>exact(Y0 f g d Ω (λj a h2=>hn j a Ω))
theorem Zn5(n i:Nat)(hi:i<n):Jw wv b0 (Jq n i) n=(wv i).getD b0:=by
 have b:∀j,j<n->(Jq n i)[j]?=some ((j) != (i:Int)):=λj a=>by unfold Jq;rw[A8,CK a];rfl
 have aa:∀j,j<n->j≠i->(Jq n i)[j]?=some true:=λj a h=>by rw[b j a];simp;omega
 cases q:wv i with
 |none=>
  grind [RF,absurd]
 |some c=>
  have:∀d,i<d->d<=n->Jw wv b0 (Jq n i) d=c:=λd=>by
   induction d with
   |zero=>omega
   |succ d ih=>
    unfold Jw;grind
  simp_all
def I9(A:NB)(b0 wh:By):Nat->Nat×Nat
 |0=>(0,0)
 |i+1=>
  let x:=if A i≠b0 then((I9 A b0 wh i).1+1,i) else I9 A b0 wh i
  if 0<x.1/\x.2=i/\x.1=1/\A i≠wh then(2,x.2) else x
theorem XD(A:NB)(b0 a:By):∀n,((I9 A b0 a n).1=0/\∀j,j<n->A j=b0)\/((I9 A b0 a n).1=1/\(I9 A b0 a n).2<n/\A (I9 A b0 a n).2≠b0/\A (I9 A b0 a n).2=a/\∀j,j<n->j≠(I9 A b0 a n).2->A j=b0)\/2<=(I9 A b0 a n).1
 |0 => .inl ⟨rfl,λj h=>by omega⟩
 |i+1=>by
  have ih:=XD A b0 a i;generalize hS:I9 A b0 a i=S at ih
  have e0:I9 A b0 a (i+1)=(if 0<(if A i≠b0 then(S.1+1,i) else S).1/\(if A i≠b0 then(S.1+1,i) else S).2=i/\(if A i≠b0 then(S.1+1,i) else S).1=1/\A i≠a then(2,(if A i≠b0 then(S.1+1,i) else S).2) else(if A i≠b0 then(S.1+1,i) else S)):=by rw[<-hS];rfl
  grind
theorem Zol(n:Nat)(A:NB)(hA:∀i,i<n->A i=(wv i).getD b0):(let S:=I9 A b0 (Jw wv b0 [] n) n;(S.1=0->Jw wv b0 lost n=b0/\Jw wv b0 [] n=b0)/\(S.1=1->(lost[S.2]?=some true->Jw wv b0 lost n=b0)/\(lost[S.2]? ≠ some true->Jw wv b0 lost n=Jw wv b0 [] n))):=by
 rcases XD A b0 (Jw wv b0 [] n) n with⟨a,e⟩|⟨a,e,g,h,l⟩|a;grind [RF];refine⟨Ω,λ_=>⟨λf=>?_,λf=>?_⟩⟩;grind [RF,I9,Jw,absurd];generalize (I9 A b0 (Jw wv b0 [] n) n).2=b at e g h l f
 cases hc:wv b with
 |none=>simp_all
 |some c=>
  have ab:∀j,b<j->j<n->wv j=none:=λj aa hj=>by
   cases hcj:wv j with
   |none=>rfl
   |some c'=>
    have:∀d,j<d->d<=n->Jw wv b0 [] d=b0:=λd=>by
     induction d with
     |zero=>omega
     |succ d ih=>
      unfold Jw;grind
    simp_all
  grind [Y0]
 omega
end
section
variable{K:KS->Prop}{N n0:Nat}{w0 w:World}{xb vb tb db stb rb:Nat}{fs:By}{kp ep:Value}{kts:List (Nat×Value×Value)}{L:List (By×Int)}{F:LY}{kb:List RT}{en:List Nat}
def MO(N n0:Nat)(w0:World)(xb vb tb db stb rb:Nat)(fs:By)(n:Nat)(L:List (By×Int))(F:LY)(kb:List RT)(en:List Nat)(w':World):Prop:=
 ∃M m kp ep kts,M<=N+1600/\kts.length=n+1/\Hb n0 w0 w' xb vb tb db stb rb fs kp ep kts L F (kb++[(L,F)]) (en++[m])/\GZ (λ_=>True) (Own ep) M n0 w' vb stb db fs (kb++[(L,F)]) (en++[m])
theorem Li.fg(h:Li N n0 w0 xb vb tb db stb rb fs kp ep kts L F kb en w)(f:kts.length<=1000000000000):Cl 86 #[dP xb] w λe w'=>e=dR (.tuple #[])/\MO N n0 w0 xb vb tb db stb rb fs kts.length L F kb en w':=by obtain⟨b,M,m,c,d⟩:=h;apply(Zh5 b d f).Q;rintro e w'⟨rfl,g,a,i,j,k,l⟩;exact⟨rfl,M,m,g,a,i,c,j,k,l⟩
theorem Ztz(h:Hb n0 w0 w xb vb tb db stb rb fs kp ep kts L F kb en)(i:GZ K (Own ep) N n0 w vb stb db fs kb en)(p:N<=1900000000)(r:kts.length<=1000000000000)(j a b:Int)(s t u:By):
  Cl 38 #[dP xb,.agg (Gm 11 j a b s t u).toArray] w λe w'=>e=dR (dV true)/\MO N n0 w0 xb vb tb db stb rb fs kts.length L F kb en w':=by
 have n:Hid (∀W,Bw w W->W.cell? (dQ xb 0)=some (dP vb)/\Cl 26 #[dP vb] W λe w'=>e=dR (dI 0)/\Li N n0 w0 xb vb tb db stb rb fs kp ep kts L F kb en w'):=λW c=>⟨(Gb.J (h.below c).ac 0).M rfl,(h.below c).ht (i.below c) p⟩;have k:Hid (∀W,Li N n0 w0 xb vb tb db stb rb fs kp ep kts L F kb en W->Cl 86 #[dP xb] W λe w'=>e=dR (.tuple #[])/\MO N n0 w0 xb vb tb db stb rb fs kts.length L F kb en w'):=λW c=>c.fg r;generalize Li N n0 w0 xb vb tb db stb rb fs kp ep kts L F kb en=P at *
 generalize MO N n0 w0 xb vb tb db stb rb fs kts.length L F kb en=Q at *
 clear h i;go_enter func38,ntmps38;obtain⟨W,c,v,-,-,q⟩:=Df w (Gm 11 j a b s t u) 51;have o0:=v.J 0;obtain⟨x0,d⟩:=Da n W q;have o:=Db d;clear d;go_upto_region 1 with fail;clear c;go_wp2_with(first|(go_at_call 26;apply(Da o).Q;rintro e w1⟨rfl,f⟩;have l:=Db f;clear f)|(go_at_call 86;apply(Da k _ (Da l)).Q;rintro e w2⟨rfl,g⟩;have m:=Db g;clear g)|(go_at_call 16;apply(Qn 0 _).Q;rintro e w3⟨rfl,rfl⟩));go_ret;exact⟨rfl,Da m⟩
theorem Zty(h:Hb n0 w0 w xb vb tb db stb rb fs kp ep kts L F kb en)(i:GZ K (Own ep) N n0 w vb stb db fs kb en)(p:N<=1900000000)(v:kts.length<=1000000000000)(j a b:Int)(s t u:By):
  Cl 38 #[dP xb,.agg (Gm 12 j a b s t u).toArray] w λe w'=>e=dR (dV true)/\MO N n0 w0 xb vb tb db stb rb fs kts.length L F kb en w':=by
 have n:Hid (∀W,Bw w W->W.cell? (dQ xb 0)=some (dP vb)/\Cl 33 #[dP vb] W λe w'=>(∃r:Nat,e=dR (dI r))/\Li N n0 w0 xb vb tb db stb rb fs kp ep kts L F kb en w'):=λW c=>⟨(Gb.J (h.below c).ac 0).M rfl,(h.below c).hq (i.below c) p⟩;have k:Hid (∀W,Li N n0 w0 xb vb tb db stb rb fs kp ep kts L F kb en W->Cl 86 #[dP xb] W λe w'=>e=dR (.tuple #[])/\MO N n0 w0 xb vb tb db stb rb fs kts.length L F kb en w'):=λW c=>c.fg v;generalize Li N n0 w0 xb vb tb db stb rb fs kp ep kts L F kb en=P at *
 generalize MO N n0 w0 xb vb tb db stb rb fs kts.length L F kb en=Q at *
 clear h i;go_enter func38,ntmps38;obtain⟨W,c,x,-,-,q⟩:=Df w (Gm 12 j a b s t u) 51;have o0:=x.J 0;obtain⟨x0,d⟩:=Da n W q;have o:=Db d;clear d;go_upto_region 1 with fail;clear c;go_wp2_with(first|(go_at_call 33;apply(Da o).Q;rintro e w1⟨⟨r,rfl⟩,f⟩;have l:=Db f;have aa:=Int.natCast_nonneg r;clear f)|(go_at_call 86;apply(Da k _ (Da l)).Q;rintro e w2⟨rfl,g⟩;have m:=Db g;clear g));go_ret;exact⟨rfl,Da m⟩
end
section
variable{K:KS->Prop}{N n0:Nat}{w0 w:World}{xb vb tb db stb rb:Nat}{fs:By}{kp ep:Value}{kts:List (Nat×Value×Value)}{L:List (By×Int)}{F:LY}{kb:List RT}{en:List Nat}
theorem Ztx(h:Hb n0 w0 w xb vb tb db stb rb fs kp ep kts L F kb en)(Q:GZ K (Own ep) N n0 w vb stb db fs kb en)(hN:N<=1900000000)(Z:kts.length<=1000000000000)(D:∀(i:Nat) (b:RT),kb[i]?=some b->b.2.length+1<=2000000)(S a b:Int)(s t u:By):
  Cl 38 #[dP xb,.agg (Gm 13 S a b s t u).toArray] w λe w'=>e=dR (dV true)/\Bw w w':=by
 obtain⟨Fd,ps,eq,st,J,m,_,y,C,R,_,_⟩:=Q.dk h.ai Ω;obtain⟨bl,z,E⟩:=m.ci;have ac:=(Ac.1 z).1;have O:=h.kl;obtain⟨r,lK,v,rfl⟩:=h.cm.a0;have aa:lK=kts.length:=h.cm.len;subst aa;have B:∀x∈st.D,x.size=64:=by rw[<-m.whole];exact(m.len _ _).2.2.1
 have d:Hid (∀W,Bw w W->W.cell? (dQ xb 0)=some (dP vb)/\W.cell? (dQ xb 2)=some (dT r kts.length v)/\Cl 28 #[dP vb] W λe c=>∃g l j,e=dR (dT g l j)/\Hid (Bw w c)/\c.cell? (dQ xb 2)=some (dT r kts.length v)/\Hid (∀q,Bw c q->Cl 90 #[dP xb,dT g l j,dI ((kts.length-1:Nat)),dI ((kts.length-1:Nat))] q λe w'=>e=dR (dV true)/\Bw w w')):=λW f=>by have M:=h.below f;refine⟨(Gb.J M.ac 0).M rfl,(Gb.J M.ac 2).M rfl,(J.ii W f).Q ?_⟩;rintro e c⟨g,l,j,rfl,q1,q2⟩;have p:=f.M (q2.Q f.size);refine⟨g,l,j,rfl,p,(Gb.J (h.below p).ac 2).M rfl,λq H=>?_⟩;have A:=p.M (H.Q p.size);apply((h.below A).ej ⟨st,rfl,y,C,E,R⟩ Ω B y.ok.dl (q1.1.kept (λk Y _=>H.block k Y)) (Aa _) (Aa _) Ω Ω (by rw[<-O];exact z) D).Q;rintro e w'⟨rfl,r2⟩;exact⟨rfl,A.M (r2.Q A.size)⟩
 obtain⟨n,P⟩:=ex kts.length;rw[<-P]at d Z O;have hw:IntKind.i64.wrap ((n)-1)=((n-1:Nat)):=by rw[AI];omega
 have ad:=Gb.lt h.ac;clear h Q D J m y C R z E B P;go_enter func38,ntmps38;obtain⟨W,f,hr,-,-,I⟩:=Df w (Gm 13 S a b s t u) 51;have o0:=hr.J 0;obtain⟨x0,x2,G⟩:=Da d W I;have ab:=Db G;clear G;go_upto_region 1 with fail;clear f;go_upto_region 11 with fail;go_region_held3 (λX=>X.cell? (dQ xb 0)=some (dP vb)/\X.cell? (dQ xb 2)=some (dT r n v)) (go_keep) (first|(go_at_call 28;refine(Da (Db (Da d _ I.drew))).2.2.Q ?_;rintro e c⟨g,l,j,rfl,T,y2,U⟩;have y0:=(Da d c (Da T)).1)|(go_at_call 90;apply(Da U _ (by first|exact Ad _ _|exact(Ad _ _).drew)).Q;rintro e w2⟨rfl,o⟩;have z0:=(Da d w2 o).1;have z2:=(Da d w2 o).2.1;have V:=Db o;clear o))
 go_wp2;go_ret;exact⟨rfl,Da V⟩
end
section
variable{n0:Nat}{w w':World}{sb:Nat}{b:Nat->Option By}{vs:NV}
end
section
variable{N n0:Nat}{w0 w:World}{vb tb db stb sb:Nat}{b:Nat->Option By}{vs:NV}{K:KS->Prop}
end
structure XtI(n1:Nat)(wA w:World)(vb tb db stb:Nat)(G:Gh)(I:LF)(C:IB):Prop where
 ai:Hd w vb tb db stb
 ps:PS w tb G I C
 st:StI 0 n1 w vb stb db (λs=>s=Lk)
 aa:Below n1 wA w
 lo:n1<tb/\n1<=vb/\n1<=wA.heap.size/\0<n1
section
variable{n1:Nat}{wA w w':World}{vb tb db stb:Nat}{G G':Gh}{I I':LF}{C C':IB}
end
section
variable{w:World}{tb rd nb:Nat}{V:NV}{E:NS}{vi:Value}{I:LF}{C:IB}
end
def IA(n0:Nat)(w:World)(vb stb db:Nat):Prop:=∃vk vf vn,H0 w stb db vk Lk vf vn dN dN [] []/\Hg w vf JO/\(∀k,Own vf k->¬Hn stb db vn dN dN k/\n0<=k)/\(∀k,Hn stb db vn dN dN k->n0<=k/\k≠vb)/\∀k,Own vk k->n0<=k
theorem IA.below(h:IA n0 w vb d a)(c:Bw w w'):IA n0 w' vb d a:=by obtain⟨j,i,l,e,b,f⟩:=h;exact⟨j,i,l,e.below c,⟨b.1.kept (λk g _=>c.block k g),b.2⟩,f⟩
theorem Zps{e:Ending}(p:0<w.heap.size)(h:VJ w e w'):∃vb tb a b,e=dR (dP vb)/\XtI w.heap.size w w' vb tb a b [] [] (λ_=>⟨#[]⟩)/\IA w.heap.size w' vb b a:=by
 obtain⟨tb,w1,h1,i,h3,q,vb,a,b,g,f,d,rfl,s,v,x,y,z,q6,q7,q8,q9,ab,t,u,ac⟩:=h;have r:=i.size;have aa:∀k,¬Own dN k:=by grind [Own,Value.ownBlock]
 have l:H0 w' b a d Lk g f dN dN [] []:=⟨v,y,λk c e=>by obtain⟨_,n,o,a4,_⟩:=u k c;rcases e with e|e|e|e|e;omega;omega;grind;simp_all;simp_all⟩;have j:∀k,Hn b a f dN dN k->w.heap.size<=k/\k≠vb:=λk c=>by rcases c with e|e|e|e|e;omega;omega;grind;simp_all;simp_all
 have m:∀k,Own d k->w.heap.size<=k:=Γ;refine⟨vb,tb,a,b,rfl,⟨s,q,⟨Lk,d,g,f,_,_,[],[],l,rfl,Tx,Tf,Aa _,Ao _,Ao _,j,m⟩,i.M (z.Q r),Ω,Ω,Aa _,p⟩,d,g,f,l,x,λk c=>?_,j,m⟩;obtain⟨a1,n,o,_,a5,_⟩:=t k c;refine⟨λe=>?_,Ω⟩;rcases e with e|e|e|e|e;omega;omega;grind;simp_all;simp_all
section
variable{X:Nat->Prop}{N n0:Nat}{w0 w w':World}{vb tb db stb:Nat}{b:Nat->Option By}{kb:List (Nat->Option By)}{en:List Nat}
end
section
variable{b:Nat->Option By}{G:Gh}{I:LF}{CI:IB}
end
section
variable{w:World}{vb:Nat}{b:Nat->Option By}
end



section
variable{X:Nat->Prop}{N n0:Nat}{w0 w w':World}{vb tb db stb:Nat}{b:Nat->Option By}{kb:List (Nat->Option By)}{en:List Nat}
end
section
variable{w w':World}{v:Value}{kb:List (Nat->Option By)}{kv:List (NV)}
end
theorem Zq9(C:NB):IH C []:=
 ⟨⟨⟨Ao _,Θ,Θ,Θ,Θ,Θ⟩,Θ,Θ⟩,Θ,Θ,Θ,Θ,Θ,Θ⟩
theorem WO:Ik ([],[]) Lk:=by refine⟨λ_=>⟨#[]⟩,[],Zq9 _,Znq _,λG I a h d=>?_⟩;have b:G=[]:=List.map_eq_nil_iff.1 h.g;have c:I=[]:=List.length_eq_zero_iff.1 (by rw[h.il];rfl);subst b c;refine⟨⟨[],λ_=>0,Γ,Rl.gz a _,⟨d,Γ⟩⟩,λw tb rd V E vi aa=>?_⟩;grind [List.map_eq_nil_iff,List.perm_nil,Ry]
theorem GZ.hl(k:IA n0 w vb c a):GZ (λ_=>True) (λ_=>False) 0 n0 w vb c a (DI JO) [([],[])] [0]:=by obtain⟨n,m,o,d,b,f,g,h⟩:=k;have i:GP (0+1) ([],[]) JO:=⟨Lk,rfl,Tx,Tf,WO,Aa _⟩;refine⟨Lk,n,m,o,_,_,[],[],JO,trivial,d,b,f,⟨YK,b.2,Γ,rfl,Γ,List.Pairwise.nil,rfl,rfl,⟨_,rfl,WO⟩,rfl,Γ,λe he aa j l=>?_,Θ⟩,Tx,Tf,Aa _,Ao _,Ao _,g,h,Γ,rfl⟩;have hl:=l.lt;obtain rfl:j=0:=Ξ;exact⟨0,_,.inl rfl,rfl,i⟩
def WY(w:World)(e:Ending)(w':World):Prop:=
 ∃xb vb tb db stb rb kp ep kts,e=dR (.tuple #[dP xb,dV true])/\kts.length=1/\Hb w.heap.size w w' xb vb tb db stb rb (DI JO) kp ep kts [] [] [([],[])] [0]/\GZ (λ_=>True) (Own ep) 0 w.heap.size w' vb stb db (DI JO) [([],[])] [0]
theorem M3(w:World)(Y:GU w):Cl 35 #[] w (WY w):=by
 have ah:=Zll w Y;have ad:0<w.heap.size:=by obtain⟨⟨m,hm⟩,_⟩:=Y;exact Ag _ _ hm
 clear Y;go_enter func35,ntmps35;go_wp2_with fail;apply ah.Q;intro e A ai;obtain⟨vb,tb,o,v,rfl,p,Q⟩:=Zps ad ai;clear ah ai;obtain⟨W2,av,al,ay,aB,af⟩:=Df A [dN,dN] 89;obtain⟨B,aw,K,aj,aC,ag⟩:=Df W2 [dP vb,dP A.heap.size,dN,dN,dU ⟨#[]⟩] 55;have r:=af.M (ag.Q Ω);have am:Gj B A.heap.size dN dN [] []:=⟨aj _ _ _ al,⟨rfl,.inl ⟨rfl,rfl⟩⟩,⟨rfl,.inl ⟨rfl,rfl⟩⟩,Θ,Θ,λx Z=>(by cases Z),λx Z=>(by cases Z),λg hg=>by simp[Value.ownBlock]at hg⟩;have H:Bw w A:=p.aa;have U:=p.lo;have G:Hd B vb tb o v:=(r.block _ (Gb.lt p.ai)).M p.ai;have O:=H.M (r.Q H.size);have ak:Md (Zk w.heap.size []) B vb tb A.heap.size [] [] [] []:=by obtain⟨rd,V,E,vi,h⟩:=p.ps;have aH:=H.size;refine⟨[],[],_,λ_=>0,_,_,G.ai,⟨rd,V,E,vi,h.below r (Aa _)⟩,⟨am,λk a e=>?_⟩,Rl.gz _ _,TX.nil,⟨λk a=>?_,λk a=>?_⟩⟩;rcases e with e|⟨q,J,_⟩;rcases a with rfl|a|a;omega;simp[Value.ownBlock]at a;simp[Value.ownBlock]at a;cases J;rcases a with e|⟨q,J,_⟩;have:=O.size;omega;cases J;rcases a with e|⟨q,J,_⟩;exact .inr Ω;cases J
 obtain⟨n,P⟩:=ex (DI JO);obtain⟨c,aa⟩:=ex W2.heap.size;rw[<-aa]at K;have az:w.heap.size<=c:=by have:=H.size;omega
 have X:∀k,¬Own dN k:=λk e=>by simp[Own,Value.ownBlock]at e
 have an:Hid (Cl 28 #[dP vb] B λe d=>∃C M D,e=dR (dT C M D)/\(convert 59 9 (dT C M D)).run prog d=.ok (dU n) d/\d.cell? (dQ c 4)=some (dU ⟨#[]⟩)/\d.frozen? (dQ c 4)=false/\Hid (Cl 86 #[dP c] (d.setCell (dQ c 4) (dU n)) λe f=>e=dR (.tuple #[])/\∃l L pa j F,f.cell? (dQ c 2)=some (dS l 1 L)/\f.cell? (dQ c 3)=some (dS j 1 F)/\f.cell? (dQ l 0)=some (.pointer (some pa))/\f.cell? (dQ j 0)=some (dI 0)/\Hid (∀W,Bw f W->WY w (dR (.tuple #[dP c,dV true])) W))):=by
  obtain⟨vk,vf,vn,aA,_⟩:=(Q.below r);apply(WL B vb tb o v G _ _ _ _ _ aA.st.a2).Q;rintro e d⟨C,M,D,rfl,au,I⟩;have u:Gb d c 55 _:=(I.block _ K.lt).M K;have T:Fr (λk=>k=c) d (d.setCell (dQ c 4) (dU n)):=(Fr.refl _ _).set _ _ rfl;have ae:Hd d vb tb o v:=(I.block _ (Gb.lt G)).M G;have hL:Hb w.heap.size w (d.setCell (dQ c 4) (dU n)) c vb tb o v A.heap.size (DI JO) dN dN [] [] [] [] []:=by
   refine⟨OS (O.M (I.Q O.size)) T (λk a=>Ω) (Aa _),⟨Aa _,ad,U.1,az,U.2.1⟩,λk a=>absurd a (X k),λk a=>absurd a (X k),?_,Gb.e ae T (λe=>?_),(ak.below I).hu u 4 _,⟨rfl,.inl ⟨rfl,rfl⟩⟩,⟨rfl,.inl ⟨rfl,rfl⟩⟩,rfl,λi b hb=>by simp at hb⟩;have:=u.set 4 (dU n);rw[<-P];exact this;subst e;have:=Gb.type ae u
   revert this;decide
  have hG:GZ (λ_=>True) (Own dN) 0 w.heap.size (d.setCell (dQ c 4) (dU n)) vb v o (DI JO) ([]++[([],[])]) ([]++[0]):=
   (GZ.hl ((Q.below r).below I)).e T (λk t R a S=>by subst a;have:=S.type u;subst this;simp) (λk a=>absurd a (X k))
  refine⟨C,M,D,rfl,by rw[P];exact YG au,(u.J 4).M rfl,u.A 4,?_⟩;apply(Zh5 hL hG Θ).Q;rintro e f⟨rfl,aI,aD,ab,q1,N,q3⟩;refine⟨rfl,?_⟩;have ac:ab.length=1:=q1;rcases N.cm.2 with⟨_,z⟩|⟨l,L,R,e1,S,g1,g2,g3,g4⟩;omega;rcases N.bj.2 with⟨_,z⟩|⟨j,F,R',e2,ar,aE,aF,aG,aq⟩;simp at z;rw[ac]at e1 g1 g4;subst e1 e2;obtain⟨y,hy⟩:∃y,ab=[y]:=List.length_eq_one_iff.1 ac;refine⟨l,L,(dQ y.1 0),j,F,(Gb.J N.ac 2).M rfl,(Gb.J N.ac 3).M rfl,?_,?_,λW hW=>⟨c,vb,tb,o,v,_,_,_,ab,rfl,ac,N.below hW,q3.below hW⟩⟩;rw[S.J];have:(R.take (1*1))[0]?=some (dP y.1):=by rw[g4,hy];rfl
  rwa [Ej Ω]at this
  rw[ar.J];have:(R'.take (([]++[0]).length*1))[0]?=some (dI 0):=by rw[aq];rfl
  rwa [Ej Θ]at this
 have ap:=Db aa;have x0:=K.J 0;clear aa al ay aj aC af ag r am ak O aB P G K H p Q U;go_upto_region 2 with fail;rw[<-Da ap];clear aw av;go_wp2_with(first|(go_at_call 28;apply(Da an).Q;rintro e d⟨C,M,D,rfl,ax,x4,f4,ao⟩)|(go_at_call 86;apply(Da ao).Q;rintro e f⟨rfl,l,L,pa,j,F,y2,y3,a,he,HP⟩));clear ax x4 f4;go_region_held3 (λW=>W.cell? (dQ c 2)=some (dS l 1 L)/\W.cell? (dQ c 3)=some (dS j 1 F)/\W.cell? (dQ l 0)=some (.pointer (some pa))/\W.cell? (dQ j 0)=some (dI 0)) (go_keep) (first|fail)
 all_goals
  go_wp2
  go_ret2
  exact Da HP _ (by first|exact(Ad _ _).drew|exact Ad _ _)
theorem Zh3(w:World)(c:Int)(n:Nat)(b:Jt c)(h0:0<n)(hn:n<=1000000000000):
  Cl 66 #[dI c,dI n] w λe w'=>e=dR (dI (QO c n:Nat))/\w'=w:=by
 obtain⟨h1,h2⟩:=b;have hz:¬((n:Int)=0):=Ω;have ab:((n:Int)==0)=false:=Ξ;go_enter func66,ntmps66;by_cases aa:c<0
 .have e2:IntKind.i64.wrap (-(c+1))=(((-(c+1)).toNat:Nat):Int):=by grind [IntKind.wrap_i64]
  have a:(((-(c+1)).toNat:Nat):Int)%(n:Int)=((QO c n:Nat):Int):=by simp_all[QO,Int.natCast_emod]
  go_wp2;go_ret;simp_all
 .have a:c%(n:Int)=((QO c n:Nat):Int):=by unfold QO;grind
  go_wp2;go_ret;simp_all
theorem SL(w:World)(v:Value)(c:List Bool)(i:Sl w 4 1 v c.length (c.map .bool))(nb:Nat)(x:Bool)(o:Gb w nb 4 [dV x])(hl:c.length<=1000000000000):
  ∃g w',(Builtin.append_ #[69,69] 69 #[v,dS nb 1 1]).run prog w=.ok g w'/\∃a d b,g=dT a d b/\Sl w' 4 1 (dT a d b) (c.length+1) ((c++[x]).map .bool)/\Fr (Own v) w w'/\Dm w v (dT a d b):=by
 obtain⟨t,m,p,q,r⟩:=Bk MJ;obtain⟨g,w2,y,z,f,A⟩:=J1 w 69 69 4 t _ 1 1 MB m p q r rfl Δ v _ _ i _ 1 1 _ rfl
  (λj u h=>by rw[AG,Av,o.J];omega) (λu h=>by rw[Ax.1 h];rfl) (by grind [maxLen]) Ω
 obtain⟨a,d,b,rfl⟩:=z.a0;exact⟨_,w2,y,a,d,b,rfl,Ξ,⟨f.os,f.tape,f.output,f.size,λk n l=>f.block k n (λe=>l e.r)⟩,A⟩
section
variable{T:Nat}{F:LY}{ps:LB}{ep:List Int}{s:KS}{kb:List RT}{en:List Nat}
def QL(lost:List Bool)(n:Nat):Prop:=∀k,lost[k]?=some true->n<=k
theorem ZtP(h:Hu T F ps ep s kb en){e:Nat}(o:e<=ep.length)(a:List Bool){x:Nat}(p:At en e j)(u:en[j]?=some x)(h1:x<=e\/QL a (Is ep ps.length e)/\e+1=x->c=j)(n:¬(x<=e\/QL a (Is ep ps.length e)/\e+1=x)->c=j-1):∃i b,c<=i/\i<=j/\kb[i]?=some b/\GP T b (Ic F ps ep e a):=by
 have r:c<=j:=by grind
 obtain⟨i,b,g,d,f⟩:=h.hr e o a j p;rcases g with rfl|⟨g,m⟩;exact⟨i,b,r,Aa _,d,f⟩;obtain⟨g1,l⟩:=m x u;have t:¬(x<=e\/QL a (Is ep ps.length e)/\e+1=x):=by rintro(q|⟨v,w⟩);omega;obtain⟨k,r1,y⟩:=l w;have:=v k y;grind [Is]
 have:=n t;exact⟨i,b,Ω,Ω,d,f⟩
theorem Yw(a:e<0)(b:List Bool):Ic F ps ep e b=F:=by unfold Ic GY;rw[if_pos a];rfl
theorem ZF(h:Hu T F ps ep s kb en)(c:List Bool):Ic F ps ep ((ep.length+1:Nat):Int) c=s.D:=by
 have a:GY ep ps.length ((ep.length+1:Nat))=ps.length:=by rw[UR,Bp Ω]
 have b:Hc ep ps.length ((ep.length+1:Nat))=ps.length:=by rw[Uf,Uv]
 unfold Ic;rw[a,b,Ud _ (Aa _) (Aa _),BD,h.ed]
end
theorem Pa{c:Array Oper}{a:Act}{K:Act->World->Prop}(hg:o.guard=none)(f:FuncId)(x y z:Operand)(t s r:TypeId)(ab:o.op=Op.call { callee:=Callee.value (.func f),args:=#[x,y,z],argTypes:=#[t,s,r] })(u v q:Value)(hx:a.eval x=u)(hy:a.eval y=v)(hz:a.eval z=q)(aa:(callFunc f #[u,v,q]).run P w=.ok (.enter f #[u,v,q]) w){b:Ending->World->Prop}(g:Calls P f #[u,v,q] w b)(d:∀e w',b e w'->∃v,e=dR v/\K (a.put o.dst v) w'):
  if Region.wanted o (yielded c a.tmps)=true then Oper.wp P o a w K Q else E:=by
 have k:Region.wanted o (yielded c a.tmps)=true:=by grind [Region.wanted]
 rw[if_pos k];unfold Oper.wp;have hf:a.eval (.func f)=.func (.func f) #[] #[]:=rfl;have h:(execOp a.eval o).run P w=.ok (.enter f #[u,v,q]) w:=by grind [execOp,resolve,Deferred.ofValue,invoke]
 rw[h,Oper.upon_enter];refine g.Q (λe w' j=>?_);obtain⟨v,rfl,i⟩:=d e w' j;exact i
theorem Og:(prog.info? 3).map (λi=>(i.zero,i.size,i.bytes))=some (some (dI 0),1,8):=Φ
theorem Nz:prog.underlying 53=some (.slice 3):=Φ
def KZ(f:Nat->Nat):Gf:=(List.range 1536).map (λm => dI (f m:Nat))
theorem Q4(f:Nat->Nat)(h:m<1536):(KZ f)[m]?=some (dI (f m:Nat)):=by simp_all[KZ]
theorem Zc{v:Int}(h:m<1536)(c:(g m:Nat)=v)(b:∀j,j≠m->g j=f j):(KZ f).set m (dI v)=KZ g:=by refine C1 (λi=>?_);rw[List.getElem?_set];by_cases a:i<1536;rw[Q4 g a];by_cases e:m=i;subst e;rw[if_pos rfl,if_pos (by unfold KZ;simpa using h),c];rw[if_neg e,Q4 f a,b i (λq=>e q.r)];have e1:∀f,(KZ f)[i]?=none:=λf=>Bp (by unfold KZ;simp;omega);simp_all
def Ix(w0 w:World)(bb hb:Nat)(f g:Nat->Nat):Prop:=Gb w hb 3 (KZ f)/\Gb w bb 3 (KZ g)/\Bw w0 w/\bb≠hb/\w0.heap.size<=bb/\w0.heap.size<=hb
theorem Ix.below{d:World}{b:Nat}(h:Ix d w b c f g)(a:Bw w w'):Ix d w' b c f g:=
 ⟨(a.block _ h.1.lt).M h.1,(a.block _ h.2.1.lt).M h.2.1,h.2.2.1.M (a.Q h.2.2.1.size),h.2.2.2⟩
theorem ZG{a:World}{p:Addr}{v:Value}(h:Below B a w)(hp:B<=p.block):Below B a (w.setCell p v):=
 ⟨h.os,h.tape,h.output,by simpa [World.setCell] using h.size,λk b=>(Aw _ _ _ _ Ω).M (h.block k b)⟩
def JX(f:Nat->Nat)(q v:Nat):Nat->Nat:=λj=>if j=q then v else f j
theorem UN(f:Nat->Nat)(q v:Nat):JX f q v q=v:=if_pos rfl
theorem ZR(f:Nat->Nat)(q:Nat):JX f q (f q)=f:=funext λj=>by unfold JX;split<;>simp_all
theorem Zh(f:Nat->Nat)(q a b:Nat):JX (JX f q a) q b=JX f q b:=funext λj=>by unfold JX;split<;>rfl
theorem Ix.fe{c:World}{b:Nat}(h:Ix c w b a f g)(v:Nat)(i:m<1536):Ix c (w.setCell ⟨a,m,none⟩ (dI v)) b a (JX f m v) g:=
 ⟨by rw[<-Zc (g:=JX f m v) i (by rw[UN]) (λj d=>if_neg d)];exact h.1.set m _,h.2.1.a1 _ _ (λe=>h.2.2.2.1 e.r),ZG h.2.2.1 h.2.2.2.2.2,h.2.2.2⟩
theorem Ix.cr{c:World}{b:Nat}(h:Ix c w a b f g)(v:Nat)(e:m<1536):Ix c (w.setCell ⟨a,m,none⟩ (dI v)) a b f (JX g m v):=
 ⟨h.1.a1 _ _ h.2.2.2.1,by rw[<-Zc (g:=JX g m v) e (by rw[UN]) (λj d=>if_neg d)];exact h.2.1.set m _,ZG h.2.2.1 h.2.2.2.2.1,h.2.2.2⟩
def KA(f g:Nat->Nat)(k:Nat):Nat->Nat:=λm=>if m<k then g m else f m
theorem WP(f g:Nat->Nat):KA f g 0=f:=funext λ_=>if_neg Ω
theorem Ty(f g:Nat->Nat)(k:Nat):KA f g k k=f k:=if_neg Ω
theorem Z8(f g:Nat->Nat)(k:Nat):JX (KA f g k) k (g k)=KA f g (k+1):=funext λj=>by unfold JX KA;(repeat' split)<;>first|rfl|omega|simp_all
theorem Zrg{e b:Nat->Nat}{d:World}(h:Ix d w a c (KA f g 1536) (KA e b 1536)):Ix d w a c g b:=by obtain⟨i,j,k⟩:=h;exact⟨i,j,k⟩
theorem ZkV(w:World)(xb vb n e:Nat)(a c y:By)(A:NB)(al:OA)(cl:Nat)(B:List Bool)(aC:Lu w al B)(a0:B.length<=1000000000000)(hn:n<=1000000000000)(s1:a.size=98304)(s2:c.size=98304)(s3:y.size=98304)(s4:∀i,i<n->(A i).size=98304)(ar:∀W,Bw w W->W.cell? ⟨xb,0,none⟩=some (dP vb))(hW:∀W,Bw w W->Cl 64 #[dP vb,dI e] W λr w'=>r=dR (dI n)/\w'=W)(hB:∀W,Bw w W->∀i g,i<n->Lu W (some ⟨g,0,none⟩) (Jq n i)->Cl 31 #[dP vb,dI e,dS g n n] W λr z=>∃P U Q,r=dR (dT P U Q)/\(convert 59 9 (dT P U Q)).run prog z=.ok (dU (A i)) z/\Bw W z)(aE:∀i,i<n->Qr a (A i) 1536<=1)(aD:∀k,k<1536->let S:=I9 (λi=>Gn (A i) k) (Gn a k) (Gn c k) n;(S.1=0->Gn y k=Gn a k/\Gn c k=Gn a k)/\(S.1=1->(B[S.2]?=some true->Gn y k=Gn a k)/\(B[S.2]? ≠ some true->Gn y k=Gn c k))):
  Cl 207 #[dP xb,dI e,dT al B.length cl,dU a,dU c,dU y] w λr w'=>r=dR (dV true)/\Bw w w':=by
 obtain⟨S,hS⟩:∃S:Nat->Nat->Nat×Nat,∀k i,S k i=I9 (λi=>Gn (A i) k) (Gn a k) (Gn c k) i:=⟨_,λ_ _=>rfl⟩;have aw:Hid (∀k i x,x=(if Gn (A i) k≠Gn a k then((S k i).1+1,i) else S k i)->S k (i+1)=if 0<x.1/\x.2=i/\x.1=1/\Gn (A i) k≠Gn c k then(2,x.2) else x):=λk i x hx=>by subst hx;rw[hS,hS];rfl
 have ah:Hid (∀k,S k 0=(0,0)):=λk=>by rw[hS];rfl
 have aM:Hid (∀k i,(S k i).1<=i+1):=λk i=>by
  induction i with
  |zero=>rw[Da ah];exact Ao _
  |succ i ih=>rw[Da aw k i _ rfl];(repeat' split)<;>simp_all<;>omega
 have aO:Hid (∀k,k<1536->((S k n).1=0->Gn y k=Gn a k/\Gn c k=Gn a k)/\((S k n).1=1->(B[(S k n).2]?=some true->Gn y k=Gn a k)/\(B[(S k n).2]? ≠ some true->Gn y k=Gn c k))):=λk hk=>by rw[hS];exact aD k hk
 have aa:Hid (∀(s:By) (k:Nat),s.size=98304->k<1536->∀W,Cl 247 #[dU s,dI k] W λe w'=>e=dR (dU (Gn s k))/\w'=W):=λs k I h2 W=>VQ W s I k h2;have HX:=Db ar;have HW:=Db (hW w (Ad _ _));have HB:=Db hB;have aQ:=Db aE;have aR:=Db s4;have aN:=Db aC;have x0:=ar w (Ad _ _);clear ar hW hB aE aD hS s4 aC;obtain⟨i0,aB,aG,aH,aI⟩:=Bk Og;go_enter func207,ntmps207;go_wp2_with(first|(go_at_call 64;apply(Da HW).Q;rintro r z⟨rfl,rfl⟩)|(at_make;refine Ct _ rfl _ _ 53 rfl 0 3 i0 (dI 0) 1 Nz aB aG aH _ _ _ _ 1536 rfl rfl rfl rfl (by rw[aI];omega) (by unfold maxLen;omega) (Ao _) ?_;intro w2 aF aA;have HO:=Db (And.intro (Sl.a3 aF) (QE aA));clear aF aA));rename_i w3 av _ _;obtain⟨j,ai⟩:=ex z.heap.size;obtain⟨l,ao⟩:=ex w3.heap.size;have au:∀{W:World} {g:Nat},Sl W 3 1 (dS g 1536 1536) 1536 (madeCells (Value.int .i64 0).cells (1536*1)).toList->Gb W g 3 (KZ λ_=>0):=λh=>by
  rw[B2,show(madeCells (Value.int .i64 0).cells 1536).toList=List.replicate 1536 (dI 0) from CT _ _]at h;rcases h.2 with⟨e,_⟩|⟨g',aY,R,e,hR,g1,g2,g3,g4⟩;cases e;simp only[BC,CX,FT]at e;obtain⟨⟨rfl,_,_⟩,_,rfl⟩:=e;rw[Ak Ω]at g4;rw[g4]at hR;have T:(KZ λ_=>0)=List.replicate 1536 (dI 0):=by unfold KZ;simp[List.map_const']
  rw[T];exact hR
 have aK:Hid (Ix z w2 j l (λk=>(S k 0).1) (λk=>(S k 0).2)):=by
  obtain⟨o1,o2⟩:=Da av;obtain⟨o3,o4⟩:=Da HO;have r1:=au o1;have r2:=au o3;rw[<-ai]at r1;rw[<-ao]at r2;have hl:=r1.lt;have T:(λk=>(S k 0).1)=λ_=>0:=funext λk=>by rw[Da ah]
  have e2:(λk=>(S k 0).2)=λ_=>0:=funext λk=>by rw[Da ah]
  rw[T,e2];exact⟨r2,(o4.block _ hl).M r1,o2.M (o4.Q o2.size),Ω,Ω,by have:=o2.size;omega⟩
 rw[<-ai,<-ao];clear av HO au ai ao x0 aB aG aH aI
 go_loopw [16] (λi wr=>∃m:Nat,m<=n/\i=dI m/\Hid (Ix z wr j l (λk=>(S k m).1) (λk=>(S k m).2))) (λi _=>n-(intOf i).toNat)
 case atStart=>exact⟨0,Ao _,rfl,aK⟩
 case round=>
  obtain⟨m,hm,rfl,HI⟩:=hrel;by_cases ap:m<n
  .have a1:(m:Int)<(n:Int):=Ω;have sA:=Da aR m ap;have ax:Hid (∀W,Bw wr W->Cl 205 #[dI n,dI m] W λr ws=>∃g:Nat,r=dR (dS g n n)/\ws.cell? ⟨xb,0,none⟩=some (dP vb)/\Hid (Cl 31 #[dP vb,dI e,dS g n n] ws λr w2=>∃P U Q,r=dR (dT P U Q)/\(convert 59 9 (dT P U Q)).run prog w2=.ok (dU (A m)) w2/\w2.cell? ⟨xb,0,none⟩=some (dP vb)/\Hid (Ix z w2 j l (λk=>(S k m).1) (λk=>(S k m).2)))):=λW hW=>by apply(ZT W n hn m).Q;rintro r ws⟨g,rfl,q1,q2⟩;have u:=((Da HI).below hW).below q2;refine⟨g,rfl,Da HX ws u.2.2.1,?_⟩;apply(Da HB ws u.2.2.1 m g ap q1).Q;rintro r w2⟨P,U,Q,rfl,r2,r3⟩;exact⟨P,U,Q,rfl,r2,Da HX w2 (u.below r3).2.2.1,u.below r3⟩
   have aP:Hid (∀W,Ix z W j l (λk=>(S k m).1) (λk=>(S k m).2)->Cl 206 #[dU a,dU (A m)] W λe w'=>∃o:Nat,e=dR (dI o)/\((o:Int)<=1)/\Hid (Ix z w' j l (λk=>(S k m).1) (λk=>(S k m).2))):=λW u=>by apply(Zh4 W a (A m) s1 sA).Q;rintro e w'⟨rfl,_,q⟩;exact⟨_,rfl,by have:=Da aQ m ap;omega,u.below q⟩
   have x0:=Da HX wr (Da HI).2.2.1;go_upto_region 7 with fail
   go_cut [17] (λs w'=>s=dU (A m)/\Hid (Ix z w' j l (λk=>(S k m).1) (λk=>(S k m).2)))
   case first=>
    go_region_law (first|(refine O8 rfl 205 _ _ 3 3 rfl _ _ (by first|go_simp|rfl) (by first|go_simp|rfl) (by go_simp) (Da ax _ (by first|exact(Ad _ _).drew|exact Ad _ _)) ?_;rintro r ws⟨g,rfl,xs,aJ⟩;refine⟨_,rfl,?_⟩)|(refine Pa rfl 31 _ _ _ 25 3 69 rfl _ _ _ (by first|go_simp|rfl) (by first|go_simp|rfl) (by first|go_simp|rfl) (by go_simp) (Da aJ) ?_;rintro r w4⟨P,U,Q,rfl,aZ,x2,af⟩;refine⟨_,rfl,?_⟩))
    all_goals
     go_wp2_with fail
     go_meet
     exact⟨rfl,af⟩
   case rest=>
   clear ax x0;obtain⟨rfl,af⟩:=hcut;have sE:(A m).size=a.size:=Ω;go_wp2_with(go_at_call 206;apply(Da aP _ (Da af)).Q;rintro r w5⟨o,rfl,ho,aL⟩)
   go_loopw [18] (λk wr=>∃q:Nat,q<=1536/\k=dI q/\Hid (Ix z wr j l (KA (λk=>(S k m).1) (λk=>(S k (m+1)).1) q) (KA (λk=>(S k m).2) (λk=>(S k (m+1)).2) q))) (λk _=>1536-(intOf k).toNat)
   case atStart=>exact⟨0,Ao _,rfl,by rw[WP,WP];exact aL⟩
   case round=>
    obtain⟨q,E,rfl,d⟩:=hrel;by_cases t:q<1536
    .have aW:(q:Int)<1536:=Ω;have L:Hid (∀s W,s=a\/s=c\/s=A m->Cl 247 #[dU s,dI q] W λe w'=>e=dR (dU (Gn s q))/\w'=W):=λs W h=>by rcases h with rfl|rfl|rfl;exact Da aa _ q s1 t W;exact Da aa _ q s2 t W;exact Da aa _ q sA t W
     have ac:=Db (Da aw q m);obtain⟨a2,a3⟩:¬j=l/\¬l=j:=⟨(Da d).2.2.2.1,λe=>(Da d).2.2.2.1 e.r⟩;have M:=(Da d).1.J q;have N:=(Da d).2.1.J q;have f0:=(Da d).1.A q;have f1:=(Da d).2.1.A q;rw[Q4 _ t,Ty]at M N;have aV:=Da aM q m;have H:Hid (∀W,Ix z W j l (JX (KA (λk=>(S k m).1) (λk=>(S k (m+1)).1) q) q (S q (m+1)).1) (JX (KA (λk=>(S k m).2) (λk=>(S k (m+1)).2) q) q (S q (m+1)).2)->Hid (Ix z W j l (KA (λk=>(S k m).1) (λk=>(S k (m+1)).1) (q+1)) (KA (λk=>(S k m).2) (λk=>(S k (m+1)).2) (q+1)))):=λW h=>by rw[Z8,Z8]at h;exact h
     obtain⟨ff,ak⟩:=ex (KA (λk=>(S k m).1) (λk=>(S k (m+1)).1) q);obtain⟨gg,am⟩:=ex (KA (λk=>(S k m).2) (λk=>(S k (m+1)).2) q);have T:ff q=(S q m).1:=(by rw[ak,Ty]);have e2:gg q=(S q m).2:=(by rw[am,Ty]);rw[<-ak,<-am]at d H;obtain⟨I,an⟩:=ex ((S q m).1);obtain⟨V,ab⟩:=ex ((S q m).2);have az:S q m=(I,V):=(by rw[an,ab]);rw[az]at ac;rw[<-an]at M T aV;rw[<-ab]at N e2;clear ak am an ab az;by_cases ae:Gn (A m) q=Gn a q
     .have ad:Hid (Ix z wr j l (JX ff q I) (JX gg q V)/\S q (m+1)=if 0<I/\V=m/\I=1/\Gn (A m) q≠Gn c q then(2,V) else(I,V)):=⟨by rw[<-T,<-e2,ZR,ZR];exact d,Da ac (I,V) (by rw[if_neg (λe=>e ae)])⟩;clear ac d T e2;go_upto_region 16 with(first|(go_at_call 247;apply(Da L _ _ (by first|exact .inr (.inr rfl)|exact .inl rfl)).Q;rintro e w2⟨rfl,Z⟩;subst w2));generalize I=h at *
      generalize V=b at *
      clear M N f0 f1;generalize wr=X at *
      obtain⟨u,J⟩:=Da ad;have M:=(u.1.J q).M (by rw[Q4 _ t,UN]);have N:=(u.2.1.J q).M (by rw[Q4 _ t,UN]);have f0:=u.1.A q;have Y:(h=1/\b=m/\Gn (A m) q≠Gn c q/\S q (m+1)=(2,b))\/S q (m+1)=(h,b)/\(h=0\/(0<h/\b≠m)\/(1<h/\b=m)\/h=1/\b=m/\Gn (A m) q=Gn c q):=(by by_cases E:0<h/\b=m/\h=1/\Gn (A m) q≠Gn c q;rw[if_pos E]at J;exact .inl ⟨E.2.2.1,E.2.1,E.2.2.2,J⟩;rw[if_neg E]at J;refine .inr ⟨J,?_⟩;grind);have G:=Db u;clear ad J u ae;rcases Y with⟨rfl,O,aq,D⟩|⟨D,rfl|⟨hp,aT⟩|⟨hp,O⟩|⟨rfl,O,aU⟩⟩
      .have aX:((Gn (A m) q).toList==(Gn c q).toList)=false:=(by rw[Bs];exact λe=>aq (Ul e));subst b;go_wp2_with(first|(go_at_call 247;apply(Da L _ _ (by first|exact .inr (.inr rfl)|exact .inr (.inl rfl))).Q;rintro e w2⟨rfl,Z⟩;subst w2))
       go_roundw
       case rel=>exact⟨q+1,Ω,by go_num,Da H _ (by have:=(Da G).fe 2 t;rw[Zh]at this;rw[D];exact this)⟩
       case measure=>simp[intOf];omega
      .go_wp2
       go_roundw
       case rel=>exact⟨q+1,Ω,by go_num,Da H _ (by rw[D];exact Da G)⟩
       case measure=>simp[intOf];omega
      .have C:(0:Int)<h:=Ω;have F:¬((b:Int)=m):=Ω;go_wp2
       go_roundw
       case rel=>exact⟨q+1,Ω,by go_num,Da H _ (by rw[D];exact Da G)⟩
       case measure=>simp[intOf];omega
      .have C:(0:Int)<h:=Ω;have F:¬((h:Int)=1):=Ω;subst b;go_wp2
       go_roundw
       case rel=>exact⟨q+1,Ω,by go_num,Da H _ (by rw[D];exact Da G)⟩
       case measure=>simp[intOf];omega
      .subst b;go_wp2_with(first|(go_at_call 247;apply(Da L _ _ (by first|exact .inr (.inr rfl)|exact .inr (.inl rfl))).Q;rintro e w2⟨rfl,Z⟩;subst w2))
       go_roundw
       case rel=>exact⟨q+1,Ω,by go_num,Da H _ (by rw[D];exact Da G)⟩
       case measure=>simp[intOf];omega
     .have a4:((Gn (A m) q).toList==(Gn a q).toList)=false:=(by rw[Bs];exact λe=>ae (Ul e));obtain⟨h,hh⟩:=ex (I+1);obtain⟨b,O⟩:=ex m;have ad:Hid (Ix z ((wr.setCell ⟨l,q,none⟩ (dI h)).setCell ⟨j,q,none⟩ (dI b)) j l (JX ff q h) (JX gg q b)/\S q (m+1)=if 0<h/\b=m/\h=1/\Gn (A m) q≠Gn c q then(2,b) else(h,b)):=⟨((Da d).fe _ t).cr _ t,Da ac (h,b) (by rw[if_pos ae,hh,O])⟩;have hX:(wr.setCell ⟨l,q,none⟩ (dI (I+1))).setCell ⟨j,q,none⟩ (dI m)=(wr.setCell ⟨l,q,none⟩ (dI h)).setCell ⟨j,q,none⟩ (dI b):=(by rw[hh,O];rfl);clear ac d T e2 hh O;have ay:=Db hX;clear hX;go_upto_region 16 with(first|(go_at_call 247;apply(Da L _ _ (by first|exact .inr (.inr rfl)|exact .inl rfl)).Q;rintro e w2⟨rfl,Z⟩;subst w2));rw[Da ay];clear M N f0 f1 ay;generalize (wr.setCell ⟨l,q,none⟩ (dI h)).setCell ⟨j,q,none⟩ (dI b)=X at *
      obtain⟨u,J⟩:=Da ad;have M:=(u.1.J q).M (by rw[Q4 _ t,UN]);have N:=(u.2.1.J q).M (by rw[Q4 _ t,UN]);have f0:=u.1.A q;have Y:(h=1/\b=m/\Gn (A m) q≠Gn c q/\S q (m+1)=(2,b))\/S q (m+1)=(h,b)/\(h=0\/(0<h/\b≠m)\/(1<h/\b=m)\/h=1/\b=m/\Gn (A m) q=Gn c q):=(by by_cases E:0<h/\b=m/\h=1/\Gn (A m) q≠Gn c q;rw[if_pos E]at J;exact .inl ⟨E.2.2.1,E.2.1,E.2.2.2,J⟩;rw[if_neg E]at J;refine .inr ⟨J,?_⟩;grind);have G:=Db u;clear ad J u ae;rcases Y with⟨rfl,O,aq,D⟩|⟨D,rfl|⟨hp,aT⟩|⟨hp,O⟩|⟨rfl,O,aU⟩⟩
      .have aX:((Gn (A m) q).toList==(Gn c q).toList)=false:=(by rw[Bs];exact λe=>aq (Ul e));subst b;go_wp2_with(first|(go_at_call 247;apply(Da L _ _ (by first|exact .inr (.inr rfl)|exact .inr (.inl rfl))).Q;rintro e w2⟨rfl,Z⟩;subst w2))
       go_roundw
       case rel=>exact⟨q+1,Ω,by go_num,Da H _ (by have:=(Da G).fe 2 t;rw[Zh]at this;rw[D];exact this)⟩
       case measure=>simp[intOf];omega
      .go_wp2
       go_roundw
       case rel=>exact⟨q+1,Ω,by go_num,Da H _ (by rw[D];exact Da G)⟩
       case measure=>simp[intOf];omega
      .have C:(0:Int)<h:=Ω;have F:¬((b:Int)=m):=Ω;go_wp2
       go_roundw
       case rel=>exact⟨q+1,Ω,by go_num,Da H _ (by rw[D];exact Da G)⟩
       case measure=>simp[intOf];omega
      .have C:(0:Int)<h:=Ω;have F:¬((h:Int)=1):=Ω;subst b;go_wp2
       go_roundw
       case rel=>exact⟨q+1,Ω,by go_num,Da H _ (by rw[D];exact Da G)⟩
       case measure=>simp[intOf];omega
      .subst b;go_wp2_with(first|(go_at_call 247;apply(Da L _ _ (by first|exact .inr (.inr rfl)|exact .inr (.inl rfl))).Q;rintro e w2⟨rfl,Z⟩;subst w2))
       go_roundw
       case rel=>exact⟨q+1,Ω,by go_num,Da H _ (by rw[D];exact Da G)⟩
       case measure=>simp[intOf];omega
    .obtain rfl:q=1536:=Ω;go_wp2
     go_roundw
     case rel=>exact⟨m+1,Ω,by go_num,Zrg d⟩
     case measure=>simp[intOf];omega
  .obtain rfl:m=n:=Ω;go_wp2
   go_loopw [19] (λk wr=>∃q:Nat,q<=1536/\k=dI q/\Hid (Ix z wr j l (λk=>(S k m).1) (λk=>(S k m).2))) (λk _=>1536-(intOf k).toNat)
   case atStart=>exact⟨0,Ao _,rfl,HI⟩
   case round=>
    obtain⟨q,E,rfl,d⟩:=hrel;by_cases t:q<1536
    .have aW:(q:Int)<1536:=Ω;have L:Hid (∀s W,s=a\/s=c\/s=y->Cl 247 #[dU s,dI q] W λe w'=>e=dR (dU (Gn s q))/\w'=W):=λs W h=>by rcases h with rfl|rfl|rfl;exact Da aa _ q s1 t W;exact Da aa _ q s2 t W;exact Da aa _ q s3 t W
     have M:=(Da d).1.J q;have N:=(Da d).2.1.J q;rw[Q4 _ t]at M N;obtain⟨k0,k1⟩:=Da aO q t;obtain⟨h,hh⟩:=ex ((S q m).1);obtain⟨b,ab⟩:=ex ((S q m).2);rw[<-hh]at M k0 k1;rw[<-ab]at N k1;clear hh ab;have ag:Hid (∀v,B[b]?=some v->∃g f,al=some ⟨g,f,none⟩/\wr.cell? ⟨g,f+b,none⟩=some (dV v)):=λv K=>by obtain⟨g,f,q1,q2⟩:=Da aN b v K;exact⟨g,f,q1,((Da d).2.2.1.J (p:=⟨g,f+b,none⟩) (Ag _ _ q2)).M q2⟩
     have Y:(h=0/\Gn y q=Gn a q/\Gn c q=Gn a q)\/(h=1/\B[b]?=some true/\Gn y q=Gn a q)\/(h=1/\B[b]? ≠ some true/\Gn y q=Gn c q)\/1<h:=(by by_cases z0:h=0;exact .inl ⟨z0,k0 z0⟩;by_cases C:h=1;by_cases F:B[b]?=some true;exact .inr (.inl ⟨C,F,(k1 C).1 F⟩);exact .inr (.inr (.inl ⟨C,F,(k1 C).2 F⟩));exact .inr (.inr (.inr Ω)));have hd:(B[b]?=none/\¬((b:Int)<B.length))\/∃v,B[b]?=some v/\(b:Int)<B.length:=by
      cases K:B[b]? with
      |none=>have:=E9.1 K;exact .inl ⟨rfl,Ω⟩
      |some v=>have:=(Ac.1 K).1;exact .inr ⟨v,rfl,Ω⟩
     clear k0 k1;rcases hd with⟨K,aS⟩|⟨v,K,aS⟩
     .rw[K]at Y;have aj:(h=0/\Gn y q=Gn a q/\Gn c q=Gn a q)\/(h=1/\Gn y q=Gn c q)\/1<h:=Γ;clear Y ag K;rcases aj with⟨rfl,C,F⟩|⟨rfl,C⟩|C
      case' inr.inr=>have F:¬((h:Int)=0):=Ω
      case' inr.inr=>have z3:¬((h:Int)=1):=Ω
      all_goals
       go_wp2_with(first|(go_at_call 247;apply(Da L _ _ (by first|exact .inl rfl|exact .inr (.inl rfl)|exact .inr (.inr rfl))).Q;rintro e w2⟨rfl,Z⟩;subst w2))
       go_roundw
       case rel=>exact⟨q+1,Ω,by go_num,d⟩
       case measure=>simp[intOf];omega
     .obtain⟨gl,fl,rfl,cv⟩:=Da ag v K;have aj:(h=0/\Gn y q=Gn a q/\Gn c q=Gn a q)\/(h=1/\v=true/\Gn y q=Gn a q)\/(h=1/\v=false/\Gn y q=Gn c q)\/1<h:=Γ;clear Y ag K;rcases aj with⟨rfl,C,F⟩|⟨rfl,rfl,C⟩|⟨rfl,rfl,C⟩|C
      case' inr.inr.inr=>have F:¬((h:Int)=0):=Ω
      case' inr.inr.inr=>have z3:¬((h:Int)=1):=Ω
      all_goals
       go_wp2_with(first|(go_at_call 247;apply(Da L _ _ (by first|exact .inl rfl|exact .inr (.inl rfl)|exact .inr (.inr rfl))).Q;rintro e w2⟨rfl,Z⟩;subst w2))
       go_roundw
       case rel=>exact⟨q+1,Ω,by go_num,d⟩
       case measure=>simp[intOf];omega
    .obtain rfl:q=1536:=Ω;go_wp2;go_ret;exact⟨rfl,(Da d).2.2.1⟩
