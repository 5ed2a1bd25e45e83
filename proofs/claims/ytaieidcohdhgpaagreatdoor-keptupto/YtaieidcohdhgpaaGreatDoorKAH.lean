/- Kept. -/
import Derived.Test.YtaieidcohdhgpaaGreatDoorKAG
import Derived.Lib.SlBytesConst
namespace Go.Proofs.YtaieidcohdhgpaaGreatDoor
variable{a:Act}{K:Act->World->Prop}{x:Addr}{cl:Bool}{s:By}{Q:Exit->Act->World->Prop}{r:Int}{D:LY}{d:List Oper}{b c f g h i l n pb so:Nat}{o:Oper}{P:Program}{E:Prop}{v:Value}{w w':World}
set_option maxHeartbeats 40000000
set_option maxRecDepth 100000
set_option linter.all false
open Tryz
open Go.RowKit
theorem Tj(x:Nat)(h:x<18446744073709551616):IntKind.u64.wrap (x:Int)=x:=by grind [IntKind.wrap,IntKind.bits,IntKind.signed]
theorem TC(x i b:Nat)(c:b<2 ^ i)(h:2 ^ i*x+b<18446744073709551616):bits BinOp.or IntKind.u64 ((2 ^ i*x:Nat):Int) (b:Int)=((2 ^ i*x+b:Nat):Int):=by show IntKind.u64.wrap (((BitVec.ofInt 64 ((2 ^ i*x:Nat):Int) ||| BitVec.ofInt 64 (b:Int):BitVec 64).toNat:Nat))=_;simp only[BitVec.ofInt_natCast,BitVec.toNat_or,BitVec.toNat_ofNat];rw[FG (a:=2 ^ i*x) Ω,FG Ω,<-Nat.two_pow_add_eq_or_of_lt c,Tj _ h]
theorem ZsX(k n t:Nat)(hk:k<256)(hn:n<65536)(d:t<65536):bits BinOp.or IntKind.u64 (bits BinOp.or IntKind.u64 ((k:Int)*4294967296) ((n:Int)*65536)) (t:Int)=((k*4294967296+n*65536+t:Nat):Int):=by have a:((k)*4294967296)=((2 ^ 32*k:Nat):Int):=Ω;have b:((n:Int)*65536)=((n*65536:Nat):Int):=Ω;rw[a,b,TC k 32 (n*65536) Ω Ω];have c:2 ^ 32*k+n*65536=2 ^ 16*(k*65536+n):=Ω;rw[c,TC _ 16 t d Ω];omega
theorem Pj(w:World)(k n t:Nat)(b:k<256)(c:n<65536)(d:t<65536):
  Cl 244 #[.int .u8 k,dI n,dI t] w λe w'=>e=dR (.int .u64 ((k*4294967296+n*65536+t:Nat):Int))/\w'=w:=by
 have a:=Db (ZsX k n t b c d);go_enter func244,ntmps244;go_wp2;go_ret;exact⟨Cp (λz=>Ending.returned (.int _ z)) (Da a),rfl⟩
def D7(p x:Nat):By:=⟨(DM p 2++DM x 8).toArray⟩
theorem ZqT(s:By)(p x:Nat):s++⟨(DM p 2).toArray⟩++⟨(DM x 8).toArray⟩=s++D7 p x:=by apply AW;simp[D7]
theorem Own.lt(h:GD b w v s)(a:Own v g):g<w.heap.size:=by rcases h.1.2 with⟨e,_⟩|⟨g',aa,L,e,c,_⟩;grind [Own,Value.ownBlock];rw[e]at a;simp[Own,Value.ownBlock]at a;subst a;exact c.lt
theorem ZK(x m:Nat):(⟨(DM x m).toArray⟩:By).size=m:=by show(List.toArray _).size=m;simp[Js]
theorem Wk(w:World)(b:Nat)(L:b<=w.heap.size)(a:OA)(l c:Nat)(s:By)(h:GD b w (dT a l c) s)(p x:Nat)(hp:p<65536)(V:x<18446744073709551616)(hs:s.size<=1000000):
  Cl 214 #[.agg #[dI p,.int .u64 x],dT a l c] w λe w'=>∃d i f,e=dR (dT d i f)/\GD b w' (dT d i f) (s++D7 p x)/\Fr (Own (dT a l c)) w w'/\Dm w (dT a l c) (dT d i f):=by
 obtain⟨W,K,t,P,E,v⟩:=Df w [dI p,.int .u64 x] 175;have z:¬Own (dT a l c) w.heap.size:=λe=>by have:=Own.lt h e;omega
 have G:Hid (∀X,Bw W X->Cl 212 #[dT a l c,.int .u64 (IntKind.u64.wrap (p)),dI 2] X λe w'=>∃d i f,e=dR (dT d i f)/\Hid (GD b w' (dT d i f) (s++⟨(DM p 2).toArray⟩)/\Fr (Own (dT a l c)) W w'/\Dm W (dT a l c) (dT d i f))/\Gb w' w.heap.size 175 [dI p,.int .u64 x]):=λX r=>by rw[Tj p Ω];have U:=v.M (r.Q Ω);have T:=r.size;apply(Pk X b Ω a l c s (h.below U) p Ω 2 Ω Ω).Q;rintro e w'⟨d,i,f,rfl,u,o,q⟩;refine⟨d,i,f,rfl,⟨u,(Fr.S r).then o Γ,λg y=>(q g y).elim .inl Ω⟩,?_⟩;exact(show Gb X _ 175 _ from(r.block _ Ω).M t).e o z
 have H:Hid (∀X j n m,Hid (GD b X (dT j n m) (s++⟨(DM p 2).toArray⟩)/\Fr (Own (dT a l c)) W X/\Dm W (dT a l c) (dT j n m))->Gb X w.heap.size 175 [dI p,.int .u64 x]->Cl 212 #[dT j n m,.int .u64 x,dI 8] X λe w'=>∃d i f,e=dR (dT d i f)/\Hid (GD b w' (dT d i f) (s++D7 p x)/\Fr (Own (dT a l c)) w w'/\Dm w (dT a l c) (dT d i f))/\Gb w' w.heap.size 175 [dI p,.int .u64 x]):=λX j n m O S=>by obtain⟨u,o,q⟩:=Da O;have T:=o.size;apply(Pk X b Ω j n m _ u x V 8 Ω (by grind [ByteArray.size_append,ZK])).Q;rintro e w'⟨d,i,f,rfl,q1,F,Z⟩;refine⟨d,i,f,rfl,⟨by grind [ZqT],((Fr.S v).then o Γ).then F (λk hk e=>(q k e).elim id Ω),λg y=>?_⟩,?_⟩;rcases Z g y with B|B;exact(q g B).elim .inl Ω;omega;exact S.e F (λe=>(q _ e).elim z Ω)
 obtain⟨ab,ac⟩:=t.c1;clear h z P t v L;have N:Bw W W:=Ad _ _;have M:Bw W W.drew:=N.drew;have aa:=Db E;clear E;go_enter func214,ntmps214;go_upto_region 1 with fail;clear K;go_region_held3 (λW=>W.cell? (dQ w.heap.size 0)=some (dI p)/\W.cell? (dQ w.heap.size 1)=some (.int .u64 x)) (go_keep)
  (first|(have R:=C;clear R;go_at_call 212;apply(Da H _ j n m C A).Q;rintro e w4⟨I,Y,J,rfl,Q,D⟩;obtain⟨n0,n1⟩:=D.c1)|(go_at_call 212;apply(Da G _ M).Q;rintro e w3⟨j,n,m,rfl,C,A⟩;obtain⟨m0,m1⟩:=A.c1))
 all_goals
  go_wp2;go_ret;exact⟨I,Y,J,rfl,Da Q⟩
def J7(D:LY):Gf:=D.flatMap Dd
theorem Zfh:∀{D:LY},(∀s∈D,s.size=64)->(J7 D).length=D.length*64
 |[],_=>rfl
 |s::D,h=>by have a:=Zfh (λx b=>h x (AO _ b));have h2:=h s BV;unfold J7 at a ⊢;simp only[A9,Ah,Dh,Ay];omega
theorem U4:∀{D:LY},(∀s∈D,s.size=64)->∀(i j:Nat) (s:By),D[i]?=some s->j<64->(J7 D)[i*64+j]?=(Dd s)[j]?
 |[],_,i,j,s,hi,_=>by grind
 |x::D,h,0,j,s,hi,hj=>by simp_all[J7,List.flatMap_cons,Nat.zero_mul,Nat.zero_add,List.getElem?_append_left,Dh]
 |x::D,h,i+1,j,s,hi,hj=>by have h2:=h x BV;have:=U4 (λy a=>h y (AO _ a)) i j s (by simpa using hi) hj;unfold J7 at this ⊢;rw[A9,AJ (by rw[Dh];omega),Dh,<-this];congr 1;omega
def Hg(w:World)(v:Value)(D:LY):Prop:=Sl w 188 64 v D.length (J7 D)/\∀s∈D,s.size=64
theorem Hg.range{a:OA}(h:Hg w (dT a l c) D)(i:Nat)(s:By)(b:D[i]?=some s):∃g,a=some (dQ g 0)/\l=D.length/\w.rangeAt g (i*64) (Dd s):=by
 have ab:=(Ac.1 b).1;rcases h.1.2 with⟨e,h0⟩|⟨g,aa,L,e,f,h1,h2,h3,d⟩;omega;obtain⟨rfl,rfl,rfl⟩:=e;refine⟨g,rfl,rfl,λj v m=>?_⟩;have hs:=h.2 s (Ai b);have k:j<64:=by grind [List.getElem?_eq_some_iff,Dh]
 have:=U4 h.2 i j s b k;rw[m,<-d,AZ]at this;split at this;rw[f.J];omega;cases this
def Jg(w:World)(db:Nat)(vf vn vw ve:Value)(D:LY):Prop:=Gb w db 204 [vf,vn,vw,ve]/\Hg w vn D/\D.length=1536
theorem TB(w:World)(m:Nat)(F vw E:Value)(a:OA)(l c:Nat)(D:LY)(h:Jg w m F (dT a l c) vw E D)(i:Nat)(s:By)(d:D[i]?=some s):
  Cl 239 #[dP m,dI i] w λe w'=>e=dR (DC s)/\Bw w w':=by
 obtain⟨g,rfl,rfl,p⟩:=h.2.1.range i s d;have ac:=(Ac.1 d).1;have t:=h.2.1.2 s (Ai d);obtain⟨W,n,y,o,x,f⟩:=Df w (Dd (Dj 64)) 188;have r:=o _ _ _ h.1;have ab:=r.J 1;have q:W.rangeAt g (i*64) (Dd s):=λj v C=>by have:=p j v C;exact(f.J (Ag _ _ this)).M this
 have u:(Dd s).length=64:=by rw[Dh,t]
 have A:=Db q;have k:=Db y;have aa:=Db x;have z:=Db f;have b:=Db u;have hD:=h.2.2;clear h p d t r o y x f q u;go_enter func239,ntmps239;go_upto_region 0 with fail;refine A7 ?_;refine JG rfl 188 rfl Ky ?_;refine ER ?_;rw[n];clear n;go_wp2_with(first|(refine C4 rfl 188 _ rfl g (i*64) rfl (Dd s) _ (Da A) Kv rfl (by rw[D4,Da b]) ?_)|(refine Bh rfl 188 _ _ rfl w.heap.size (Dd s).toArray rfl rfl 188 _ (Da k) (by rw[D4];simp[Da b]) (by simp[Da b,Dh,JA]) (KI _) ?_));have B:Gb (W.setRow w.heap.size (Dd s).toArray) w.heap.size 188 (Dd s):=Bo W _ _ _ 188 _ (Da k);refine Am (v:=DC s) (FC rfl _ _ w.heap.size 188 _ (0,0) _ rfl B Kv rfl ?_) rfl ⟨rfl,?_⟩;rw[D4];simp[Da b];exact(Da z).M ⟨rfl,rfl,rfl,Θ,λj hj=>Bc W _ j _ Ω⟩
def D5(nd:Nat->Int):Nat->Nat->Nat
 |0,h=>h
 |f+1,h=>if h%16=0/\0<nd (h/16%96) then D5 nd f (h+16) else h
theorem VD{a:Nat->Int}(hs:¬(h%16=0/\0<a (h/16%96))):∀f,D5 a f h=h
 |0=>rfl
 |f+1=>by simp_all[D5,if_neg]
theorem YR{a:Nat->Int}(hs:h%16=0/\0<a (h/16%96)):D5 a (f+1) h=D5 a f (h+16):=by simp_all[D5]
def Qk(w:World)(a:Addr):Nat:=match w.cell? a with|some (.int _ x)=>x.toNat|_=>0
theorem OV{a:Addr}{k:IntKind}{x:Nat}(h:w.cell? a=some (.int k x)):Qk w a=x:=by grind [Qk]
theorem Fr.drewN{X:Nat->Prop}{a:World}(h:Fr X w a)(n:Nat):Fr X w (a.drewN n):=⟨h.os,h.tape,h.output,h.size,h.block⟩
def Yt(w:World)(pb:Nat)(L:Gf)(nd:Nat->Int)(hd:Nat)(e:Ending)(w':World):Prop:=
 ∃p,p=D5 nd 96 hd%1536/\Gb w' pb 184 (L.set 99 (.int .i64 ((p+1:Nat):Int)))/\e=.returned (.int .i64 (p:Nat))/\w'.cell? ⟨pb,99,none⟩=some (.int .i64 ((p+1:Nat):Int))/\Fr (λk=>k=pb) w w'/\(∀j,j≠99->w'.cell? ⟨pb,j,none⟩=w.cell? ⟨pb,j,none⟩)
theorem ZoL(w:World)(pb:Nat)(L:Gf)(z:Gb w pb 184 L)(b:Nat->Int)(a:Nat)(hh:a<=1536)(N:∀j,j<96->w.cell? ⟨pb,2+j,none⟩=some (.int .i64 (b j)))(J:w.cell? ⟨pb,99,none⟩=some (.int .i64 a))(hf:w.frozen? ⟨pb,99,none⟩=false)(Q:∃k,k<96/\b ((a/16+k)%96)<=0):
  Cl 302 #[.pointer (some ⟨pb,0,none⟩)] w (Yt w pb L b a):=by
 have T:=Db z;have W:=Db N;have Y:=Db Q;have H:L.set 99 (.int .i64 (a:Int))=L:=by
  have c:L[99]?=some (.int .i64 (a:Int)):=by rw[<-z.J 99];exact J
  obtain⟨i,G⟩:=Ac.1 c;rw[<-G];exact List.set_getElem_self i
 have U:=Db H;clear N Q z H;go_enter func302,ntmps302;go_wp2_with fail
 go_loopw [4] (λ_ wr=>∃k h:Nat,k<=96/\h=a+16*k/\Hid (D5 b (96-k) h=D5 b 96 a/\∀j,j<k->0<b ((a/16+j)%96))/\wr.cell? ⟨pb,99,none⟩=some (.int .i64 h)/\wr.frozen? ⟨pb,99,none⟩=false/\Hid (Fr (λk=>k=pb) w wr/\(∀j,j≠99->wr.cell? ⟨pb,j,none⟩=w.cell? ⟨pb,j,none⟩)/\Gb wr pb 184 (L.set 99 (.int .i64 (h:Int))))) (λ_ wr=>a+1600-Qk wr ⟨pb,99,none⟩)
 case atStart=>exact⟨0,a,Ω,Ω,⟨rfl,λj g=>absurd g Ω⟩,J,hf,Fr.refl _ _,λ_ _=>rfl,by rw[Da U];exact Da T⟩
 case round=>
  obtain⟨k,h,hk,A,s,q,aa,d⟩:=hrel;have l:=OV q;have V:=Db l;clear l;have ag:h<=3072:=Ω;have r:=Db A;clear A;have o:(h:Int).tmod 16=((h%16:Nat):Int):=by rw[C8 Ω];omega
  have F:(IntKind.i64.wrap ((h:Int)/16)).tmod 96=((h/16%96:Nat):Int):=by rw[AI,C8 Ω];omega
  obtain⟨x,D⟩:=ex (h/16%96);have P:x<96:=Ω;rw[<-D]at F;have ab:(x:Int)<96:=Ω;have ac:¬(96:Int)<=(x:Int):=Ω;have K:wr.cell? ⟨pb,2+x,none⟩=some (.int .i64 (b x)):=((Da d).2.1 _ Ω).M (Da W _ P);obtain⟨v,C⟩:=ex (b x);rw[<-C]at K;have y:=Db D;have u:=Db C;clear D C;have Z:(h:Int).tmod 1536=((h%1536:Nat):Int):=by rw[C8 Ω];omega
  obtain⟨p,B⟩:=ex (h%1536);have ai:p<1536:=Ω;rw[<-B]at Z;have X:=Db B;clear B;have E:Hid (¬(h%16=0/\0<b (h/16%96))->∀nq,Yt w pb L b a (.returned (.int .i64 p)) ((wr.drewN nq).setCell ⟨pb,99,none⟩ (.int .i64 ((p:Int)+1)))):=λf nq=>by refine⟨p,?_,?_,rfl,Cv _ _ _ q,?_,λj g=>?_⟩;rw[<-(Da s).1,VD f];exact Da X;have:=Gb.set (show Gb (wr.drewN nq) pb 184 _ from(Da d).2.2) 99 (.int .i64 ((p:Int)+1));rw[List.set_set]at this;exact this;exact Fr.set ((Da d).1.drewN nq) ⟨pb,99,none⟩ _ rfl;exact(CN _ _ _ _ Θ).M ((Da d).2.1 j g)
  by_cases e:h%16=0
  .have ae:((h:Int).tmod 16==0)=true:=(by rw[o,e];rfl);have S:=Db e;clear e o;by_cases n:0<v
   .have O:Hid (k<96/\D5 b (96-(k+1)) (h+16)=D5 b 96 a/\∀j,j<k+1->0<b ((a/16+j)%96)):=by
     have A:=Da r;have e:=Da S;have ad:(a/16+k)%96=x:=(by rw[Da y];omega);have I:∀j,j<k+1->0<b ((a/16+j)%96):=λj g=>by rcases AD j k with c|c;exact(Da s).2 j c;obtain rfl:j=k:=Ω;rw[ad,<-Da u];exact n
     obtain⟨R,af,ah⟩:=Da Y;have M:k<96:=(by rcases AD R (k+1) with c|c;have:=I R c;omega;omega);refine⟨M,?_,I⟩;rw[<-(Da s).1,show 96-k=(96-(k+1))+1 by omega,YR ⟨e,by rw[<-Da y,<-Da u];exact n⟩]
    have M:=(Da O).1;go_upto_region 1 with fail
    go_quiet (fail)
    go_wp2
    go_roundw
    case rel=>
     refine⟨k+1,h+16,Ω,by rw[Da r];omega,(Da O).2,?_,?_,?_,λj g=>?_,?_⟩
     .exact(Cv _ _ _ q).M (by go_num)
     simpa using aa;exact Fr.set ((Da d).1.drewN nq) ⟨pb,99,none⟩ _ rfl;exact(CN _ _ _ _ Θ).M ((Da d).2.1 j g);have:=Gb.set (show Gb (wr.drewN nq) pb 184 _ from(Da d).2.2) 99 (.int .i64 ((h:Int)+16));rw[List.set_set]at this;exact this
    case measure=>
     have c:Qk ((wr.drewN nq).setCell ⟨pb,99,none⟩ (.int .i64 ((h:Int)+16))) ⟨pb,99,none⟩=h+16:=OV (k:=.i64) (x:=h+16) (Cv _ _ _ q);have i:=Da V;have G:=Da r;omega
   .have f:¬(h%16=0/\0<b (h/16%96)):=λ⟨_,i⟩=>by rw[<-Da y,<-Da u]at i;exact n i
    have t:=Db f;have aj:decide (0<v)=false:=Cd n;clear f n;go_upto_region 1 with fail
    go_quiet (fail)
    go_wp2;go_ret;exact Da E (Da t) _
  .have f:¬(h%16=0/\0<b (h/16%96)):=λ⟨c,_⟩=>e c;have t:=Db f;obtain⟨m,l⟩:∃m:Nat,h%16=m+1:=⟨h%16-1,Ω⟩;have e4:(h:Int).tmod 16=(m:Int)+1:=(by rw[o,l];omega);have e5:decide ((m:Int)+1=0)=false:=Cd Ω;have e6:((m:Int)+1==0)=false:=(by rw[Bs];omega);clear f e o F K ab ac P l;go_upto_region 1 with fail
   go_quiet (fail)
   go_wp2;go_ret;exact Da E (Da t) _
theorem Zln(w:World)(b:Nat)(a:OA)(l c:Nat)(h:w.cell? (dQ b 3)=some (dT a l c)):
  Cl 79 #[dP b] w λe w'=>e=dR (dI l)/\w'=w:=by
 go_enter func79,ntmps79;go_wp2;go_ret;simp_all
theorem ZiW(w:World)(pb h so:Nat)(b:Nat->Int)(a i:Nat)(hi:i<1536)(aa:a<1536)(c:∀j,j<96->w.cell? (dQ pb (2+j))=some (dI (b j)))(hc:w.cell? (dQ pb 1)=some (.pointer (some (dQ h so))))(ht:w.cell? (dQ h (so+1))=some (dI a)):
  Cl 301 #[dP pb,dI i] w λe w'=>e=dR (dV (decide (i/16≠a/16/\b (i/16)<=8)))/\w'=w:=by
 obtain⟨x,f⟩:=ex (i/16);obtain⟨y,g⟩:=ex (a/16);have e1:(IntKind.i64.wrap ((i)/16))=(x):=by grind [IntKind.wrap_i64]
 have e2:(IntKind.i64.wrap ((a)/16))=(y):=by grind [IntKind.wrap_i64]
 have k:=c x Ω;obtain⟨v,d⟩:=ex (b x);rw[<-f,<-g];rw[<-d]at k ⊢;have ab:(x)<96:=Ω;have ac:¬(96)<=(x):=Ω;clear c f g d;by_cases l:x=y
 .subst l;go_enter func301,ntmps301;go_wp2;go_ret;simp_all
 .go_enter func301,ntmps301;go_wp2;go_ret;simp_all
theorem Zna{p:Array Oper}(k:o.guard=none)(d x:Operand)(c e:TypeId)(l:o.op=Op.call { callee:=Callee.builtin Builtin.append,args:=#[d,x],argTypes:=#[c,e] })(v u:Value)(j:a.eval d=v)(n:a.eval x=u){f:Value->World->Prop}(m:∃b w',(Builtin.append_ #[c,e] o.type #[v,u]).run P w=.ok b w'/\f b w')(i:∀b w',f b w'->K (a.put o.dst b) w'):
  if Region.wanted o (yielded p a.tmps)=true then Oper.wp P o a w K Q else E:=by
 obtain⟨b,w',g,h⟩:=m;exact Kl k d x c e l v u j n g (i b w' h)
theorem Ow(w:World)(v:Value)(c:List Int)(i:Sl w 3 1 v c.length (c.map (.int .i64)))(nb:Nat)(x:Int)(o:Gb w nb 3 [dI x])(hl:c.length<=1000000000000):
  ∃g w',(Builtin.append_ #[53,53] 53 #[v,dS nb 1 1]).run prog w=.ok g w'/\∃a d b,g=dT a d b/\Sl w' 3 1 (dT a d b) (c.length+1) ((c++[x]).map (.int .i64))/\Fr (Own v) w w'/\Dm w v (dT a d b):=by
 obtain⟨s,m,p,q,r⟩:=Bk (P:=prog) (e:=3) (z:=dI 0) (size:=1) (bytes:=8) Φ;obtain⟨g,w2,t,y,f,A⟩:=J1 w 53 53 3 s _ 1 8 Φ m p q r rfl Δ v _ _ i _ 1 1 _ rfl
  (λj u h=>by rw[AG,Av,o.J];omega) (λu h=>by rw[Ax.1 h];rfl) (by grind [maxLen]) Ω
 obtain⟨a,d,b,rfl⟩:=y.a0;exact⟨_,w2,t,a,d,b,rfl,Ξ,⟨f.os,f.tape,f.output,f.size,λk n l=>f.block k n (λe=>l e.r)⟩,A⟩
def Vq(w:World)(db:Nat)(vf vn vw ve:Value)(es:List Int)(m:Int)(e:Ending)(w':World):Prop:=
 e=dR (.tuple #[])/\∃ve',Gb w' db 204 [vf,vn,vw,ve']/\Sl w' 3 1 ve' (es.length+1) ((es++[m]).map (.int .i64))/\Fr (λk=>k=db\/Own ve k) w w'/\Dm w ve ve'
theorem VZ(w:World)(b:Nat)(s t r:Value)(a:OA)(l c:Nat)(h:Gb w b 204 [s,t,dT a l c,r])(j:List Int)(v:Sl w 3 1 r j.length (j.map (.int .i64)))(x:¬Own r b)(H:j.length<=1000000000000):
  Cl 200 #[dP b] w (Vq w b s t (dT a l c) r j l):=by
 obtain⟨n,q,o,rfl⟩:=v.a0;have D:Hid (∀m,Bw w m->∀nb,Gb m nb 3 [dI l]->∃y w',(Builtin.append_ #[53,53] 53 #[dT n q o,dS nb 1 1]).run prog m=.ok y w'/\∃d i f,y=dT d i f/\Gb w' b 204 [s,t,dT a l c,dT n q o]/\Hid (Vq w b s t (dT a l c) (dT n q o) j l (dR (.tuple #[])) (w'.setCell (dQ b 3) (dT d i f)))):=λm p nb I=>by obtain⟨y,w',J,d,i,f,rfl,K,B,C⟩:=Ow m _ j (v.kept (λk G _=>p.block k G)) nb l I H;have A:=Gb.e ((p.block _ h.lt).M h) B x;have ad:=p.size;refine⟨_,w',J,d,i,f,rfl,A,rfl,dT d i f,by simpa using A.set 3 (dT d i f),?_,?_,λg F=>(C g F).imp id (λh=>Ω)⟩;refine K.setCell _ _ (λe=>?_);rcases C _ e with u|u;exact x u;have:=h.lt;simp only at u;omega;exact((Fr.S p).then B (λk _ e => .inr e)).set _ _ (.inl rfl)
 have c2:w.cell? (dQ b 2)=some (dT a l c):=(h.J 2).M rfl;have c3:w.cell? (dQ b 3)=some (dT n q o):=(h.J 3).M rfl;have aa:=h.lt;have ab:¬b=w.heap.size:=Ω;have ac:¬w.heap.size=b:=Ω;clear h v x;go_enter func200,ntmps200;go_wp2_with fail;go_region_law (refine Zna rfl _ _ 53 53 rfl _ _ (by simp[Act.eval]) (by simp[Act.eval]) (Da D _ (by first|exact((Ad _ w).drew.alloc Θ _)|exact((Ad _ w).alloc Θ _)) _ (D9 _ _ _)) ?_;rintro v2 w2⟨d,i,f,rfl,z,E⟩;have d3:=z.J 3;have f3:=z.A 3)
 all_goals
  go_wp2
  go_end0
  exact Da E
section
open Go.RowKit Go.Shelf
attribute [local go_sem] Oper.semAt_some
theorem Xm:(prog.info? 181).map (λi=>(i.zero,i.size))=some (some (.agg (List.replicate 96 (dI 0)).toArray),96):=Φ
theorem XY:∀w,(zeroValue 181).run prog w=.ok (.agg (List.replicate 96 (dI 0)).toArray) w:=(Fj Xm).1
theorem Ri:(prog.info? 181).map (·.size)=some 96:=(Fj Xm).2
theorem Th:prog.underlying 181=some (.array 96 3):=Φ
theorem ZrZ:prog.built 181 [(0,dI 2)]=some (Value.int .i64 2::List.replicate 95 (dI 0)).toArray:=Φ
def Hl(f:Nat->Int):Gf:=(List.range 96).map (λj => dI (f j))
theorem KL(f:Nat->Int):(Hl f).length=96:=by simp[Hl]
theorem XP(f:Nat->Int):∀u∈Hl f,u.oneCell'=true:=λu a=>by obtain⟨j,_,e⟩:=AB.1 a;rw[<-e];rfl
theorem UM(f:Nat->Int)(j:Nat)(h:j<96):(Hl f)[j]?=some (dI (f j)):=by simp[Hl,h]
theorem ZoQ{f g:Nat->Int}(h:∀j,j<96->f j=g j):Hl f=Hl g:=by unfold Hl;exact Ch (λj a=>by rw[h j (by simpa using a)])
def Dl(es:LI)(j:Nat):Int:=(if j=0 then 2 else 0)+(es.countP (λx=>x.2.toNat/16==j):Nat)
theorem Zrc(j:Nat):Dl [] j=if j=0 then 2 else 0:=by simp[Dl]
theorem Zj3(a:LI)(y:Int×Int)(j:Nat):Dl (a++[y]) j=Dl a j+if y.2.toNat/16=j then 1 else 0:=by unfold Dl;rw[AU,Bm];by_cases h:y.2.toNat/16=j;simp[h];omega;simp[h]
theorem XQ(a:LI)(j:Nat):Dl a j<=2+a.length:=by have:=AV (p:=λx:Int×Int=>x.2.toNat/16==j) (l:=a);unfold Dl;split<;>omega
theorem Sg(a:LI)(j:Nat):0<=Dl a j:=by unfold Dl;split<;>omega
theorem Zti(a:LI)(y:Int×Int)(x:Nat)(d:y.2.toNat/16=x)(b:x<96):(Hl (Dl a)).set x (dI (Dl a x+1))=Hl (Dl (a++[y])):=by apply C1;intro j;rw[List.getElem?_set];by_cases e:x=j;subst e;rw[if_pos rfl,if_pos (by rw[KL];exact b),UM _ _ b,Zj3,if_pos d];rw[if_neg e];by_cases c:j<96;rw[UM _ _ c,UM _ _ c,Zj3,if_neg (λh=>e (d.r.M h)),Int.add_zero];rw[Bp (by rw[KL];omega),Bp (by rw[KL];omega)]
theorem Zrd:(Value.int .i64 2::List.replicate 95 (dI 0))=Hl (Dl []):=by have:=ZoQ (λj _=>Zrc j);rw[this];rfl
def Rq(es:LI):Prop:=es.length<=10000/\GM es/\∀x∈es,∃p:Nat,x.2=p/\p<1536
theorem ZgR(w:World)(f so:Nat)(v:Value)(a:LI)(F:w.cell? (dQ f so)=some v)(C:Sl w 350 2 v a.length (DH a))(aG:Rq a):
  Cl 198 #[.pointer (some (dQ f so))] w λe w'=>e=dR (.agg (Hl (Dl a)).toArray)/\Bw w w':=by
 obtain⟨hn,_,hp⟩:=aG;refine(Bg (n:=3)).1 ?_;refine BY func198 rfl trivial ?_ rfl;simp only[ntmps198,AS,Ay,AR,Nat.reduceAdd,Nat.reduceSub,AY,AX,Be,A5,AH,AK]
 gi_step
 gi_step
 refine Ck.2 (A7 ?_);refine JG rfl 181 rfl XY ?_;refine ER ?_;obtain⟨W,R,ak,aB,m,ab⟩:=Df w (List.replicate 96 (dI 0)) 181;rw[R];clear R;rename_i d;refine d _ _ ?_;clear d
 gi_step
 refine Ck.2 (A7 ?_);refine Wj rfl 181 0 _ rfl _ rfl (ZrZ.M (Cp some (Cp _ Zrd))) ?_;refine JG rfl 181 rfl XY ?_;obtain⟨o,S,J,aC,aj,ac⟩:=Df W (List.replicate 96 (dI 0)) 181;rw[S];clear S;refine Bh rfl 181 _ _ rfl _ _ rfl rfl 181 _ J ?_ ?_ (CH (XP _)) ?_;rw[Ri];simp[KL];simp[KL];refine ER ?_;have L:Gb (o.setRow W.heap.size (Hl (Dl [])).toArray) W.heap.size 181 (Hl (Dl [])):=Bo o _ _ _ 181 _ J;have t:Bw W (o.setRow W.heap.size (Hl (Dl [])).toArray):=ac.M ⟨rfl,rfl,rfl,Θ,λj hj=>Bc o _ j _ Ω⟩;have ah:(o.setRow W.heap.size (Hl (Dl [])).toArray).heap.size=W.heap.size+1:=by simp[World.setRow,aj]
 obtain⟨O,T⟩:=ex (o.setRow W.heap.size (Hl (Dl [])).toArray);rw[<-T]at L t ah ⊢;have E:=ab.M (t.Q Ω);have al:Gb O w.heap.size 181 (List.replicate 96 (dI 0)):=(t.block _ Ω).M ak;have ai:=Ag _ _ F;have az:=(E.J ai).M F;have av:=C.kept (λk G _=>E.block k G);rename_i d;refine d _ _ ?_;clear d J aC T aB ak;have M:=Db L;have N:=Db al;have A:=Db m;clear L al m
 gi_wp2_with (refine⟨trivial,?_⟩;gi_at_call 235;apply(Zt6 _ _ trivial rfl _ _).Q;rintro e w'⟨rfl,rfl⟩)
 rename_i K0 ar;obtain⟨P,U,am,H,aK,ax⟩:=Df O [.pointer (some (dQ f so))] 294;rw[U];clear U;have m:=Da A;have hA:=H _ _ _ (Da M);have hR:=H _ _ _ (Da N);have B:=E.M (ax.Q Ω);have au:=C.kept (λk G _=>B.block k G);have ay:=(B.J ai).M F;have aq:P.cell? ⟨W.heap.size+1,0,none⟩=some (.pointer (some (dQ f so))):=by rw[<-ah];exact(am.J 0).M rfl
 have Z:=CD a;clear M N am H az av t ab ac aj;refine Er rfl Ω rfl trivial (EX func270 Φ rfl)
  (ZnQ _ 2 trivial rfl Ω (W.heap.size+1) w.heap.size f so v (λx=>x.1) a.attach (by simpa using hn) P Ω Ω Ω aq ay (by rw[Z];simpa using au) (λg hg=>C.lt hg))
  belowK_t (EU Ω) (Ad _ _) (λ_=>rfl)
  (λb X=>Gb X W.heap.size 181 (Hl (Dl (b.map (·.1))))/\Gb X w.heap.size 181 (List.replicate 96 (dI 0))/\Bw w X)
  (λ_ _ _=>False)
  (Es (Own.from (U5 _ _ (λb:List { x // x∈a }=>Hl (Dl (b.map (·.1))))) _) (Es (Own.from (U5 _ _ (λ_:List { x // x∈a }=>List.replicate 96 (dI 0))) _) (Fl (Aa _) Ω)))
  (λ_ _ _ _ _ hs _ _=>hs)
  ⟨hA,hR,B⟩
  (λx=>{ tmps:=#[.pointer (some (dQ f so)),undef,dP w.heap.size,dP W.heap.size,undef,dI x.1.2,.agg (Hl (Dl [])).toArray,.pointer (some (dQ f so)),.pointer (some (dQ f so)),.pointer (some (dQ f so)),.func (.func 270) #[] #[.pointer (some ⟨W.heap.size+1,0,none⟩)],.int .u64 x.1.1,dI x.1.2,undef,undef,undef,undef,undef,undef,undef],defers:=[] })
  ?assign ?body ?done ?stop
 case assign=>
  intro l x X K d;clear m
  gi_wp2
  exact d
 case body=>
  rintro l b x X⟨i,q,r⟩ af;obtain⟨p,an,aI⟩:=hp x.1 x.2;obtain⟨y,hy⟩:=ex (p/16);have ao:y<96:=Ω;have ag:x.1.2.toNat/16=y:=by rw[an,Bf,hy]
  have e1:(IntKind.i64.wrap ((p:Int)/16))=(y:Int):=by rw[AI];omega
  have I:=Zti (b.map (·.1)) x.1 y ag ao;have ad:=XQ (b.map (·.1)) y;have aF:=Sg (b.map (·.1)) y;rw[AT]at ad;have aJ:b.length<a.length:=by simpa using af
  have aD:Dl (b.map (·.1)) y<=10002:=Ω;have aA:=(i.J y).M (UM (Dl (b.map (·.1))) y ao);have aH:=i.A y;obtain⟨z,hz⟩:=ex (Dl (b.map (·.1)) y);rw[<-hz]at aA aD aF I;have HI:=Db i;have ap:=Db I;have aL:(y:Int)<96:=Ω;have aM:¬(96:Int)<=(y:Int):=Ω;clear i I ad hy ag hz af m;rw[an]
  gi_wp2
  have m:=Da A;have u:Gb (X.setCell (dQ W.heap.size y) (dI (z+1))) W.heap.size 181 (Hl (Dl ((b++[x]).map (·.1)))):=by have:=(Da HI).set y (dI (z+1));rw[Da ap]at this;rw[AE];exact this
  have ae:w.heap.size<=W.heap.size:=Ω;have aE:w.heap.size≠W.heap.size:=Ω;exact⟨B3 _ _ _,(Ad w.heap.size X).setCell (p:=dQ W.heap.size y) ae _,u,(Aw _ _ _ _ aE).M q,r.setCell (p:=dQ W.heap.size y) ae _⟩
 case done=>
  rintro D ys X hD rfl⟨i,q,r⟩ d;show K0 _ _;refine ar _ _ ?_
  gi_step
  refine Ck.2 (A7 ?_);rw[Z]at i;refine wpList_load_row rfl 181 _ rfl W.heap.size rfl 181 _ (0,0) _ i Th rfl ?_ ?_;rw[Ri];simp[KL];refine Bh rfl 181 _ _ rfl w.heap.size (Hl (Dl a)).toArray rfl rfl 181 _ q ?_ ?_ (CH (XP _)) ?_;rw[Ri];simp[KL];simp[KL];refine ER ?_;have u:Gb (X.setRow w.heap.size (Hl (Dl a)).toArray) w.heap.size 181 (Hl (Dl a)):=Bo X _ _ _ 181 _ q;have aa:Bw w (X.setRow w.heap.size (Hl (Dl a)).toArray):=r.M ⟨rfl,rfl,rfl,Θ,λj hj=>Bc X _ j _ Ω⟩;have s:(X.setRow w.heap.size (Hl (Dl a)).toArray).heap[D]?=some (.deferred (some [])):=(Bc X _ D _ Ω).M d;obtain⟨Q,V⟩:=ex (X.setRow w.heap.size (Hl (Dl a)).toArray);rw[<-V]at u aa s ⊢;clear V i q r d m
  gi_wp2
  have m:=Da A;refine⟨Θ,.inl ⟨_,_,rfl,BT s,?_⟩⟩;have aw:=EU (w:=w) (Aa _) Q D _ (.deferred none) Ω s rfl rfl;refine⟨_,FC rfl _ _ w.heap.size 181 _ (0,0) _ rfl ?_ Th rfl ?_,rfl,aa.M aw⟩;exact((EU (Aa _) Q D _ _ Ω s rfl rfl).block _ Ω).M u;rw[Ri];simp[KL]
 case stop=>
  rintro D c b X _ _ h _;exact h.elim
theorem Zrx(w:World)(L:Gf)(k:Nat)(z:Int)(b:k<96)(a:L[k]?=some (dI z)):(Instr.index 181 (.agg L.toArray) (dI k)).run prog w=.ok (dI z) w:=by have h1:(k)<96:=Ω;simp[Instr.index,run_underlying Th,go_sem];rw[if_pos b,a];rfl
def D3(f:Nat->Int):Nat->Nat
 |0=>0
 |k+1=>D3 f k+if f k=0 then 16 else 0
theorem Qt(f:Nat->Int):∀k,D3 f k<=16*k
 |0=>by simp[D3]
 |k+1=>by have:=Qt f k;unfold D3;split<;>omega
theorem Ss(w:World)(l so:Nat)(v:Value)(a:LI)(q:w.cell? (dQ l so)=some v)(p:Sl w 350 2 v a.length (DH a))(g:Rq a):
  Cl 132 #[.pointer (some (dQ l so))] w λe w'=>e=dR (dI (D3 (Dl a) 96:Nat))/\Bw w w':=by
 have b:=ZgR w l so v a q p g;have C:∀j,Dl a j<=10002/\0<=Dl a j:=λj=>⟨by have:=XQ a j;have:=g.1;omega,Sg a j⟩;obtain⟨f,s⟩:=ex (Dl a);rw[<-s]at b C ⊢;clear s q p g;have m:Hid (∀j,j<96->(Hl f)[j]?=some (dI (f j))):=λj D=>UM f j D;have n:Hid ((Hl f).length=96):=KL f;obtain⟨L,o⟩:=ex (Hl f);rw[<-o]at b m n;clear o;have A:=Db b;clear b;go_enter func132,ntmps132;go_wp2_with(go_at_call 198;apply(Da A).Q;rintro e E⟨rfl,B⟩)
 go_loop [3,8] (λx i=>∃(k y:Nat),k<=96/\i=dI k/\x=dI y/\Hid (y=D3 f k)) (λ_ i=>96-(intOf i).toNat)
 case atStart=>exact⟨0,0,Ao _,rfl,rfl,rfl⟩
 case round=>
  obtain⟨k,y,hk,rfl,rfl,c⟩:=hrel;have ad:y<=1536:=by have:=Qt f k;rw[<-Da c]at this;omega
  by_cases t:k<96
  .have r:=Da m k t;have ac:=Da n;have ab:(k)<96:=Ω;obtain⟨z,h⟩:=ex (f k);rw[<-h]at r;have aa:=Zrx E L k z t r;have u:Hid (D3 f (k+1)=D3 f k+if z=0 then 16 else 0):=(by show _=_;rw[h];rfl);clear h;by_cases d:z=0
   .subst d;go_wp2
    go_round
    case rel=>exact⟨k+1,y+16,Ω,by go_num,by go_num,by show _=_;rw[Da u,<-Da c];simp⟩
    case measure=>simp[intOf];omega
   .have ae:(z==0)=false:=(by rw[Bs];exact d);go_wp2
    go_round
    case rel=>exact⟨k+1,y,Ω,by go_num,by go_num,by show _=_;rw[Da u,<-Da c];simp[d]⟩
    case measure=>simp[intOf];omega
  .obtain rfl:k=96:=Ω;go_wp2;go_ret;exact⟨by rw[<-Da c]<;>rfl,B⟩
end
theorem ZpN(w:World)(a:OA)(l c:Nat)(s:By)(h:GL w a l c s)(n:Nat)(W:World)(r:Sl W 5 1 (dS w.heap.size n n) n (List.replicate n (.int .u8 0)))(d:Bw w W):
  ∃b,(Builtin.copy_ #[59,59] 3 #[dS w.heap.size n n,dT a l c]).run prog W=.ok (goInt (Nat.min l n)) b/\Sl b 5 1 (dS w.heap.size n n) n (Dd (Dg s n))/\Bw w b:=by
 have C:=h.below d;cases a with
 |none=>
  have D:s.size=0:=by rcases Bn s.size with e|e;omega;obtain⟨x,hx,_⟩:=h.2.2 0 ((Dd s)[0]'(by grind [Dh])) (Ab _);grind
  have z:l=0:=by rw[h.1,D]
  have t:=h.2.1 rfl;subst z t;refine⟨W,by rfl,?_,d⟩;have:Dd (Dg s n)=List.replicate n (.int .u8 0):=by have ab:s=⟨#[]⟩:=(by apply AW;simp_all);unfold Dg;by_cases A:n<=s.size;rw[if_pos A];have:n=0:=Ω;grind [KC];simp_all[if_neg,Qd,Vc,Dd]
  simp_all
 |some x=>
  rcases r.2 with⟨e,_⟩|⟨g,aa,L,e,q,h1,o,h3,h4⟩;grind;cases e;have p:L=List.replicate n (.int .u8 0):=by grind
  have i:((Dd s).take (Nat.min l n)).length=Nat.min l n*1:=by rw[AP,Dh,h.1,B2];simp_all
  obtain⟨b,E,m,F⟩:=Qc W 59 59 3 5 1 _ 0 n n x l c L 5 _ underlying59 Vi q i
   (λj v f=>by rw[AZ]at f;split at f;obtain⟨y,e,hy⟩:=C.2.2 j v f;simp_all;simp_all) Γ (by grind [K7,List.mem_of_mem_take])
  refine⟨b,E,?_,?_⟩;have u:Gq L 0 ((Dd s).take (Nat.min l n))=Dd (Dg s n):=by unfold Gq;rw[i,p,Cy,AH,Av,B2,Eu];unfold Dg;by_cases B:n<=s.size;have k:Nat.min l n=n:=(by rw[h.1];simp_all);simp_all[if_pos,KC];have k:Nat.min l n=s.size:=(by rw[h.1];grind);rw[if_neg B,Qd,Vc,k,Ak (by simp_all[Dh,Nat.le_refl])]
  rw[u]at m;refine⟨by grind [Dh,Jr],.inr ⟨w.heap.size,n,_,rfl,m,Aa _,o,by grind [Dh,Jr],by rw[Ak (by grind [Dh,Jr])]⟩⟩;exact d.grown F d.size Γ
theorem GL.drop(h:GL w (some x) l c s)(k:Nat)(b:Nat):GL w (some (x.add k)) (l-k) b (s.extract k s.size):=by refine⟨by rw[Af,h.1];omega,Γ,λj v a=>?_⟩;rw[KC,AZ]at a;split at a;rw[BF]at a;obtain⟨y,e,d⟩:=h.2.2 _ _ a;cases e;exact⟨_,rfl,by rw[Addr.add_add];exact d⟩;simp_all
theorem Addr.ag(x:Addr)(j:Nat):(x.add j).block=x.block:=by grind [Addr.add]
def ZA(w:World)(fb:Nat)(a:OA)(l:Nat)(s:By)(n:Nat)(e:Ending)(w':World):Prop:=
 ∃a2 c2,e=dR (dS w.heap.size n n)/\Sl w' 5 1 (dS w.heap.size n n) n (Dd (Dg s n))/\Gb w' fb 287 [dT a2 (l-n) c2]/\GL w' a2 (l-n) c2 (s.extract n s.size)/\l-n<=c2/\(∀x,a2=some x->∃y,a=some y/\y.block=x.block)/\Fr (λk=>k=fb) w w'
theorem Zit(w:World)(d:Nat)(a:OA)(l c:Nat)(s:By)(g:Gb w d 287 [dT a l c])(h:GL w a l c s)(an:l<=c)(aj:∀x,a=some x->x.block≠d)(n:Nat)(hn:n<=2000000)(hl:l<=2000000):
  Cl 245 #[dP d,dI n] w (ZA w d a l s n):=by
 obtain⟨R,L,O,P,Q⟩:=Bk Q0;have ac:∀W:World,W.ownsRow 0 5 1 (dS w.heap.size n n) n (madeCells (Value.int .u8 0).cells (n*1)).toList->w.grownBy W none->∃b,(Builtin.copy_ #[59,59] 3 #[dS w.heap.size n n,dT a l c]).run prog W.drew=.ok (goInt (Nat.min l n)) b/\W.cell? (dQ d 0)=some (dT a l c)/\b.cell? (dQ d 0)=some (dT a l c)/\b.frozen? (dQ d 0)=false/\Hid (Sl b 5 1 (dS w.heap.size n n) n (Dd (Dg s n))/\Bw w b):=λW hW hg=>by
  have V:=Sl.a3 hW;have J:(madeCells (Value.int .u8 0).cells (n*1)).toList=List.replicate n (.int .u8 0):=by rw[B2];exact CT _ n
  rw[J]at V;have Y:=QE hg;obtain⟨b,r1,r2,r3⟩:=ZpN w a l c s h n W.drew V Y.drew;have q1:Gb W d 287 [dT a l c]:=(Y.block _ g.lt).M g;have G:Gb b d 287 [dT a l c]:=(r3.block _ g.lt).M g;exact⟨b,r1,(q1.J 0).M rfl,(G.J 0).M rfl,G.A 0,r2,r3⟩
 have E:=Db ac;have am:=g.lt;have al:=Db g;have S:=Db h;obtain⟨m,B⟩:=ex (Nat.min l n);have aq:m<=l:=by rw[B];exact Nat.min_le_left _ _
 rw[<-B]at E;have M:l-m=l-n:=by have e:m=min l n:=B;omega
 have H:Hid (∀b q r,Sl b 5 1 (dS w.heap.size n n) n (Dd (Dg s n))->Bw w b->(∀X,Bw w X->GL X q (l-n) r (s.extract n s.size))->l-n<=r->(∀x,q=some x->∃y,a=some y/\y.block=x.block)->ZA w d a l s n (dR (dS w.heap.size n n)) (b.setCell (dQ d 0) (dT q (l-n) r))):=λb q r f A h3 h4 T=>by have G:Gb b d 287 [dT a l c]:=(A.block _ g.lt).M g;refine⟨q,r,rfl,f.setCell _ _ (λe=>?_),by simpa using G.set 0 (dT q (l-n) r),?_,h4,T,(Fr.S A).set (dQ d 0) _ rfl⟩;simp[Value.ownBlock]at e;omega;have K:=h3 b A;refine⟨K.1,K.2.1,λj v p=>?_⟩;obtain⟨x,e,N⟩:=K.2.2 j v p;exact⟨x,e,(CN _ _ _ _ (by intro ee;obtain⟨y,J,e2⟩:=T x e;exact aj y J (by have U:=(Cp Addr.block ee).r;rw[Addr.ag]at U;exact e2.M U))).M N⟩
 have ai:Hid (∀x,a=some x->∀X,Bw w X->GL X (some (x.add m)) (l-n) (c-m) (s.extract n s.size)):=λx e X hX=>by
  subst e;have f:=((Da S).below hX).drop m (c-m);rw[M]at f;have A:s.extract m s.size=s.extract n s.size:=by have e:m=min l n:=B;rw[h.1]at e;rcases Nat.le_total s.size n with F|F;apply AW;simp only[BG];rw[e,BI F];simp[F];rw[e,FH F]
  rw[A]at f;exact f
 have I:Hid (a=none->∀X,GL X none (l-n) 0 (s.extract n s.size)/\l=0/\c=0):=λe X=>by
  subst e;have t:s.size=0:=by rcases Bn s.size with e|e;exact e;obtain⟨x,N,_⟩:=h.2.2 0 ((Dd s)[0]'(by rw[Dh];exact e)) (Ab _);cases N
  have ae:l=0:=by rw[h.1,t]
  refine⟨⟨by rw[Af,t,ae];omega,λ_=>rfl,λj v p=>?_⟩,ae,h.2.1 rfl⟩;have:Dd (s.extract n s.size)=[]:=AC (by rw[Dh,Af,t];omega);rw[this]at p;simp at p
 have u:=Db M;have ap:(m)<=(l):=Ω;clear ac g h B M;cases a with
 |none=>
  obtain⟨ak,rfl,rfl⟩:=Da I rfl w;obtain rfl:m=0:=Ω;have ah:Hid (∀X,GL X none (0-n) 0 (s.extract n s.size)):=λX=>(Da I rfl X).1;clear ak I;go_enter func245,ntmps245;go_upto_region 2 with(at_make;refine Ct _ rfl _ _ 59 rfl 0 5 R _ 1 underlying59 L O P _ _ _ _ n rfl rfl rfl rfl (by rw[Q];omega) (by unfold maxLen;omega) (Ao _) ?_;intro D o k;obtain⟨b,C,aa,ab,ad,i⟩:=Da E D o k;clear o k)
  go_region_law (refine Uh rfl _ _ 59 59 rfl _ _ (by simp[Act.eval]) (by simp[Act.eval]) C ?_)
  all_goals
   go_wp2;go_ret;have f:=Da H b none 0 (Da i).1 (Da i).2 (λX _=>Da ah X) Ω (λx e=>by cases e);rw[Nat.zero_sub n]at f;exact f
 |some x=>
  have Z:∀y,some (x.add m)=some y->∃z,some x=some z/\z.block=y.block:=λy e=>by cases e;exact⟨x,rfl,(Addr.ag _ _).r⟩
  have ag:=Db Z;clear Z;by_cases af:m=c
  .have HE:Hid (∀X,GL X (some x) (l-n) 0 (s.extract n s.size)):=λX=>by have h0:l-n=0:=(by have:=Da u;omega);have t:(s.extract n s.size).size=0:=(by rw[Af,<-(Da S).1];omega);refine⟨by rw[h0,t],λ_=>rfl,λj v p=>?_⟩;have:=AC (by rw[Dh,t]);rw[this]at p;simp at p
   obtain rfl:l=m:=Ω;subst af;go_enter func245,ntmps245;go_upto_region 2 with(at_make;refine Ct _ rfl _ _ 59 rfl 0 5 R _ 1 underlying59 L O P _ _ _ _ n rfl rfl rfl rfl (by rw[Q];omega) (by unfold maxLen;omega) (Ao _) ?_;intro D o k;obtain⟨b,C,aa,ab,ad,i⟩:=Da E D o k;clear o k)
   go_region_law (refine Uh rfl _ _ 59 59 rfl _ _ (by simp[Act.eval]) (by simp[Act.eval]) C ?_)
   all_goals
    go_wp2;go_ret;have f:=Da H b _ 0 (Da i).1 (Da i).2 (λX _=>Da HE X) (by have:=Da u;omega) (λy e=>⟨x,rfl,by cases e;rfl⟩);rw[show l-n=0 by have:=Da u;omega]at f;exact f
  .have ao:¬c=m:=λe=>af e.r;go_enter func245,ntmps245;go_upto_region 2 with(at_make;refine Ct _ rfl _ _ 59 rfl 0 5 R _ 1 underlying59 L O P _ _ _ _ n rfl rfl rfl rfl (by rw[Q];omega) (by unfold maxLen;omega) (Ao _) ?_;intro D o k;obtain⟨b,C,aa,ab,ad,i⟩:=Da E D o k;clear o k)
   go_region_law (refine Uh rfl _ _ 59 59 rfl _ _ (by simp[Act.eval]) (by simp[Act.eval]) C ?_)
   all_goals
    go_wp2;go_ret;rw[Da u];have f:=Da H b _ _ (Da i).1 (Da i).2 (Da ai x rfl) (by have:=Da u;omega) (Da ag);exact f
def Dx:List UInt8->Nat
 |[]=>0
 |b::l=>b.toNat+256*Dx l
theorem Uw:∀(l:List UInt8),Dx l<256 ^ l.length
 |[]=>by simp[Dx]
 |b::l=>by have h1:=Uw l;have h2:b.toNat<256:=b.toNat_lt;show b.toNat+256*Dx l<256 ^ (l.length+1);omega
theorem ZhX:∀(l:List UInt8) (b:UInt8),Dx (l++[b])=Dx l+256 ^ l.length*b.toNat
 |[],b=>by simp[Dx]
 |a::l,b=>by show a.toNat+256*Dx (l++[b])=a.toNat+256*Dx l+256 ^ (l.length+1)*b.toNat;rw[ZhX l b,Nat.mul_add,<-FO,<-FN,FB,Nat.mul_comm 256 (256 ^ l.length)]
theorem K8:∀(m x:Nat),x<256 ^ m->Dx (DM x m)=x
 |0,x,h=>by simp at h;subst h;rfl
 |m+1,x,h=>by show(UInt8.ofNat x).toNat+256*Dx (DM (x/256) m)=x;have a:x/256<256 ^ m:=Ω;rw[K8 m _ a];have h2:(UInt8.ofNat x).toNat=x%256:=Θ;omega
theorem ZkB(a b:Int):bits BinOp.or IntKind.u64 a b=bits BinOp.or IntKind.u64 b a:=by show IntKind.u64.wrap (((BitVec.ofInt 64 a ||| BitVec.ofInt 64 b:BitVec 64).toNat:Nat))=IntKind.u64.wrap (((BitVec.ofInt 64 b ||| BitVec.ofInt 64 a:BitVec 64).toNat:Nat));grind
theorem Mk(k:Nat):2 ^ (8*k)=256 ^ k:=by rw[Nat.pow_mul]
theorem Zte(y b k:Nat)(c:k<8)(hy:y<256 ^ k)(hb:b<256):bits BinOp.or IntKind.u64 (y:Int) (IntKind.u64.wrap ((b:Int)*2 ^ (8*k)))=((y+256 ^ k*b:Nat):Int):=by
 have h1:256 ^ k*256<=256 ^ 8:=by rw[<-FB];exact Nat.pow_le_pow_right Ω c
 have h2:256 ^ k*b+y<256 ^ 8:=by have:256 ^ k*b<=256 ^ k*255:=CJ _ Ω;omega
 have a:((b)*2 ^ (8*k))=((2 ^ (8*k)*b:Nat):Int):=Γ;rw[a,Tj _ (by grind [Mk]),ZkB,TC b (8*k) y (by grind [Mk]) (by grind [Mk]),Mk,C9]
def U9(w:World)(fb:Nat)(a:OA)(l:Nat)(s:By)(n:Nat)(v:Value)(e:Ending)(w':World):Prop:=
 e=dR v/\∃a2 c2,Gb w' fb 287 [dT a2 (l-n) c2]/\GL w' a2 (l-n) c2 (s.extract n s.size)/\l-n<=c2/\(∀x,a2=some x->∃y,a=some y/\y.block=x.block)/\Fr (λk=>k=fb) w w'
theorem Sh(w:World)(d:Nat)(a:OA)(l c:Nat)(s:By)(v:Gb w d 287 [dT a l c])(h:GL w a l c s)(p:l<=c)(q:∀x,a=some x->x.block≠d)(n:Nat)(hn:n<=8)(J:l<=2000000):
  Cl 240 #[dP d,dI n] w (U9 w d a l s n (.int .u64 (Dx (Dg s n).data.toList:Nat))):=by
 have A:=Db (Zit w d a l c s v h p q n Ω J);clear v h p q;obtain⟨t,f⟩:=ex (Dg s n);have ac:t.size=n:=by rw[f,Jr]
 have D:=Db f;rw[<-f];clear f;go_enter func240,ntmps240;go_wp2_with(go_at_call 245;apply(Da A).Q;rintro e w1⟨E,F,rfl,j,m⟩;rw[<-Da D]at j;have u:=j.cc;have B:=Db u.2.2;have C:=Db m;clear j m u)
 go_loop [5,12] (λx i=>∃(k y:Nat),k<=n/\i=dI k/\x=.int .u64 y/\Hid (y=Dx (t.data.toList.take k))) (λ_ i=>n-(intOf i).toNat)
 case atStart=>exact⟨0,0,Ao _,rfl,rfl,rfl⟩
 case round=>
  obtain⟨k,y,hk,rfl,rfl,K⟩:=hrel;by_cases ab:k<n
  .obtain⟨g,I,L⟩:=Da B k _ (Zj t k Ω);cases I;obtain⟨b,o⟩:=ex (t.data[k]' Ξ);rw[<-o,AG,Av]at L;have H:b.toNat<256:=b.toNat_lt;have z:y<256 ^ k:=(by grind [Uw,Da,List.length_take,Array.length_toList,Nat.min_eq_left]);have HS:Hid (y+256 ^ k*b.toNat=Dx (t.data.toList.take (k+1))):=(by grind [ZY,ZhX,Da,List.length_take,Array.length_toList,Nat.min_eq_left]);have r:=Zte y _ k Ω z H;have aa:=Db r;clear r o z;go_wp2
   go_round
   case rel=>grind [Da]
   case measure=>grind [intOf]
  .obtain rfl:k=n:=Ω;go_wp2;go_ret;have G:t.data.toList.take k=t.data.toList:=Ak Ξ;exact⟨by rw[show y=Dx _ by rw[Da K,G]]<;>rfl,E,F,Da C⟩
def GK(s:By):Nat:=Dx (Dg s 2).data.toList
def GQ(s:By):Nat:=Dx (Dg (s.extract 2 s.size) 8).data.toList
theorem Te(s:By):GK s<65536:=by have:=Uw (Dg s 2).data.toList;rw[AF,show(Dg s 2).data.size=2 from Jr s 2]at this;exact this
theorem GL.e{P:Nat->Prop}{a:OA}(h:GL w a l c s)(d:Fr P w w')(hP:∀x,a=some x->0<s.size->¬P x.block):GL w' a l c s:=
 ⟨h.1,h.2.1,λj v g=>by
  obtain⟨x,e,b⟩:=h.2.2 j v g;have hs:0<s.size:=by grind [List.getElem?_eq_some_iff,Dh]
  have f:=Ag _ _ b;refine⟨x,e,(AA (d.block _ f ?_)).M b⟩;grind [Addr.ag]⟩
theorem GL.lt(h:GL w (some x) l c s)(hs:0<s.size):x.block<w.heap.size:=by obtain⟨y,e,a⟩:=h.2.2 0 ((Dd s)[0]'(by grind [Dh])) (Ab _);have:=Ag _ _ a;grind [Addr.ag]
theorem RC(w:World)(b:Nat)(a:OA)(l c:Nat)(s:By)(o:Gb w b 287 [dT a l c])(h:GL w a l c s)(C:l<=c)(D:∀x,a=some x->x.block≠b)(T:l<=2000000):
  Cl 238 #[dP b] w (U9 w b a l s 10 (.agg #[dI (GK s:Nat),.int .u64 (GQ s:Nat)])):=by
 have ac:=o.lt;obtain⟨W,v,F,B,E,n⟩:=Df w [dI 0,.int .u64 0] 175;have p:=Db (Sh W b a l c s (B _ _ _ o) (h.below n) C D 2 Ω T);have q:Hid (∀X,U9 W b a l s 2 (.int .u64 (GK s)) (dR (.int .u64 (GK s))) X->Cl 240 #[dP b,dI 8] X λe Y=>e=dR (.int .u64 (GQ s))/\Gb Y w.heap.size 175 [dI 0,.int .u64 0]/\Hid (∀Z,Fr (λk=>k=w.heap.size) Y Z->U9 w b a l s 10 (.agg #[dI (GK s),.int .u64 (GQ s)]) (dR (.agg #[dI (GK s),.int .u64 (GQ s)])) Z)):=λX ⟨_,N,Q,p1,p2,p3,G,H⟩=>by
  apply(Sh X b N _ Q _ p1 p2 p3 Γ 8 Ω Ω).Q;rintro e Y⟨rfl,O,R,q1,q2,q3,I,J⟩;have r1:=F.e H Ω;have r2:=r1.e J Ω;refine⟨rfl,r2,λZ m=>⟨rfl,O,R,?_,?_,?_,λx e=>?_,?_⟩⟩;rw[show l-10=l-2-8 by omega];exact q1.e m Ω;have e:(s.extract 2 s.size).extract 8 (s.extract 2 s.size).size=s.extract 10 s.size:=by apply AW;simp;omega
  rw[show l-10=l-2-8 by omega,<-e];refine q2.e m (λx S V hb=>?_);obtain⟨y,g,t⟩:=I x S;obtain⟨z,i,u⟩:=G y g;subst i;have:=h.lt (by rw[Af,Af]at V;omega);omega;omega;obtain⟨y,g,t⟩:=I x e;obtain⟨z,i,u⟩:=G y g;exact⟨z,i,u.M t⟩;exact((Fr.S n).then (H.M J) Ω).then m Ω
 have U:=Te s;obtain⟨P,d⟩:=ex (GK s);obtain⟨X0,A⟩:=ex (GQ s);rw[<-d,<-A]at q ⊢;have K:Hid (Cl 240 #[dP b,dI 2] W (U9 W b a l s 2 (.int .u64 (P)))):=by rw[d];exact Da p
 rw[<-d]at U;have L:=Db v;have ab:=Db E;clear p d A h o C D F B n v E;go_enter func238,ntmps238;go_upto_region 1 with fail;rw[Da L];go_wp2_with(first|(have aa:=r;clear aa;go_at_call 240;apply(Da q _ (Da r)).Q;rintro e Y⟨rfl,f,M⟩;obtain⟨m0,m1⟩:=f.c1;obtain⟨f0,f1⟩:=f.f1)|(go_at_call 240;apply(Da K).Q;rintro e X j;obtain rfl:=j.1;have r:=Db j;clear j));exact Am (by simp[results,results238,go_sem,m0,m1]) rfl (Da M _ (((Fr.refl (λk=>k=w.heap.size) Y).set _ _ rfl).set _ _ rfl))
theorem Zg9(off:Nat):∀(vs:Gf) (k:Nat) (a:Array Value) (j:Nat),off+k+vs.length<=a.size->
  ((vs.zipIdx k).foldl (λa x=>a.setIfInBounds (off+x.2) x.1) a)[j]?=if off+k<=j/\j<off+k+vs.length then vs[j-(off+k)]? else a[j]?
 |[],k,a,j,_=>by simp;omega
 |v::vs,k,a,j,h=>by rw[List.zipIdx_cons,List.foldl_cons,Zg9 off vs (k+1) _ j Γ];grind
theorem Rn(off:Nat)(vs a:Array Value)(h:off+vs.size<=a.size):(vs.zipIdx.foldl (λa (x:Value×Nat)=>a.setIfInBounds (off+x.2) x.1) a)=(Gq a.toList off vs.toList).toArray:=by
 apply Array.ext_getElem?;intro j;have b:(vs.zipIdx.foldl (λa (x)=>a.setIfInBounds (off+x.2) x.1) a)=((vs.toList.zipIdx 0).foldl (λa x=>a.setIfInBounds (off+x.2) x.1) a):=by rw[<-Array.foldl_toList,Array.toList_zipIdx]
 rw[b,Zg9 off _ 0 a j Ω];unfold Gq;by_cases h1:j<off;grind;grind
def Gz(p:Nat)(s:By):Gf:=dI (p:Nat)::Dd s
def IF(p:Nat)(s:By):Value:=.agg (Gz p s).toArray
theorem KD(p:Nat)(s:By):(Gz p s).length=s.size+1:=by simp[Gz,Dh]
theorem Rh(p:Nat)(s:By):∀u∈Gz p s,u.oneCell'=true:=λu a=>by rcases AM.1 a with rfl|h;rfl;grind [K7]
theorem ZtJ:(prog.info? 207).map (λi=>(i.zero,i.size,i.bytes))=some (some (.agg (Gz 0 (Dj 64)).toArray),65,72):=Φ
theorem Q5:(prog.info? 207).map (·.size)=some 65:=by rfl
theorem P3:∃d,prog.underlying 207=some d/\d.isRow=true:=by simp_all
theorem WW:prog.underlying 182=some (.slice 207):=Φ
theorem Zjh(a:List (Nat×Value)):prog.built 207 a=Instr.fill (#[(0,1),(1,64)][·]?) (Gz 0 (Dj 64)).toArray a:=Φ
theorem VO(s:By):(DC s).cells=(Dd s).toArray:=rfl
theorem TR(p:Nat)(s:By)(hs:s.size=64):prog.built 207 [(0,dI (p:Nat)),(1,DC s)]=some (Gz p s).toArray:=by
 rw[Zjh];have hz:(Gz 0 (Dj 64)).length=65:=by rfl
 have a:(Value.int .i64 (p)).cells = #[dI (p)]:=rfl;have e:Gq (Gz 0 (Dj 64)) 0 [dI (p)]=dI (p)::Dd (Dj 64):=by rfl
 have f:Gq (dI (p)::Dd (Dj 64)) 1 (Dd s)=Gz p s:=by have:(Dd (Dj 64)).drop (Dd s).length=[]:=EG (by simp_all[Dh,JA]);grind [Gq,Gz,Nat.add_comm]
 have c:(#[(0,1),(1,64)])[0]?=some (0,1):=rfl;have d:(#[(0,1),(1,64)])[1]?=some (1,64):=rfl;unfold Instr.fill;rw[c];simp only[a];rw[Rn 0 #[dI (p:Nat)] _ Γ];rw[e];unfold Instr.fill;rw[d];simp only[VO];have b:(Dd s).toArray.size=64:=by grind [Dh]
 rw[Rn 1 _ _ (by grind [Dh,JA])];simp only[b];rw[f];rfl
theorem Re:∀w,(zeroValue 207).run prog w=.ok (IF 0 (Dj 64)) w:=(Fj (by rfl)).1
theorem ZtS(p:Nat)(s:By)(hs:s.size=64)(Z:Array Value)(b:Z.size=65):Instr.fill (λi=>some (i*65,65)) Z [(0,IF p s)]=some (Gz p s).toArray:=by
 have a:(IF p s).cells=(Gz p s).toArray:=rfl;have c:(Gz p s).toArray.size=65:=by grind [KD]
 unfold Instr.fill;simp only[a];rw[Rn (0*65) _ _ Ω];simp only[c,b];have:Gq Z.toList (0*65) (Gz p s)=Gz p s:=by grind [Gq,List.drop_eq_nil_of_le,Array.length_toList,KD]
 rw[this];rfl
theorem Zjm(w:World)(p:Nat)(s:By)(b:s.size=64):(Instr.buildSlice 182 1 #[(0,IF p s)]).run prog w=.ok (dS w.heap.size 1 1) (w.alloc (.cells (Gz p s).toArray 207)):=by
 have c:(sizeOf 207).run prog w=.ok 65 w:=by rfl
 have a:=ZtS p s b;unfold Instr.buildSlice;simp only[Cq,CL WW,Cb,c];rw[if_neg Δ,if_neg Δ];simp only[Cq,Re w,Cb,Fk];rw[a _ Θ];rfl
def Ur(ps:LB):Gf:=ps.flatMap (λx=>Gz x.1 x.2)
theorem ZlA(a:LB)(p:Nat)(s:By):Ur (a++[(p,s)])=Ur a++Gz p s:=by simp[Ur]
def Iq(w:World)(v:Value)(ps:LB):Prop:=Sl w 207 65 v ps.length (Ur ps)
theorem Iq.nil(w:World):Iq w dN []:=⟨rfl,Γ⟩
theorem ML(w:World)(v:Value)(f:LB)(h:Iq w v f)(nb p:Nat)(s:By)(o:s.size=64)(n:Gb w nb 207 (Gz p s))(hl:f.length<=1000000000000):
  ∃g w',(Builtin.append_ #[182,182] 182 #[v,dS nb 1 1]).run prog w=.ok g w'/\∃a c b,g=dT a c b/\Iq w' (dT a c b) (f++[(p,s)])/\Fr (Own v) w w'/\Dm w v (dT a c b):=by
 obtain⟨x,l,q,r,t⟩:=Bk ZtJ;obtain⟨g,w2,y,z,d,A⟩:=J1 w 182 182 207 x _ 65 72 WW l q r t (by rfl) Δ v _ _ h _ 1 1 _ (by rw[KD,o])
  (λj u hu=>by rw[AG,Av,n.J];omega) (Rh p s) (by grind [maxLen]) Ω
 obtain⟨a,c,b,rfl⟩:=z.a0;refine⟨_,w2,y,a,c,b,rfl,?_,⟨d.os,d.tape,d.output,d.size,λk m i=>d.block k m (λe=>i e.r)⟩,A⟩;grind [Iq,ZlA,List.length_append]
theorem SM(w:World)(v:Value)(a:LB)(hS:Iq w v a)(nb p:Nat)(s:By)(hs:s.size=64)(hn:Gb w nb 207 (Gz p s))(hl:a.length<=1000000):
  ∃v' w',(Builtin.append_ #[182,182] 182 #[v,dS nb 1 1]).run prog w=.ok v' w'/\∃a' l' c',v'=dT a' l' c'/\Iq w' (dT a' l' c') (a++[(p,s)])/\Fr (Own v) w w'/\Dm w v (dT a' l' c'):=
 by grind [ML,Nat.le_trans]
theorem Wp{c:Array Oper}(f:o.guard=none)(t:TypeId)(x:Operand)(ho:o.op=.box t x)(b:Gf)(g:a.eval x=.agg b.toArray)(h:wpList P c Q d (a.put o.dst (dP w.heap.size)) (w.alloc (.cells b.toArray t))):wpList P c Q (o::d) a w:=by refine EK f λK e=>?_;unfold Oper.wp execOp;simp only[ho,Instr.box,Cq,g];exact e _ _ h
theorem Zgg(w:World)(g o:Nat)(t ty:TypeId)(L a:Gf)(c:Gb w g t L)(aa:o+a.length<=L.length)(hi:(P.info? ty).map (·.size)=some a.length)(b:∀u∈a,u.oneCell'=true):
  (storeVar ty (dQ g o) (.agg a.toArray)).run P w=.ok () (w.setRow g (Gq L o a).toArray):=by
 have ab:=F9 P g o t a 0 _ w c Ω b;cases hq:P.info? ty with
 |none=>simp_all
 |some i=>
  simp_all[Nat.add_zero,storeVar,sizeOf,typeInfo,Value.cells,Gq,List.append_assoc]
theorem ZfZ{c:Oper}(ty:TypeId)(x y:Operand)(ho:c.op=.store ty x y)(g o:Nat)(t:TypeId)(L b:Gf)(j:a.eval x=.pointer (some (dQ g o)))(k:a.eval y=.agg b.toArray)(f:Gb w g t L)(e:o+b.length<=L.length)(i:(P.info? ty).map (·.size)=some b.length)(d:∀u∈b,u.oneCell'=true)(h:K (a.put c.dst undef) (w.setRow g (Gq L o b).toArray)):c.wp P a w K Q:=by unfold Oper.wp execOp;simp only[ho,j,k,Instr.storeAt,Instr.sureAddr,Cq,Fk,Cb,Zgg w g o t ty L b f e i d];exact h
theorem ZeD{c:Array Oper}(aa:o.guard=none)(ty:TypeId)(x y:Operand)(ho:o.op=.store ty x y)(g off:Nat)(t:TypeId)(L b:Gf)(k:a.eval x=.pointer (some (dQ g off)))(l:a.eval y=.agg b.toArray)(f:Gb w g t L)(e:off+b.length<=L.length)(i:(P.info? ty).map (·.size)=some b.length)(d:∀u∈b,u.oneCell'=true)(w':World)(ab:w.setRow g (Gq L off b).toArray=w')(h:K (a.put o.dst undef) w'):if Region.wanted o (yielded c a.tmps)=true then Oper.wp P o a w K Q else E:=by
 have j:Region.wanted o (yielded c a.tmps)=true:=by grind [Region.wanted]
 rw[if_pos j];exact ZfZ ty x y ho g off t L b k l f e i d Ξ
theorem Sp{b:Array Oper}(aa:o.guard=none)(x:Operand)(ho:o.op=.buildSlice 182 1 #[(0,x)])(p:Nat)(s:By)(c:s.size=64)(e:a.eval x=IF p s)(h:K (a.put o.dst (dS w.heap.size 1 1)) (w.alloc (.cells (Gz p s).toArray 207))):if Region.wanted o (yielded b a.tmps)=true then Oper.wp prog o a w K Q else E:=by
 have d:Region.wanted o (yielded b a.tmps)=true:=by grind [Region.wanted]
 rw[if_pos d];unfold Oper.wp execOp;simp only[ho,FJ,A6,CF,e,Cq,Zjm w p s c,Cb,Fk,Oper.upon];exact h
theorem Zio:∀{D:LY},(∀s∈D,s.size=64)->∀(i:Nat) (s:By),i<D.length->s.size=64->Gq (J7 D) (i*64) (Dd s)=J7 (D.set i s)
 |[],_,i,s,hi,_=>by grind
 |x::D,h,0,s,_,hs=>by unfold J7 Gq;simp_all[List.flatMap_cons,List.set_cons_zero,Nat.zero_mul,List.take_zero,List.nil_append,Nat.zero_add,Dh,List.drop_left']
 |x::D,h,i+1,s,hi,hs=>by have ih:=Zio (λy a=>h y (AO _ a)) i s (by simpa using hi) hs;unfold J7 at ih ⊢;grind [Gq,Dd,Dh,List.take_length_add_append,Nat.add_assoc,List.drop_length_add_append,List.append_assoc]
theorem ZS(h:∀s∈D,s.size=64)(i:Nat)(s:By)(hs:s.size=64):∀x∈D.set i s,x.size=64:=Γ
theorem Hg.row(h:Hg w v D)(h0:0<D.length):∃g c L,v=dS g D.length c/\Gb w g 188 L/\L.take (D.length*64)=J7 D/\D.length<=c/\c<=maxLen/\L.length=c*64:=by rcases h.1.2 with⟨_,ab⟩|⟨g,aa,L,e,hR,h1,h2,h3,h4⟩;omega;grind
theorem ZkU(L:Gf)(o n:Nat)(a:Gf)(h:o+a.length<=n)(hn:n<=L.length):(Gq L o a).take n=Gq (L.take n) o a:=by unfold Gq;rw[BU,BU];grind [List.drop_take,min,List.take_of_length_le]
theorem Hg.set{L:Gf}(_hR:Gb w g 188 L)(hT:L.take (D.length*64)=J7 D)(hc:D.length<=c)(aa:c<=maxLen)(hL:L.length=c*64)(a:∀s∈D,s.size=64)(i:Nat)(s:By)(hi:i<D.length)(b:s.size=64)(w':World)(hw:Gb w' g 188 (Gq L (i*64) (Dd s))):
  Hg w' (dS g D.length c) (D.set i s):=by
 have ab:(Gq L (i*64) (Dd s)).length=c*64:=by grind [KM,Dh]
 have ht:(Gq L (i*64) (Dd s)).take (D.length*64)=J7 (D.set i s):=by grind [ZkU,Dh,Zio]
 refine⟨⟨?_,Γ⟩,ZS a i s b⟩;grind
def RG(w:World)(db:Nat)(vf vn vw ve:Value)(D:LY)(ps:LB)(p:Nat)(s:By)(e:Ending)(w':World):Prop:=
 e=dR (.tuple #[])/\∃vw',Jg w' db vf vn vw' ve (D.set p s)/\Iq w' vw' (ps++[(p,s)])/\Fr (λk=>k=db\/Own vn k\/Own vw k) w w'/\Dm w vw vw'
theorem Zgz(w:World)(d:Nat)(P Q vw O:Value)(D:LY)(z:LB)(h:Jg w d P Q vw O D)(H:Iq w vw z)(U:¬Own Q d)(Y:¬Own vw d)(Z:∀k,Own Q k->¬Own vw k)(hl:z.length<=1000000000000)(p:Nat)(hp:p<1536)(s:By)(y:s.size=64):
  Cl 159 #[dP d,IF p s] w (RG w d P Q vw O D z p s):=by
 obtain⟨g,c,L,rfl,A,hT,hc,ar,hL⟩:=h.2.1.row (by rw[h.2.2];decide);have aG:=h.2.2;obtain⟨r,x,t,rfl⟩:=H.a0;have aM:g≠d:=λe=>U (by rw[<-e];rfl);have ac:(Dd s).length=64:=by rw[Dh,y]
 obtain⟨W,hW,J,F,az,ap⟩:=Df w (Gz p s) 207;have aX:=A.lt;have aW:=h.1.lt;obtain⟨b,C⟩:=ex (W.drew.setRow g (Gq L (p*64) (Dd s)).toArray);have au:Gb b g 188 (Gq L (p*64) (Dd s)):=by rw[C];exact Bo _ g _ _ 188 _ (F _ _ _ A)
 have aO:∀k,k≠g->b.heap[k]?=W.heap[k]? := λk f=>by rw[C];exact Bc _ g k _ f
 have E:Fr (λk=>k=g) W b:=by rw[C];exact⟨rfl,rfl,rfl,by simp[World.setRow],λk _ f=>Bc _ g k _ f⟩
 have u:=(Fr.S ap).then E (λ_ _ h=>h);have M:=J.e E Ω;have I:=(F _ _ _ h.1).e E (λe=>aM e.r);have ab:=Hg.set A hT hc ar hL h.2.1.2 p s Ω y b au;have al:Iq b (dT r x t) z:=Sl.e H u (λk f e=>Z g rfl (by rw[<-e];exact f));have aC:Hid (∀X,Bw b X->∀nb,Gb X nb 207 (Gz p s)->∃v' w',(Builtin.append_ #[182,182] 182 #[dT r x t,dS nb 1 1]).run prog X=.ok v' w'/\∃n q o,v'=dT n q o/\Gb w' w.heap.size 207 (Gz p s)/\Gb w' d 204 [P,dS g D.length c,dT r x t,O]/\Hid (RG w d P (dS g D.length c) (dT r x t) O D z p s (dR (.tuple #[])) (w'.setCell (dQ d 2) (dT n q o)))):=λX l nb aN=>by obtain⟨v',w',r1,n,q,o,rfl,r2,N,r4⟩:=ML X _ z (Sl.kept al (λk f _=>l.block k f)) nb p s y aN hl;have aV:b.heap.size<=X.heap.size:=l.size;have aU:w.heap.size<=b.heap.size:=u.size;have q1:Gb X d 204 _:=(l.block _ I.lt).M I;have q2:=q1.e N Y;have q3:Hg w' (dS g D.length c) (D.set p s):=⟨(Sl.kept ab.1 (λk f _=>l.block k f)).e N (λk f e=>Z k f e),ab.2⟩;have aw:Dm w (dT r x t) (dT n q o):=λk f=>(r4 k f).imp id (λh=>Ω);have q0:=Gb.e ((l.block _ M.lt).M M) N (λe=>by have:=H.lt e;omega);refine⟨_,w',r1,n,q,o,rfl,q0,q2,rfl,dT n q o,⟨by simpa using q2.set 2 (dT n q o),⟨q3.1.setCell _ _ (λe=>U e),q3.2⟩,by rw[B9];exact aG⟩,r2.setCell _ _ (λe=>?_),?_,aw⟩;rcases aw _ e with h4|h4;exact Y h4;simp only at h4;omega;refine Fr.set ?_ _ _ (.inl rfl);refine Fr.then (Fr.then ⟨u.os,u.tape,u.output,u.size,λk f l=>u.block k f (λe=>l (.inr (.inl (by rw[e];rfl))))⟩ (Fr.S l (X:=λ_=>False)) (λ_ _ h=>h.elim)) N (λk _ e => .inr (.inr e))
 have c1:W.cell? (dQ d 1)=some (dS g D.length c):=((F _ _ _ h.1).J 1).M rfl;have b0:W.cell? (dQ w.heap.size 0)=some (dI p):=(J.J 0).M rfl;have br:W.rangeAt w.heap.size 1 (Dd s):=λj v m=>by rw[J.J,C9];exact m
 have am:Gb W.drew g 188 L:=F _ _ _ A;have aL:p*64+(Dd s).length<=L.length:=by rw[ac,hL];omega
 have aE:=Db am;have aF:=Db C;have HW:=Db hW;have G:=Db M;have R:=Db I;have aS:=Db E;have af:=Db ac;have aT:=Db az;have aY:g≠w.heap.size:=Ω;have aZ:(p:Int)<(D.length:Int):=Ω;have a0:(p:Int)<1536:=Ω;clear h H A hT hc ar hL J F az ap au aO E u M I ab al hW C am U Y Z ac;obtain⟨B,hB⟩:=ex (Value.agg (Dd s).toArray);have HB:=Db hB;obtain⟨V,hV⟩:=ex (IF p s);have HV:=Db hV;rw[<-hV];clear hB hV;go_enter func159,ntmps159;go_upto_region 0 with fail;refine A7 ?_;refine Wp rfl 207 _ rfl (Gz p s) (Da HV) ?_;refine ER ?_;rw[show w.alloc (.cells (Gz p s).toArray 207)=W from Da HW];go_upto_region 1 with fail;refine Az (S:=λX=>X.cell? (dQ d 1)=some (dS g D.length c)/\X.cell? (dQ w.heap.size 0)=some (dI p)/\X.rangeAt w.heap.size 1 (Dd s)) Φ ⟨c1,b0,br⟩ (λaa=>?_);refine tk 0 ?_;refine tk 1 ?_;refine tk 2 ?_;refine tk 3 ?_;refine tk 4 ?_;refine tk 5 ?_;refine tk 6 ?_;refine A4 (i:=7) (v:=B) rfl Φ Φ Φ (λ_ _ _ h=>h) (by rw[Da HB];exact CW (by rfl) 188 _ rfl w.heap.size 1 rfl (Dd s) _ (λX l=>l.2.2) Kv rfl (by rw[D4,Da af])) Ψ ?_;try simp only[pE]
 refine tk 8 ?_;refine rk 9 (λK a=>?_);have d1:b.cell? (dQ d 1)=some (dS g D.length c):=((Da R).J 1).M rfl;have d2:b.cell? (dQ d 2)=some (dT r x t):=((Da R).J 2).M rfl;have e0:b.cell? (dQ w.heap.size 0)=some (dI p):=((Da G).J 0).M rfl;have er:b.rangeAt w.heap.size 1 (Dd s):=λj v m=>by rw[(Da G).J,C9];exact m
 have e2:b.rangeAt w.heap.size 0 (Gz p s):=λj v m=>by rw[(Da G).J,Av];exact m
 have ax:(Gz p s).length=65:=by rw[KD,y]
 have aD:=Db ax;clear ax;refine ZeD rfl 188 _ _ rfl g _ 188 L (Dd s) rfl (Da HB) (Da aE) aL (by rw[D4,Da af]) (K7 s) b (Da aF).r ?_;refine a.out _ _ ⟨d1,e0,er⟩ (λaK=>?_);clear a K aa aK e0 er;refine AL Φ ?_ _;obtain⟨dd,aR,aP⟩:=P3;obtain⟨T,an,aA,ae,aQ,aq⟩:=Df b.drew (Gz p s) 207;have s3:T.rangeAt w.heap.size 0 (Gz p s):=λj v m=>by rw[(ae _ _ _ (Da G)).J,Av];exact m
 have d3:T.cell? (dQ d 2)=some (dT r x t):=((ae _ _ _ (Da R)).J 2).M rfl;have ao:=((Ad b.heap.size b).drew).M aq;obtain⟨v5,w5,ay,n,q,o,rfl,aB,ad,HP⟩:=Da aC T ao _ aA;have s5:w5.rangeAt w.heap.size 0 (Gz p s):=λj v m=>by rw[aB.J,Av];exact m
 have m5:w5.cell? (dQ d 2)=some (dT r x t):=(ad.J 2).M rfl;have f5:=ad.A 2;have s6:(w5.setCell (dQ d 2) (dT n q o)).rangeAt w.heap.size 0 (Gz p s):=λj v m=>(World.cell?_setCell_far _ _ _ _ (show d≠w.heap.size by omega)).M (s5 j v m);have ai:=Db s6;have aj:=Db an;have ag:=Db s3;have ah:=Db s5;clear s6 an s3 s5 aB ad aA ae aq aQ ao;go_upto_region 2 with fail;refine Az (S:=λX=>X.rangeAt _ 0 _) Φ e2 (λaa=>?_);refine tk 0 ?_;refine tk 1 ?_;refine tk 2 ?_;refine tk 3 ?_;refine A4 (i:=5) rfl Φ Φ Φ (λ_ _ _ h=>h) (CW (by rfl) 207 _ rfl _ 0 rfl _ _ (λX l=>l) aR aP (by rw[Q5,Da aD])) Ψ ?_;try simp only[pE]
 refine Eo (rs:=[4,6]) Φ Θ ?_;refine BK rfl ?_ (BK (i:=6) rfl ?_ Ee)
 focus
  intro K a;go_simp;refine a.out _ _ aa (λaI=>?_);clear a K;try simp only[pE]
  refine rk 6 (λK a=>?_);refine Sp rfl _ rfl p s y rfl ?_;rw[Da aj];refine a.out _ _ (Da ag) (λak=>?_)
 rotate_left
 focus
  intro K a;refine Sp rfl _ rfl p s y rfl ?_;rw[Da aj];refine a.out _ _ (Da ag) (λak=>?_);clear a K;try simp only[pE]
  refine rk 4 (λK a=>?_);go_simp;refine a.out _ _ ak (λaI=>?_)
 all_goals
  clear a K;try simp only[pE]
  refine rk 7 (λK a=>?_);refine Kl rfl _ _ 182 182 rfl _ _ rfl rfl ay ?_;refine a.out _ _ (Da ah) (λaJ=>?_);clear a K;try simp only[pE]
  refine tk 8 ?_;refine tk 9 ?_;refine rk 10 (λK a=>?_);go_simp;refine a.out _ _ (Da ai) (λaH=>?_);clear a K;try simp only[pE]
  refine AL Φ ?_ _;go_wp2
  go_end0
  exact Da HP
theorem Rf:(prog.info? 188).map (λi=>(i.zero,i.size,i.bytes))=some (some (DC (Dj 64)),64,64):=Φ
theorem Ti:prog.underlying 186=some (.slice 188):=Φ
theorem ZnN(D:LY):∀u∈J7 D,u.oneCell'=true:=λu a=>by obtain⟨s,_,h⟩:=Ez.1 a;grind [K7]
theorem Sl.empty(w:World)(b:Nat)(h:Gb w b 188 []):Sl w 188 64 (dS b 0 0) 0 []:=⟨rfl,Γ⟩
theorem M0(x:Addr)(n c:Nat)(w:World):(binOp .eql 186 (dT (some x) n c) dN).run prog w=.ok (dV false) w:=Φ
theorem Zhi(w:World)(t:Value)(D:LY)(h:Hg w t D)(x:0<D.length)(hl:D.length<=1000000):
  Cl 141 #[t] w λe w'=>∃a d b,e=dR (dT a d b)/\Hg w' (dT a d b) D/\Bw w w'/\∀g,Own (dT a d b) g->w.heap.size<=g:=by
 obtain⟨g,c,L,rfl,f,A,hc,ab,z⟩:=h.row x;obtain⟨I,C,F,G,H⟩:=Bk Rf;obtain⟨W,l,o,m,n,i⟩:=Df w [] 188;have ac:=f.lt;obtain⟨v',w2,p,q,r,s⟩:=J1 W 186 186 188 I _ 64 64 Ti C F G H (by rfl) Δ _ 0 [] (Sl.empty W _ o) _ _ c _ (Zfh h.2)
  (λj u hu=>by rw[AG,Av,(m _ _ _ f).J];grind) (ZnN D) Ω Ω
 obtain⟨a,d,b,rfl⟩:=q.a0;have B:Hid (Hg w2 (dT a d b) D/\Bw w w2/\∀g,Own (dT a d b) g->w.heap.size<=g):=by refine⟨⟨Ξ,h.2⟩,i.grown r i.size (λk e=>?_),λk E=>?_⟩;grind [Value.ownBlock];rcases s k E with y|y;grind [Value.ownBlock];omega
 have v:=Db l;have aa:=Db n;clear h f A z o m i q r s l n;have hq:=M0 (dQ g 0) D.length c;go_enter func141,ntmps141;rw[<-Da v]at p;go_wp2_with(at_builtin;refine Aq _ rfl _ _ 186 186 rfl _ _ rfl rfl _ _ p ?_);go_ret;exact⟨a,d,b,rfl,Da B⟩
def Zz(w:World)(db:Nat)(vn:Value)(D:LY)(e:Ending)(w':World):Prop:=
 e=dR (.tuple #[])/\∃vf',Jg w' db vf' vn dN dN D/\Hg w' vf' D/\Fr (λk=>k=db) w w'/\(∀g,Own vf' g->w.heap.size<=g)
theorem Ziv(w:World)(b:Nat)(q j vw p:Value)(D:LY)(h:Jg w b q j vw p D)(n:¬Own j b):
  Cl 161 #[dP b] w (Zz w b j D):=by
 have s:=Zhi w j D h.2.1 (by rw[h.2.2];decide) (by rw[h.2.2];decide);obtain⟨a,l,c,rfl⟩:=h.2.1.1.a0;have B:=h.1.lt;have v:Hid (Cl 141 #[dT a l c] w λe w'=>∃d g f,e=dR (dT d g f)/\Gb w' b 204 [q,dT a l c,vw,p]/\Hid (Zz w b (dT a l c) D (dR (.tuple #[])) (((w'.setCell (dQ b 0) (dT d g f)).setCell (dQ b 2) dN).setCell (dQ b 3) dN))):=s.Q λe w' ⟨d,g,f,z,r,m,y⟩=>by have t:Gb w' b 204 [q,dT a l c,vw,p]:=(m.block _ B).M h.1;have u:Hg w' (dT a l c) D:=⟨h.2.1.1.kept (λk A _=>m.block k A),h.2.1.2⟩;have o:¬Own (dT d g f) b:=Γ;refine⟨d,g,f,z,t,rfl,dT d g f,⟨by simpa using ((t.set 0 (dT d g f)).set 2 dN).set 3 dN,⟨((u.1.setCell (dQ b 0) _ n).setCell (dQ b 2) _ n).setCell (dQ b 3) _ n,u.2⟩,h.2.2⟩,⟨((r.1.setCell (dQ b 0) _ o).setCell (dQ b 2) _ o).setCell (dQ b 3) _ o,r.2⟩,?_,y⟩;exact((Fr.set (X:=λk=>k=b) (Fr.S m) _ _ rfl).set _ _ rfl).set _ _ rfl
 have c1:w.cell? (dQ b 1)=some (dT a l c):=(h.1.J 1).M rfl;clear h s;go_enter func161,ntmps161;go_wp2_with(go_at_call 141;apply(Da v).Q;rintro e w'⟨d,g,f,rfl,i,x⟩;have m0:=i.J 0;have f0:=i.A 0;have m2:=i.J 2;have f2:=i.A 2;have m3:=i.J 3;have f3:=i.A 3)
 go_end0
 exact Da x
def Zhw(w:World)(vn:Value)(D:LY)(e:Ending)(w':World):Prop:=
 e=dR (dP w.heap.size)/\∃vf',Jg w' w.heap.size vf' vn dN dN D/\Hg w' vf' D/\Bw w w'/\(∀g,Own vf' g->w.heap.size<g)
theorem Zf4(w:World)(d:Value)(D:LY)(h:Hg w d D)(s:D.length=1536):
  Cl 134 #[d] w (Zhw w d D):=by
 obtain⟨W,i,m,u,v,b⟩:=Df w [dN,d,dN,dN] 204;have j:¬Own d w.heap.size:=λe=>by have:=h.1.lt e;omega
 have n:Hid (Cl 161 #[dP w.heap.size] W λe w'=>e=dR (.tuple #[])/\Hid (Zhw w d D (dR (dP w.heap.size)) w')):=(Ziv W _ _ d _ _ D ⟨m,⟨h.1.kept (λk g _=>b.block k g),h.2⟩,s⟩ j).Q λe w' ⟨t,x,q,r,f,h4⟩=>
  ⟨t,rfl,x,q,r,⟨f.os.M b.os,f.tape.M b.tape,f.output.M b.output,Ae b.size f.size,λk g=>(f.block k Ω Ω).M (b.block k g)⟩,Γ⟩
 have p:=Db i;obtain⟨a,l,c,rfl⟩:=h.1.a0;clear h m u v b j i;go_enter func134,ntmps134;go_wp2_with(rw[Da p];apply(Da n).Q;rintro e w'⟨rfl,o⟩);go_ret;exact Da o
theorem Wb:∀n,J7 (List.replicate n (Dj 64))=List.replicate (n*64) (.int .u8 0)
 |0=>rfl
 |n+1=>by have ih:=Wb n;unfold J7 at ih ⊢;rw[Ff,A9,ih,Pi,Fz];congr 1;omega
theorem Zh9(n:Nat):(madeCells (DC (Dj 64)).cells (n*64)).toList=List.replicate (n*64) (.int .u8 0):=by
 apply C1;intro j;have aa:(DC (Dj 64)).cells.size=64:=by rfl
 by_cases b:j<n*64;rw[Et,if_pos b];simp only[madeCells,Array.toList_map,A8,Array.toList_range,CK b,CO];have a:j%(DC (Dj 64)).cells.size<(DC (Dj 64)).cells.size:=Γ;rw[getElem!_pos (DC _).cells (j%(DC _).cells.size) a];simp only[VO,List.getElem_toArray];have c:=List.getElem_of_eq (Pi 64) (i:=j%(Dd (Dj 64)).toArray.size) (by simpa [VO] using a);rw[c,List.getElem_replicate];grind [List.getElem?_eq_none,madeCells]
def KR:LY:=List.replicate 1536 (Dj 64)
theorem Ug:KR.length=1536:=BB
theorem ZhI:∀s∈KR,s.size=64:=λs a=>by rw[(List.mem_replicate.1 a).2,JA]
def Xb(w:World)(e:Ending)(w':World):Prop:=
 ∃db vf' vn',e=dR (dP db)/\w.heap.size<=db/\Jg w' db vf' vn' dN dN KR/\Hg w' vf' KR/\Bw w w'/\(∀g,Own vf' g->w.heap.size<=g/\g≠db)/\(∀g,Own vn' g->w.heap.size<=g/\g≠db)/\(∀g,Own vn' g->¬Own vf' g)
theorem ZoM(w:World):Cl 98 #[] w (Xb w):=by
 obtain⟨t,p,r,s,ab⟩:=Bk Rf;have h:Hid (∀W:World,W.ownsRow 0 188 64 (dS w.heap.size 1536 1536) 1536 (madeCells (DC (Dj 64)).cells (1536*64)).toList->w.grownBy W none->Cl 134 #[dS w.heap.size 1536 1536] W λe w'=>∃b,e=dR (dP b)/\Hid (Xb w (dR (dP b)) w')):=λW k l=>by have c:=Sl.a3 k;rw[Zh9 1536,<-Wb]at c;have d:=QE l;have aa:=c.lt (g:=w.heap.size) rfl;have m:Hg W (dS w.heap.size 1536 1536) KR:=⟨by rw[Ug];exact c,ZhI⟩;apply(Zf4 W _ KR m Ug).Q;rintro e w'⟨rfl,y,u,v,x,f⟩;refine⟨W.heap.size,rfl,W.heap.size,y,_,rfl,d.size,u,v,d.M (x.Q d.size),λg a=>?_,λg a=>?_,λg a n=>?_⟩;have:=f g a;omega;grind [Own,Value.ownBlock];simp[Own,Value.ownBlock]at a;have:=f g n;omega
 go_enter func98,ntmps98;go_wp2_with(first|(refine Ct _ rfl _ _ 186 rfl 0 188 t _ 64 Ti p r s _ _ _ _ 1536 rfl rfl rfl rfl Ω (by grind [maxLen]) (Ao _) ?_;intro z q o;have i:=Db (Da h z q o))|(apply(Da i).Q;rintro e w'⟨b,rfl,j⟩));go_ret;exact Da j
def DI(D:LY):By:=⟨(D.flatMap (λs=>s.data.toList)).toArray⟩
theorem Znw(D:LY)(s:By):DI (D++[s])=DI D++s:=by apply AW;simp[DI]
theorem RV:∀{D:LY},(∀s∈D,s.size=64)->(DI D).size=D.length*64
 |[],_=>rfl
 |s::D,h=>by
  have ih:=RV (λx a=>h x (AO _ a));have h1:s.data.toList.length=64:=Ξ;have e:∀D,(DI D).size=(D.flatMap (λs=>s.data.toList)).length:=λD=>by show(List.toArray _).size=_;simp
  grind
def GF(w:World)(D:LY)(e:Ending)(w':World):Prop:=
 ∃a' l' c',e=dR (dT a' l' c')/\GD w.heap.size w' (dT a' l' c') (DI D)/\Bw w w'
theorem ZgY(w:World)(Y:Value)(D:LY)(h:Hg w Y D)(F:0<D.length)(hl:D.length<=10000):
  Cl 139 #[Y] w (GF w D):=by
 have d:=Db h;obtain⟨g,c,L,rfl,I,hT,hc,ac,hL⟩:=h.row F;obtain⟨i0,ae,ai,aj,ar⟩:=Bk Q0;have am:=I.lt;clear I hT hc ac hL h;obtain⟨N,m⟩:=ex D.length;rw[<-m]at F hl;rw[<-m];have C:=Db m;clear m;have aq:IntKind.i64.wrap ((N)*64)=((N*64:Nat)):=by grind [IntKind.wrap_i64]
 go_enter func139,ntmps139;go_wp2_with(at_make;refine wpList_make_own _ rfl _ _ 59 rfl 0 5 i0 _ 1 underlying59 ae ai aj _ _ _ (N*64) rfl rfl Ω Γ (by grind [maxLen]) (Ao _) ?_;intro w1 S Q;have E:=Db (And.intro (Sl.a3 S) (QE Q));clear S Q)
 go_loopw [3,12] (λv i wr=>∃(k:Nat) (f:OA) (o l:Nat),k<=N/\i=dI k/\v=dT f o l/\Hid (GD w.heap.size wr (dT f o l) (DI (D.take k))/\Bw w wr)) (λ_ i _=>N-(intOf i).toNat)
 case atStart=>exact⟨0,_,_,_,Ao _,rfl,rfl,⟨(Da E).1,by grind [Value.ownBlock]⟩,(Da E).2⟩
 case round=>
  obtain⟨k,f,o,l,R,rfl,rfl,q⟩:=hrel;by_cases ap:k<N
  .have an:k<D.length:=(by grind [Da]);obtain⟨s,y⟩:∃s,D[k]?=some s:=Ξ;have t:=(Da d).2 s (Ai y);obtain⟨p,a⟩:=Da q;have K:Hg wr (dS g N c) D:=(by rw[Da C];exact⟨(Da d).1.kept (λk R _=>a.block k R),(Da d).2⟩);obtain⟨g',ad,ag,T⟩:=K.range k s y;clear ag;cases ad;obtain⟨W,M,A,af,U,O⟩:=Df wr (Dd (Dj 64)) 188;obtain⟨r,n⟩:∃X,W.setRow wr.heap.size (Dd s).toArray=X:=Γ;have V:Gb r wr.heap.size 188 (Dd s):=(by rw[<-n];exact Bo W _ _ _ 188 _ A);have b:Bw wr r:=(by rw[<-n];exact O.M ⟨rfl,rfl,rfl,Θ,by grind [setRow_other]⟩);have z:=Ae a.size b.size;obtain⟨a2,l2,c2,Z,ah,J,H,ab⟩:=QX r _ z _ _ (p.below b) _ 64 64 s t (λj u hu=>by rw[AG,Av,V.J];omega) (by rw[RV (λx hx=>(Da d).2 x (BS hx)),AP];omega);have ak:Hid (GD w.heap.size Z (dT a2 l2 c2) (DI (D.take (k+1)))/\Bw w Z):=(by have e:D.take (k+1)=D.take k++[s]:=(by grind [List.take_add_one]);rw[e,Znw];exact⟨J,a.M ((b.Q a.size).M ((p.below b).d6 z H))⟩);have HR:=Db T;have HX:=Db A;have HW:=Db M;have aa:=Db n;have al:=Db U;have P:(Dd s).length=64:=(by rw[Dh,t]);have B:=Db P;have ao:(k)<(N):=Ω;clear J H ab V b z A af U O T K p a M n P q y t;go_wp2_with(first|(refine C4 rfl 188 _ rfl g (k*64) rfl (Dd s) _ (Da HR) Kv rfl (by rw[D4,Da B]) ?_)|(refine JG rfl 188 rfl Ky ?_;rw[Da HW])|(refine Bh rfl 188 _ _ rfl wr.heap.size (Dd s).toArray rfl rfl 188 _ (Da HX) (by rw[D4];simp[Da B]) (by grind [Da,Dh,JA]) (KI _) ?_;rw[Da aa])|(at_builtin;refine Aq _ rfl _ _ 59 59 rfl _ _ rfl rfl _ _ ah ?_))
   go_roundw
   case rel=>grind
   case measure=>grind [intOf]
  .obtain rfl:k=N:=Ω;go_wp2;go_ret;have G:=Da q;rw[Ak (CV (Da C).r)]at G;exact⟨f,o,l,rfl,G⟩
theorem Zny(w:World)(a:Nat)(l b vw k:Value)(D:LY)(h:Jg w a l b vw k D):
  Cl 78 #[dP a] w (GF w D):=by
 have c:=Db (ZgY w b D h.2.1 (by rw[h.2.2];decide) (by rw[h.2.2];decide));have c1:=h.1.J 1;go_enter func78,ntmps78;go_wp2_with(apply(Da c).Q;rintro e w'⟨g,j,i,rfl,d⟩;have f:=Db d);go_ret;exact⟨g,j,i,rfl,Da f⟩
theorem ZkP(x:Int):0<=IntKind.u64.wrap x/\IntKind.u64.wrap x<18446744073709551616:=by grind [IntKind.wrap,IntKind.bits,IntKind.signed]
theorem Xg(l:List UInt8):0<=Qp l/\Qp l<18446744073709551616:=by rcases List.eq_nil_or_concat l with rfl|⟨l',b,rfl⟩;decide;rw[List.concat_eq_append,Zr];exact ZkP _
def Dr(s:By):Nat:=(Qp s.data.toList).toNat
theorem Rm(s:By):Qp s.data.toList=((Dr s:Nat):Int):=by unfold Dr;have:=(Xg s.data.toList).1;omega
theorem Q6(s:By):Dr s<18446744073709551616:=by simp_all[Dr,Xg]
def Mr(b:Nat)(w:World)(v:Value)(s:By):Prop:=GD b w v s\/∃x l,v=dT (some x) l l/\GL w (some x) l l s
theorem Mr.below(h:Mr b w v s)(a:Bw w w'):Mr b w' v s:=by rcases h with h|⟨x,l,rfl,h⟩;exact .inl (h.below a);exact .inr ⟨x,l,rfl,h.below a⟩
theorem SP(w:World)(b:Nat)(z:b<=w.heap.size)(v:Value)(s:By)(h:Mr b w v s)(a:Addr)(m c:Nat)(t:By)(hm:t.size=m)(C:∀j u,(Dd t)[j]?=some u->w.cell? (a.add j)=some u)(hl:s.size+m<=4000000)(ab:0<m:=by omega):
  ∃d i f w',(Builtin.append_ #[59,59] 59 #[v,dT (some a) m c]).run prog w=.ok (dT d i f) w'/\GD b w' (dT d i f) (s++t)/\Fr (Own v) w w'/\Dm w v (dT d i f):=by
 rcases h with h|⟨x,l,rfl,h⟩;simp_all[QX];obtain⟨H,A,E,F,G⟩:=Bk Q0;have aa:=h.1;obtain⟨v',w2,I,q,o⟩:=run_append_arg_grows w 59 59 5 H _ 1 1 underlying59 A E F G rfl Δ x l l (Dd s) (by grind [Dh])
  (λj u D=>by obtain⟨y,e,hy⟩:=h.2.2 j u D;simp_all) a m c (Dd t) (by grind [Dh]) C Ω (by grind [maxLen]) Ω
 have r:=Sl.a3 q;obtain⟨d,i,f,rfl⟩:=r.a0;have p:∀g,Own (dT d i f) g->w.heap.size<=g:=λg n=>(q.lt g n).1;refine⟨d,i,f,w2,I,⟨?_,λg n=>Ae z (p g n)⟩,⟨o.os,o.tape,o.output,o.size,λk B _=>o.block k B Θ⟩,λg n => .inr (p g n)⟩;grind [Qd,ByteArray.size_append]
theorem Zfl(w:World)(b:Nat)(hb:b<=w.heap.size)(a:OA)(l c:Nat)(s:By)(h:Mr b w (dT a l c) s)(x:Nat)(U:x<18446744073709551616)(m:Nat)(hm:m<=8)(R:0<m)(hs:s.size<=2000000):
  Cl 212 #[dT a l c,.int .u64 x,dI m] w λe w'=>∃d n f,e=dR (dT d n f)/\GD b w' (dT d n f) (s++⟨(DM x m).toArray⟩)/\Fr (Own (dT a l c)) w w'/\Dm w (dT a l c) (dT d n f):=by
 have H:=Db h;clear h;go_enter func212,ntmps212;go_wp2
 go_loopw [0,1,8] (λv y i wr=>∃(k y':Nat) (d:OA) (n f:Nat),k<=m/\i=dI k/\y=.int .u64 y'/\v=dT d n f/\y'<18446744073709551616/\Hid (Mr b wr v (s++⟨((DM x m).take k).toArray⟩)/\(0<k->GD b wr v (s++⟨((DM x m).take k).toArray⟩)))/\Hid (DM y' (m-k)=(DM x m).drop k)/\Hid (Fr (Own (dT a l c)) w wr/\Dm w (dT a l c) v)) (λ_ _ i _=>m-(intOf i).toNat)
 case atStart=>exact⟨0,x,a,l,c,Ao _,rfl,rfl,rfl,U,⟨by show Mr _ _ _ _;rw[Cy,UJ];exact Da H,Ω⟩,rfl,Fr.refl _ _,λg r => .inl r⟩
 case round=>
  obtain⟨k,y,d,n,f,O,rfl,rfl,rfl,hy,t,L,p⟩:=hrel;by_cases Q:k<m
  .have G:=Up y;have ab:=(Da p).1.size;obtain⟨W,E,I,P,S,q⟩:=Df wr [.int .u8 (IntKind.u8.wrap (y))] 5;obtain⟨z,J,A,w2,F,D,B,C⟩:=SP W b Ω _ _ ((Da t).1.below q) _ 1 1 ⟨#[UInt8.ofNat y]⟩ rfl (λj u T=>by rw[AG,Av,I.J,G];exact T) (by rw[Aj];show s.size+(List.toArray _).size+1<=_;grind);have aa:=Db D;have K:Hid (Fr (Own (dT a l c)) w w2/\Dm w (dT a l c) (dT z J A)):=(by refine⟨((Da p).1.then (Fr.S q) (λk _ h=>h)).then B (λk O e=>((Da p).2 k e).elim id Ω),λg r=>?_⟩;rcases C g r with o|o;exact(Da p).2 g o;omega);have M:=Db E;clear D B C I P S q E G;rw[<-Da M]at F;go_wp2_with(at_builtin;refine Aq _ rfl _ _ 59 59 rfl _ _ rfl rfl _ _ F ?_)
   go_roundw
   case rel=>
    obtain⟨o,N⟩:=ZL Q (Da L);exact⟨k+1,y/256,z,J,A,Ω,by go_num,by go_num,rfl,Ω,by grind [Mr,Xx,Da,GD],N,K⟩
   case measure=>grind [intOf]
  .obtain rfl:k=m:=Ω;go_wp2;go_ret;have o:=(Da t).2 R;rw[Ak (by simp_all[Js,Nat.le_refl])]at o;exact⟨d,n,f,rfl,o,Da p⟩
def KQ:By:=⟨#[115,105,108,116]⟩
def Ju(x m:Nat):By:=⟨(DM x m).toArray⟩
def Oq(turn p x:Nat):By:=KQ++Ju turn 8++D7 p x
def IU(turn p x:Nat):By:=⟨#[1]⟩++Dg (Oq turn p x) 63
def Ha(turn p x:Nat):By:=(IU turn p x).extract 0 56++Ju (Dr ((IU turn p x).extract 0 56)) 8
theorem Q9(x m:Nat):(Ju x m).size=m:=ZK x m
theorem Pg(p x:Nat):(D7 p x).size=10:=by rfl
theorem ZrU(a p x:Nat):(Oq a p x).size=22:=by rfl
theorem UU(a p x:Nat):(IU a p x).size=64:=by rfl
theorem OQ(a p x:Nat):(Ha a p x).size=64:=by grind [Ha,ByteArray.size_append,ByteArray.size_extract,UU,Q9]
theorem ck_spl(a p x:Nat):Gq (Dd (IU a p x)) 56 (Dd (Ju (Dr ((IU a p x).extract 0 56)) 8))=Dd (Ha a p x):=by grind [Gq,Ha,Qd,KC,List.drop_eq_nil_of_le,Dh,UU,Q9]
theorem ZiA{c:Array Oper}(g:o.guard=none)(t:TypeId)(i j:Nat)(x y:Operand)(ho:o.op=.build t #[(i,x),(j,y)])(u v:Value)(hx:a.eval x=u)(hy:a.eval y=v){b:Array Value}(f:P.built t [(i,u),(j,v)]=some b)(h:wpList P c Q d (a.put o.dst (.agg b)) w):wpList P c Q (o::d) a w:=by have e:((#[(i,x),(j,y)]).map λ(i,x)=>(i,a.eval x)).toList=[(i,u),(j,v)]:=Ξ;refine wpList_build g t _ ho ?_ ?_;simp_all;rw[e,f];exact h
def Zqh(w:World)(turn p x:Nat)(e:Ending)(w':World):Prop:=e=dR (IF (turn%2) (Ha turn p x))/\Bw w w'
theorem VC(w:World)(d p x:Nat)(ht:d<18446744073709551616)(hp:p<65536)(hx:x<18446744073709551616):
  Cl 160 #[.agg #[.int .u64 d,dI p,.int .u64 x]] w (Zqh w d p x):=by
 obtain⟨z,al,aa,aU,ay,an⟩:=Df w [.int .u64 d,dI p,.int .u64 x] 191;obtain⟨f,am,ac,Y,aW,ao⟩:=Df z (Gz 0 (Dj 64)) 207;obtain⟨i,L⟩:∃X,f.alloc (.cells (Dd KQ).toArray 5 (4,5))=X:=⟨_,rfl⟩;have V:Bw f i:=by rw[<-L];exact(Ad _ _).alloc (Aa _) _
 have aX:i.heap.size=f.heap.size+1:=by rw[<-L];simp
 have Z:∀b t' R,Gb f b t' R->Gb i b t' R:=λb t' R h=>(V.block _ h.lt).M h;have av:i.heap[f.heap.size]?=some (.cells (Dd KQ).toArray 5 (4,5)):=by rw[<-L];exact Bv f _
 have az:=an.M ((ao.Q Ω).M (V.Q Ω));have H:=Z _ _ _ (Y _ _ _ aa);have ad:=Z _ _ _ ac;have aw:GL i (some (dQ f.heap.size 0)) 4 4 KQ:=by refine⟨rfl,λe=>(by cases e),λj v I=>⟨_,rfl,?_⟩⟩;rw[AG,Av];simp only[World.cell?,av];simpa using I
 have ak:Mr f.heap.size i (dS f.heap.size 4 4) KQ:=.inr ⟨_,_,rfl,aw⟩;have ae:Hid (Cl 212 #[dS f.heap.size 4 4,.int .u64 d,dI 8] i λe w'=>∃r t s,e=dR (dT r t s)/\Gb w' w.heap.size 191 [.int .u64 d,dI p,.int .u64 x]/\Gb w' z.heap.size 207 (Gz 0 (Dj 64))/\Hid (GD f.heap.size w' (dT r t s) (KQ++Ju d 8)/\Below f.heap.size i w')):=(Zfl i _ Ω _ _ _ KQ ak d ht 8 Ω Ω Δ).Q λe w' ⟨r,t,s,he,B,y,h3⟩=>by have D:Below f.heap.size i w':=⟨y.os,y.tape,y.output,y.size,λk hk=>y.block k Ω (λe=>by simp[Own,Value.ownBlock]at e;omega)⟩;exact⟨r,t,s,he,(D.block _ Ω).M H,(D.block _ Ω).M ad,B,D⟩
 have af:Hid (∀X a l c,Hid (GD f.heap.size X (dT a l c) (KQ++Ju d 8)/\Below f.heap.size i X)->Cl 214 #[.agg #[dI p,.int .u64 x],dT a l c] X λe w'=>∃r t s,e=dR (dT r t s)/\Hid (GD f.heap.size w' (dT r t s) (Oq d p x)/\Below f.heap.size i w')):=λX a l c M=>by obtain⟨B,y⟩:=Da M;have:=y.size;apply(Wk X _ Ω a l c _ B p x hp hx (by rw[Aj,Q9];decide)).Q;rintro e w'⟨r,t,s,rfl,q1,q2,q3⟩;exact⟨r,t,s,rfl,q1,y.M (B.d6 Ω q2)⟩
 have ag:Hid (∀X a l c,Hid (GD f.heap.size X (dT a l c) (Oq d p x)/\Below f.heap.size i X)->Cl 213 #[.int .u8 1,dT a l c] X λe w'=>e=dR (DC (IU d p x))/\Hid (Below f.heap.size i w')):=λX a l c M=>by obtain⟨B,y⟩:=Da M;apply(Zgc X a l c _ B.cc (by rw[ZrU];decide) 1).Q;rintro e w'⟨rfl,q⟩;exact⟨rfl,y.M (q.Q (by have:=y.size;omega))⟩
 have HM:Hid (∀g,Hid (Below f.heap.size i g)->∃A m,g.alloc (.cells (Dd (Dj 64)).toArray 188)=A/\Gb A g.heap.size 188 (Dd (Dj 64))/\A.setRow g.heap.size (Dd (IU d p x)).toArray=m/\
   Hid (Cl 215 #[dS g.heap.size 56 64] m.drew λe w'=>e=dR (.int .u64 (Dr ((IU d p x).extract 0 56)))/\w'=m.drew)/\
   Hid (Cl 212 #[dN,.int .u64 (Dr ((IU d p x).extract 0 56)),dI 8] m.drew λe w'=>∃r t s u,e=dR (dT r t s)/\(Builtin.copy_ #[59,59] 3 #[dT (some (dQ g.heap.size 56)) 8 8,dT r t s]).run prog w'=.ok (goInt 8) u/\u.cell? (dQ w.heap.size 0)=some (.int .u64 d)/\Hid (Gb u g.heap.size 188 (Dd (Ha d p x))/\Gb u z.heap.size 207 (Gz 0 (Dj 64))/\Bw w u))):=λg M=>by
  have D:=Da M;obtain⟨A,T,N,bd,aY,aR⟩:=Df g (Dd (Dj 64)) 188;obtain⟨m,F⟩:∃X,A.setRow g.heap.size (Dd (IU d p x)).toArray=X:=⟨_,rfl⟩;have aA:Gb m g.heap.size 188 (Dd (IU d p x)):=by rw[<-F];exact Bo A _ _ _ 188 _ N
  have U:Bw g m:=by rw[<-F];exact aR.M ⟨rfl,rfl,rfl,Θ,λj hj=>Bc A _ j _ Ω⟩
  have bf:m.heap.size=g.heap.size+1:=by rw[<-F];simp[World.setRow,aY]
  have a5:=D.size;have aV:GL m (some (dQ g.heap.size 0)) 56 64 ((IU d p x).extract 0 56):=by refine⟨by rw[Af,UU];rfl,λe=>(by cases e),λj v I=>⟨_,rfl,?_⟩⟩;rw[AG,Av,aA.J];rw[KC,Cs,AZ]at I;split at I;exact I;cases I
  refine⟨A,m,T,N,F,?_,?_⟩;have:=RD _ _ 56 64 _ (show GL m.drew (some (dQ g.heap.size 0)) 56 64 ((IU d p x).extract 0 56) from aV) (by rw[Af,UU];decide);rw[Rm]at this;exact this;apply(Pk m.drew _ (Aa _) none 0 0 _ (GD.nil _ _) _ (Q6 _) 8 Ω Δ).Q;rintro e w'⟨r,t,s,rfl,B,y,h3⟩;have G:Bw m w':=by have J:=(GD.nil m.heap.size m.drew).d6 (Aa _) y;exact⟨J.os,J.tape,J.output,J.size,J.block⟩
  have e0:(⟨#[]⟩:By)++⟨(DM (Dr ((IU d p x).extract 0 56)) 8).toArray⟩=Ju (Dr ((IU d p x).extract 0 56)) 8:=by apply AW;simp[Ju]
  rw[e0]at B;have a0:Gb w' g.heap.size 188 (Dd (IU d p x)):=(G.block _ Ω).M aA;obtain⟨u,r1,r2,O⟩:=T7 w' g.heap.size 188 _ a0 56 8 8 r t s _ B.cc (by rw[Q9];exact Aa _) (by rw[Dh,UU];exact Aa _);rw[Q9]at r1;rw[ck_spl]at r2;have bg:=G.size;have ab:∀k,k<f.heap.size->u.heap[k]?=i.heap[k]? := λk hk=>by rw[O.block k Ω (by simp;omega),G.block k Ω,U.block k Ω,D.block k hk]
  have aQ:Below f.heap.size i u:=⟨O.os.M (G.os.M (U.os.M D.os)),O.tape.M (G.tape.M (U.tape.M D.tape)),O.output.M (G.output.M (U.output.M D.output)),by have:=O.size;omega,ab⟩;refine⟨r,t,s,u,rfl,r1,?_,r2,(ab _ Ω).M ad,az.M (aQ.Q Ω)⟩;have:Gb u w.heap.size 191 [.int .u64 d,dI p,.int .u64 x]:=(ab _ Ω).M H;exact(this.J 0).M rfl
 obtain⟨aP,aZ,aT⟩:=P3;have W:=OQ d p x;have Q:=Db W;have HZ:=Db (UU d p x);have be:(d:Int).tmod 2=((d%2:Nat):Int):=by rw[C8 Ω];omega
 have aB:=Db (TR (d%2) (Ha d p x) W);have aI:=Db al;have aJ:=Db am;have aK:=Db L;have aE:=Db (show z.heap.size=w.heap.size+1 from ay);have aO:∀o,(f.alloc o).cell? (dQ w.heap.size 0)=some (.int .u64 d):=λo=>(AA (w:=f) (a:=dQ w.heap.size 0) (BH _ _ _ (show w.heap.size<f.heap.size by omega))).M (((Y _ _ _ aa).J 0).M rfl);have c0:i.cell? (dQ w.heap.size 0)=some (.int .u64 d):=(H.J 0).M rfl;have c1:i.cell? (dQ w.heap.size 1)=some (dI p):=(H.J 1).M rfl;have c2:i.cell? (dQ w.heap.size 2)=some (.int .u64 x):=(H.J 2).M rfl;clear aa aU ay an ac Y aW ao av Z aX V az H ad ak aw al am L W;have bc:=λ(w:World) (C:Array Value) (n c:Nat)=>Lib.run_convert_bytes_const (P:=prog) w 59 5 C n c underlying59 Φ;go_enter func160,ntmps160;go_upto_region 1 with(refine JG rfl 207 rfl Re ?_);rw[show w.alloc (.cells #[Value.int .u64 d,dI p,.int .u64 x] 191)=z from Da aI];rw[show z.alloc (.cells (Gz 0 (Dj 64)).toArray 207)=f from Da aJ];try simp only[pE]
 go_upto_region 3 with(first|(go_at_call 212;rw[show f.alloc (.cells #[.int .u8 115,.int .u8 105,.int .u8 108,.int .u8 116] 5 (4,5))=i from Da aK];apply(Da ae).Q;rintro e w1⟨a1,l1,a3,rfl,au,ac,aF⟩;have m1:=au.J 1;have m2:=au.J 2;clear aO)|(go_at_call 214;apply(Da af _ _ _ _ aF).Q;rintro e w2⟨a2,l2,a4,rfl,aG⟩)|(go_at_call 213;apply(Da ag _ _ _ _ aG).Q;rintro e g⟨rfl,aH⟩;obtain⟨A,m,T,N,F,aj,ah⟩:=Da HM g aH;have aL:=Db T;have aM:=Db F;have aN:=Db N;clear T F N)|(refine JG rfl 188 rfl Ky ?_;rw[show g.alloc (.cells (Dd (Dj 64)).toArray 188)=A from Da aL])|(refine Bh rfl 188 _ _ rfl g.heap.size (Dd (IU d p x)).toArray rfl rfl 188 _ (Da aN) (by rw[D4];simp[Dh,Da HZ]) (by simp[Dh,JA,Da HZ]) (KI _) ?_;rw[Da aM]));refine Az (S:=λ_=>True) Φ trivial (λba=>?_);refine tk 0 ?_;refine tk 1 ?_;refine rk 2 (λK E=>?_);go_simp;go_at_call 215;apply(Da aj).Q;rintro e w'⟨rfl,hw⟩;rw[hw];clear hw;go_wp2_with fail;refine E.out _ _ trivial (λa6=>?_);clear E K;try simp only[pE]
 refine rk 3 (λK E=>?_);go_simp;go_at_call 212;apply(Da ah).Q;rintro e w7⟨a7,l7,c7,u,rfl,ar,bb,HP⟩;go_wp2_with fail;refine E.out _ _ trivial (λa8=>?_);clear E K;try simp only[pE]
 refine rk 4 (λK E=>?_);refine Uh rfl _ _ 59 59 rfl _ _ rfl rfl ar ?_;refine E.out _ _ trivial (λa9=>?_);clear E K;try simp only[pE]
 refine AL Φ ?_ _;obtain⟨aq,ax,ap⟩:=Da HP;have aD:=Db aq;have ai:=Db ax;have aC:=Db ap;clear aq ax ap HP ae af ag HM aj ah ar;go_upto_region 4 with fail;refine A7 ?_;go_wp2_with(first|(refine wpList_load_row rfl 188 _ rfl g.heap.size rfl 188 _ (0,0) _ (Da aD) Kv rfl (by rw[D4];simp[Dh,Da Q]) ?_)|(refine ZiA rfl 207 0 1 _ _ rfl (dI ((d%2:Nat):Int)) (DC (Ha d p x)) rfl rfl (Da aB) ?_)|(refine Bh rfl 207 _ _ rfl z.heap.size (Gz (d%2) (Ha d p x)).toArray rfl rfl 207 _ (Da ai) (by rw[Q5];simp[KD,Da Q]) (by simp[KD,Da Q,JA]) (CH (Rh _ _)) ?_));have aS:Gb (u.setRow z.heap.size (Gz (d%2) (Ha d p x)).toArray) z.heap.size 207 (Gz (d%2) (Ha d p x)):=Bo u _ _ _ 207 _ (Da ai);refine Am (v:=IF (d%2) (Ha d p x)) (FC rfl _ _ z.heap.size 207 _ (0,0) _ rfl aS aZ (by cases aP<;>first|rfl|(simp[TypeDesc.isRow]at aT)) ?_) rfl ⟨rfl,?_⟩;rw[Q5];simp[KD,Da Q];have hn:=Da aE;exact(Da aC).M ⟨rfl,rfl,rfl,Θ,λj hj=>Bc u _ j _ Ω⟩
def KP(db sb so:Nat)(nd:Nat->Int)(cl:Bool)(hd:Nat)(va:Value)(tp tx:Int)(vp:Value):Gf:=
 [dP db,.pointer (some (dQ sb so))]++Hl nd++[dV cl,dI hd,va,dI tp,.int .u64 tx,vp]
theorem Zq6(b d so:Nat)(a:Nat->Int)(cl:Bool)(c:Nat)(g:Value)(e f:Int)(i:Value)(j:Nat)(h:j<96):(KP b d so a cl c g e f i)[2+j]?=some (dI (a j)):=by grind [KP,List.append_assoc,List.getElem?_append_right,List.getElem?_append_left,KL,UM]
theorem JR(f h so:Nat)(g:Nat->Int)(cl:Bool)(a:Nat)(d:Value)(b c:Int)(e:Value)(j:Nat):(KP f h so g cl a d b c e)[98+j]? = [Value.bool cl,dI a,d,dI b,.int .u64 c,e][j]? := by unfold KP;rw[AJ (by simp[KL])];simp[KL]
theorem ZO(a d so:Nat)(c:Nat->Int)(cl:Bool)(b:Nat)(g:Value)(e f:Int)(h:Value)(j:Nat)(u:Value):(KP a d so c cl b g e f h).set (98+j) u=[dP a,.pointer (some (dQ d so))]++Hl c++[Value.bool cl,dI b,g,dI e,.int .u64 f,h].set j u:=by unfold KP;grind [KL]
structure Gl(w:World)(pb db sb so:Nat)(nd:Nat->Int)(cl:Bool)(hd:Nat)(va:Value)(es:LI)(tp tx:Int)(vp:Value)(ps:LB):Prop where
 row:Gb w pb 184 (KP db sb so nd cl hd va tp tx vp)
 sa:Sl w 350 2 va es.length (DH es)
 sp:Iq w vp ps
 oa:¬Own va pb
 op:¬Own vp pb
 ap:∀k,Own va k->¬Own vp k
theorem Gl.below{f:Nat->Int}{e:Nat}{m:Value}{d:LI}{j l:Int}{n:Value}{g:LB}(h:Gl w pb c i so f cl e m d j l n g)(a:Bw w w'):Gl w' pb c i so f cl e m d j l n g:=
 ⟨(a.block _ h.row.lt).M h.row,h.sa.kept (λk b _=>a.block k b),Sl.kept h.sp (λk b _=>a.block k b),h.oa,h.op,h.ap⟩
theorem Gl.cells{a d:Nat}{c:Nat->Int}{e:Value}{g:LI}{k l:Int}{f:Value}{i:LB}(h:Gl w pb a d so c cl b e g k l f i):
  w.cell? (dQ pb 0)=some (dP a)/\w.cell? (dQ pb 1)=some (.pointer (some (dQ d so)))/\(∀j,j<96->w.cell? (dQ pb (2+j))=some (dI (c j)))/\w.cell? (dQ pb 98)=some (dV cl)/\w.cell? (dQ pb 99)=some (dI b)/\w.cell? (dQ pb 100)=some e/\w.cell? (dQ pb 103)=some f:=
 ⟨(h.row.J 0).M rfl,(h.row.J 1).M rfl,λj hj=>(h.row.J (2+j)).M (by grind [Zq6]),(h.row.J 98).M (by grind [JR]),(h.row.J 99).M (by grind [JR]),(h.row.J 100).M (by grind [JR]),(h.row.J 103).M (by grind [JR])⟩
theorem Gl.next{a d:Nat}{c:Nat->Int}{j:Value}{m:LI}{f i:Int}{l:Value}{q:LB}(h:Gl w pb a d so c cl n j m f i l q)(p:Nat)(r:Gb w' pb 184 ((KP a d so c cl n j f i l).set 99 (dI ((p+1:Nat):Int))))(o:Fr (λk=>k=pb) w w'):Gl w' pb a d so c cl (p+1) j m f i l q:=
 ⟨by exact r,h.sa.e o (λg b e=>h.oa (by rw[<-e];exact b)),Sl.e h.sp o (λg b e=>h.op (by rw[<-e];exact b)),h.oa,h.op,h.ap⟩
theorem Gl.h7{p:Nat}{n:Nat->Int}{s:Value}{d:LI}{q:Int}{b a:Value}{A o:LB}(h:Gl w pb c p so n cl f s d q r b A)(u:Iq w' a o)(i:Fr (Own b) w w')(l:Dm w b a):Gl (w'.setCell (dQ pb 103) a) pb c p so n cl f s d q r a o:=by have y:=h.row.e i h.op;have z:=h.sa.e i (λg v=>h.ap g v);have m:¬Own a pb:=λe=>(l _ e).elim h.op (λt=>by have:=h.row.lt;omega);refine⟨?_,z.setCell _ _ h.oa,Sl.setCell u _ _ m,h.oa,m,λk j x=>(l _ x).elim (h.ap k j) (λt=>by have:=h.sa.lt j;omega)⟩;have:=y.set 103 a;exact this
theorem Gl.put{q:Nat}{o:Nat->Int}{j:Nat}{g a:Value}{u c:LI}{s:Int}{t:Value}{p:LB}(h:Gl w pb i q so o cl j g u r s t p)(v:Sl w' 350 2 a c.length (DH c))(n:Dm w g a)(l:Ls w w' pb 100 g a):Gl w' pb i q so o cl j a c r s t p:=by have x:¬Own a pb:=λe=>(n _ e).elim h.oa (λd=>by have:=h.row.lt;omega);refine⟨?_,v,Sl.kept h.sp (λk f e=>l.block k f (λb=>h.op (by rw[<-b];exact e)) (λb=>h.ap k b e)),x,h.op,λk f m=>(n _ f).elim (λd=>h.ap k d m) (λd=>by have:=Sl.lt h.sp m;omega)⟩;have:=h.row.set 100 a;exact l.head.M this
theorem Zhd(X:World)(t:TypeId)(i j:Nat)(x y:Operand)(ho:o.op=.build t #[(i,x),(j,y)])(u v:Value)(hx:a.eval x=u)(hy:a.eval y=v){b:Array Value}(hb:P.built t [(i,u),(j,v)]=some b):(execOp a.eval o).run P X=.ok (.value (.agg b)) X:=by simp_all[execOp,run_build]
def OM(w:World)(pb db sb so:Nat)(nd:Nat->Int)(cl:Bool)(va:Value)(es:LI)(tp tx:Int)(vp:Value)(ps:LB)(r:Nat)(s:By)(p:Nat)(e:Ending)(w':World):Prop:=
 e=dR (.agg #[dI (p:Nat),.int .u64 (Dr s:Nat)])/\∃va' es' vp',Gl w' pb db sb so nd cl (p+1) va' es' tp tx vp' (ps++[(p,s)])/\GM es'/\es'.length=es.length+1/\(∀x,x∈es'↔x=((r:Int),(p:Int))\/x∈es)/\Fr (λk=>k=pb\/Own va k\/Own vp k) w w'/\Dm w va va'/\Dm w vp vp'
section
open Go.RowKit Go.Shelf
attribute [local go_sem] Oper.semAt_some
theorem Zm6(g:∀c,o.op≠.defer c)(h:o.wp P a w K Q):o.wpIn (Fence.wide.inRound l) n P a w K Q:=by
 refine⟨λf _=>trivial,?_⟩;have e:(o.semAt (Fence.wide.inRound l).round a.eval)=execOp a.eval o:=Oper.semAt_some l _ o g;rw[e];unfold Oper.wp at h;generalize (execOp a.eval o).run P w=r at *
 cases r with
 |ok x w'=>
  cases x with
  |enter f args=>exact⟨λb=>(by cases b),CQ l (Bg.2 h)⟩
  |row row args=>exact⟨λb=>(by cases b),λc d _=>let ⟨v,w',r,s⟩:=h c d;⟨v,w',r,stepsIn_wide.2 s⟩⟩
  |_=>first|exact h|exact h.elim
 |halt x w'=>cases x<;>first|exact h|exact h.elim
theorem ZeC{P:Program}{n l:Nat}{k:Region.Mode}{d:Array Oper}{Q:Exit->Act->World->Prop}(e:¬LetsOut Q)(g:∀(i:Nat) (o:Oper),d[i]?=some o->∀c,o.op≠.defer c):
  ∀(fuel:Nat) (listed:Array Bool) (a:Act) (w:World),wpAny P k d Q fuel listed a w->wpAnyIn (Fence.wide.inRound l) n P k d Q fuel listed a w
 |0,_,_,_,h=>h
 |fuel+1,listed,a,w,h=>⟨h.1,λi q=>by
  have b:=wpOp_mono (λm w' p=>ZeC e g (n:=n) (l:=l) fuel _ m w' p) (h.2 i q);unfold wpOp at b;unfold wpOpIn;cases ho:d[i]? with
  |none=>rw[ho]at b;exact b
  |some o=>
   rw[ho]at b;simp only at b ⊢;by_cases j:Region.wanted o (yielded d a.tmps)=true;rw[if_pos j]at b ⊢;rcases b with b|b;exact Zm6 (g i o ho) b;exact absurd b.2 e;rw[if_neg j]at b ⊢;exact⟨λf _=>trivial,b⟩⟩
def XR(ops:Array Oper):Bool:=ops.all λo=>match o.op with|.defer _=>false|_=>true
theorem Zni{a:Array Oper}(h:XR a=true):∀(i:Nat) (o:Oper),a[i]?=some o->∀c,o.op≠.defer c:=λi o ho c e=>by have:=Array.all_eq_true_iff_forall_mem.1 h o (Array.mem_of_getElem? ho);simp_all
theorem ZdN{id:Nat}{b:Array Oper}(S:World->Prop)(e:P.follows .mixedOrders=true)(d:¬LetsOut Q)(f:XR b=true)(c:S w.drew)(h:S w.drew->wpAnyH P .any b Q S b.size (Array.replicate b.size false) a w.drew):(Code.region id b true).wpIn (Fence.wide.inRound l) n P Q a w:=
 wpIn_region_any e (ZeC d (Zni f) _ _ _ _ (wpAny_of_held _ _ _ _ (h c)))
theorem TS(v:Value)(b:Nat)(h1:0<b)(hz:b<1000000)(n:Nat)(w:World)(d:∃a l c,v=dT a l c):
  CallsIn Fence.wide n prog 172 #[v,dI b] w λe w'=>e=dR (.func (.func 220) #[] #[dP w.heap.size,.pointer (some ⟨w.heap.size+1,0,none⟩)])/\w'=(w.alloc (.cells #[v] 59)).alloc (.cells #[dI b] 3):=by
 obtain⟨a,l,c,rfl⟩:=d;refine Bg.2 ?_;go_wp2;go_ret;simp_all
def LN(g off sz len k:Nat):Value:=.slice (some (dQ g (off+k*sz))) (min sz (len-k*sz)) (min sz (len-k*sz))
theorem Zhj(n:Nat)(hn:1<=n)(f j g off b c d:Nat)(h1:0<b)(hz:b<1000000)(an:c<=d)(hl:c<1000000)(N:Nat)(t:N=(c+b-1)/b)(w:World)(ac:f<w.heap.size)(ad:j<w.heap.size)(I:w.cell? (dQ f 0)=some (dT (some (dQ g off)) c d))(K:w.cell? (dQ j 0)=some (dI b))(E:World->World->Prop)(O:∀A B,E A B->A.cell? (dQ f 0)=some (dT (some (dQ g off)) c d)->A.cell? (dQ j 0)=some (dI b)->B.cell? (dQ f 0)=some (dT (some (dQ g off)) c d)/\B.cell? (dQ j 0)=some (dI b)):
  SeqStopsK Fence.wide n prog 220 #[dP f,dP j] (λk:Nat => #[LN g off b c k]) E (λys=>ys=List.range N) (λak=>ak <+: List.range N) N w:=λl J Jx W u L _ R h0=>by
 have c1:=(u.J (p:=dQ f 0) ac).M I;have c2:=(u.J (p:=dQ j 0) ad).M K;have HY:=Db R;have Q:∀k,k<N->k*b<c:=λk U=>by
  have h2:(k+1)*b<=N*b:=Nat.mul_le_mul_right _ U;have H:N*b<=c+b-1:=by rw[t];exact Nat.div_mul_le_self _ _
  rw[Fb]at h2;omega
 have P:c<=N*b:=by have H:=Nat.lt_div_mul_add (a:=c+b-1) h1;rw[<-t]at H;omega
 have aa:=Db Q;have ab:=Db P;have Z:=Db O;have Y:=Db L;clear R u Q P I K t O L;refine CA func220 rfl trivial ?_ rfl;simp only[ntmps220,AS,Ay,AR,Nat.reduceAdd,Nat.reduceSub,AY,AX,Be,A5,AH,AK]
 gi_wp2
 gi_loopw [4] (λi wr=>∃k:Nat,k<=N/\i=dI ((k*b:Nat):Int)/\wr.cell? (dQ f 0)=some (dT (some (dQ g off)) c d)/\wr.cell? (dQ j 0)=some (dI b)/\Hid (J (List.range k) wr))
  (λi _=>c-(intOf i).toNat)
 case atStart=>exact⟨0,Ao _,by rw[F2];rfl,c1,c2,h0⟩
 case round=>
  obtain⟨k,U,rfl,F,G,z⟩:=hrel;by_cases x:k<N
  .have aj:=Da aa k x;obtain⟨q,y⟩:=ex (k*b);rw[<-y]at aj ⊢;obtain⟨m,V⟩:=ex (min b (c-q));have ao:0<m:=Ω;have aq:m<=c-q:=Ω;have ar:m<=b:=Ω;have D:Hid (List.range (k+1)=List.range k++[k]):=B8;have C:=Db y;have o:=Db V;have aw:(q:Int)<(c:Int):=Ω;have av:¬d=q:=Ω;have ax:q<=c:=Ω;clear y V;have M:J (List.range k) wr.drew:=Da Y _ _ _ none (Da z) ⟨rfl,rfl,rfl,Aa _,λ_ _ _=>rfl⟩ (λr e=>by cases e);have T:LN g off b c k=.slice (some (dQ g (off+q))) m m:=(by unfold LN;rw[<-Da C,<-Da o]);obtain⟨fn,tmps,assign,body,hy,hR⟩:=Da HY (List.range k) k wr.drew M (by rw[Bl];exact x);rw[T]at hy;have ap:(if (b:Int)<=(c:Int)-(q:Int) then(b:Int) else(c:Int)-(q:Int))=(m:Int):=(by have:=Da o;split<;>omega);clear M T
   gi_wp2
   refine Ck.2 ?_;refine Az (S:=λX=>X.cell? (dQ f 0)=some (dT (some (dQ g off)) c d)/\X.cell? (dQ j 0)=some (dI b)) Φ ⟨F,G⟩ (λae=>?_);refine tk 0 ?_;refine tk 1 ?_;refine tk 2 ?_;refine tk 3 ?_;refine tk 4 ?_;refine A4 (i:=5) (v:=dI (m:Nat)) rfl Φ Φ Φ (λ_ _ _ h=>h) (Or.inl ⟨by rfl,?_⟩) Ψ ?_
   .intro w ah;(try dsimp only at ah);go_simp;have s:=Da o;omega
   try simp only[pE]
   refine tk 6 ?_;refine AL Φ ?_ _;clear ae;have ay:q+m<=d:=Ω;have az:q+m-q=m:=Ω;have au:¬q+m=q:=Ω;have aA:((q:Int)+(m:Int))<=(d:Int):=Ω
   gi_wp2
   apply hR.Q;rintro e W3 (⟨rfl,af,ai⟩|⟨rfl,ag⟩)
   .obtain⟨k1,k2⟩:=Da Z _ _ ai F G
    gi_wp2
    go_roundw
    case rel=>exact⟨k+1,Ω,by rw[Fb,Nat.one_mul,<-Da C]<;>go_num,k1,k2,by show J _ _;rw[Da D];exact af⟩
    case measure=>simp[intOf];omega
   .gi_wp2
    refine Am (CU rfl _ _ _) rfl ?_;exact⟨⟨_,rfl⟩,.inr ⟨_,by rw[<-Da D];(have s:=FI (k+1) (List.range N);rw[List.take_range,BI x]at s;exact s),ag⟩⟩
  .obtain rfl:k=N:=Ω;have al:=Da ab;have am:¬(((k*b:Nat):Int)<(c:Int)):=Ω
   gi_wp2
   go_end0
   exact⟨⟨_,rfl⟩,.inl (Da z)⟩
end
