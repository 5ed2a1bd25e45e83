/- Failed. -/
import Derived.Test.YtaieidcohdhgpaaGreatDoorSBD
namespace Go.Proofs.YtaieidcohdhgpaaGreatDoor
set_option maxHeartbeats 40000000
set_option maxRecDepth 100000
open Go.RowKit
def enE(ep:List Int)(n:Nat)(e:Int):Nat:=if e<0 then 0 else match ep[e.toNat]? with|some x=>x.toNat|none=>n
def stE(ep:List Int)(n:Nat)(e:Int):Nat:=if e<=0 then 0 else enE ep n (e-1)
theorem ZjI(w:World)(f:Nat)(s j:OA)(b t le l:Nat)(ep:List Int)(hp:w.cell? ⟨f,2,none⟩=some (.slice s b t))(he:w.cell? ⟨f,3,none⟩=some (.slice j le l))(c:Sl w 3 1 (.slice j le l) ep.length (ep.map (.int .i64)))(i:∀x∈ep,0<=x)(e:Int)(o:e<9223372036854775808):
  Calls Tryz.prog 142 #[.pointer (some ⟨f,0,none⟩),.int .i64 e] w fun r w'=>r = .returned (.int .i64 (enE ep b e:Nat))/\w'=w:=by
 have p:le=ep.length:=c.len;by_cases h:e<0
 ·have a:enE ep b e=0:=by unfold enE;rw[if_pos h]
  rw[a];go_enter Tryz.func142,Tryz.ntmps142;go_wp2;go_ret;exact⟨rfl,rfl⟩
 ·obtain⟨k,rfl⟩:∃k:Nat,e=(k:Int):=⟨e.toNat,by omega⟩;by_cases m:k<le
  ·obtain⟨x,d⟩:∃x,ep[k]?=some x:=⟨_,List.getElem?_eq_getElem (by omega)⟩;have a:((enE ep b k:Nat):Int)=x:=by
    unfold enE;rw[if_neg h,Int.toNat_natCast,d];exact Int.toNat_of_nonneg (i x (List.mem_of_getElem? d))
   rw[a];rcases c.2 with⟨_,hz⟩|⟨g,aa,L,eq,n,v,y,z,q⟩
   ·omega
   simp only[Value.slice.injEq]at eq;obtain⟨rfl,_,rfl⟩:=eq;have hc:w.cell? ⟨g,k,none⟩=some (.int .i64 x):=by
    rw[n.cell];have:(L.take (ep.length*1))[k]?=some (.int .i64 x):=by rw[q,List.getElem?_map,d];rfl
    rw[List.getElem?_take]at this
    split at this
    ·exact this
    ·cases this
   have u:(k:Int)<(le:Int):=by omega
   clear c n v y z q i a d p o m;go_enter Tryz.func142,Tryz.ntmps142;go_wp2;go_ret;exact⟨rfl,rfl⟩
  ·have a:enE ep b k=b:=by
    unfold enE;rw[if_neg h,Int.toNat_natCast,List.getElem?_eq_none (by omega)]
   rw[a];have u:¬(k:Int)<(le:Int):=by omega
   clear c i a p o m;go_enter Tryz.func142,Tryz.ntmps142;go_wp2;go_ret;exact⟨rfl,rfl⟩
theorem Zj0(w:World)(b:Nat)(g d:OA)(a h le f:Nat)(ep:List Int)(m:w.cell? ⟨b,2,none⟩=some (.slice g a h))(k:w.cell? ⟨b,3,none⟩=some (.slice d le f))(j:Sl w 3 1 (.slice d le f) ep.length (ep.map (.int .i64)))(l:∀x∈ep,0<=x)(e:Int)(aa:e<9223372036854775808):
  Calls Tryz.prog 140 #[.pointer (some ⟨b,0,none⟩),.int .i64 e] w fun r w'=>r = .returned (.int .i64 (stE ep a e:Nat))/\w'=w:=by
 by_cases i:e<=0
 ·have c:stE ep a e=0:=by unfold stE;rw[if_pos i]
  rw[c];go_enter Tryz.func140,Tryz.ntmps140;go_wp2;go_ret;exact⟨rfl,rfl⟩
 ·have c:stE ep a e=enE ep a (e-1):=by unfold stE;rw[if_neg i]
  rw[c];have n:=Db (ZjI w b g d a h le f ep m k j l (e-1) (by omega));have hw:IntKind.i64.wrap (e-1)=e-1:=by rw[IntKind.wrap_i64];omega
  clear j l c m k;go_enter Tryz.func140,Tryz.ntmps140;go_wp2_with (go_at_call 142;refine(Da n).mono ?_;rintro r w' ⟨rfl,rfl⟩);go_ret;exact⟨rfl,rfl⟩
def Jt(st:Nat)(lost:List Bool)(k:Nat):Bool:=decide (st<=k) && (lost[k-st]?).getD false
def D7(F:LY)(ps:LB)(st:Nat)(lost:List Bool):Nat->LY
 | 0=>F
 | k+1=>if Jt st lost k=true then D7 F ps st lost k else match ps[k]? with
  | some x=>(D7 F ps st lost k).set x.1 x.2
  | none=>D7 F ps st lost k
theorem Qw(F:LY)(ps:LB)(st:Nat)(lost:List Bool):∀k,(D7 F ps st lost k).length=F.length
 | 0=>rfl
 | k+1=>by
  unfold D7
  split
  ·exact Qw F ps st lost k
  ·split
   ·rw[List.length_set];exact Qw F ps st lost k
   ·exact Qw F ps st lost k
def RdT(w:World)(a:OA)(xs:List Bool):Prop:=∀(j:Nat) (v:Bool),xs[j]?=some v->∃g f,a=some ⟨g,f,none⟩/\w.cell? ⟨g,f+j,none⟩=some (.bool v)
theorem Vf{F:LY}{ps:LB}{st:Nat}{lost:List Bool}{k:Nat}(h:Jt st lost k=true):D7 F ps st lost (k+1)=D7 F ps st lost k:=by
 show(if Jt st lost k=true then _ else _)=_;rw[if_pos h]
theorem Q6{F:LY}{ps:LB}{st:Nat}{lost:List Bool}{k:Nat}(h:Jt st lost k=false){x:Nat×By}(a:ps[k]?=some x):D7 F ps st lost (k+1)=(D7 F ps st lost k).set x.1 x.2:=by
 show(if Jt st lost k=true then _ else _)=_;rw[if_neg (by rw[h];decide),a]
theorem Zi6(w:World)(b:Nat)(vf vn vw ve:Value)(D F:LY)(ps:LB)(ep:List Int)(h:DS w b vf vn vw ve D)(hF:SlD w vf F)(aE:F.length=1536)(Q:SlP w vw ps)(aK:∀x∈ps,x.1<1536/\x.2.size=64)(aW:ps.length<=1000000000)(hE:Sl w 3 1 ve ep.length (ep.map (.int .i64)))(ah:∀x∈ep,0<=x/\x<=ps.length)
  (e:Int) (he:e<9223372036854775808) (al:OA) (cl:Nat) (lost:List Bool) (aJ:RdT w al lost) (aV:lost.length<=1000000000):
  Calls Tryz.prog 80 #[.pointer (some ⟨b,0,none⟩),.int .i64 e,.slice al lost.length cl] w (Qi w (D7 F ps (stE ep ps.length e) lost (enE ep ps.length e))):=by
 obtain⟨P,m,E,rfl⟩:=Q.shape;obtain⟨ae,le,ce,rfl⟩:=hE.shape;obtain⟨af,lf,cf,rfl⟩:=hF.1.shape;have S:m=ps.length:=Sl.len Q;have a9:m<=E:=by
  rcases Q.2 with⟨q,hz⟩|⟨g,a3,L,q,_,V,_⟩
  ·simp only[Value.slice.injEq]at q;omega
  ·simp only[Value.slice.injEq]at q;omega
 have c0:w.cell? ⟨b,0,none⟩=some (.slice af lf cf):=(h.1.cell 0).trans rfl;have c2:w.cell? ⟨b,2,none⟩=some (.slice P m E):=(h.1.cell 2).trans rfl;have c3:w.cell? ⟨b,3,none⟩=some (.slice ae le ce):=(h.1.cell 3).trans rfl;have M:=h.1.lt;rw[<-S];obtain⟨a,aw⟩:∃n,n=stE ep m e:=⟨_,rfl⟩;obtain⟨N,hN⟩:∃n,n=enE ep m e:=⟨_,rfl⟩;have HS:Hid (∀X,Below w.heap.size w X->Calls Tryz.prog 140 #[.pointer (some ⟨b,0,none⟩),.int .i64 e] X fun r w'=>r = .returned (.int .i64 (a:Nat))/\w'=X):=fun X y=>by
  rw[aw];exact Zj0 X b P ae m E le ce ep ((y.cell (p:=⟨b,2,none⟩) M).trans c2) ((y.cell (p:=⟨b,3,none⟩) M).trans c3) (hE.kept (fun k z _=>y.block k z)) (fun x l=>(ah x l).1) e he
 have HN:Hid (∀X,Below w.heap.size w X->Calls Tryz.prog 142 #[.pointer (some ⟨b,0,none⟩),.int .i64 e] X fun r w'=>r = .returned (.int .i64 (N:Nat))/\w'=X):=fun X y=>by
  rw[hN];exact ZjI X b P ae m E le ce ep ((y.cell (p:=⟨b,2,none⟩) M).trans c2) ((y.cell (p:=⟨b,3,none⟩) M).trans c3) (hE.kept (fun k z _=>y.block k z)) (fun x l=>(ah x l).1) e he
 have a7:N<=m:=by
  rw[hN];unfold enE
  split
  ·omega
  ·split
   ·rename_i x l;have:=ah x (List.mem_of_getElem? l);omega
   ·omega
 rw[<-aw,<-hN];have HC:=Db (ZfI w (.slice af lf cf) F hF (by omega) (by omega));have HD:Hid (∀X,Below w.heap.size w X->X.cell? ⟨b,2,none⟩=some (.slice P m E)):=fun X y=>(y.cell (p:=⟨b,2,none⟩) M).trans c2
 have I:=Db Q;have ab:=Db aK;have aP:=Db S;have aj:=Db aJ;have Y:=Db aE;obtain⟨ll,az⟩:∃n,n=lost.length:=⟨_,rfl⟩;rw[<-az];have aD:=Db az;have bc:ll<=1000000000:=by omega
 have bd:m<=1000000000:=by omega
 clear h hF Q hE ah aw hN c2 c3 aK S aW aE aJ az aV;have a0:Below w.heap.size w w:=Below.refl _ _;go_enter Tryz.func80,Tryz.ntmps80;go_upto_region 3 with(first|(go_at_call 140;refine(Da HS _ a0).mono ?_;rintro r w' ⟨rfl,T⟩;rw[T];clear T)|(go_at_call 141;refine(Da HC).mono ?_;rintro r X ⟨a1,l1,J,rfl,aF,R,aG⟩;have ac:=Db aF;have av:=Db aG;clear aF aG));have d2:=Da HD X R;clear c0 HS HC;have a6:(N:Int)<=(m:Int):=by omega
 have a5:N<=E:=by omega
 go_region_held3 (fun W=>W.cell? ⟨b,2,none⟩=some (.slice P m E)) (go_keep) (first|(go_at_call 142;refine(Da HN _ (by first|exact R|exact R.drew)).mono ?_;rintro r w' ⟨rfl,T⟩;rw[T];clear T))
 clear d2 HN HD;have aS:=Db R;clear R M;obtain⟨dd,aZ,aX⟩:=UC;go_wp2
 go_loopw [28] (fun i wr=>∃k:Nat,k<=N/\i = .int .i64 k/\Hid (SlD wr (.slice a1 l1 J) (D7 F ps a lost k)/\Below w.heap.size w wr)) (fun i _=>N-(intOf i).toNat)
 case atStart=>exact⟨0,Nat.zero_le _,rfl,⟨(Da ac).1.kept (fun k z _=>rfl),(Da ac).2⟩,(Da aS).drew⟩
 case round=>
  obtain⟨k,z,rfl,Z⟩:=hrel;by_cases be:k<N
  ·obtain⟨U,C⟩:=Da Z;have S:=Da aP;obtain⟨⟨p,s⟩,l⟩:∃x,ps[k]?=some x:=⟨_,List.getElem?_eq_getElem (by omega)⟩;obtain⟨aB,ai⟩:=Da ab _ (List.mem_of_getElem? l);have G:(D7 F ps a lost k).length=1536:=by rw[Qw];exact Da Y
   obtain⟨gp,rfl,_,aM⟩:=SlP.range (Sl.kept (Da I) (fun k z _=>C.block k z)) (fun x l=>(Da ab x l).2) k _ l;obtain⟨W,hW,xW,kW,sW,bW⟩:=De wr (pcL 0 (Dm 64)) 207;obtain⟨c,ag⟩:∃X,W.setRow wr.heap.size (pcL p s).toArray=X:=⟨_,rfl⟩;have aC:RowIs c wr.heap.size 207 (pcL p s):=by rw[<-ag];exact setRow_heap W _ _ _ 207 _ xW
   have ay:Below wr.heap.size wr c:=by rw[<-ag];exact bW.trans ⟨rfl,rfl,rfl,by simp,fun j hj=>setRow_other W _ j _ (by omega)⟩
   have o3:SlD c (.slice a1 l1 J) (D7 F ps a lost k):=⟨U.1.kept (fun k z _=>ay.block k z),U.2⟩;have o4:Below w.heap.size w c:=C.trans (ay.mono C.size);obtain⟨t,c',O,e',ad,ax,V,q2,q3⟩:=o3.row (by omega);rw[G]at e' ax;simp only[Value.slice.injEq]at e';obtain⟨rfl,rfl,rfl⟩:=e';have ba:w.heap.size<=t:=Da av t rfl;have aH:(pcL p s).length=65:=by rw[JN,ai]
   have aI:(Dc s).length=64:=by rw[Dg,ai]
   have a4:c.cell? ⟨wr.heap.size,0,none⟩=some (.int .i64 p):=(aC.cell 0).trans rfl;have ao:Hid (c.rangeAt wr.heap.size 1 (Dc s)):=fun j v A=>by
    rw[aC.cell];show(pcL p s)[1+j]? = _;rw[Nat.add_comm];exact A
   have aO:Hid (Jt a lost k=true->SlD c (.slice (some ⟨t,0,none⟩) 1536 J) (D7 F ps a lost (k+1))/\Below w.heap.size w c):=fun q=>by rw[Vf q];exact⟨o3,o4⟩
   obtain⟨W3,B⟩:∃X,c.setRow t (spl O (p*64) (Dc s)).toArray=X:=⟨_,rfl⟩;have ar:Hid (Jt a lost k=false->SlD W3 (.slice (some ⟨t,0,none⟩) 1536 J) (D7 F ps a lost (k+1))/\Below w.heap.size w W3):=fun q=>by
    have a2:RowIs W3 t 188 (spl O (p*64) (Dc s)):=by rw[<-B];exact setRow_heap c _ _ _ 188 _ ad
    have:=SlD.set ad (by rw[G];exact ax) V q2 q3 o3.2 p s (by rw[G];exact aB) ai W3 a2;rw[Q6 q l];rw[G]at this;exact⟨this,o4.trans ⟨by rw[<-B];rfl,by rw[<-B];rfl,by rw[<-B];rfl,by rw[<-B];simp,fun j hj=>by rw[<-B];exact setRow_other c _ j _ (by omega)⟩⟩
   have aa:Hid (∀d v,lost[d]?=some v->∃g f,al=some ⟨g,f,none⟩/\c.cell? ⟨g,f+d,none⟩=some (.bool v)):=fun d v A=>by
    obtain⟨g,f,h1,h2⟩:=Da aj d v A;exact⟨g,f,h1,(o4.cell (p:=⟨g,f+d,none⟩) (World.block_lt_of_cell? _ _ h2)).trans h2⟩
   have HR:=Db aM;have HW:=Db hW;have HX:=Db xW;have aR:=Db ag;have au:=Db B;have HL:=Db aH;have o:=Db aI;have aq:=Db ad;have an:=Db q3;have aA:Hid (∀u∈Dc s,u.oneCell'=true):=Kc s;have bb:(k:Int)<(N:Int):=by omega
   have bf:(p:Int)<1536:=by omega
   have aL:1536<=J:=by rw[G]at V;exact V
   have am:=Db aL;have ak:=Db aB;clear U C o3 o4 l ai aM hW xW kW sW bW ag aC ay ad ax V q2 q3 G aH aI B Z ac av I ab aj Y aL S aB;go_upto_region 6 with(first|(refine wpList_load_mid rfl 207 _ rfl gp (k*65) rfl (pcL p s) _ (Da HR) aZ aX (by rw[KW,Da HL]) ?_)|(refine JF rfl 207 rfl US ?_;rw[show wr.alloc (.cells (pcL 0 (Dm 64)).toArray 207)=W from Da HW])|(refine wpList_store_row rfl 207 _ _ rfl wr.heap.size (pcL p s).toArray rfl rfl 207 _ (Da HX) (by rw[KW];simp[Da HL]) (by simp[Da HL,JN,Jl]) (all_oneCell_toArray (UN _ _)) ?_;rw[Da aR]));by_cases aN:a<=k
   ·obtain⟨d,K⟩:∃d,k-a=d:=⟨_,rfl⟩;have bg:IntKind.i64.wrap ((k:Int)-(a:Int))=(d:Int):=by rw[IntKind.wrap_i64];omega
    have aY:(a:Int)<=(k:Int):=by omega
    by_cases aU:d<ll
    ·obtain⟨v,A⟩:∃v,lost[d]?=some v:=⟨_,List.getElem?_eq_getElem (by rw[<-Da aD];exact aU)⟩;obtain⟨gl,fl,rfl,a8⟩:=Da aa d v A;have aT:(d:Int)<(ll:Int):=by omega
     clear aa
     cases v with
     | false=>
      have H:Jt a lost k=false:=by unfold Jt;rw[K,A];simp
      clear A K;go_wp2_with (first|(refine wpList_load_mid rfl 188 _ rfl wr.heap.size 1 rfl (Dc s) _ (Da ao) JQ rfl (by rw[D2,Da o]) ?_)|(refine Zbi rfl 188 _ _ rfl t (p*64) 188 O (Dc s) rfl rfl (Da aq) (by rw[Da o,Da an];have:=Da am;have:=Da ak;omega) (by rw[D2,Da o]) (Da aA) ?_;rw[Da au]))
      go_roundw
      case rel=>exact⟨_,_,.int .i64 ((k+1:Nat):Int),⟨k+1,by omega,rfl,Da ar H⟩,rfl,rfl,by go_num⟩
      case measure=>simp[intOf];omega
     | true=>
      have H:Jt a lost k=true:=by unfold Jt;rw[K,A];simp[aN]
      clear A K;go_wp2
      go_roundw
      case rel=>exact⟨_,_,.int .i64 ((k+1:Nat):Int),⟨k+1,by omega,rfl,Da aO H⟩,rfl,rfl,by go_num⟩
      case measure=>simp[intOf];omega
    ·have H:Jt a lost k=false:=by unfold Jt;rw[K,List.getElem?_eq_none (by rw[<-Da aD];omega)];simp
     have aT:¬(d:Int)<(ll:Int):=by omega
     clear K aa;go_wp2_with (first|(refine wpList_load_mid rfl 188 _ rfl wr.heap.size 1 rfl (Dc s) _ (Da ao) JQ rfl (by rw[D2,Da o]) ?_)|(refine Zbi rfl 188 _ _ rfl t (p*64) 188 O (Dc s) rfl rfl (Da aq) (by rw[Da o,Da an];have:=Da am;have:=Da ak;omega) (by rw[D2,Da o]) (Da aA) ?_;rw[Da au]))
     go_roundw
     case rel=>exact⟨_,_,.int .i64 ((k+1:Nat):Int),⟨k+1,by omega,rfl,Da ar H⟩,rfl,rfl,by go_num⟩
     case measure=>simp[intOf];omega
   ·have H:Jt a lost k=false:=by unfold Jt;simp[aN]
    have aY:¬(a:Int)<=(k:Int):=by omega
    clear aa;go_wp2_with (first|(refine wpList_load_mid rfl 188 _ rfl wr.heap.size 1 rfl (Dc s) _ (Da ao) JQ rfl (by rw[D2,Da o]) ?_)|(refine Zbi rfl 188 _ _ rfl t (p*64) 188 O (Dc s) rfl rfl (Da aq) (by rw[Da o,Da an];have:=Da am;have:=Da ak;omega) (by rw[D2,Da o]) (Da aA) ?_;rw[Da au]))
    go_roundw
    case rel=>exact⟨_,_,.int .i64 ((k+1:Nat):Int),⟨k+1,by omega,rfl,Da ar H⟩,rfl,rfl,by go_num⟩
    case measure=>simp[intOf];omega
  ·obtain rfl:k=N:=by omega
   have HJ:Hid (Calls Tryz.prog 139 #[.slice a1 l1 J] wr (Qi w (D7 F ps a lost k))):=by
    obtain⟨U,C⟩:=Da Z;have G:(D7 F ps a lost k).length=1536:=by rw[Qw];exact Da Y
    refine(Zfv wr _ _ U (by omega) (by omega)).mono ?_;rintro e w' ⟨a',l',c',rfl,r1,r2⟩;exact⟨a',l',c',rfl,⟨r1.1,fun g hg=>Nat.le_trans C.size (r1.2 g hg)⟩,C.trans (r2.mono C.size)⟩
   clear Z ac av I ab aj Y;go_wp2_with (go_at_call 139;refine(Da HJ).mono ?_;rintro e w' ⟨a',l',c',rfl,I⟩;have aQ:=Db I;clear I);go_ret;exact⟨a',l',c',rfl,Da aQ⟩
theorem ZkS(b:Nat->Int):∀(i f m:Nat),i<=f->(∀a,a<i->0<b ((m+a)%96))->¬0<b ((m+i)%96)->DK b f (16*m)=16*(m+i)
 | 0,f,m,_,_,h=>by
  rw[ZcX (fun e=>h (by have:=e.2;rwa [show 16*m/16%96=(m+0)%96 by omega]at this))];rfl
 | i+1,f,m,hf,hl,h=>by
  cases f with
  | zero=>omega
  | succ f=>
   have c:=hl 0 (by omega);rw[Zjj ⟨by omega,by rw[show 16*m/16%96=(m+0)%96 by omega];exact c⟩,show 16*m+16=16*(m+1) by omega];rw[ZkS b i f (m+1) (by omega) (fun a aa=>by have:=hl (a+1) (by omega);rwa [show m+(a+1)=m+1+a by omega]at this) (by rwa [show m+(i+1)=m+1+i by omega]at h)];omega
def Je(nd:Nat->Int)(c:Nat):Nat->Nat
 | 0=>0
 | j+1=>Je nd c j+if 0<j/\nd ((c+j)%96)<=0 then 1 else 0
theorem Zid(a:Nat->Int)(c:Nat):∀(m j:Nat),Je a c (j+1)<Je a c (j+1+m)->∃b,j<b/\b<=j+m/\a ((c+b)%96)<=0/\(∀i,j<i->i<b->0<a ((c+i)%96))/\Je a c b=Je a c (j+1)
 | 0,j,h=>by simp at h
 | m+1,j,h=>by
  by_cases f:a ((c+(j+1))%96)<=0
  ·exact⟨j+1,by omega,by omega,f,fun i g d=>by omega,rfl⟩
  ·have e:Je a c (j+1+1)=Je a c (j+1):=by
    conv=>lhs;unfold Je
    rw[if_neg (fun e=>f e.2)];rfl
   obtain⟨b,q1,q2,l,n,o⟩:=Zid a c m (j+1) (by rw[e,show j+1+1+m=j+1+(m+1) by omega];exact h);refine⟨b,by omega,by omega,l,fun i g d=>?_,by rw[o,e]⟩;by_cases k:i=j+1
   ·subst k;omega
   ·exact n i (by omega) d
def J6(c p:Nat):Nat:=(p/16+96-c)%96
structure RI(nd:Nat->Int)(tp j o:Nat)(N:List Nat):Prop where
 jl:j<=95
 o1:1<=o
 o2:o<=16
 fr:j=0/\tp%16<o\/0<j/\nd ((tp/16+j)%96)<=0
 mem:∀p∈N,p<1536/\(J6 (tp/16) p=0/\tp<p/\(j=0->p%16<o)\/0<J6 (tp/16) p/\nd (p/16)<=0/\(J6 (tp/16) p<j\/J6 (tp/16) p=j/\p%16<o))
 nd':N.Nodup
 cnt:16*Je nd (tp/16) j+(if 0<j then o else 0)<=N.length
theorem RI.next{f:Nat->Int}{c j o:Nat}{N:List Nat}(h:RI f c j o N)(af:c<1536)(ab:N.length<16*(Je f (c/16) 96)):
  ∃d o',RI f c d o' (N++[DK f 96 (16*((c/16+j)%96)+o)%1536])/\DK f 96 (16*((c/16+j)%96)+o)%1536+1=16*((c/16+d)%96)+o':=by
 have A:=h.jl;have h2:=h.o1;have h3:=h.o2;have x:=h.cnt;by_cases ho:o<16
 ·have e:DK f 96 (16*((c/16+j)%96)+o)=16*((c/16+j)%96)+o:=ZcX (fun e=>by omega) 96;rw[e,Nat.mod_eq_of_lt (show 16*((c/16+j)%96)+o<1536 by omega)];generalize hp:16*((c/16+j)%96)+o=p
  have B:p%16=o:=by omega
  have t:p/16=(c/16+j)%96:=by omega
  have g:J6 (c/16) p=j:=by unfold J6;omega
  refine⟨j,o+1,⟨A,by omega,by omega,h.fr.imp (fun e=>⟨e.1,by omega⟩) id,fun q u=>?_,?_,?_⟩,by omega⟩
  ·rcases List.mem_append.1 u with i|i
   ·obtain⟨w,k⟩:=h.mem q i;refine⟨w,k.imp (fun e=>⟨e.1,e.2.1,fun n=>by have:=e.2.2 n;omega⟩) (fun e=>⟨e.1,e.2.1,e.2.2.imp id (fun e=>⟨e.1,by omega⟩)⟩)⟩
   ·rw[List.mem_singleton.1 i];refine⟨by omega,?_⟩;rcases h.fr with⟨e,n⟩|⟨e,n⟩
    ·subst e;exact .inl ⟨g,by omega,fun _=>by omega⟩
    ·exact .inr ⟨by omega,by rw[t];exact n,.inr ⟨g,by omega⟩⟩
  ·rw[List.nodup_append];refine⟨h.nd',by simp,fun a r b s e=>?_⟩;rw[List.mem_singleton.1 s]at e;obtain⟨_,k⟩:=h.mem a r;rcases k with⟨i,y,l⟩|⟨i,y,l⟩
   ·rw[e,g]at i;have:=l i;omega
   ·rw[e,g]at l;omega
  ·rw[List.length_append,List.length_singleton]
   split at x<;>split<;>omega
 ·obtain rfl:o=16:=by omega
  have aa:16*Je f (c/16) (j+1)<=N.length:=by
   unfold Je
   split at x
   ·split<;>omega
   ·rw[if_neg (fun e=>by omega)];omega
  have ad:j+1<=96:=by omega
  obtain⟨d,i,y,l,C,D⟩:=Zid f (c/16) (95-j) j (by rw[show j+1+(95-j)=96 by omega];omega);have e:DK f 96 (16*((c/16+j)%96)+16)=16*((c/16+j)%96+1+(d-j-1)):=by
   rw[show 16*((c/16+j)%96)+16=16*((c/16+j)%96+1) by omega];refine ZkS f (d-j-1) 96 _ (by omega) (fun v ac=>?_) ?_
   ·have:=C (j+1+v) (by omega) (by omega)
    rwa [show((c/16+j)%96+1+v)%96=(c/16+(j+1+v))%96 by omega]
   ·rw[show((c/16+j)%96+1+(d-j-1))%96=(c/16+d)%96 by omega];omega
  rw[e];generalize hp:16*((c/16+j)%96+1+(d-j-1))%1536=p
  have ae:p=16*((c/16+d)%96):=by omega
  have B:p%16=0:=by omega
  have t:p/16=(c/16+d)%96:=by omega
  have g:J6 (c/16) p=d:=by unfold J6;omega
  refine⟨d,1,⟨by omega,by omega,by omega,.inr ⟨by omega,l⟩,fun q u=>?_,?_,?_⟩,by omega⟩
  ·rcases List.mem_append.1 u with m|m
   ·obtain⟨w,k⟩:=h.mem q m;refine⟨w,k.imp (fun e=>⟨e.1,e.2.1,fun n=>by omega⟩) (fun e=>⟨e.1,e.2.1,.inl (by omega)⟩)⟩
   ·rw[List.mem_singleton.1 m];exact⟨by omega,.inr ⟨by omega,by rw[t];exact l,.inr ⟨g,by omega⟩⟩⟩
  ·rw[List.nodup_append];refine⟨h.nd',by simp,fun a r b s e=>?_⟩;rw[List.mem_singleton.1 s]at e;obtain⟨_,k⟩:=h.mem a r;rcases k with⟨m,E,z⟩|⟨m,E,z⟩
   ·rw[e,g]at m;omega
   ·rw[e,g]at z;omega
  ·rw[List.length_append,List.length_singleton,D,if_pos (by omega)];omega
theorem RI.start(c:Nat->Int)(a:Nat)(_h:a<1536):RI c a 0 (a%16+1) []:=
 ⟨by omega,by omega,by omega,.inl ⟨rfl,by omega⟩,fun p b=>(by cases b),List.nodup_nil,by simp[Je]⟩
theorem ZlP(d:Nat->Int)(o:∀j,0<=d j)(c:Nat)(m:c<96)(ab:0<d c):16*Je d c 96=DY d 96:=by
 have f:∀k,DY d k=16*(List.range k).countP (fun j=>decide (d j=0)):=fun k=>by
  induction k with
  | zero=>rfl
  | succ k ih=>
   unfold DY;rw[ih,List.range_succ,List.countP_append,List.countP_singleton];by_cases e:d k=0<;>simp[e]<;>omega
 have g:∀k,Je d c k=(List.range k).countP (fun j=>decide (0<j/\d ((c+j)%96)<=0)):=fun k=>by
  induction k with
  | zero=>rfl
  | succ k ih=>
   unfold Je;rw[ih,List.range_succ,List.countP_append,List.countP_singleton];by_cases e:0<k/\d ((c+k)%96)<=0<;>simp[e]
 rw[f,g]
 congr 1
 have h:(List.range 96).countP (fun j=>decide (0<j/\d ((c+j)%96)<=0))=((List.range 96).map (fun j=>(c+j)%96)).countP (fun j=>decide (d j=0)):=by
  rw[List.countP_map];refine List.countP_congr (fun j n=>?_);rw[List.mem_range]at n;simp only[Function.comp,decide_eq_true_eq];constructor
  ·rintro⟨q1,q2⟩;have:=o ((c+j)%96);omega
  ·intro q;refine⟨?_,by omega⟩;rcases Nat.eq_zero_or_pos j with e|e
   ·subst e;rw[Nat.add_zero,Nat.mod_eq_of_lt m]at q;omega
   ·exact e
 rw[h];refine(ZbW _ _ ?_ (fun x p=>?_) (by simp)).countP_eq _
 ·rw[List.nodup_iff_pairwise_ne,List.pairwise_map];refine List.Pairwise.imp_of_mem (R:=fun a b=>a≠b) (fun {a b} i l aa e=>?_) (List.nodup_iff_pairwise_ne.1 List.nodup_range);rw[List.mem_range]at i l;omega
 ·obtain⟨y,hy,rfl⟩:=List.mem_map.1 p;exact List.mem_range.2 (by omega)
theorem Env.puts_ind2{E:Env}{Q:Pl->Prop}(f:∀st r s,s.size=64->(∀y∈st.puts,y.1≠r)->Q st->Q (E.put st r s).2)(R:Nat->Nat)(g:∀a b,R a=R b->a=b)(B:NB)(d:∀x,(B x).size=64):
  ∀(st:Pl) (i:Nat) (xs:List Nat),(∀y∈st.puts,∀j,i<=j->j<i+xs.length->y.1≠R j)->Q st->Q (E.puts R B st i xs)
 | _,_,[],_,h=>h
 | st,i,x::xs,hf,h=>by
  refine Env.puts_ind2 f R g B d _ (i+1) xs (fun y c j h1 h2=>?_) (f st (R i) (B x) (d x) (fun y c=>hf y c i (Nat.le_refl _) (by rw[List.length_cons];omega)) h);rw[Env.put_puts]at c;rcases List.mem_append.1 c with q|q
  ·exact hf y q j (by omega) (by rw[List.length_cons];omega)
  ·rw[List.mem_singleton.1 q];exact fun e=>by have:=g _ _ e;omega
theorem ZhB{E:Env}{Q:Pl->Prop}(m:∀st r s,s.size=64->(∀y∈st.puts,y.1≠r)->Q st->Q (E.put st r s).2)(C:NB):∀(last:By) (st:Pl) (xs:List It),
  (∀x∈xs,x.k=1\/x.k=2\/x.k=3)->(∀x∈xs,x.k=2->(C x.f).size<=1280)->(∀x∈xs,x.f<60)->xs.Pairwise (fun x y=>x.k=2->y.k=2->x.f≠y.f)->(∀y∈st.puts,∀x∈xs,x.k=2->∀j,j<20->y.1≠Dd 4 x.f j)->Q st->Q (Dw E C last st xs).2
 | _,_,[],_,_,_,_,_,h=>h
 | last,st,x::xs,hk,d,hf,hp,c,h=>by
  rw[List.pairwise_cons]at hp;have o:Q (Dx E C last st x).2/\∀y∈(Dx E C last st x).2.puts,y∈st.puts\/(x.k=2/\∃j,j<20/\y.1=Dd 4 x.f j):=by
   unfold Dx;rcases hk x (by simp) with e|e|e
   ·rw[if_pos e];exact⟨h,fun y c => .inl c⟩
   ·rw[if_neg (by omega),if_neg (by omega)];have hn:=KE (d x (by simp) e);refine⟨Env.puts_ind2 m _ (fun a b=>QN) _ (fun z=>Qd _ z) st 0 _ (fun y f j _ l=>?_) h,fun y f=>?_⟩
    ·rw[List.length_range]at l;exact c y f x (by simp) e j (by omega)
    ·rcases Env.puts_mem E _ _ st 0 _ y f with q|⟨j,_,k,u⟩
     ·exact .inl q
     ·rw[List.length_range]at k;exact .inr ⟨e,j,by omega,u⟩
   ·rw[if_neg (by omega),if_pos e];exact⟨h,fun y c => .inl c⟩
  refine ZhB m C (jn x.ns) _ xs (fun z d=>hk z (List.mem_cons_of_mem _ d)) (fun z g=>d z (List.mem_cons_of_mem _ g)) (fun z d=>hf z (List.mem_cons_of_mem _ d)) hp.2 (fun y f z g n j p e=>?_) o.1;rcases o.2 y f with q|⟨t,i,hi,k⟩
  ·exact c y q z (List.mem_cons_of_mem _ g) n j p e
  ·have h1:=hf x (by simp);have l:=hf z (List.mem_cons_of_mem _ g);exact hp.1 z g t n (Zfh (by omega) (by omega) (by omega) (by omega) (k.symm.trans e))
theorem Zh1{E:Env}{Q:Pl->Prop}(c:∀st r s,s.size=64->(∀y∈st.puts,y.1≠r)->Q st->Q (E.put st r s).2):∀(d below:Nat) (st:Pl) (s:By),IdxN d below st s->Q st->Q (DF E d below st s).2
 | 0,_,_,_,_,h=>h
 | d+1,below,st,s,hi,h=>by
  unfold DF
  split
  ·rename_i i;obtain⟨d',e,f,_⟩:=hi.next i E
   cases e
   have hb:=hi.bd;have aa:=hi.n1;refine Zh1 c d _ _ _ f (Env.puts_ind2 c _ (fun a b=>QN) _ (fun x=>KY _ _ _ x) _ _ _ (fun y k j _ g=>?_) h);rw[List.length_range]at g;exact hi.pk.fresh (by omega) y k j (by omega)
  ·exact h
theorem ItOk.pair{C:NB}{L:List It}(h:ItOk C L):L.Pairwise (fun x y=>x.k=2->y.k=2->x.f≠y.f):=by
 rw[List.pairwise_iff_getElem];intro i j c e d a b;exact h.fresh i j _ _ d (List.getElem?_eq_getElem c) (List.getElem?_eq_getElem e) a b
theorem Zkb{E:Env}{Q:Pl->Prop}(f:∀st r s,s.size=64->(∀y∈st.puts,y.1≠r)->Q st->Q (E.put st r s).2){C:NB}{L:List It}(c:ItOk C L)(d:Nat)(l:d<=1536)(h:Q ⟨d,[],[]⟩):Q (Jr E C ⟨d,[],[]⟩ L).2:=by
 have n:=ZhB f C ⟨#[]⟩ ⟨d,[],[]⟩ L c.kind c.size c.num c.pair (fun y g=>(by cases g)) h;obtain⟨t1,t2,t3,t4,p⟩:=Qc E C ⟨#[]⟩ ⟨d,[],[]⟩ L (fun z k=>⟨c.path z k,c.size z k,c.kind z k⟩);have ab:=c.len;refine Zh1 f _ _ _ _ (Zje c E ⟨d,[],[]⟩ rfl rfl l) (Env.puts_ind2 f _ (fun a b=>QN) _ (fun x=>KY _ _ _ x) _ _ _ (fun y g j _ m e=>?_) n);rw[List.length_range,ByteArray.size_append]at m;have aa:j<600:=by
  have:(⟨#[0]⟩:By).size=1:=rfl;omega
 rcases p y g with q|⟨x,o,_,i,hi,q⟩
 ·cases q
 ·have hf:=c.num x o;have:=ZcY (kk:=4) (kk':=3) (by omega) (by omega) (by omega) (by omega) (q.symm.trans e);omega
structure InvS(s:KS):Prop where
 ok:KsOk s
 cur:∀x∈s.es,x.2.toNat/16=s.tp/16->x.2.toNat<=s.tp
 inj:∀x∈s.es,∀y∈s.es,x.2=y.2->x=y
 tpc:0<Dj s.es (s.tp/16)
 fr:512<=DY (Dj s.es) 96
 lo:∀x∈s.es,16<=x.2.toNat
 tp:16<=s.tp
theorem InvS.free{s:KS}(h:InvS s):512<=16*Je (Dj s.es) (s.tp/16) 96:=by
 rw[ZlP _ (Zcq _) _ (by have:=h.ok.tp;omega) h.tpc];exact h.fr
theorem Uz{es:LI}{x:Int×Int}(h:x∈es):0<Dj es (x.2.toNat/16):=by
 unfold Dj;have:0<es.countP (fun y=>y.2.toNat/16==x.2.toNat/16):=List.countP_pos_iff.2 ⟨x,h,by simp⟩
 split<;>omega
theorem RI.not_es{s:KS}(a:InvS s){j o:Nat}{N:List Nat}(h:RI (Dj s.es) s.tp j o N){p:Nat}(c:p∈N)(r:Int):(r,(p:Int))∉s.es:=fun b=>by
 have aa:=a.ok.tp;obtain⟨m1,d⟩:=h.mem p c;rcases d with⟨e,f,_⟩|⟨_,f,_⟩
 ·have:=a.cur _ b (by simp only[Int.toNat_natCast];unfold J6 at e;omega);simp only[Int.toNat_natCast]at this;omega
 ·have:=Uz b;simp only[Int.toNat_natCast]at this;omega
structure PI(s:KS)(st:Pl):Prop where
 ri:∃j o,RI (Dj s.es) s.tp j o (st.ps.map (·.1))/\st.hd=16*((s.tp/16+j)%96)+o
 mem:∀y∈st.puts,y.2∈st.ps.map (·.1)\/((y.1:Int),(y.2:Int))∈s.es
 nd:(st.puts.map (·.2)).Nodup
 le:st.ps.length<=st.puts.length
 rol:(st.puts.map (·.1)).Nodup
theorem PI.put{s:KS}(f:InvS s){cl:Bool}{st:Pl}(h:PI s st)(hl:st.puts.length<512)(r:Nat)(b:By)(v:∀y∈st.puts,y.1≠r):PI s ((Dh s.es cl s.tp s.D).put st r b).2:=by
 have C:=f.ok.tp;obtain⟨j,o,l,p⟩:=h.ri;have w:∀q:Nat,((st.puts++[(r,q)]).map (fun y:Nat×Nat=>y.1)).Nodup:=fun q=>by
  rw[List.map_append,List.nodup_append];refine⟨h.rol,by simp,fun a i b d e=>?_⟩;obtain⟨y,c,rfl⟩:=List.mem_map.1 i;simp only[List.map_cons,List.map_nil,List.mem_singleton]at d;exact v y c (e.trans d)
 unfold Env.put
 split
 ·rename_i q g;have n:((r:Int),(q:Int))∈s.es:=by
   unfold Env.stay at g
   split at g
   ·rename_i q' B
    split at g
    ·cases g;exact((f.ok.env cl).at_some B).1
    ·cases g
   ·cases g
  refine⟨⟨j,o,l,p⟩,fun y c=>?_,?_,by rw[List.length_append];have:=h.le;simp only[List.length_singleton];omega,w q⟩
  ·rcases List.mem_append.1 c with e|e
   ·exact h.mem y e
   ·rw[List.mem_singleton.1 e];exact .inr n
  ·rw[List.map_append,List.nodup_append];refine⟨h.nd,by simp,fun a i b d e=>?_⟩;obtain⟨y,c,rfl⟩:=List.mem_map.1 i;simp only[List.map_cons,List.map_nil,List.mem_singleton]at d;rw[d]at e;rcases h.mem y c with m|m
   ·rw[e]at m;exact l.not_es f m _ n
   ·rw[e]at m;have:=f.inj _ m _ n rfl;rw[Prod.mk.injEq]at this;exact v y c (by have:=this.1;omega)
 ·have A:(st.ps.map (·.1)).length<16*Je (Dj s.es) (s.tp/16) 96:=by rw[List.length_map];have:=h.le;have:=f.free;omega
  obtain⟨x,z,k,t⟩:=l.next C A;rw[<-p]at k t;have u:(st.ps++[(DK (Dj s.es) 96 st.hd%1536,b)]).map (·.1)=st.ps.map (·.1)++[DK (Dj s.es) 96 st.hd%1536]:=by rw[List.map_append];rfl
  refine⟨⟨x,z,?_,t⟩,fun y c=>?_,?_,?_,w _⟩
  ·show RI (Dj s.es) s.tp x z ((st.ps++[(DK (Dj s.es) 96 st.hd%1536,b)]).map (·.1));rw[u];exact k
  ·show y.2∈(st.ps++[(DK (Dj s.es) 96 st.hd%1536,b)]).map (·.1)\/_;rw[u];rcases List.mem_append.1 c with e|e
   ·exact(h.mem y e).imp (fun e=>List.mem_append_left _ e) id
   ·rw[List.mem_singleton.1 e];exact .inl (List.mem_append_right _ (List.mem_singleton.2 rfl))
  ·show((st.puts++[(r,DK (Dj s.es) 96 st.hd%1536)]).map (·.2)).Nodup;rw[List.map_append,List.nodup_append];refine⟨h.nd,by simp,fun a i b d e=>?_⟩;obtain⟨y,c,rfl⟩:=List.mem_map.1 i;simp only[List.map_cons,List.map_nil,List.mem_singleton]at d;rw[d]at e;rcases h.mem y c with m|m
   ·rw[e]at m;have:=k.nd';rw[List.nodup_append]at this;exact this.2.2 _ m _ (List.mem_singleton.2 rfl) rfl
   ·rw[e]at m;exact k.not_es f (List.mem_append_right _ (List.mem_singleton.2 rfl)) _ m
  ·show(st.ps++[_]).length<=(st.puts++[_]).length;rw[List.length_append,List.length_append];have:=h.le;simp only[List.length_singleton];omega
theorem PI.all{s:KS}(a:InvS s)(cl:Bool){C:NB}{L:List It}(e:ItOk C L)(c:(Dq s cl C L).2.puts.length<=512):PI s (Dq s cl C L).2:=by
 have g:=a.ok.tp;refine Zkb (E:=Dh s.es cl s.tp s.D) (Q:=fun st=>st.puts.length<=512->PI s st) (fun st r b hb f h d=>?_) e (s.tp+1) (by omega) (fun _=>?_) c
 ·rw[Env.put_puts,List.length_append,List.length_singleton]at d;exact(h (by omega)).put a (by omega) r b f
 ·exact⟨⟨0,s.tp%16+1,RI.start _ _ g,by show s.tp+1=_;omega⟩,fun y i=>(by cases i),List.nodup_nil,Nat.le_refl _,List.nodup_nil⟩
theorem U7(E:Env)(fn:Nat)(d:By):∀(st:Pl) (i:Nat) (xs:List Nat),JI E fn d st i xs=JA E (Dd 4 fn) (dtB d) st i xs
 | _,_,[]=>rfl
 | st,i,x::xs=>by
  show DG _ _++JI E fn d _ (i+1) xs=DG _ _++JA E _ _ _ (i+1) xs;rw[U7 E fn d _ (i+1) xs]
def SubP(F st:Pl):Prop:=(∀y∈st.puts,y∈F.puts)/\∀x∈st.ps,x∈F.ps
theorem Env.put_ps_sub(E:Env)(st:Pl)(r:Nat)(b:By):∀x∈st.ps,x∈(E.put st r b).2.ps:=fun x a=>by
 unfold Env.put
 split
 ·exact a
 ·exact List.mem_append_left _ a
theorem SubP.put{E:Env}{F st:Pl}{r:Nat}{b:By}(h:SubP F (E.put st r b).2):SubP F st:=
 ⟨fun y c=>h.1 y (by rw[Env.put_puts];exact List.mem_append_left _ c),fun x a=>h.2 x (E.put_ps_sub st r b x a)⟩
theorem SubP.puts{E:Env}{F:Pl}{R:Nat->Nat}{B:NB}:∀{st:Pl} {i:Nat} {xs:List Nat},SubP F (E.puts R B st i xs)->SubP F st
 | _,_,[],h=>h
 | _,_,_::_,h=>SubP.put (SubP.puts h)
theorem SubP.ent{E:Env}{F:Pl}{C:NB}{a:By}{st:Pl}{x:It}(h:SubP F (Dx E C a st x).2):SubP F st:=by
 unfold Dx at h
 split at h
 ·exact h
 ·split at h
  ·exact h
  ·exact SubP.puts h
theorem SubP.tab{E:Env}{F:Pl}{C:NB}:∀{last:By} {st:Pl} {xs:List It},SubP F (Dw E C last st xs).2->SubP F st
 | _,_,[],h=>h
 | _,_,_::_,h=>SubP.ent (SubP.tab h)
theorem SubP.idx{E:Env}{F:Pl}:∀{d below:Nat} {st:Pl} {s:By},SubP F (DF E d below st s).2->SubP F st
 | 0,_,_,_,h=>h
 | d+1,below,st,s,h=>by
  unfold DF at h
  split at h
  ·exact SubP.puts (SubP.idx h)
  ·exact h
theorem SubP.row{E:Env}{F:Pl}{kk:UInt8}{a b:Nat}{st:Pl}{s:By}(h:SubP F (Dy E kk a b st s).2):SubP F st:=
 SubP.puts (R:=Dd kk.toNat b) (B:=Dv kk s a) (i:=0) (xs:=List.range ((s.size+a-1)/a)) h
def lk(h0:Nat)(st:Pl):Pl:=⟨h0,st.puts,[]⟩
structure Lock(E E':Env)(F:Pl):Prop where
 at':∀y∈F.puts,E'.at y.1=some y.2
 new:∀x∈F.ps,E'.D[x.1]?=some x.2
 old:∀r q,E.at r=some q->E'.D[q]?=E.D[q]?
 cl:E'.cl=false
section
variable{E E':Env}{F:Pl}
theorem Lock.put(K:Lock E E' F){st:Pl}{r:Nat}{b:By}(h:SubP F (E.put st r b).2)(c:Nat):E'.put (lk c st) r b=((E.put st r b).1,lk c (E.put st r b).2):=by
 have i:(r,(E.put st r b).1)∈F.puts:=h.1 _ (by rw[Env.put_puts];exact List.mem_append_right _ (List.mem_singleton.2 rfl));have f:=K.at' _ i;have d:E'.D[(E.put st r b).1]?=some b:=by
  cases hs:E.stay r b with
  | some q=>
   have a:(E.put st r b).1=q:=by unfold Env.put;rw[hs]
   rw[a];unfold Env.stay at hs
   split at hs
   ·rename_i q' j
    split at hs
    ·rename_i g
     cases hs
     rw[K.old r q j];exact g.1
    ·cases hs
   ·cases hs
  | none=>
   have a:E.put st r b=(DK E.nd 96 st.hd%1536,⟨DK E.nd 96 st.hd%1536+1,st.puts++[(r,DK E.nd 96 st.hd%1536)],st.ps++[(DK E.nd 96 st.hd%1536,b)]⟩):=by unfold Env.put;rw[hs]
   rw[a]at h ⊢;exact K.new _ (h.2 _ (List.mem_append_right _ (List.mem_singleton.2 rfl)))
 have k:E'.stay r b=some (E.put st r b).1:=by
  unfold Env.stay;rw[f];simp only;rw[if_pos ⟨d,fun e=>by rw[K.cl]at e;cases e.1⟩]
 show(match E'.stay r b with|some q=>_|none=>_)=_;rw[k];show(_,(⟨c,st.puts++[(r,(E.put st r b).1)],[]⟩:Pl))=_;unfold lk;rw[Env.put_puts]
theorem Lock.puts(K:Lock E E' F)(R:Nat->Nat)(B:NB)(a:Nat):∀(st:Pl) (i:Nat) (xs:List Nat),SubP F (E.puts R B st i xs)->E'.puts R B (lk a st) i xs=lk a (E.puts R B st i xs)/\JA E' R B (lk a st) i xs=JA E R B st i xs
 | _,_,[],_=>⟨rfl,rfl⟩
 | st,i,x::xs,h=>by
  have b:=K.put (SubP.puts h) a;obtain⟨c,d⟩:=K.puts R B a (E.put st (R i) (B x)).2 (i+1) xs h;constructor
  ·show E'.puts R B (E'.put (lk a st) (R i) (B x)).2 (i+1) xs=_;rw[b];exact c
  ·show DG (E'.put (lk a st) (R i) (B x)).1 _++JA E' R B (E'.put (lk a st) (R i) (B x)).2 (i+1) xs=_;rw[b];show DG (E.put st (R i) (B x)).1 _++JA E' R B (lk a (E.put st (R i) (B x)).2) (i+1) xs=_;rw[d];rfl
theorem Lock.ent(K:Lock E E' F)(C:NB)(a:By)(b:Nat)(st:Pl)(x:It)(h:SubP F (Dx E C a st x).2):Dx E' C a (lk b st) x=((Dx E C a st x).1,lk b (Dx E C a st x).2):=by
 unfold Dx at h ⊢
 split
 ·rfl
 ·rename_i e;rw[if_neg e]at h
  split
  ·rfl
  ·rename_i f;rw[if_neg f]at h;obtain⟨c,d⟩:=K.puts (Dd 4 x.f) (dtB (C x.f)) b st 0 (List.range (nBl (C x.f))) h;rw[c,U7,U7,d]
theorem Lock.tab(K:Lock E E' F)(C:NB)(a:Nat):∀(last:By) (st:Pl) (xs:List It),SubP F (Dw E C last st xs).2->Dw E' C last (lk a st) xs=((Dw E C last st xs).1,lk a (Dw E C last st xs).2)
 | _,_,[],_=>rfl
 | last,st,x::xs,h=>by
  have b:=K.ent C last a st x (SubP.tab h);have ih:=K.tab C a (jn x.ns) (Dx E C last st x).2 xs h;show((Dx E' C last (lk a st) x).1++(Dw E' C (jn x.ns) (Dx E' C last (lk a st) x).2 xs).1,(Dw E' C (jn x.ns) (Dx E' C last (lk a st) x).2 xs).2)=_;rw[b];show((Dx E C last st x).1++(Dw E' C (jn x.ns) (lk a (Dx E C last st x).2) xs).1,(Dw E' C (jn x.ns) (lk a (Dx E C last st x).2) xs).2)=_;rw[ih];rfl
theorem Lock.row(K:Lock E E' F)(kk:UInt8)(a b:Nat)(c:Nat)(st:Pl)(s:By)(h:SubP F (Dy E kk a b st s).2):Dy E' kk a b (lk c st) s=((Dy E kk a b st s).1,lk c (Dy E kk a b st s).2):=by
 obtain⟨d,e⟩:=K.puts (Dd kk.toNat b) (Dv kk s a) c st 0 (List.range ((s.size+a-1)/a)) h;unfold Dy;rw[d,e]
theorem Lock.idx(K:Lock E E' F)(a:Nat):∀(d below:Nat) (st:Pl) (s:By),SubP F (DF E d below st s).2->DF E' d below (lk a st) s=((DF E d below st s).1,lk a (DF E d below st s).2)
 | 0,_,_,_,_=>rfl
 | d+1,below,st,s,h=>by
  unfold DF at h ⊢
  split
  ·rename_i c;rw[if_pos c]at h;have b:=K.row 2 60 below a st s (SubP.idx h);rw[b];exact K.idx a d (below+1) _ _ h
  ·rfl
end
theorem Lock.keep{E b:Env}{F:Pl}(K:Lock E b F)(C:NB)(a:Nat)(st:Pl)(L:List It)(h:SubP F (Jr E C st L).2):Jr b C (lk a st) L=((Jr E C st L).1,lk a (Jr E C st L).2):=by
 obtain⟨T,f⟩:∃T,T=Dw E C ⟨#[]⟩ st L:=⟨_,rfl⟩;obtain⟨R,c⟩:∃R,R=Dy E 3 63 0 T.2 (T.1++⟨#[0]⟩):=⟨_,rfl⟩;have e:Jr E C st L=DF E 8 1 R.2 R.1:=by rw[c,f];rfl
 rw[e]at h ⊢;have d:SubP F R.2:=SubP.idx h;have k:SubP F T.2:=by rw[c]at d;exact SubP.row d
 have i:=K.tab C a ⟨#[]⟩ st L (by rw[<-f];exact k);rw[<-f]at i;have g:=K.row 3 63 0 a T.2 (T.1++⟨#[0]⟩) (by rw[<-c];exact d);rw[<-c]at g;have j:Jr b C (lk a st) L=DF b 8 1 (lk a R.2) R.1:=by
  unfold Jr;rw[i];show DF b 8 1 (Dy b 3 63 0 (lk a T.2) (T.1++⟨#[0]⟩)).2 (Dy b 3 63 0 (lk a T.2) (T.1++⟨#[0]⟩)).1=_;rw[g]
 rw[j];exact K.idx a 8 1 R.2 R.1 h
theorem QD:∀(qs:LB) (D:LY) (p:Nat),p∉qs.map (·.1)->(D9 D qs)[p]?=D[p]?
 | [],_,_,_=>rfl
 | x::qs,D,p,h=>by
  rw[List.map_cons,List.mem_cons,not_or]at h;show(D9 (D.set x.1 x.2) qs)[p]? = _;rw[QD qs _ p h.2,List.getElem?_set_ne (fun e=>h.1 e.symm)]
theorem Qk:∀(qs:LB) (D:LY),(D9 D qs).length=D.length
 | [],_=>rfl
 | x::qs,D=>by
  show(D9 (D.set x.1 x.2) qs).length=_;rw[Qk qs,List.length_set]
theorem ZgD:∀(qs:LB) (D:LY),(qs.map (·.1)).Nodup->(∀x∈qs,x.1<D.length)->∀x∈qs,(D9 D qs)[x.1]?=some x.2
 | [],_,_,_,x,a=>by cases a
 | y::qs,D,hn,hl,x,a=>by
  rw[List.map_cons,List.nodup_cons]at hn;show(D9 (D.set y.1 y.2) qs)[x.1]? = _;rcases List.mem_cons.1 a with rfl|a
  ·rw[QD qs _ _ hn.1,List.getElem?_set_self (hl _ (by simp))]
  ·exact ZgD qs _ hn.2 (fun z b=>by rw[List.length_set];exact hl z (List.mem_cons_of_mem _ b)) x a
structure Stands(s:KS)(C:NB)(L:List It):Prop where
 ps:(Dq s false C L).2.ps=[]
 es:EsOf (Dq s false C L).2.puts s.es
 tp:rdP (Dq s false C L).1=s.tp
 tx:rdX (Dq s false C L).1=s.tx
theorem EsOf.at{b:List (Nat×Nat)}{es:LI}(h:EsOf b es)(g:(b.map (·.1)).Nodup)(cl:Bool)(j:Nat)(D:LY){y:Nat×Nat}(c:y∈b):(Dh es cl j D).at y.1=some y.2:=by
 unfold Env.at;have f:((y.1:Int),(y.2:Int))∈es:=(h.2.2 _).2 ⟨y,c,rfl⟩
 cases hf:es.find? (fun x=>x.1==(y.1:Int)) with
 | none=>exact absurd f (fun e=>by have:=List.find?_eq_none.1 hf _ e;simp at this)
 | some z=>
  show(es.find? (fun x=>x.1==(y.1:Int))).map _=_;rw[hf];have d:=List.find?_some hf;obtain⟨u,i,rfl⟩:=(h.2.2 z).1 (List.mem_of_find?_eq_some hf);simp only[beq_iff_eq]at d;have:u.2=y.2:=QJ g (a:=u.1) (by exact i) (by rw[show u.1=y.1 by omega];exact c);simp[this]
theorem Stands.keep{b:Nat}{s a:KS}(c:InvS s){C:NB}{L:List It}(u:ItOk C L){cl:Bool}(i:DE b s C L=Dq s cl C L)(H:(Dq s cl C L).2.puts.length<=512)
  (m:EsOf (DE b s C L).2.puts a.es) (A:a.tp=rdP (DE b s C L).1) (B:a.tx=rdX (DE b s C L).1) (D:a.D=(D9 s.D (DE b s C L).2.ps).set ((s.tn+1)%2) (ckB (s.tn+1) a.tp a.tx)):
  Stands a C L/\(Dq a false C L).1=(DE b s C L).1/\(Dq a false C L).2.puts=(DE b s C L).2.puts:=by
 have f:=PI.all c cl u H;have l:=Qz u (Dh s.es cl s.tp s.D) (c.ok.env cl) (s.tp+1) (by have:=c.ok.tp;omega);change ZoW (Dq s cl C L) at l;rw[<-i]at f l;obtain⟨j,o,k,_⟩:=f.ri;have F:∀x∈(DE b s C L).2.ps,16<=x.1:=fun x g=>by
  obtain⟨m1,M⟩:=k.mem x.1 (List.mem_map.2 ⟨x,g,rfl⟩);have aa:=c.tp;rcases M with⟨_,q,_⟩|⟨_,q,_⟩
  ·omega
  ·rcases Nat.lt_or_ge x.1 16 with e|e
   ·have w:x.1/16=0:=by omega
    rw[w]at q;have hn:=Zcq s.es 0;unfold Dj at q;simp at q;omega
   ·exact e
 have v:∀p,16<=p->a.D[p]?=(D9 s.D (DE b s C L).2.ps)[p]? := fun p f=>by rw[D,List.getElem?_set_ne (by omega)]
 have E:Lock (Dh s.es cl s.tp s.D) (Dh a.es false a.tp a.D) (DE b s C L).2:=by
  refine⟨fun y J=>m.at f.rol false _ _ J,fun x g=>?_,fun r q I=>?_,rfl⟩
  ·show a.D[x.1]? = _;rw[v _ (F x g)];exact ZgD _ _ k.nd' (fun z K=>by rw[c.ok.dl];exact(l.pl.2 z K).1) x g
  ·show a.D[q]?=s.D[q]?;have t:=((c.ok.env cl).at_some I).1;have n:=c.lo _ t;simp only[Int.toNat_natCast]at n;rw[v q n,QD _ _ _ (fun e=>k.not_es c e _ t)]
 have G:=E.keep C (a.tp+1) ⟨s.tp+1,[],[]⟩ L (by
  show SubP _ (Dq s cl C L).2;rw[<-i];exact⟨fun _ h=>h,fun _ h=>h⟩)
 have d:Dq a false C L=((DE b s C L).1,lk (a.tp+1) (DE b s C L).2):=by rw[i];exact G
 refine⟨⟨by rw[d];rfl,by rw[d];exact m,by rw[d];exact A.symm,by rw[d];exact B.symm⟩,by rw[d],by rw[d];rfl⟩
end Go.Proofs.YtaieidcohdhgpaaGreatDoor
