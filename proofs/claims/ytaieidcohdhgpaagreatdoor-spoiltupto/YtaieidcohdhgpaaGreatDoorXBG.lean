/- Spoilt. -/
import Derived.Test.YtaieidcohdhgpaaGreatDoorXBF
namespace Go.Proofs.YtaieidcohdhgpaaGreatDoor
set_option maxHeartbeats 40000000
set_option maxRecDepth 100000
open Go.RowKit
theorem ZR(d t M P Q k:Int)(b:P*Q=1+M*k)(h:d*P=M*t):d=M*(t*Q-d*k):=by
 have a:d*(P*Q)=M*(t*Q):=by rw[<-Int.mul_assoc,h,Int.mul_assoc]
 rw[b,Int.mul_add,Int.mul_one]at a;rw[Int.mul_sub,Int.mul_left_comm M d k];generalize d*(M*k)=u at *
 generalize M*(t*Q)=v at *
 omega
theorem YA{x y:Nat}(hx:x<18446744073709551616)(hy:y<18446744073709551616)(h:((x:Int)*1099511628211)%18446744073709551616=((y:Int)*1099511628211)%18446744073709551616):x=y:=by
 obtain⟨t,a⟩:=Int.dvd_of_emod_eq_zero (Int.emod_eq_emod_iff_emod_sub_eq_zero.1 h);rw[<-Int.sub_mul]at a;have e:=ZR ((x:Int)-y) t 18446744073709551616 1099511628211 14886173955864302971 887285111055 (by decide) a;generalize t*14886173955864302971-((x:Int)-y)*887285111055=z at e
 clear a h;omega
theorem TK(y:Nat)(a:y<18446744073709551616)(b:UInt8):IP (y:Int) b=(((y ^^^ b.toNat:Nat):Int)*1099511628211)%18446744073709551616:=by
 have hb:b.toNat<256:=b.toNat_lt;unfold IP;rw[show IntKind.u64.wrap ((b.toNat:Nat):Int)=((b.toNat:Nat):Int) by rw[IntKind.wrap_u64];omega,bits_xor_u64_nat y b.toNat a (by omega),IntKind.wrap_u64]
theorem TJ{y c:Nat}(d:y<18446744073709551616)(e:c<18446744073709551616){b a:UInt8}(h:IP (y:Int) b=IP (c:Int) a):y ^^^ b.toNat=c ^^^ a.toNat:=by
 have f:b.toNat<18446744073709551616:=by have:b.toNat<256:=b.toNat_lt;omega
 have g:a.toNat<18446744073709551616:=by have:a.toNat<256:=a.toNat_lt;omega
 rw[TK y d,TK c e]at h;exact YA (E9 (n:=64) d f) (E9 (n:=64) e g) h
theorem TE{a b c:Nat}(h:a ^^^ b=a ^^^ c):b=c:=by
 have:=Ca (a ^^^ ·) h
 simpa [<-Nat.xor_assoc] using this
theorem ZkV{a b c:Nat}(h:a ^^^ c=b ^^^ c):a=b:=by
 have:=Ca (· ^^^ c) h
 simpa [Nat.xor_assoc] using this
theorem PR(l:List UInt8):∃y:Nat,y<18446744073709551616/\Jz l=(y:Int):=by
 have:=PH l;exact⟨(Jz l).toNat,by omega,by omega⟩
theorem TL'{l a:List UInt8}(h:Jz l≠Jz a):∀(n:Nat)(t:List UInt8),t.length=n->Jz (l++t)≠Jz (a++t)
 | 0,t,e=>by
  rw[List.eq_nil_of_length_eq_zero e,CG,CG];exact h
 | n+1,t,e=>by
  rcases List.eq_nil_or_concat t with rfl|⟨c,b,rfl⟩
  ·cases e
  ·have e':c.length=n:=by simpa using e
   rw[List.concat_eq_append,<-Ar,<-Ar,QM,QM];intro e;obtain⟨y,g,d⟩:=PR (l++c);obtain⟨y',i,f⟩:=PR (a++c);rw[d,f]at e;have:=ZkV (TJ g i e);exact TL' h n c e' (by rw[d,f,this])
theorem TL{l a:List UInt8}(h:Jz l≠Jz a)(t:List UInt8):Jz (l++t)≠Jz (a++t):=TL' h _ t rfl
theorem ZQ(l t:List UInt8){b a:UInt8}(h:b≠a):Jz (l++b::t)≠Jz (l++a::t):=by
 have f:Jz (l++[b])≠Jz (l++[a]):=fun e=>by
  rw[QM,QM]at e;obtain⟨y,c,d⟩:=PR l;rw[d]at e;exact h (E8.1 (TE (TJ c c e)))
 have g:=TL f t
 rwa [Ar,Ar]at g
def IF(y y':By):Prop:=∃l b b' t,BL y=l++b::t/\BL y'=l++b'::t/\b≠b'
theorem IF.fnv{y a:By}(h:IF y a):Dl a≠Dl y:=fun e=>by
 obtain⟨l,b,b',t,c,d,f⟩:=h;refine ZQ l t f ?_;rw[<-c,<-d];exact(QB y).trans ((Ca Int.ofNat e.symm).trans (QB a).symm)
theorem YE(T p x:Nat):BL (GO T p x)=BL ((Hr T p x).extract 0 56)++DC (Dl ((Hr T p x).extract 0 56)) 8:=by
 unfold GO;rw[DO];exact Ca _ (Kt _)
theorem ck_one{T p x:Nat}{y:By}(h:IF (GO T p x) y)(i:Nat):Kh i y=false:=by
 unfold Kh;refine B2 (fun ⟨_,e⟩=>?_);obtain⟨l,b,g,t,c,a,q⟩:=h;rw[<-e]at a;generalize IE y=T' at a
 generalize Gu (Ij y)=p' at a
 generalize GD (Ij y)=x' at a
 rw[YE]at c a;have j:(BL ((Hr T p x).extract 0 56)).length=56:=by rw[DZ,Af,K6];rfl
 have k:(BL ((Hr T' p' x').extract 0 56)).length=56:=by rw[DZ,Af,K6];rfl
 generalize (Hr T p x).extract 0 56=A at c j
 generalize (Hr T' p' x').extract 0 56=A' at a k
 have d:BL A=(l++b::t).take 56:=by rw[<-c,BP j]
 have n:DC (Dl A) 8=(l++b::t).drop 56:=by rw[<-c,CQ j]
 have f:BL A'=(l++g::t).take 56:=by rw[<-a,BP k]
 have o:DC (Dl A') 8=(l++g::t).drop 56:=by rw[<-a,CQ k]
 rcases AO l.length 56 with u|u
 ·obtain⟨m,r⟩:∃m,56-l.length=m+1:=⟨55-l.length,by omega⟩;rw[BN,Ah (by omega),r,Ew]at d f;rw[Fv,Cq (by omega),r,CK,AA]at n o;exact IF.fnv ⟨l,b,g,_,d,f,q⟩ (QE (m:=8) (JS _) (JS _) (o.trans n.symm))
 ·rw[BN,show 56-l.length=0 by omega,Ct]at d f;have s:A=A':=Kn (d.trans f.symm);rw[s,a]at c;exact q (Cx (Ey c)).1.symm
def Mw(D:LY):Prop:=∀(w:World) (db:Nat) (vf:Value) (a:OA) (l c:Nat),DV w db vf (.slice a l c) (.slice none 0 0) (.slice none 0 0) D->¬F2 (.slice a l c) db->Gs w->Cl 76 #[.pointer (some ⟨db,0,none⟩)] w fun e w'=>e=LO/\Bw w w'
theorem ZiO{s:KS}(k:Gf s)(n:GW s)(aa:s.tn+1<18446744073709551616){b:Nat->Option By}(I:GB b s){j:Nat}{y d:By}(o:s.D[j]?=some y)(M:IF y d):L7 s.tn b (s.D.set j d)\/Mw (s.D.set j d):=by
 have X:=k.ok.dl;have V:=(Ae.1 o).1;have f:∀p,p≠j->(s.D.set j d)[p]?=s.D[p]? := fun p Z=>As (Ne.symm Z)
 have B:(s.D.set j d)[j]?=some d:=Bf V;have K:∀u D,s.D[j]?=some u->(s.D.set j d)[j]?=some D->Dl D≠Dl u:=fun u D H m=>by
  rw[o]at H;rw[B]at m
  cases H
  cases m
  exact M.fnv
 have R:=I;obtain⟨C,es,k1,k2,N,O,k5,k6,k7⟩:=I;rcases AO j 2 with m|m
 ·refine .inr (fun w t E a l c v z A=>?_);have U:∃T p x,y=GO T p x:=by
   obtain⟨p,x,_,_,ho⟩:=n.old;by_cases e:j=s.tn%2
   ·have:=n.own;rw[<-e,o]at this;exact⟨_,_,_,BV this⟩
   ·rw[show(s.tn+1)%2=j by omega,o]at ho;exact⟨_,_,_,BV ho⟩
  obtain⟨T,p,x,rfl⟩:=U;have L:=ck_one M j;obtain⟨P,g⟩:∃x,(s.D.set j d)[0]?=some x:=⟨_,Ac (by rw[Bq];omega)⟩;obtain⟨Q,h⟩:∃x,(s.D.set j d)[1]?=some x:=⟨_,Ac (by rw[Bq];omega)⟩;refine Tl k N O f K g h (.inl ?_) w t E a l c v z A;have S:¬(Kh 0 P=true/\Kh 1 Q=true):=by
   rintro⟨F,G⟩;rcases BC j with e|e
   ·subst e;rw[B]at g
    cases g
    rw[L]at F;cases F
   ·obtain rfl:j=1:=by omega
    rw[B]at h
    cases h
    rw[L]at G;cases G
  unfold J4;rw[if_neg S]
 ·by_cases J:∃r:Int,(r,(j:Int))∈s.es
  ·refine .inr (fun w t E a l c v z A=>?_);obtain⟨P,Q,g,h,W⟩:=n.last k.ok.tp aa;rw[<-f 0 (by omega)]at g;rw[<-f 1 (by omega)]at h;exact Tl k N O f K g h (.inr ⟨W,J⟩) w t E a l c v z A
  ·refine .inl (R.disk k n (Aa _) (by rw[Bq];exact X) (fun i hi=>f i (by omega)) (fun r q Y=>f q (fun e=>J ⟨_,by rw[<-e];exact Y⟩)))
theorem TY{D:LY}(g:Mw D)(i:D.length=1536)(f:∀s∈D,s.size=64)(w:World)(a:OA)(l c:Nat)(h:Sl w 5 1 (.slice a l c) (Jk D).size (Dc (Jk D)))(j:Gs w):
  Cl 27 #[.slice a l c] w fun e w'=>e = .returned (.tuple #[.pointer none,.int .i64 10])/\Bw w w':=by
 have n:Hid (Cl 75 #[.slice a l c] w fun e X=>∃b:Nat,e = .returned (.tuple #[.pointer (some ⟨b,0,none⟩),.bool true])/\Hid (Cl 76 #[.pointer (some ⟨b,0,none⟩)] X fun e Y=>e = .returned (.tuple #[.pointer none,.pointer none,.bool false])/\Hid (Bw w Y))):=by
  refine(Tk w a l c D h i f).mono ?_;rintro e X ⟨b,x,o,u,p,rfl,q,t,aa,ab,d⟩;refine⟨b,rfl,?_⟩;refine(g X b x o u p q t (j.fr (Fr.of_below d) (X:=fun _=>False) (fun e=>e))).mono ?_;rintro e Y ⟨rfl,r⟩;exact⟨rfl,d.trans (r.mono d.size)⟩
 clear h j g i f;go_enter Tryz.func27,Tryz.ntmps27;go_wp2_with (first|(go_at_call 75;refine(Da n).mono ?_;rintro e X ⟨b,rfl,k⟩)|(go_at_call 76;refine(Da k).mono ?_;rintro e Y ⟨rfl,m⟩));exact Ax (v := .tuple #[.pointer none,.int .i64 10]) (by simp[results,Tryz.results27,go_sem]) rfl ⟨rfl,Da m⟩
theorem ZmI{D:LY}(r:Mw D)(u:D.length=1536)(q:∀s∈D,s.size=64)(w:World)(a:OA)(l c:Nat)(h:Sl w 5 1 (.slice a l c) (Jk D).size (Dc (Jk D)))(x:Gs w):
  Cl 32 #[.slice a l c] w fun e w'=>e = .returned (.tuple #[.agg #[.int .i64 0,.int .i64 0,.int .i64 0,.int .i64 0],.int .i64 10])/\Bw w w':=by
 obtain⟨W,p,j,z,A,d⟩:=De w [.int .i64 0,.int .i64 0,.int .i64 0,.int .i64 0] 75;have n:Hid (Cl 27 #[.slice a l c] W fun e X=>e = .returned (.tuple #[.pointer none,.int .i64 10])/\F0 X w.heap.size 75 [.int .i64 0,.int .i64 0,.int .i64 0,.int .i64 0]/\Hid (Bw w X)):=by
  refine(TY r u q W a l c (h.kept (fun k i _=>d.block k i)) (x.fr (Fr.of_below d) (X:=fun _=>False) (fun e=>e))).mono ?_;rintro e X ⟨rfl,t⟩;exact⟨rfl,(t.block _ j.lt).trans j,d.trans (t.mono d.size)⟩
 have o:=Db p;clear h x r u q j z A p d;go_enter Tryz.func32,Tryz.ntmps32;go_upto_region 1 with fail;rw[show w.alloc _=W from Da o];go_upto_region 3 with(go_at_call 27;refine(Da n).mono ?_;rintro e X ⟨rfl,b,m⟩);have b0:=b.cell 0;have b1:=b.cell 1;have b2:=b.cell 2;have b3:=b.cell 3;have g0:=b.frozen 0;have g1:=b.frozen 1;have g2:=b.frozen 2;have g3:=b.frozen 3;have g:=(((b.set 0 (.int .i64 0)).set 1 (.int .i64 0)).set 2 (.int .i64 0)).set 3 (.int .i64 0);have B:=g.cell 0;have C:=g.cell 1;have E:=g.cell 2;have F:=g.cell 3;have y:Hid (Bw w ((((X.setCell ⟨w.heap.size,0,none⟩ (.int .i64 0)).setCell ⟨w.heap.size,1,none⟩ (.int .i64 0)).setCell ⟨w.heap.size,2,none⟩ (.int .i64 0)).setCell ⟨w.heap.size,3,none⟩ (.int .i64 0))):=by
  have f:=Fr.set (Fr.set (Fr.set (Fr.set (Fr.of_below (X:=fun k=>k=w.heap.size) (Da m)) ⟨w.heap.size,0,none⟩ (.int .i64 0) rfl) ⟨w.heap.size,1,none⟩ (.int .i64 0) rfl) ⟨w.heap.size,2,none⟩ (.int .i64 0) rfl) ⟨w.heap.size,3,none⟩ (.int .i64 0) rfl;exact⟨f.os,f.tape,f.output,f.size,fun k i=>f.block k i (by omega)⟩
 clear b g o n m;go_wp2;exact Ax (v := .tuple #[.agg #[.int .i64 0,.int .i64 0,.int .i64 0,.int .i64 0],.int .i64 10]) (by simp[results,Tryz.results32,go_sem,B,C,E,F]) rfl ⟨rfl,Da y⟩
section
variable{T T':Nat}{F:LY}{ps:LB}{ep:List Int}{s s':KS}{kb:List (Nat->Option By)}{en:List Nat}{b':Nat->Option By}
end

theorem ZiZ(w:World)(a:OA)(l c:Nat)(s:By)(h:Gy w a l c s)(n:Nat):
  ∀W:World,W.ownsRow 0 5 1 (.slice (some ⟨w.heap.size,0,none⟩) n n) n (madeCells (Value.int .u8 0).cells (n*1)).toList->w.grownBy W none->∃f k,(Builtin.copy_ #[59,59] 3 #[.slice (some ⟨w.heap.size,0,none⟩) n n,.slice a l c]).run Tryz.prog W = .ok (goInt k) f/\Hid (Sl f 5 1 (.slice (some ⟨w.heap.size,0,none⟩) n n) n (Dc (Dg s n))/\Bw w f):=by
 intro W F I;have m:=Sl.of_owns F;have i:=KT I;have z:(madeCells (Value.int .u8 0).cells (n*1)).toList=List.replicate n (.int .u8 0):=by rw[BW];exact EQ (.int .u8 0) n
 rw[z]at m;have K:=h.below i
 cases a with
 | none=>
  have r:s.size=0:=by
   rcases BC s.size with e|e
   ·exact e
   ·obtain⟨x,N,_⟩:=h.2.2 0 ((Dc s)[0]'(by rw[Dh];exact e)) (Ac _)
    cases N
  have J:l=0:=by rw[h.1,r]
  have G:=h.2.1 rfl;subst J G;refine⟨W,0,PQ W _ _ _,?_,i⟩;have:Dc (Dg s n)=List.replicate n (.int .u8 0):=by
   have M:s=⟨#[]⟩:=by
    apply A7;have:s.data.toList.length=0:=by rw[<-r];exact AG
    rw[Ay this]
   unfold Dg;by_cases t:n<=s.size
   ·rw[if_pos t];have:n=0:=by omega
    subst this;rw[Jt];simp
   ·rw[if_neg t,JE,Kw,r,M];simp[Dc]
  rw[this];exact m
 | some x=>
  rcases m.2 with⟨e,_⟩|⟨g,aa,L,e,E,h1,A,B,C⟩
  ·cases e
  ·cases e
   have D:L=List.replicate n (.int .u8 0):=by
    rw[<-C,Ah (by omega)]
   have o:((Dc s).take (Nat.min l n)).length=Nat.min l n*1:=by
    rw[Am,Dh,h.1,BW];exact BB (FH _ _)
   obtain⟨f,Q,u,R⟩:=JP (P:=Tryz.prog) W 59 59 3 5 1 w.heap.size 0 n n x l c L 5 ((Dc s).take (Nat.min l n)) Tryz.underlying59 Q2 E o
    (fun j v d=>by
     rw[Ao]at d
     split at d
     ·obtain⟨y,e,O⟩:=K.2.2 j v d;cases e;exact O
     ·cases d) (by rw[o,B];have:Nat.min l n<=n:=Nat.min_le_right _ _;omega) (fun v d=>Ko s v (BE d))
   refine⟨f,_,Q,?_,?_⟩
   ·have H:F8 L 0 ((Dc s).take (Nat.min l n))=Dc (Dg s n):=by
     unfold F8;rw[o,D,Ct,AA,Av,BW,CL];unfold Dg;by_cases q:n<=s.size
     ·have p:Nat.min l n=n:=by rw[h.1];exact Eh q
      rw[if_pos q,Jt,p];simp
     ·have p:Nat.min l n=s.size:=by rw[h.1];exact BB (by omega)
      rw[if_neg q,JE,Kw,p,Ah (by rw[Dh];exact Aa _)]
    rw[H]at u;refine⟨by rw[Dh,Jc];omega,.inr ⟨w.heap.size,n,_,rfl,u,Aa _,A,by rw[Dh,Jc];omega,by rw[Ah (by rw[Dh,Jc];omega)]⟩⟩
   ·exact i.grown R i.size (fun k e=>by cases e;exact Aa _)
theorem W0(w:World)(a:OA)(l c:Nat)(s:By)(h:Gy w a l c s)(n:Nat)(W:World)(m:W.ownsRow 0 5 1 (.slice (some ⟨w.heap.size,0,none⟩) n n) n (madeCells (Value.int .u8 0).cells (n*1)).toList)(o:w.grownBy W none):
  ∃d k,(Builtin.copy_ #[59,59] 3 #[.slice (some ⟨w.heap.size,0,none⟩) n n,.slice a l c]).run Tryz.prog W = .ok (goInt k) d/\F0 d w.heap.size 5 (Dc (Dg s n))/\Bw w d:=by
 obtain⟨d,k,p,i⟩:=ZiZ w a l c s h n W m o;refine⟨d,k,p,?_,(Da i).2⟩;rcases (Da i).1.2 with⟨e,_⟩|⟨g,aa,L,e,j,h1,h2,h3,f⟩
 ·cases e
 ·simp only[Bl,Et,Addr.mk.injEq]at e;obtain⟨⟨rfl,-,-⟩,-,rfl⟩:=e;rw[Ah (by omega)]at f;rw[<-f];exact j
theorem WA(s:By):Dg s s.size=s:=by
 unfold Dg;rw[if_pos (Aa _)];apply A7;rw[Cc,BY,EH];exact Ah (Ej AG)
theorem Zl(s d:By)(p m:Nat)(hm:m=max s.size (p+d.size)):F8 (Dc (Dg s m)) p (Dc d)=Dc (IL s p d):=by
 unfold F8 IL;rw[JE,JE,Dh];by_cases h:p+d.size<=s.size
 ·rw[show m=s.size by omega,WA];have a:(Dc s).take p=Dc (Dg s p):=by
   unfold Dg;rw[if_pos (by omega),Jt,BY,EH]
  rw[a]
  congr 1
  split
  ·rw[Jt,Ah (by rw[Az,Dh];exact Aa _)]
  ·rw[Cq (by rw[Dh];omega)];rfl
 ·have aa:m=p+d.size:=by omega
  have e:Dc (Dg s m)=Dc s++List.replicate (m-s.size) (.int .u8 0):=by
   unfold Dg;rw[if_neg (by omega),JE,Kw]
  rw[e,if_neg (by omega)];have a:(Dc s++List.replicate (m-s.size) (Value.int .u8 0)).take p=Dc (Dg s p):=by
   unfold Dg;by_cases c:p<=s.size
   ·rw[if_pos c,Jt,BY,EH,A4 (by rw[Dh];exact c)]
   ·rw[if_neg c,JE,Kw,BN,Ah (by rw[Dh];omega),Dh,BM]
    congr 2
    omega
  rw[a,Cq (by rw[Ad,Dh,Bk];omega)]
  rfl
def GE(w:World)(o:Option By)(v:Value):Prop:=(o=none/\v = .slice none 0 0)\/∃s g,o=some s/\v = .slice (some ⟨g,0,none⟩) s.size s.size/\F0 w g 5 (Dc s)
structure Hl(n0:Nat)(w:World)(sb:Nat)(b:Nat->Option By)(vs:NV):Prop where
 row:F0 w sb 62 ((List.range 8).map vs)
 at':∀i,i<8->GE w (b i) (vs i)
 lo:n0<=sb
theorem GE.kp{w w':World}{o:Option By}{v:Value}(h:GE w o v)(e:GA w w'):GE w' o v:=by
 rcases h with h|⟨s,g,a,c,d⟩
 ·exact .inl h
 ·exact .inr ⟨s,g,a,c,e g 5 _ d (.inr (.inl rfl))⟩
theorem GE.rd{w:World}{o:Option By}{v:Value}(h:GE w o v):∃a l c,v = .slice a l c/\Gy w a l c (o.getD ⟨#[]⟩):=by
 rcases h with⟨rfl,rfl⟩|⟨s,g,rfl,rfl,f⟩
 ·exact⟨none,0,0,rfl,rfl,fun _=>rfl,fun j v d=>by simp[Dc]at d⟩
 ·refine⟨_,_,_,rfl,rfl,(fun e=>by cases e),fun j v d=>⟨_,rfl,?_⟩⟩;rw[AL,Av,f.cell];exact d
section
variable{n0:Nat}{w w':World}{sb:Nat}{b:Nat->Option By}{vs:NV}
theorem Hl.kp(h:Hl n0 w sb b vs)(a:GA w w'):Hl n0 w' sb b vs:=⟨a sb 62 _ h.row (.inl rfl),fun i c=>(h.at' i c).kp a,h.lo⟩
theorem Hl.cell(h:Hl n0 w sb b vs){i:Nat}(a:i<8):w.cell? ⟨sb,i,none⟩=some (vs i):=by
 rw[h.row.cell,Bv,C8 a];rfl
theorem Hl.set(h:Hl n0 w sb b vs){i:Nat}(m:i<8){o:Option By}{v:Value}(x:GE w o v):Hl n0 (w.setCell ⟨sb,i,none⟩ v) sb (JR b i o) (fun j=>if j=i then v else vs j):=by
 have r:∀g L,F0 w g 5 L->F0 (w.setCell ⟨sb,i,none⟩ v) g 5 L:=fun g L l=>by
  have t:g≠sb:=fun e=>by
   subst e;have:=l.type h.row
   revert this;decide
  exact l.fr ((Fr.of_below (X:=fun k=>k=sb) (Al _ _)).set ⟨sb,i,none⟩ v rfl) t
 have f:∀{o:Option By} {u:Value},GE w o u->GE (w.setCell ⟨sb,i,none⟩ v) o u:=fun d=>by
  rcases d with d|⟨s,g,n,p,q⟩
  ·exact .inl d
  ·exact .inr ⟨s,g,n,p,r g _ q⟩
 refine⟨?_,fun j a=>?_,h.lo⟩
 ·have:=h.row.set i v;have e:((List.range 8).map vs).set i v=(List.range 8).map (fun j=>if j=i then v else vs j):=by
   apply EN;intro j;rw[Fe,Bv,Bv,AK,A2];by_cases c:i=j
   ·subst c;rw[if_pos rfl,if_pos m,C8 m];simp
   ·rw[if_neg c];by_cases a:j<8
    ·rw[C8 a];simp[show ¬j=i from fun e=>c e.symm]
    ·rw[BS (by rw[A2];omega)]
     rfl
  rw[e]at this;exact this
 ·show GE _ (if j=i then o else b j) (if j=i then v else vs j)
  split
  ·exact f x
  ·exact f (h.at' j a)
theorem GK.setS{N:Nat}{j:World}{g tb c f:Nat}{K:KS->Prop}{a:Nat->Option By}(h:GK N n0 j w g tb c f a K)(d:Hl n0 w sb b vs)(i:Nat)(v:Value):GK N n0 j (w.setCell ⟨sb,i,none⟩ v) g tb c f a K:=by
 refine h.fr62 (X:=fun k=>k=sb) ?_ (fun k t R e l=>?_) (fun k e=>by rw[e];exact d.lo)
 ·exact(Fr.of_below (Al _ _)).set ⟨sb,i,none⟩ v rfl
 ·subst e;exact l.type d.row
end
def NE(N n0:Nat)(w0 w:World)(vb tb db stb sb:Nat)(K:KS->Prop)(e:Ending)(w':World):Prop:=e = .returned (.bool true)/\∃b vs,GK N n0 w0 w' vb tb db stb b K/\Hl n0 w' sb b vs/\R5 sb w w'
section
variable{N n0:Nat}{w0 w:World}{vb tb db stb sb:Nat}{b:Nat->Option By}{vs:NV}{K:KS->Prop}
theorem GL.tdiv{c:Int}(h:GL c)(m:Nat):GL (c.tdiv m):=by
 obtain⟨h1,h2⟩:=h;unfold GL;rcases Int.le_total 0 c with d|d
 ·rw[FO d];have f:=Int.ediv_nonneg d (FT m);have g:=Int.ediv_le_self (b:=(m:Int)) d;omega
 ·have e:c.tdiv m = -((-c)/(m:Int)):=by
   rw[<-FO (by omega),Int.neg_tdiv,Int.neg_neg]
  rw[e];have f:=Int.ediv_nonneg (a := -c) (by omega) (FT m);have g:=Int.ediv_le_self (a := -c) (b:=(m:Int)) (by omega);omega
theorem GK.sizes(h:GK N n0 w0 w vb tb db stb b K){i:Nat}(e:i<8):Hid (((b i).getD ⟨#[]⟩).size<=1280):=by
 show((b i).getD ⟨#[]⟩).size<=1280;obtain⟨G,I,CI,_,a⟩:=h.tr
 cases hb:b i with
 | none=>show 0<=1280;omega
 | some s=>
  obtain⟨f,c,d⟩:=a.yes i e s hb;have:=a.fl.sz _ c;show s.size<=1280;rw[<-d];exact this
theorem KG(h:GK N n0 w0 w vb tb db stb b K)(hs:Hl n0 w sb b vs){i:Nat}(r:i<8)(c:Int)(hc:GL c)(n p q m:Nat)(an:n<=1280)(hq:p+q=n)(a:OA)(l t:Nat)(u:vs i = .slice a l t)(H:m=if 0<q then max l n else l)(U:q=0->p=0)(pv:Int)(ai:pv=(p:Int))(J:Nat)(af:J=m-p):
  Cl 73 #[.int .i64 c,.int .i64 (q:Nat)] w fun e X=>∃D:Nat,e = .returned (.slice (some ⟨D,0,none⟩) q q)/\Hid (Cl 72 #[.int .i64 i] X fun e x=>e = .returned (.string (GJ i))/\Hid (Cl 59 #[.pointer (some ⟨vb,0,none⟩),.string (GJ i),.int .i64 pv,.slice (some ⟨D,0,none⟩) q q] x fun e Y=>e = .returned (.int .i64 0)/\Y.cell? ⟨sb,i,none⟩=some (.slice a l t)/\
   Hid (∀W:World,W.ownsRow 0 5 1 (.slice (some ⟨Y.heap.size,0,none⟩) m m) m (madeCells (Value.int .u8 0).cells (m*1)).toList->Y.grownBy W none->W.cell? ⟨sb,i,none⟩=some (.slice a l t)/\∃f kk,(Builtin.copy_ #[59,59] 3 #[.slice (some ⟨Y.heap.size,0,none⟩) m m,.slice a l t]).run Tryz.prog W = .ok (goInt kk) f/\
   ∃g k2,(Builtin.copy_ #[59,59] 3 #[.slice (some ⟨Y.heap.size,p,none⟩) J J,.slice (some ⟨D,0,none⟩) q q]).run Tryz.prog f = .ok (goInt k2) g/\g.cell? ⟨sb,i,none⟩=some (.slice a l t)/\g.frozen? ⟨sb,i,none⟩=false/\
   Hid (NE N n0 w0 w vb tb db stb sb K (.returned (.bool true)) (g.setCell ⟨sb,i,none⟩ (.slice (some ⟨Y.heap.size,0,none⟩) m m)))))):=by
 subst ai af;refine(Zi8 w c q hc (by omega)).mono ?_;rintro e X ⟨d,Q,rfl,M,E⟩;refine⟨w.heap.size,rfl,?_⟩;refine(N7 X i r).mono ?_;rintro e x ⟨rfl,z⟩;refine⟨rfl,?_⟩;have O:F0 x w.heap.size 5 (Dc d):=(z.block _ M.lt).trans M;have h2:=(h.below E).below z;have ak:=(hs.kp (GA.below E)).kp (GA.below z);have am:Sl x 5 1 (.slice (some ⟨w.heap.size,0,none⟩) d.size d.size) d.size (Dc d):=⟨by rw[Dh,BW],.inr ⟨w.heap.size,d.size,_,rfl,O,Aa _,by unfold maxLen;omega,by rw[Dh,BW],by rw[Ah (by rw[Dh];omega)]⟩⟩;have Z:=L9 h2 r p d (by omega) (some ⟨w.heap.size,0,none⟩) d.size am;rw[Q]at Z;refine Z.mono ?_;rintro e Y ⟨rfl,hY,G⟩;have B:=ak.kp G.k6;have P:F0 Y w.heap.size 5 (Dc d):=G.k6 _ _ _ O (.inr (.inl rfl));refine⟨rfl,by rw[<-u];exact B.cell r,fun W ag S=>?_⟩;have ab:=KT S;have al:=B.kp (GA.below ab);refine⟨by rw[<-u];exact al.cell r,?_⟩;obtain⟨a',l',c',C,I⟩:=(B.at' i r).rd;rw[u]at C;simp only[Bl]at C;obtain⟨rfl,rfl,rfl⟩:=C;have ad:=I.1;obtain⟨s,V⟩:=ex ((b i).getD ⟨#[]⟩);rw[<-V]at I ad;obtain⟨f,kk,r1,r2,L⟩:=W0 Y a l t s I m W ag S;refine⟨f,kk,r1,?_⟩;have aa:F0 f w.heap.size 5 (Dc d):=(L.block _ P.lt).trans P;have aj:Gy f (some ⟨w.heap.size,0,none⟩) q q d:=⟨Q.symm,(fun e=>by cases e),fun j v u=>⟨_,rfl,by rw[AL,Av,aa.cell];exact u⟩⟩;have ae:p+q<=m\/q=0:=by
  by_cases y:0<q
  ·rw[if_pos y]at H;left;omega
  ·right;omega
 have ao:p<=m:=by
  rcases ae with e|e
  ·omega
  ·have:=U e;omega
 obtain⟨g,q1,q2,q3⟩:=NJ f Y.heap.size 5 _ r2 p (m-p) (m-p) (some ⟨w.heap.size,0,none⟩) q q d aj (by omega) (by rw[Dh,Jc];omega);have R:F8 (Dc (Dg s m)) p (Dc d)=Dc (MF (b i) p d)/\(MF (b i) p d).size=m:=by
  unfold MF Hy;rw[<-V,Bz];by_cases y:0<q
  ·rw[if_neg (by omega)];rw[if_pos y]at H;refine⟨Zl s d p m (by omega),?_⟩;rw[Ur];omega
  ·rw[if_pos (by omega)];rw[if_neg y]at H;have ah:=U (by omega);subst ah;have T:m=s.size:=by omega
   refine⟨?_,T.symm⟩;have ac:Dc d=[]:=Ay (by rw[Dh];omega);rw[ac,T,WA];unfold F8;simp
 rw[R.1]at q2;have F:Bw Y g:=L.grown q3 L.size (fun k e=>by cases e;exact Aa _);have A:=B.kp (GA.below F);refine⟨g,d.size,q1,by rw[<-u];exact A.cell r,A.row.frozen i,rfl,_,_,(hY.below F).setS A i _,A.set r (o:=some (MF (b i) p d)) (.inr ⟨_,Y.heap.size,rfl,by rw[R.2],q2⟩),Hi.set ((((Hi.below E).trans (Hi.below z)).trans G).trans (Hi.below F)) _ _ _⟩
theorem Zm9(h:GK N n0 w0 w vb tb db stb b K)(D:Hl n0 w sb b vs){i:Nat}(c:i<8)(n:Nat)(A:n<=1280){s:By}{g:Nat}(u:b i=some s)(f:vs i = .slice (some ⟨g,0,none⟩) s.size s.size)(x:F0 w g 5 (Dc s)):
  Cl 72 #[.int .i64 i] w fun e X=>e = .returned (.string (GJ i))/\Hid (Cl 60 #[.pointer (some ⟨vb,0,none⟩),.string (GJ i),.int .i64 (n:Nat)] X fun e Y=>e = .returned (.int .i64 0)/\
   Hid (∀W:World,W.ownsRow 0 5 1 (.slice (some ⟨Y.heap.size,0,none⟩) n n) n (madeCells (Value.int .u8 0).cells (n*1)).toList->Y.grownBy W none->W.cell? ⟨sb,i,none⟩=some (.slice (some ⟨g,0,none⟩) s.size s.size)/\∃a kk,(Builtin.copy_ #[59,59] 3 #[.slice (some ⟨Y.heap.size,0,none⟩) n n,.slice (some ⟨g,0,none⟩) s.size s.size]).run Tryz.prog W = .ok (goInt kk) a/\a.cell? ⟨sb,i,none⟩=some (.slice (some ⟨g,0,none⟩) s.size s.size)/\a.frozen? ⟨sb,i,none⟩=false/\
   Hid (NE N n0 w0 w vb tb db stb sb K (.returned (.bool true)) (a.setCell ⟨sb,i,none⟩ (.slice (some ⟨Y.heap.size,0,none⟩) n n))))):=by
 refine(N7 w i c).mono ?_;rintro e X ⟨rfl,m⟩;refine⟨rfl,?_⟩;refine(OP (h.below m) c u n A).mono ?_;rintro e Y ⟨rfl,t,z⟩;have k:Hi w Y:=(Hi.below m).trans z;have q:=D.kp k.k6;have y:=k.k6 _ _ _ x (.inr (.inl rfl));refine⟨rfl,fun W B p=>?_⟩;have r:=KT p;refine⟨by rw[<-f];exact(q.kp (GA.below r)).cell c,?_⟩;have C:Gy Y (some ⟨g,0,none⟩) s.size s.size s:=⟨rfl,(fun e=>by cases e),fun j v f=>⟨_,rfl,by rw[AL,Av,y.cell];exact f⟩⟩;obtain⟨a,kk,E,F,l⟩:=W0 Y _ _ _ s C n W B p;have d:=q.kp (GA.below l);exact⟨a,kk,E,by rw[<-f];exact d.cell c,d.row.frozen i,rfl,_,_,(t.below l).setS d i _,d.set c (o:=some (Dg s n)) (.inr ⟨_,Y.heap.size,rfl,by rw[Jc],F⟩),Hi.set (k.trans (Hi.below l)) _ _ _⟩
theorem Zk6(h:GK N n0 w0 w vb tb db stb b K)(z:Hl n0 w sb b vs)(c:Int)(hc:GL c):
  Cl 25 #[.pointer (some ⟨sb,0,none⟩),.pointer (some ⟨vb,0,none⟩),.int .i64 c] w (NE N n0 w0 w vb tb db stb sb K):=by
 obtain⟨c8,h8⟩:∃x,x=c.tdiv 8:=⟨_,rfl⟩;obtain⟨aa,ag⟩:∃x,x=c.tdiv 32:=⟨_,rfl⟩;have ae:GL c8:=by rw[h8];exact hc.tdiv 8
 have ad:GL aa:=by rw[ag];exact hc.tdiv 32
 obtain⟨i,hi⟩:∃x,x=J5 c 8:=⟨_,rfl⟩;obtain⟨k,hk⟩:∃x,x=J5 c8 4:=⟨_,rfl⟩;obtain⟨n,hn⟩:∃x,x=J5 aa 1281:=⟨_,rfl⟩;have A:i<8:=by rw[hi];exact QH _ (by omega)
 have az:k<4:=by rw[hk];exact QH _ (by omega)
 have Z:n<=1280:=by have:=QH aa (n:=1281) (by omega);omega
 have p1:=QO w c 8 hc (by omega) (by omega);have p2:=QO w c8 4 ae (by omega) (by omega);have p3:=QO w aa 1281 ad (by omega) (by omega);rw[<-hi]at p1;rw[<-hk]at p2;rw[<-hn]at p3;have w8:IntKind.i64.wrap (c.tdiv 8)=c8:=by rw[<-h8,AX];have:=ae.1;have:=ae.2;omega
 have aA:IntKind.i64.wrap (c.tdiv 32)=aa:=by rw[<-ag,AX];have:=ad.1;have:=ad.2;omega
 have P1:=Db p1;have P2:=Db p2;have P3:=Db p3;have I:=Db hc;clear p1 p2 p3 hi hk hn ae ad hc h8 ag;have ab:=z.cell A;go_enter Tryz.func25,Tryz.ntmps25;go_upto_region 2 with(go_at_call 24;refine(Da P1).mono ?_;rintro e w' ⟨rfl,rfl⟩);go_upto_region 3 with(go_at_call 24;refine(Da P2).mono ?_;rintro e w' ⟨rfl,rfl⟩);go_upto_region 4 with(go_at_call 24;refine(Da P3).mono ?_;rintro e w' ⟨rfl,rfl⟩);clear P1 P2 P3;have ay:=z.row.frozen i;obtain⟨H,C,E,F,G⟩:=BU KB;by_cases an:k=0
 ·subst an;rcases z.at' i A with⟨hb,u⟩|⟨s,g,hb,u,hg⟩
  ·rw[u]at ab;by_cases W:n=0
   ·subst W;have f:=Db (KG h z A c (Da I) 0 0 0 0 (by omega) rfl none 0 0 u (by rw[if_neg (by omega)]) (fun _=>rfl) 0 rfl 0 rfl);clear z h u;go_upto_region 18 with(go_at_call 73;refine(Da f).mono ?_;rintro e X ⟨D,rfl,d⟩);clear f;go_upto_region 19 with(first|(go_at_call 72;refine(Da d).mono ?_;rintro e R ⟨rfl,v⟩)|(go_at_call 59;refine(Da v).mono ?_;rintro e Y ⟨rfl,O,r⟩));clear d v;go_upto_region 22 with fail;go_upto_region 23 with(at_make;refine BA _ rfl _ _ 59 rfl 0 5 H (.int .u8 0) 1 Tryz.underlying59 C E F _ _ _ _ 0 rfl rfl rfl rfl (by rw[G];omega) (by unfold maxLen;omega) (Aw _) ?_;intro w1 m j;obtain⟨L,J,kk,t,Q,S,y,M,P,B⟩:=Da r w1 m j;clear m j);clear r;go_upto_region 24 with(at_builtin;refine D9 _ rfl _ _ 59 59 rfl _ _ rfl rfl t ?_);clear t;go_upto_region 25 with(at_builtin;refine D9 _ rfl _ _ 59 59 rfl _ _ rfl rfl y ?_);clear y;go_wp2;go_ret;exact Da B
   ·have aj:0<n:=by omega
    have f:=Db (KG h z A c (Da I) n 0 n n Z (by omega) none 0 0 u (by rw[if_pos (by omega)];omega) (by omega) 0 rfl n rfl);have U:min (0:Int) (n:Int)=0:=by omega
    clear z h u;go_upto_region 18 with(go_at_call 73;refine(Da f).mono ?_;rintro e X ⟨D,rfl,d⟩);clear f;go_upto_region 19 with(first|(go_at_call 72;refine(Da d).mono ?_;rintro e R ⟨rfl,v⟩)|(go_at_call 59;refine(Da v).mono ?_;rintro e Y ⟨rfl,O,r⟩));clear d v;go_upto_region 22 with fail;go_upto_region 23 with(at_make;refine BA _ rfl _ _ 59 rfl 0 5 H (.int .u8 0) 1 Tryz.underlying59 C E F _ _ _ _ n rfl rfl rfl rfl (by rw[G];omega) (by unfold maxLen;omega) (Aw _) ?_;intro w1 m j;obtain⟨L,J,kk,t,Q,S,y,M,P,B⟩:=Da r w1 m j;clear m j);clear r;go_upto_region 24 with(at_builtin;refine D9 _ rfl _ _ 59 59 rfl _ _ rfl rfl t ?_);clear t;go_upto_region 25 with(at_builtin;refine D9 _ rfl _ _ 59 59 rfl _ _ rfl rfl y ?_);clear y;go_wp2;go_ret;exact Da B
  ·rw[u]at ab;have HP:Hid (Cl 72 #[.int .i64 i] w' fun e X=>e = .returned (.string (GJ i))/\Hid (Cl 63 #[.pointer (some ⟨vb,0,none⟩),.string (GJ i)] X fun e Y=>e = .returned (.int .i64 0)/\Y.cell? ⟨sb,i,none⟩=some (vs i)/\Y.frozen? ⟨sb,i,none⟩=false/\Hid (NE N n0 w0 w' vb tb db stb sb K (.returned (.bool true)) (Y.setCell ⟨sb,i,none⟩ (.slice none 0 0))))):=by
    refine(N7 w' i A).mono ?_;rintro e X ⟨rfl,hX⟩;refine⟨rfl,?_⟩;refine(Zb (h.below hX) A hb).mono ?_;rintro e Y ⟨rfl,hY,ak⟩;have af:=(z.kp (GA.below hX)).kp ak.k6;refine⟨rfl,af.cell A,af.row.frozen i,rfl,_,_,?_,af.set A (o:=none) (.inl ⟨rfl,rfl⟩),Hi.set ((Hi.below hX).trans ak) _ _ _⟩;exact hY.setS af i _
   clear z h hg;go_wp2_with (first|(go_at_call 72;refine(Da HP).mono ?_;rintro e X ⟨rfl,d⟩)|(go_at_call 63;refine(Da d).mono ?_;rintro e Y ⟨rfl,O,fY,f⟩));go_ret;exact Da f
 ·by_cases ao:k=1
  ·subst ao;rcases z.at' i A with⟨hb,u⟩|⟨s,g,hb,u,hg⟩
   ·rw[u]at ab;by_cases W:n=0
    ·subst W;have f:=Db (KG h z A c (Da I) 0 0 0 0 (by omega) rfl none 0 0 u (by rw[if_neg (by omega)]) (fun _=>rfl) 0 rfl 0 rfl);clear z h u;go_upto_region 18 with(go_at_call 73;refine(Da f).mono ?_;rintro e X ⟨D,rfl,d⟩);clear f;go_upto_region 19 with(first|(go_at_call 72;refine(Da d).mono ?_;rintro e R ⟨rfl,v⟩)|(go_at_call 59;refine(Da v).mono ?_;rintro e Y ⟨rfl,O,r⟩));clear d v;go_upto_region 22 with fail;go_upto_region 23 with(at_make;refine BA _ rfl _ _ 59 rfl 0 5 H (.int .u8 0) 1 Tryz.underlying59 C E F _ _ _ _ 0 rfl rfl rfl rfl (by rw[G];omega) (by unfold maxLen;omega) (Aw _) ?_;intro w1 m j;obtain⟨L,J,kk,t,Q,S,y,M,P,B⟩:=Da r w1 m j;clear m j);clear r;go_upto_region 24 with(at_builtin;refine D9 _ rfl _ _ 59 59 rfl _ _ rfl rfl t ?_);clear t;go_upto_region 25 with(at_builtin;refine D9 _ rfl _ _ 59 59 rfl _ _ rfl rfl y ?_);clear y;go_wp2;go_ret;exact Da B
    ·have aj:0<n:=by omega
     have f:=Db (KG h z A c (Da I) n 0 n n Z (by omega) none 0 0 u (by rw[if_pos (by omega)];omega) (by omega) 0 rfl n rfl);have U:min (0:Int) (n:Int)=0:=by omega
     clear z h u;go_upto_region 18 with(go_at_call 73;refine(Da f).mono ?_;rintro e X ⟨D,rfl,d⟩);clear f;go_upto_region 19 with(first|(go_at_call 72;refine(Da d).mono ?_;rintro e R ⟨rfl,v⟩)|(go_at_call 59;refine(Da v).mono ?_;rintro e Y ⟨rfl,O,r⟩));clear d v;go_upto_region 22 with fail;go_upto_region 23 with(at_make;refine BA _ rfl _ _ 59 rfl 0 5 H (.int .u8 0) 1 Tryz.underlying59 C E F _ _ _ _ n rfl rfl rfl rfl (by rw[G];omega) (by unfold maxLen;omega) (Aw _) ?_;intro w1 m j;obtain⟨L,J,kk,t,Q,S,y,M,P,B⟩:=Da r w1 m j;clear m j);clear r;go_upto_region 24 with(at_builtin;refine D9 _ rfl _ _ 59 59 rfl _ _ rfl rfl t ?_);clear t;go_upto_region 25 with(at_builtin;refine D9 _ rfl _ _ 59 59 rfl _ _ rfl rfl y ?_);clear y;go_wp2;go_ret;exact Da B
   ·rw[u]at ab;have HP:=Db (Zm9 h z A n Z hb u hg);clear z h hg;go_wp2_with (first|(go_at_call 72;refine(Da HP).mono ?_;rintro e X ⟨rfl,d⟩)|(go_at_call 60;refine(Da d).mono ?_;rintro e Y ⟨rfl,r⟩)|(at_make;refine BA _ rfl _ _ 59 rfl 0 5 H (.int .u8 0) 1 Tryz.underlying59 C E F _ _ _ _ n rfl rfl rfl rfl (by rw[G];omega) (by unfold maxLen;omega) (Aw _) ?_;intro w1 m j;obtain⟨L,J,kk,t,M,P,f⟩:=Da r w1 m j;clear m j)|(at_builtin;refine D9 _ rfl _ _ 59 59 rfl _ _ rfl rfl t ?_));go_ret;exact Da f
  ·obtain⟨a,l,c0,u,al⟩:=(z.at' i A).rd;rw[u]at ab;have ac:Hid (l<=1280):=by
    rw[show l=_ from al.1];exact Da (h.sizes A)
   clear al;by_cases ap:k=2
   ·subst ap;by_cases W:n=0
    ·subst W;have f:=Db (KG h z A c (Da I) 0 0 0 l (by omega) rfl a l c0 u (by rw[if_neg (by omega)]) (fun _=>rfl) 0 rfl l rfl);have ah:l<=1280:=Da ac;have U:min (0:Int) (l:Int)=0:=by omega
     clear z h u;go_upto_region 18 with(go_at_call 73;refine(Da f).mono ?_;rintro e X ⟨D,rfl,d⟩);clear f;go_upto_region 19 with(first|(go_at_call 72;refine(Da d).mono ?_;rintro e R ⟨rfl,v⟩)|(go_at_call 59;refine(Da v).mono ?_;rintro e Y ⟨rfl,O,r⟩));clear d v;go_upto_region 22 with fail;go_upto_region 23 with(at_make;refine BA _ rfl _ _ 59 rfl 0 5 H (.int .u8 0) 1 Tryz.underlying59 C E F _ _ _ _ l rfl rfl rfl rfl (by rw[G];omega) (by unfold maxLen;omega) (Aw _) ?_;intro w1 m j;obtain⟨L,J,kk,t,Q,S,y,M,P,B⟩:=Da r w1 m j;clear m j);clear r;go_upto_region 24 with(at_builtin;refine D9 _ rfl _ _ 59 59 rfl _ _ rfl rfl t ?_);clear t;go_upto_region 25 with(at_builtin;refine D9 _ rfl _ _ 59 59 rfl _ _ rfl rfl y ?_);clear y;go_wp2;go_ret;exact Da B
    ·obtain⟨p,hp⟩:=ex (n/2);obtain⟨q,hq⟩:=ex (n-p);have ed:(n:Int)/2=(p:Int):=by omega
     have ew:IntKind.i64.wrap ((n:Int)-(p:Int))=(q:Int):=by rw[AX];omega
     have ax:(n:Int)-(p:Int)=(q:Int):=by omega
     have aj:0<q:=by omega
     have ah:l<=1280:=Da ac;by_cases ar:l<n
     ·obtain⟨T,V⟩:=ex (n-p);have f:=Db (KG h z A c (Da I) n p q n Z (by omega) a l c0 u (by rw[if_pos (by omega)];omega) (by omega) (p:Nat) rfl T V);have U:min (p:Int) (n:Int)=(p:Int):=by omega
      have au:n-p=T:=V.symm;have av:¬n=p:=by omega
      have aq:p<=n:=by omega
      have aw:p<=1280:=by omega
      have am:=Db (And.intro hp hq);clear hp hq V;have ai:(l:Int)<(n:Int):=by omega
      clear z h u;go_upto_region 18 with(go_at_call 73;refine(Da f).mono ?_;rintro e X ⟨D,rfl,d⟩);clear f;go_upto_region 19 with(first|(go_at_call 72;refine(Da d).mono ?_;rintro e R ⟨rfl,v⟩)|(go_at_call 59;refine(Da v).mono ?_;rintro e Y ⟨rfl,O,r⟩));clear d v;go_upto_region 22 with fail;go_upto_region 23 with(at_make;refine BA _ rfl _ _ 59 rfl 0 5 H (.int .u8 0) 1 Tryz.underlying59 C E F _ _ _ _ n rfl rfl rfl rfl (by rw[G];omega) (by unfold maxLen;omega) (Aw _) ?_;intro w1 m j;obtain⟨L,J,kk,t,Q,S,y,M,P,B⟩:=Da r w1 m j;clear m j);clear r;go_upto_region 24 with(at_builtin;refine D9 _ rfl _ _ 59 59 rfl _ _ rfl rfl t ?_);clear t;go_upto_region 25 with(at_builtin;refine D9 _ rfl _ _ 59 59 rfl _ _ rfl rfl y ?_);clear y;go_wp2;go_ret;exact Da B
     ·obtain⟨T,V⟩:=ex (l-p);have f:=Db (KG h z A c (Da I) n p q l Z (by omega) a l c0 u (by rw[if_pos (by omega)];omega) (by omega) (p:Nat) rfl T V);have U:min (p:Int) (l:Int)=(p:Int):=by omega
      have au:l-p=T:=V.symm;have av:¬l=p:=by omega
      have aq:p<=l:=by omega
      have aw:p<=1280:=by omega
      have am:=Db (And.intro hp hq);clear hp hq V;have ai:¬(l:Int)<(n:Int):=by omega
      clear z h u;go_upto_region 18 with(go_at_call 73;refine(Da f).mono ?_;rintro e X ⟨D,rfl,d⟩);clear f;go_upto_region 19 with(first|(go_at_call 72;refine(Da d).mono ?_;rintro e R ⟨rfl,v⟩)|(go_at_call 59;refine(Da v).mono ?_;rintro e Y ⟨rfl,O,r⟩));clear d v;go_upto_region 22 with fail;go_upto_region 23 with(at_make;refine BA _ rfl _ _ 59 rfl 0 5 H (.int .u8 0) 1 Tryz.underlying59 C E F _ _ _ _ l rfl rfl rfl rfl (by rw[G];omega) (by unfold maxLen;omega) (Aw _) ?_;intro w1 m j;obtain⟨L,J,kk,t,Q,S,y,M,P,B⟩:=Da r w1 m j;clear m j);clear r;go_upto_region 24 with(at_builtin;refine D9 _ rfl _ _ 59 59 rfl _ _ rfl rfl t ?_);clear t;go_upto_region 25 with(at_builtin;refine D9 _ rfl _ _ 59 59 rfl _ _ rfl rfl y ?_);clear y;go_wp2;go_ret;exact Da B
   ·have e3:k=3:=by omega
    subst e3;by_cases W:n=0
    ·subst W;have f:=Db (KG h z A c (Da I) 0 0 0 l (by omega) rfl a l c0 u (by rw[if_neg (by omega)]) (fun _=>rfl) 0 rfl l rfl);have ah:l<=1280:=Da ac;have U:min (0:Int) (l:Int)=0:=by omega
     clear z h u;go_upto_region 18 with(go_at_call 73;refine(Da f).mono ?_;rintro e X ⟨D,rfl,d⟩);clear f;go_upto_region 19 with(first|(go_at_call 72;refine(Da d).mono ?_;rintro e R ⟨rfl,v⟩)|(go_at_call 59;refine(Da v).mono ?_;rintro e Y ⟨rfl,O,r⟩));clear d v;go_upto_region 22 with fail;go_upto_region 23 with(at_make;refine BA _ rfl _ _ 59 rfl 0 5 H (.int .u8 0) 1 Tryz.underlying59 C E F _ _ _ _ l rfl rfl rfl rfl (by rw[G];omega) (by unfold maxLen;omega) (Aw _) ?_;intro w1 m j;obtain⟨L,J,kk,t,Q,S,y,M,P,B⟩:=Da r w1 m j;clear m j);clear r;go_upto_region 24 with(at_builtin;refine D9 _ rfl _ _ 59 59 rfl _ _ rfl rfl t ?_);clear t;go_upto_region 25 with(at_builtin;refine D9 _ rfl _ _ 59 59 rfl _ _ rfl rfl y ?_);clear y;go_wp2;go_ret;exact Da B
    ·have aj:0<n:=by omega
     have ah:l<=1280:=Da ac;by_cases ar:l<n
     ·have f:=Db (KG h z A c (Da I) n 0 n n Z (by omega) a l c0 u (by rw[if_pos (by omega)];omega) (by omega) 0 rfl n rfl);have U:min (0:Int) (n:Int)=0:=by omega
      have ai:(l:Int)<(n:Int):=by omega
      clear z h u;go_upto_region 18 with(go_at_call 73;refine(Da f).mono ?_;rintro e X ⟨D,rfl,d⟩);clear f;go_upto_region 19 with(first|(go_at_call 72;refine(Da d).mono ?_;rintro e R ⟨rfl,v⟩)|(go_at_call 59;refine(Da v).mono ?_;rintro e Y ⟨rfl,O,r⟩));clear d v;go_upto_region 22 with fail;go_upto_region 23 with(at_make;refine BA _ rfl _ _ 59 rfl 0 5 H (.int .u8 0) 1 Tryz.underlying59 C E F _ _ _ _ n rfl rfl rfl rfl (by rw[G];omega) (by unfold maxLen;omega) (Aw _) ?_;intro w1 m j;obtain⟨L,J,kk,t,Q,S,y,M,P,B⟩:=Da r w1 m j;clear m j);clear r;go_upto_region 24 with(at_builtin;refine D9 _ rfl _ _ 59 59 rfl _ _ rfl rfl t ?_);clear t;go_upto_region 25 with(at_builtin;refine D9 _ rfl _ _ 59 59 rfl _ _ rfl rfl y ?_);clear y;go_wp2;go_ret;exact Da B
     ·have f:=Db (KG h z A c (Da I) n 0 n l Z (by omega) a l c0 u (by rw[if_pos (by omega)];omega) (by omega) 0 rfl l rfl);have U:min (0:Int) (l:Int)=0:=by omega
      have ai:¬(l:Int)<(n:Int):=by omega
      clear z h u;go_upto_region 18 with(go_at_call 73;refine(Da f).mono ?_;rintro e X ⟨D,rfl,d⟩);clear f;go_upto_region 19 with(first|(go_at_call 72;refine(Da d).mono ?_;rintro e R ⟨rfl,v⟩)|(go_at_call 59;refine(Da v).mono ?_;rintro e Y ⟨rfl,O,r⟩));clear d v;go_upto_region 22 with fail;go_upto_region 23 with(at_make;refine BA _ rfl _ _ 59 rfl 0 5 H (.int .u8 0) 1 Tryz.underlying59 C E F _ _ _ _ l rfl rfl rfl rfl (by rw[G];omega) (by unfold maxLen;omega) (Aw _) ?_;intro w1 m j;obtain⟨L,J,kk,t,Q,S,y,M,P,B⟩:=Da r w1 m j;clear m j);clear r;go_upto_region 24 with(at_builtin;refine D9 _ rfl _ _ 59 59 rfl _ _ rfl rfl t ?_);clear t;go_upto_region 25 with(at_builtin;refine D9 _ rfl _ _ 59 59 rfl _ _ rfl rfl y ?_);clear y;go_wp2;go_ret;exact Da B
end
def qa:By:=⟨#[47,97]⟩
def Hw:By:=⟨#[47,97,47,102]⟩
def qg:By:=⟨#[47,103]⟩
def na:By:=⟨#[97]⟩
def nf:By:=⟨#[102]⟩
def ng:By:=⟨#[103]⟩
def d3:By:=⟨#[120,121,122]⟩
def s6:By:=⟨#[0,0,0,120,121,122]⟩
def G1(nb:Nat):Gh:=[([na],⟨some ⟨nb,0,none⟩,0⟩)]
def G2(nb:Nat):Gh:=[([na],⟨some ⟨nb,0,none⟩,0⟩),([na,nf],⟨none,0⟩)]
def G3(nb:Nat):Gh:=[([na],⟨some ⟨nb,0,none⟩,0⟩),([na,nf],⟨none,0⟩),([ng],⟨none,0⟩)]
theorem nm_a:Df qa=[na]:=by kernel_rfl
theorem nm_af:Df Hw=[na,nf]:=by kernel_rfl
theorem nm_g:Df qg=[ng]:=by kernel_rfl
theorem ok_a:DX na=true:=by kernel_rfl
theorem ok_f:DX nf=true:=by kernel_rfl
theorem ok_g:DX ng=true:=by kernel_rfl
theorem R9:IC [] [] qa=0:=by kernel_rfl
theorem Xy(nb:Nat):Ip (G1 nb) [] Hw 3 d3=0:=by kernel_rfl
theorem XM(nb:Nat):Gr (G1 nb) (Df Hw)=none:=by kernel_rfl
theorem Sc(nb:Nat):Gr (G2 nb) (Df Hw)=some ⟨none,0⟩:=by kernel_rfl
theorem XE(nb:Nat):I8 (G2 nb) Hw 0 9=0:=by kernel_rfl
theorem Sa(nb:Nat):Im (G2 nb) Hw qg=0:=by kernel_rfl
theorem R8(nb:Nat):Ix (G3 nb) qa=7:=by kernel_rfl
theorem XB(nb:Nat):H3 (G3 nb) qg=0:=by kernel_rfl
theorem XL(nb:Nat):Gr (G3 nb) (Df qg)=some ⟨none,0⟩:=by kernel_rfl
theorem XF:Hy ⟨#[]⟩ 3 d3=s6:=by kernel_rfl
theorem OQ:IV s6 0 9=s6:=by kernel_rfl
theorem Ly(nb:Nat):Gt (G3 nb):=by
 refine⟨fun x a=>?_,fun x a=>?_,fun x a=>?_,?_,fun ns n u b=>?_⟩
 ·rcases AE.1 a with rfl|a
  ·exact fun m b=>by rw[Ab.1 b];exact ok_a
  rcases AE.1 a with rfl|a
  ·intro m b;rcases AE.1 b with rfl|b
   ·exact ok_a
   ·rw[Ab.1 b];exact ok_f
  ·rw[Ab.1 a];exact fun m b=>by rw[Ab.1 b];exact ok_g
 ·rcases AE.1 a with rfl|a
  ·exact fun e=>by cases e
  rcases AE.1 a with rfl|a
  ·exact fun e=>by cases e
  ·rw[Ab.1 a];exact fun e=>by cases e
 ·rcases AE.1 a with rfl|a
  ·show 1<=6;omega
  rcases AE.1 a with rfl|a
  ·show 2<=6;omega
  ·rw[Ab.1 a];show 1<=6;omega
 ·show([[na],[na,nf],[ng]]:List (LY)).Nodup
  decide
 ·have d:(G3 nb)[0]?=some ([na],⟨some ⟨nb,0,none⟩,0⟩):=rfl;have c:∀{l m:LY} {x y:By},l++[x]=m++[y]->l=m:=fun {l m x y} e=>by
   have:=Ca List.dropLast e
   rwa [CX,CX]at this
  rcases AE.1 b with e|b
  ·rw[AT]at e;exact .inl (c (m:=[]) (y:=na) e.1)
  rcases AE.1 b with e|b
  ·rw[AT]at e;have:=c (m:=[na]) (y:=nf) e.1;exact .inr ⟨_,by rw[this];exact An d,rfl⟩
  ·have e:=Ab.1 b;rw[AT]at e;exact .inl (c (m:=[]) (y:=ng) e.1)
theorem SJ{nb:Nat}{G:Gh}(d:∀x∈G,x∈G3 nb)(i:(G.map (·.1)).Nodup)(f:([na],(⟨some ⟨nb,0,none⟩,0⟩:VS))∈G):Gt G:=by
 have h:=Ly nb;refine⟨fun x c=>h.nms x (d x c),fun x c=>h.ne x (d x c),fun x c=>h.le x (d x c),i,fun ns n u g=>?_⟩;rcases h.up ns n u (d _ g) with e|⟨v,b,a⟩
 ·exact .inl e
 ·right;refine⟨v,?_,a⟩;rcases AE.1 b with e|b
  ·rw[e];exact f
  rcases AE.1 b with e|b
  ·rw[AT]at e;rw[e.2]at a;cases a
  ·have e:=Ab.1 b;rw[AT]at e;rw[e.2]at a;cases a
theorem OH(nb:Nat):Gt (G1 nb):=SJ (nb:=nb) (fun x a=>by rw[Ab.1 a];exact A5) (by show([[na]]:List (LY)).Nodup;decide) (Ab.2 rfl)
theorem M6(nb:Nat):Gt (G2 nb):=SJ (nb:=nb) (fun x a=>by
  rcases AE.1 a with rfl|a
  ·exact A5
  ·rw[Ab.1 a];exact AF _ A5) (by show([[na],[na,nf]]:List (LY)).Nodup;decide) A5
theorem OI:Gt []:=⟨fun x a=>(by cases a),fun x a=>(by cases a),fun x a=>(by cases a),CC,fun _ _ _ a=>(by cases a)⟩
structure H0(n1:Nat)(wA w:World)(vb tb db stb:Nat)(G:Gh)(I:LF)(C:IB):Prop where
 vol:Hs w vb tb db stb
 ps:PS w tb G I C
 st:LX 0 n1 w vb stb db (fun s=>s=IG)
 bel:Below n1 wA w
 lo:n1<tb/\n1<=vb/\n1<=wA.heap.size/\0<n1
section
variable{n1:Nat}{wA w w':World}{vb tb db stb:Nat}{G G':Gh}{I I':LF}{C C':IB}
theorem H0.prog(h:H0 n1 wA w vb tb db stb G I C)(a:Fr (DP tb w) w w')(f:PS w' tb G' I' C'):H0 n1 wA w' vb tb db stb G' I' C':=by
 have c:∀k t R,DP tb w k->F0 w k t R->t=214\/t=229\/t=310\/t=293:=fun k t R ⟨⟨t',R',d,g⟩,_⟩ b=>by
  have:=d.type b;subst this;exact g
 obtain⟨l1,l2,i,l4⟩:=h.lo;refine⟨F0.fr h.vol a (fun e=>?_),f,h.st.fr a (fun k t R e b=>?_),UC h.bel a (fun k e=>?_) i,h.lo⟩
 ·have:=c _ _ _ e h.vol
  revert this;decide
 ·rcases c k t R e b with rfl|rfl|rfl|rfl<;>decide
 ·have:=e.2;omega
theorem H0.below(h:H0 n1 wA w vb tb db stb G I C)(a:Bw w w'):H0 n1 wA w' vb tb db stb G I C:=by
 obtain⟨c,V,E,d,b⟩:=h.ps;exact h.prog (Fr.of_below a) ⟨c,V,E,d,b.below a (Aa _)⟩
theorem XG(h:H0 n1 wA w vb tb db stb [] [] C):Cl 58 #[.pointer (some ⟨vb,0,none⟩),.string qa] w fun e w'=>e = .returned (.int .i64 0)/\∃nb,H0 n1 wA w' vb tb db stb (G1 nb) [] C:=by
 have a:∀e w',Q7 w tb [] [] C qa e w'->e = .returned (.int .i64 0)/\∃nb,H0 n1 wA w' vb tb db stb (G1 nb) [] C:=by
  rintro e w' ⟨rfl,d,c⟩;refine⟨by rw[R9],?_⟩;rcases c with⟨f,_⟩|⟨_,nb,b⟩
  ·exact absurd R9 f
  ·rw[nm_a]at b;exact⟨nb,h.prog d b⟩
 exact(Mf w vb tb h.vol.vol qa (Q7 w tb [] [] C qa) (fun e w' g=>⟨_,(a e w' g).1⟩) (VY w tb [] [] C h.ps OI (by simp) (by simp) qa (by show 2<=_;omega))).mono a
def Ib(w w':World):Prop:=∀k t R,F0 w k t R->(t=5\/t=112)->F0 w' k t R
theorem Ib.trans{a b c:World}(h:Ib a b)(k:Ib b c):Ib a c:=fun i t R e d=>k i t R (h i t R e d) d
theorem Ib.below(h:Bw w w'):Ib w w':=fun k _ _ a _=>(h.block k a.lt).trans a
theorem Ib.fr{X:Nat->Prop}(c:Fr X w w')(b:∀k t R,X k->F0 w k t R->t≠5/\t≠112):Ib w w':=fun k t R a d=>a.fr c (fun e=>by
 have:=b k t R e a;rcases d with rfl|rfl
 ·exact this.1 rfl
 ·exact this.2 rfl)
theorem Ib.prog(b:Fr (DP tb w) w w'):Ib w w':=Ib.fr b (fun k t R ⟨⟨t',R',a,d⟩,_⟩ c=>by
 have:=a.type c;subst this;rcases d with rfl|rfl|rfl|rfl<;>decide)
def One(I:LF)(l:Nat)(f:Int):Prop:=I.length=1/\∃r:VF,r.l=l/\r.f=f/\∀x,x∈I↔x=((0:Int),r)
theorem One.in{l:Nat}{f:Int}(h:One I l f){x:Int×VF}(d:x∈I):x.1=0/\x.2.l=l/\x.2.f=f:=by
 obtain⟨_,r,a,b,c⟩:=h;rw[(c x).1 d];exact⟨rfl,a,b⟩
theorem One.use{f:Int}(h:One I 6 f):DN (I.map (·.2.l))=1:=by
 obtain⟨a,r,h1,h2,b⟩:=h;obtain⟨x,rfl⟩:∃x,I=[x]:=by
  match I,a with
  | [x],_=>exact⟨x,rfl⟩
 have:=(b x).1 (Ab.2 rfl);rw[this];show(r.l+63)/64+0=1;omega
theorem Xx{nb:Nat}(h:H0 n1 wA w vb tb db stb (G1 nb) [] C)(d:OA)(g:Nat)(z:Gy w d 3 g d3):
  Cl 59 #[.pointer (some ⟨vb,0,none⟩),.string Hw,.int .i64 3,.slice d 3 g] w fun e w'=>e = .returned (.int .i64 0)/\∃I' C',H0 n1 wA w' vb tb db stb (G2 nb) I' C'/\One I' 6 1/\C' 0=s6:=by
 have p:∀e w',KO w tb (G1 nb) [] C Hw 3 d3 e w'->e = .returned (.int .i64 0)/\∃I' C',H0 n1 wA w' vb tb db stb (G2 nb) I' C'/\One I' 6 1/\C' 0=s6:=by
  rintro e w' (⟨E,_⟩|⟨_,⟨u,r,a,c,j,_⟩|⟨j,A,f,I1,l,a,c,_,B,aa,D,t,k,m⟩⟩)
  ·exact absurd (Xy nb) E
  ·rw[XM]at j;cases j
  ·obtain rfl:f=0:=by simpa using B
   rw[XF]at k m;have n:One l 6 1:=by
    refine⟨by rw[k.1,D];rfl,⟨a,s6.size,c,1⟩,rfl,rfl,fun x=>?_⟩;rw[k.2];constructor
    ·rintro(e|⟨i,v⟩)
     ·exact e
     ·rcases (t x).1 i with rfl|i
      ·exact absurd rfl v
      ·cases i
    ·exact fun e => .inl e
   rcases m with⟨_,hu,_⟩|⟨rfl,_,s,q,y,_⟩
   ·have:=n.use;omega
   ·rw[nm_af]at q;exact⟨rfl,l,s,h.prog A q,n,y⟩
 exact(Sv w vb tb h.vol.vol Hw 3 _ (KO w tb (G1 nb) [] C Hw 3 d3) (fun e w' F=>⟨_,(p e w' F).1⟩) (VL w tb (G1 nb) [] C h.ps (OH nb) (by show 1<=_;omega) (by simp) (fun x b=>(by cases b)) (fun x b o=>by rw[Ab.1 b]at o;cases o) (fun x b=>(by cases b)) (fun x b=>(by cases b)) Hw (by show 4<=_;omega) 3 d3 (by show 3<=_;omega) d g z)).mono p
theorem O4{nb:Nat}{f:Int}(h:One I 6 f)(h1:0<f)(h2:f<=10000):GX (G3 nb) I:=fun x a b=>by
 obtain⟨_,r,_,hf,c⟩:=h;refine⟨r,(c _).2 ?_,by omega,by omega⟩;rcases AE.1 a with rfl|a
 ·cases b
 rcases AE.1 a with rfl|a
 ·rfl
 ·rw[Ab.1 a]
theorem Sf{nb:Nat}{f:Int}(h:One I 6 f)(b:0<f)(c:f<=10000):GX (G2 nb) I:=fun x a d=>O4 (nb:=nb) h b c x (by
 rcases AE.1 a with rfl|a
 ·exact A5
 ·rw[Ab.1 a];exact AF _ A5) d
theorem rdX'{nb:Nat}(h:H0 n1 wA w vb tb db stb (G2 nb) I C)(ho:One I 6 1)(c:C 0=s6):
  Cl 55 #[.pointer (some ⟨vb,0,none⟩),.string Hw,.int .i64 0,.int .i64 9] w fun e w'=>∃x,e = .returned (.tuple #[.slice (some ⟨x,0,none⟩) 6 6,.int .i64 0])/\Sl w' 5 1 (.slice (some ⟨x,0,none⟩) 6 6) 6 (Dc s6)/\Bw w w':=by
 obtain⟨n,V,E,o,f⟩:=h.ps;have d:∀e w',Qu w (G2 nb) C Hw 0 9 e w'->∃x,e = .returned (.tuple #[.slice (some ⟨x,0,none⟩) 6 6,.int .i64 0])/\Sl w' 5 1 (.slice (some ⟨x,0,none⟩) 6 6) 6 (Dc s6)/\Bw w w':=by
  rintro e w' ⟨⟨j,_⟩|⟨_,u,b,_,x,m,rfl,_,a⟩,g⟩
  ·exact absurd (XE nb) j
  ·rw[Sc]at b
   cases b
   rw[show C (VS.mk none 0).f=s6 from c,OQ]at a;have i:m=6:=by
    have:=a.1;rw[Dh]at this;have h6:s6.size=6:=rfl;omega
   subst i;exact⟨x,rfl,a,g⟩
 have aa:=ho.1;exact(LL w vb tb h.vol.vol Hw 0 9 (Qu w (G2 nb) C Hw 0 9) (fun e w' k=>by obtain⟨x,rfl,_⟩:=d e w' k;exact⟨_,_,_,_,rfl⟩) (Wb w tb n V E o (G2 nb) I C f (M6 nb) (by show 2<=_;omega) (by omega) (Sf ho (by omega) (by omega)) (fun x l=>by rw[(ho.in l).1,c];show 6<=_;omega) Hw (by show 4<=_;omega) 0 9 (by omega) (by omega))).mono d
theorem XH{nb:Nat}(h:H0 n1 wA w vb tb db stb (G2 nb) I C)(ho:One I 6 1):
  Cl 61 #[.pointer (some ⟨vb,0,none⟩),.string Hw,.string qg] w fun e w'=>e = .returned (.int .i64 0)/\(∃I',H0 n1 wA w' vb tb db stb (G3 nb) I' C/\One I' 6 2)/\Ib w w':=by
 have d:∀e w',Q6 w tb (G2 nb) I C Hw qg e w'->e = .returned (.int .i64 0)/\(∃I',H0 n1 wA w' vb tb db stb (G3 nb) I' C/\One I' 6 2)/\Ib w w':=by
  rintro e w' ⟨rfl,b,j⟩;refine⟨by rw[Sa],?_,Ib.prog b⟩;rcases j with⟨l,_⟩|⟨_,u,r,I',a,_,k,c,f⟩
  ·exact absurd (Sa nb) l
  ·rw[Sc]at a
   cases a
   rw[nm_g]at f;obtain⟨_,n,p⟩:=ho.in k;have o:r.l=6:=n;have ab:r.f=1:=p;refine⟨I',h.prog b f,by rw[c.1];exact ho.1,⟨r.a,r.l,r.c,r.f+1⟩,o,by show r.f+1=2;omega,fun x=>?_⟩;rw[c.2];exact⟨fun e=>e.elim id (fun ⟨g,i⟩=>absurd (ho.in g).1 i),fun e => .inl e⟩
 have aa:=ho.1;exact(M0 w vb tb h.vol.vol Hw qg (Q6 w tb (G2 nb) I C Hw qg) (fun e w' m=>⟨_,(d e w' m).1⟩) (Zkm w tb (G2 nb) I C h.ps (M6 nb) (by show 2<=_;omega) (by omega) (Sf ho (by omega) (by omega)) Hw qg (by show 4<=_;omega) (by show 2<=_;omega))).mono d
theorem XD{nb:Nat}(h:H0 n1 wA w vb tb db stb (G3 nb) I C)(ho:One I 6 2):
  Cl 63 #[.pointer (some ⟨vb,0,none⟩),.string qa] w fun e w'=>e = .returned (.int .i64 7)/\H0 n1 wA w' vb tb db stb (G3 nb) I C/\Ib w w':=by
 have aa:=ho.1;refine(S1 w vb tb h.vol.vol qa (Q3 w tb (G3 nb) I C qa) (fun e w' f=>⟨_,f.1⟩) (WC w tb (G3 nb) I C h.ps (Ly nb) (by show 3<=_;omega) (by omega) (O4 ho (by omega) (by omega)) qa (by show 2<=_;omega))).mono ?_;rintro e w' ⟨rfl,b,c⟩;refine⟨by rw[R8],?_,Ib.prog b⟩;rcases c with⟨_,d⟩|⟨a,_⟩
 ·exact h.prog b d
 ·rw[R8]at a;cases a
theorem XC{nb:Nat}(h:H0 n1 wA w vb tb db stb (G3 nb) I C)(ho:One I 6 2):
  Cl 57 #[.pointer (some ⟨vb,0,none⟩),.string qg] w fun e w'=>(e = .returned (.tuple #[.agg #[.string ng,.bool false,.int .i64 6,.int .i64 2],.int .i64 0]))/\Bw w w':=by
 have aa:=ho.1;obtain⟨y,V,E,z,f⟩:=h.ps;refine MM w vb tb h.vol.vol qg (fun e=>e = .returned (.tuple #[.agg #[.string ng,.bool false,.int .i64 6,.int .i64 2],.int .i64 0])) (fun e j=>⟨_,_,_,_,_,j⟩) (fun W g=>?_);refine(Zkg W tb y V E z (G3 nb) I C (f.below g (Aa _)) (Ly nb) (by show 3<=_;omega) (by omega) (O4 ho (by omega) (by omega)) qg (by show 2<=_;omega)).mono ?_;rintro e w' ⟨⟨k,_⟩|⟨_,v,p,rfl⟩,i⟩
 ·exact absurd (XB nb) k
 ·refine⟨?_,i⟩;rcases p with⟨a,_⟩|⟨ds,n,u,c,b,o⟩
  ·rw[nm_g]at a;cases a
  ·rw[XL]at b
   cases b
   rw[nm_g]at c;have l:n=ng:=by
    have:=Ca List.getLast? c;simp at this;exact this.symm
   rcases o with⟨d,_⟩|⟨_,r,m,rfl⟩
   ·cases d
   ·obtain⟨_,q,t⟩:=ho.in m;have s:r.l=6:=q;have x:r.f=2:=t;rw[l];unfold La;rw[s,x]
    rfl
theorem Xz{nb:Nat}(f:Gw w vb tb)(c:PS w tb (G3 nb) I C)(ho:One I 6 2):Cl 34 #[.pointer (some ⟨vb,0,none⟩)] w fun e w'=>e = .returned (.int .i64 1)/\Bw w w':=by
 obtain⟨rd,V,E,h,a⟩:=c;have aa:=ho.1;have b:=NZ w tb _ h I a.t a.i (by omega) (fun x g=>by rw[(ho.in g).2.1];omega);rw[ho.use]at b;exact Su w vb tb f _ (fun e w' d=>⟨_,d.1⟩) b
end
end Go.Proofs.YtaieidcohdhgpaaGreatDoor
