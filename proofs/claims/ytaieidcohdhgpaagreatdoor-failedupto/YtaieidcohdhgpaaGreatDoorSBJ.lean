/- Failed. -/
import Derived.Test.YtaieidcohdhgpaaGreatDoorSBI
namespace Go.Proofs.YtaieidcohdhgpaaGreatDoor
set_option maxHeartbeats 40000000
set_option maxRecDepth 100000
open Go.RowKit
theorem RdS.bytes{w0:World}{n0 rb db tp tx:Nat}{q:RdQ}{va vt:Value}{W:World}(h:RdS w0 n0 rb db tp tx q va vt W){fb:Nat}(w:n0<=fb){s:By}(g:FdS fb s vt W)(hs:s.size<=1000000)(n:Nat)(hn:n<=1000000):
  Calls Tryz.prog 245 #[.pointer (some ⟨fb,0,none⟩),.int .i64 (n:Nat)] W fun e b=>e = .returned (.slice (some ⟨W.heap.size,0,none⟩) n n)/\Sl b 5 1 (.slice (some ⟨W.heap.size,0,none⟩) n n) n (Dc (Di s n))/\RdS w0 n0 rb db tp tx q va vt b/\FdS fb (s.extract n s.size) vt b/\Fr (fun k=>k=fb) W b:=by
 obtain⟨_,u,v,f⟩:=g.some h;obtain⟨a,l,c,E,j,F,m⟩:=g;have hl:l=s.size:=j.1;refine(Zgu W fb a l c s E j F (fun x d e=>f (by rw[<-e];exact m x d)) n (by omega) (by omega)).mono ?_;rintro e b ⟨o,p,rfl,z,A,B,C,D,i⟩;exact⟨rfl,z,h.fr i (fun k e=>by subst e;exact⟨w,u,v,f⟩),⟨o,l-n,p,A,B,C,fun x d=>by obtain⟨y,r,t⟩:=D x d;rw[<-t];exact m y r⟩,i⟩
structure EnR(W w0:World)(n0 rb db tp tx fb:Nat)(q:RdQ)(va vt:Value)(Bi:Nat)(s:By)(I:LVa)(X:World):Prop where
 rd:RdS w0 n0 rb db tp tx q va vt X
 fd:FdS fb s vt X
 b6:RowIs X W.heap.size 141 [.string ⟨#[]⟩,.int .u8 0,.int .i64 0,.slice none 0 0]
 bi:RowIs X Bi 141 I
 fr:Fr (fun k=>k=fb) W X
 lt:W.heap.size<Bi
section
variable{W w0:World}{n0 rb db tp tx fb:Nat}{q:RdQ}{va vt:Value}{Bi:Nat}{s:By}{I:LVa}{X:World}
theorem EnR.num(_h0:RdS w0 n0 rb db tp tx q va vt W)(aa:fb<W.heap.size)(b:n0<=fb)(h:EnR W w0 n0 rb db tp tx fb q va vt Bi s I X)(d:s.size<=1000000):Calls Tryz.prog 240 #[.pointer (some ⟨fb,0,none⟩),.int .i64 1] X fun e Y=>e = .returned (.int .u64 (DL (BL (Di s 1)):Nat))/\EnR W w0 n0 rb db tp tx fb q va vt Bi (s.extract 1 s.size) I Y:=by
 refine(h.rd.number b h.fd d 1 (by omega)).mono ?_;rintro e Y ⟨rfl,f,g,a⟩;have c:=h.lt;exact⟨rfl,f,g,h.b6.fr a (fun e=>by omega),h.bi.fr a (fun e=>by omega),h.fr.then a (fun _ _ e=>e),c⟩
theorem EnR.byt(aa:fb<W.heap.size)(b:n0<=fb)(h:EnR W w0 n0 rb db tp tx fb q va vt Bi s I X)(f:s.size<=1000000)(n:Nat)(d:n<=1000000):Calls Tryz.prog 245 #[.pointer (some ⟨fb,0,none⟩),.int .i64 (n:Nat)] X fun e Y=>e = .returned (.slice (some ⟨X.heap.size,0,none⟩) n n)/\(convert 59 9 (.slice (some ⟨X.heap.size,0,none⟩) n n)).run Tryz.prog Y = .ok (.string (Di s n)) Y/\EnR W w0 n0 rb db tp tx fb q va vt Bi (s.extract n s.size) I Y:=by
 refine(h.rd.bytes b h.fd f n d).mono ?_;rintro e Y ⟨rfl,g,i,j,a⟩;have c:=h.lt;exact⟨rfl,Zm8 g (Jc _ _).symm,i,j,h.b6.fr a (fun e=>by omega),h.bi.fr a (fun e=>by omega),h.fr.then a (fun _ _ e=>e),c⟩
theorem EnR.set(c:RdS w0 n0 rb db tp tx q va vt W)(aa:fb<W.heap.size)(h:EnR W w0 n0 rb db tp tx fb q va vt Bi s I X)(i:Nat)(u:Value):EnR W w0 n0 rb db tp tx fb q va vt Bi s (I.set i u) (X.setCell ⟨Bi,i,none⟩ u):=by
 have f:=h.lt;obtain⟨l1,g,d⟩:=c.lt;have ab:n0<=W.heap.size:=Nat.le_trans c.sz c.bel.size;have a:Fr (fun k=>k=Bi) X (X.setCell ⟨Bi,i,none⟩ u):=(Fr.refl (fun k=>k=Bi) X).set ⟨Bi,i,none⟩ u rfl;exact⟨h.rd.fr a (fun k e=>by subst e;exact⟨by omega,by omega,fun e=>by have:=g _ e;omega,fun e=>by have:=d _ e;omega⟩),h.fd.fr a (fun e=>by omega) (fun k b e=>by have:=d k b;omega) (fun k b=>by have:=d k b;have:=h.fr.size;omega),h.b6.fr a (fun e=>by omega),h.bi.set i u,h.fr.then a (fun k b e=>by omega),f⟩
end
theorem ZoK(W w0:World)(n0 rb db tp tx:Nat)(q:RdQ)(va vt:Value)(h:RdS w0 n0 rb db tp tx q va vt W){vf vw ve:Value}{a:OA}{l c:Nat}{D:LY}(hD:DS w0 db vf (.slice a l c) vw ve D)(an:db<n0/\∀k,Own (.slice a l c) k->k<n0)
  (fb:Nat) (H:n0<=fb) (s E z A F s6:By) (hf:FdS fb s vt W) (hs:s.size<=1000000) (L p:By) (aM:L.size<=1000000) (B n fn:Nat) (aN:B<=L.size) (hn:n<256) (aL:fn<256)
  (e2:E=s.extract 1 s.size) (e3:z=E.extract 1 E.size) (e4:A=z.extract 1 z.size) (e5:F=A.extract n A.size) (e6:s6=F.extract 1 F.size)
  (h1:DL (BL (Di s 1))=2) (h2:DL (BL (Di E 1))=B) (h3:DL (BL (Di z 1))=n) (h4:L.extract 0 B++Di A n=p) (h5:DL (BL (Di F 1))=fn)
  (d:By) (R:d.size<=60000) (ao:DL (BL (Di s6 2))=d.size) (P:Nat->Nat) (K:Nat) (f:K=nBl d)
  (hb:∀k,k<K->rdP (DC (s6.extract 2 s6.size) k)=P k/\16<=P k/\P k<1536/\D[P k]?=some (dtB d k))
  (hq:∀k,k<K->(D3 q fn P k).tk (P k)=false/\(∀y∈(D3 q fn P k).ins,y.1≠Dd 4 fn k)/\(D3 q fn P k).ins.length<=9999):
  Calls Tryz.prog 203 #[.pointer (some ⟨rb,0,none⟩),.pointer (some ⟨fb,0,none⟩),.string L] W (UI W w0 n0 rb db tp tx fb vt va p fn d (D3 q fn P K) (DC (s6.extract 2 s6.size) K)):=by
 obtain⟨W1,e1,x1,k1,s1,O⟩:=De W [.string ⟨#[]⟩,.int .u8 0,.int .i64 0,.slice none 0 0] 141;obtain⟨aE,am,C⟩:=h.lt;have J:=(hf.some h).1;have aF:n0<=W.heap.size:=Nat.le_trans h.sz h.bel.size;have z2:E.size<=1000000:=by rw[e2,ByteArray.size_extract];omega
 have z3:z.size<=1000000:=by rw[e3,ByteArray.size_extract];omega
 have z4:A.size<=1000000:=by rw[e4,ByteArray.size_extract];omega
 have z5:F.size<=1000000:=by rw[e5,ByteArray.size_extract];omega
 have z6:s6.size<=1000000:=by rw[e6,ByteArray.size_extract];omega
 have zp:(L.extract 0 B).size+(Di A n).size<=9223372036854775807:=by rw[ByteArray.size_extract,Jc];omega
 have ah:Hid (Calls Tryz.prog 240 #[.pointer (some ⟨fb,0,none⟩),.int .i64 1] W1 fun e X=>e = .returned (.int .u64 2)/\∃Y,X.alloc (.cells #[.string ⟨#[]⟩,.int .u8 2,.int .i64 0,.slice none 0 0] 141)=Y/\Y.cell? ⟨X.heap.size,1,none⟩=some (.int .u8 2)/\
   Hid (EnR W w0 n0 rb db tp tx fb q va vt X.heap.size E [.string ⟨#[]⟩,.int .u8 2,.int .i64 0,.slice none 0 0] Y)):=by
  refine((h.below O).number H (hf.below O C) hs 1 (by omega)).mono ?_;rintro e X ⟨rfl,q1,T,q3⟩;obtain⟨Y,eY,xY,kY,sY,bY⟩:=De X [.string ⟨#[]⟩,.int .u8 2,.int .i64 0,.slice none 0 0] 141;have aB:RowIs X W.heap.size 141 _:=x1.fr q3 (fun e=>by omega);have aK:=q3.size;rw[<-e2]at T;exact⟨by rw[h1];rfl,Y,eY,(xY.cell 1).trans rfl,q1.below bY,T.below bY (fun k t=>by have:=C k t;omega),kY _ _ _ aB,xY,((Fr.of_below O).then q3 (fun _ _ e=>e)).then (Fr.of_below (X:=fun _=>False) bY) (fun _ _ e=>e.elim),by omega⟩
 have ai:Hid (∀Bi X,EnR W w0 n0 rb db tp tx fb q va vt Bi E [.string ⟨#[]⟩,.int .u8 2,.int .i64 0,.slice none 0 0] X->Calls Tryz.prog 240 #[.pointer (some ⟨fb,0,none⟩),.int .i64 1] X fun e Y=>e = .returned (.int .u64 (B:Nat))/\Hid (EnR W w0 n0 rb db tp tx fb q va vt Bi z [.string ⟨#[]⟩,.int .u8 2,.int .i64 0,.slice none 0 0] Y)):=fun Bi X b=>(b.num h J H z2).mono fun e Y ⟨r1,m⟩=>⟨by rw[r1,h2],by rw[e3];exact m⟩
 have aj:Hid (∀Bi X,EnR W w0 n0 rb db tp tx fb q va vt Bi z [.string ⟨#[]⟩,.int .u8 2,.int .i64 0,.slice none 0 0] X->Calls Tryz.prog 240 #[.pointer (some ⟨fb,0,none⟩),.int .i64 1] X.drew fun e Y=>e = .returned (.int .u64 (n:Nat))/\
   Hid (Calls Tryz.prog 245 #[.pointer (some ⟨fb,0,none⟩),.int .i64 (n:Nat)] Y fun e U=>e = .returned (.slice (some ⟨Y.heap.size,0,none⟩) n n)/\(convert 59 9 (.slice (some ⟨Y.heap.size,0,none⟩) n n)).run Tryz.prog U = .ok (.string (Di A n)) U/\U.cell? ⟨Bi,0,none⟩=some (.string ⟨#[]⟩)/\U.frozen? ⟨Bi,0,none⟩=false/\∃V,U.setCell ⟨Bi,0,none⟩ (.string p)=V/\V.cell? ⟨Bi,1,none⟩=some (.int .u8 2)/\
    Hid (EnR W w0 n0 rb db tp tx fb q va vt Bi F [.string p,.int .u8 2,.int .i64 0,.slice none 0 0] V))):=fun Bi X b=>by
  have aC:EnR W w0 n0 rb db tp tx fb q va vt Bi z [.string ⟨#[]⟩,.int .u8 2,.int .i64 0,.slice none 0 0] X.drew:=by
   have R:Below X.heap.size X X.drew:=⟨rfl,rfl,rfl,Nat.le_refl _,fun _ _=>rfl⟩;exact⟨b.rd.below R,b.fd.below R (fun k t=>by have:=C k t;have:=b.fr.size;omega),b.b6,b.bi,⟨b.fr.os,b.fr.tape,b.fr.output,b.fr.size,b.fr.block⟩,b.lt⟩
  refine(aC.num h J H z3).mono ?_;rintro e Y ⟨rfl,m⟩;rw[<-e4]at m;refine⟨by rw[h3],(m.byt J H z4 n (by omega)).mono ?_⟩;rintro e U ⟨rfl,u1,Z⟩;rw[<-e5]at Z;have u3:=Z.set h J 0 (.string p);exact⟨rfl,u1,(Z.bi.cell 0).trans rfl,Z.bi.frozen 0,_,rfl,(u3.bi.cell 1).trans rfl,u3⟩
 have aa:Hid (∀Bi X,EnR W w0 n0 rb db tp tx fb q va vt Bi F [.string p,.int .u8 2,.int .i64 0,.slice none 0 0] X->Calls Tryz.prog 240 #[.pointer (some ⟨fb,0,none⟩),.int .i64 1] X fun e Y=>e = .returned (.int .u64 (fn:Nat))/\Y.cell? ⟨Bi,2,none⟩=some (.int .i64 0)/\Y.frozen? ⟨Bi,2,none⟩=false/\∃V,Y.setCell ⟨Bi,2,none⟩ (.int .i64 (fn:Nat))=V/\RowIs V Bi 141 [.string p,.int .u8 2,.int .i64 (fn:Nat),.slice none 0 0]/\
   Hid (Calls Tryz.prog 246 #[.pointer (some ⟨rb,0,none⟩),.pointer (some ⟨fb,0,none⟩),.agg #[.string p,.int .u8 2,.int .i64 (fn:Nat),.slice none 0 0]] V fun e U=>∃o r,e = .returned (.tuple #[.agg #[.string p,.int .u8 2,.int .i64 (fn:Nat),.slice o d.size r],.bool true])/\RowIs U W.heap.size 141 [.string ⟨#[]⟩,.int .u8 0,.int .i64 0,.slice none 0 0]/\
    Hid (UI W w0 n0 rb db tp tx fb vt va p fn d (D3 q fn P K) (DC (s6.extract 2 s6.size) K) (.returned (.tuple #[.agg #[.string p,.int .u8 2,.int .i64 (fn:Nat),.slice o d.size r],.bool true])) ((((U.setCell ⟨W.heap.size,0,none⟩ (.string p)).setCell ⟨W.heap.size,1,none⟩ (.int .u8 2)).setCell ⟨W.heap.size,2,none⟩ (.int .i64 (fn:Nat))).setCell ⟨W.heap.size,3,none⟩ (.slice o d.size r))))):=fun Bi X b=>by
  refine(b.num h J H z5).mono ?_;rintro e Y ⟨rfl,m⟩;rw[<-e6]at m;have u:=m.set h J 2 (.int .i64 (fn:Nat));refine⟨by rw[h5],(m.bi.cell 2).trans rfl,m.bi.frozen 2,_,rfl,u.bi,?_⟩;have aJ:W.heap.size<=(Y.setCell ⟨Bi,2,none⟩ (.int .i64 (fn:Nat))).heap.size:=u.fr.size;refine(ZlR _ w0 n0 rb db tp tx q va vt u.rd hD an fb H s6 u.fd z6 p fn (by omega) d R ao P K f hb hq).mono ?_;rintro e U ⟨o,r,ap,rfl,p1,p2,p3,p4,p5,p6⟩;have ac:RowIs U W.heap.size 141 _:=u.b6.fr p5 (fun e=>by
   rcases e with e|e|e
   ·omega
   ·have:=am _ e;omega
   ·omega)
  have aI:=p5.size;have G:Fr (fun j=>j=W.heap.size) U ((((U.setCell ⟨W.heap.size,0,none⟩ (.string p)).setCell ⟨W.heap.size,1,none⟩ (.int .u8 2)).setCell ⟨W.heap.size,2,none⟩ (.int .i64 (fn:Nat))).setCell ⟨W.heap.size,3,none⟩ (.slice o d.size r)):=((((Fr.refl (fun j=>j=W.heap.size) U).set ⟨W.heap.size,0,none⟩ _ rfl).set ⟨W.heap.size,1,none⟩ _ rfl).set ⟨W.heap.size,2,none⟩ _ rfl).set ⟨W.heap.size,3,none⟩ _ rfl;have nv:¬Own ap W.heap.size:=fun e=>by
   obtain⟨es,_,T⟩:=p1.es;obtain⟨R',ab⟩:=T.type e;unfold RowIs at ac ab;rw[ac]at ab;cases ab
  refine⟨o,r,rfl,ac,o,r,ap,rfl,p1.fr G (fun k e=>by subst e;exact⟨aF,by omega,nv,fun e=>by have:=C _ e;omega⟩),p2.fr G (fun e=>by omega) (fun k t e=>by have:=C k t;omega) (fun k t=>by have:=C k t;omega),p3.fr G (fun g hg e=>by have:=p4 g hg;omega),fun k t=>by have:=p4 k t;have:=u.lt;have:=u.bi.lt;omega,?_,fun g hg=>(p6 g hg).imp id (fun e=>by omega)⟩;exact((u.fr.mono (Y:=fun j=>j=rb\/Own va j\/j=fb) (fun j _ e => .inr (.inr e))).then p5 (fun _ _ e=>e)).then G (fun k t e=>by omega)
 have ar:=Db h4;have zq:(Di A n).size<=255:=by rw[Jc];omega
 have aq:=Db e1;have aO:¬(L.size:Int)<(B:Int):=by omega
 have aP:IntKind.i64.wrap (B:Int)=(B:Int):=by rw[IntKind.wrap_i64];omega
 have aQ:IntKind.i64.wrap (n:Int)=(n:Int):=by rw[IntKind.wrap_i64];omega
 have aR:IntKind.i64.wrap (fn:Int)=(fn:Int):=by rw[IntKind.wrap_i64];omega
 obtain⟨N,hN⟩:∃N,N=d.size:=⟨_,rfl⟩;rw[<-hN]at aa;clear e1 x1 k1 s1 O h hf hs aE am C hD an hb hq h1 h2 h3 h5 ao f h4 z2 z3 z4 z5 z6 e2 e3 e4 e5 e6;go_enter Tryz.func203,Tryz.ntmps203;go_upto_region 1 with fail;rw[show W.alloc (.cells #[.string ⟨#[]⟩,.int .u8 0,.int .i64 0,.slice none 0 0] 141)=W1 from Da aq];go_upto_region 2 with(go_at_call 240;refine(Da ah).mono ?_;rintro e X ⟨rfl,Y,hY,y1,HI⟩;have HY:=Db hY;clear hY ah);rw[show X.alloc (.cells #[.string ⟨#[]⟩,.int .u8 2,.int .i64 0,.slice none 0 0] 141)=Y from Da HY];go_upto_region 7 with(go_at_call 240;refine(Da ai _ _ (Da HI)).mono ?_;rintro e X3 ⟨rfl,ag⟩;clear HI ai y1);have ak:=Da aj _ _ (Da ag);have ae:=Db ak;clear ak aj ag;refine wp_region_held_drew (S:=fun V=>True) (by kernel_rfl) trivial (fun aA=>?_);refine tk 0 ?_;try simp only[pE];refine tk 1 ?_;try simp only[pE];refine tk 2 ?_;try simp only[pE];refine tk 3 ?_;try simp only[pE];refine tk 4 ?_;try simp only[pE];refine rk 5 (fun K f=>?_);go_simp;go_at_call 240;refine(Da ae).mono ?_;rintro e X4 ⟨rfl,ad⟩;go_wp2_with fail;refine f.out _ _ trivial (fun ax=>?_);clear f K
 (try simp only[pE])
 refine tk 6 ?_;try simp only[pE];refine rk 7 (fun K f=>?_);go_simp;go_at_call 245;refine(Da ad).mono ?_;rintro e U ⟨rfl,aD,u0,u1,V,hV,v1,HV⟩;go_wp2_with fail;refine f.out _ _ trivial (fun ay=>?_);clear f K
 (try simp only[pE])
 refine rk 8 (fun K f=>?_);go_simp;refine f.out _ _ trivial (fun az=>?_);clear f K
 (try simp only[pE])
 refine wpAnyH_take (i:=9) (v := .string p) rfl (by kernel_rfl) (by kernel_rfl) (by kernel_rfl) (fun _ _ _ h=>h) (Or.inl ⟨by rfl,by intro w aH;go_simp;rw[if_neg (by omega),Da ar]⟩) (by assumption) ?_
 (try simp only[pE])
 refine tk 10 ?_;try simp only[pE];refine rk 11 (fun K f=>?_);go_simp;refine f.out _ _ trivial (fun aw=>?_);clear f K
 (try simp only[pE])
 refine wpAnyH_done (by kernel_rfl) ?_ _;have af:=Db (Da aa _ _ (Da HV));clear aA ax ay az aw u0 u1 aD hV HV aa ad ae;go_upto_region 11 with(go_at_call 240;refine(Da af).mono ?_;rintro e X5 ⟨rfl,f0,G,V5,al,M,HF⟩;have au:=Db al;clear al);rw[show X5.setCell ⟨X.heap.size,2,none⟩ (.int .i64 (fn:Nat))=V5 from Da au];have g0:=(M.cell 0).trans (show _=some (Value.string p) from rfl);have g1:=(M.cell 1).trans (show _=some (Value.int .u8 2) from rfl);have g2:=(M.cell 2).trans (show _=some (Value.int .i64 (fn:Nat)) from rfl);have g3:=(M.cell 3).trans (show _=some (Value.slice none 0 0) from rfl);clear f0 G v1 M af;have aG:=Db hN;clear hN;go_upto_region 13 with fail;go_wp2_with (go_at_call 246;refine(Da HF).mono ?_;rintro e U2 ⟨o,r,rfl,x,HP⟩;have z0:=x.cell 0;have z1:=x.cell 1;have z2:=x.cell 2;have z3:=x.cell 3;have y0:=x.frozen 0;have y1:=x.frozen 1;have y2:=x.frozen 2;have y3:=x.frozen 3;have av:=Db x;clear x);have Q:=Kl (Da av) (.string p) (.int .u8 2) (.int .i64 (fn:Nat)) (.slice o N r);have r0:=Q.cell 0;have r1:=Q.cell 1;have m:=Q.cell 2;have u:=Q.cell 3;exact bodyPost_ret (v := .tuple #[.agg #[.string p,.int .u8 2,.int .i64 (fn:Nat),.slice o N r],.bool true]) (by simp[results,Tryz.results203,go_sem,r0,r1,m,u]) rfl (Da HP)
def UG(w:World)(tb:Nat)(G:Gh)(I:LF)(C:IB)(p:By)(f:Nat)(r:VF)(s:By)(e:Ending)(w':World):Prop:=
 e = .returned (.bool true)/\Fr (DM tb w) w w'/\∃I1 I2 C2,I1.length=I.length+1/\(∀x,x∈I1↔x=((f:Int),⟨none,0,0,1⟩)\/x∈I)/\Jm I1 I2 (f:Int) r/\PS w' tb (G++[(Df p,⟨none,(f:Int)⟩)]) I2 C2/\C2 f=s/\∀x∈I,C2 x.1=C x.1
theorem Zld{p:By}(_h:DQ p=true)(a:Df p≠[]):(p.toList==[47])=false:=by
 cases hr:(p.toList==[47]) with
 | true=>exact absurd (Ui hr) a
 | false=>rfl
theorem Zil(w:World)(tb:Nat)(G:Gh)(I:LF)(C:IB)(h:PS w tb G I C)(hG:GOk G)(aC:G.length<=9000)(aD:I.length<=9000)(ap:∀x∈I,x.2.l<=2000000)(p:By)(hp:p.size<=2000000)(ao:lgE G p=0)(ai:JD G I (Df p).dropLast=true)
  (f:Nat) (aP:f<60) (hf:∀x∈I,x.1≠(f:Int)) (q:OA) (l t:Nat) (aO:l<=1280) (s:By) (an:Sl w 5 1 (.slice q l t) l (Dc s))
  (av:∀A J:LF,A.length=I.length+1->(∀x,x∈A↔x=((f:Int),⟨none,0,0,1⟩)\/x∈I)->Jm A J (f:Int) ⟨q,l,t,1⟩->DO (J.map (·.2.l))<=160):
  Calls Tryz.prog 157 #[.pointer (some ⟨tb,0,none⟩),.agg #[.string p,.int .u8 2,.int .i64 (f:Nat),.slice q l t]] w (UG w tb G I C p f ⟨q,l,t,1⟩ s):=by
 obtain⟨rd,V,E,vi,h⟩:=h;obtain⟨W1,e1,x1,k1,s1,b1⟩:=De w [.string p,.int .u8 2,.int .i64 (f:Nat),.slice q l t] 141;have S:∀{X},Below w.heap.size w X->TW X tb rd V E vi G I C:=fun i=>h.below i (Nat.le_refl _)
 have aV:=h.t.lt;have af:Hid (Calls Tryz.prog 181 #[.pointer (some ⟨tb,0,none⟩),.string p] W1 fun e X=>∃n v,e = .returned (.tuple #[Dl (some ⟨v,0,none⟩) n false ⟨none,0⟩,.int .i64 0])/\∃Y,X.alloc (.cells (DT (some ⟨v,0,none⟩) n false ⟨none,0⟩).toArray 262)=Y/\RowIs Y w.heap.size 141 [.string p,.int .u8 2,.int .i64 (f:Nat),.slice q l t]/\Hid (RowIs Y X.heap.size 262 (DT (some ⟨v,0,none⟩) n false ⟨none,0⟩))/\Hid (Below w.heap.size w Y/\w.heap.size+1<=X.heap.size/\Y.heap.size=X.heap.size+1)/\
   Hid (∀Z,Below w.heap.size w Z->Calls Tryz.prog 185 #[.pointer (some ⟨tb,0,none⟩),Dl (some ⟨v,0,none⟩) n false ⟨none,0⟩,.int .i64 (f:Nat),.slice q l t] Z fun e U=>e = .returned (.int .i64 0)/\Hid (UG w tb G I C p f ⟨q,l,t,1⟩ s (.returned (.bool true)) U))):=by
  refine(Zfs W1 tb rd V E vi G I C (S b1) hG (by omega) p hp).mono ?_;rintro e X ⟨(⟨aI,_⟩|⟨_,au,ds,n,v,aa,aF,al,rfl⟩),i⟩
  ·exact absurd ao aI
  ·obtain⟨Y,eY,xY,kY,sY,bY⟩:=De X (DT (some ⟨v,0,none⟩) n false ⟨none,0⟩) 262;have aM:=i.size;have aw:Below w.heap.size w X:=b1.trans (i.mono (by omega));have aE:RowIs X w.heap.size 141 _:=(i.block _ x1.lt).trans x1;refine⟨n,v,rfl,Y,eY,kY _ _ _ aE,xY,⟨aw.trans (bY.mono aw.size),by omega,sY⟩,fun Z z=>?_⟩;have B:=(Uq au (Zld au (by rw[aa];simp))).2;have B:Nms (Df p)/\(Df p).length<=6:=⟨B.1,B.2.2⟩;have aJ:(Df p).dropLast=ds:=by rw[aa];simp
   rw[aJ]at ai;rw[aa]at al B;have aT:n.size<=12:=by
    have y:=B.1 n (by simp);unfold DP at y;simp only[Bool.and_eq_true,decide_eq_true_eq]at y;exact y.1.2
   refine(ZdM Z tb rd V E vi G I C (S z) hG aC aD ap ds v aF n (by omega) B al (f:Int) hf q l t (by omega) s (an.kept (fun k m _=>z.block k m))).mono ?_;rintro e U (⟨T,_⟩|⟨_,_,aH,A,J,q1,q2,q3,(⟨_,q4,_⟩|⟨rfl,_,C2,q4,q5,q6⟩)⟩)
   ·rw[ai]at T;cases T
   ·have:=av A J q1 q2 q3;omega
   ·exact⟨rfl,rfl,Fr.prog z aH,A,J,C2,q1,q2,q3,by rw[aa];exact q4,q5,q6⟩
 have ae:Hid (∀X,Below w.heap.size w X->Calls Tryz.prog 175 #[.pointer (some ⟨tb,1,none⟩),.int .i64 (f:Nat)] X fun e Y=>e = .returned (.tuple #[.agg #[.slice none 0 0,.int .i64 0],.bool false])/\Below X.heap.size X Y):=fun X hX=>by
  have hT:=S hX;refine(getI X tb 1 vi I (f:Int) ((hT.t.cell 1).trans rfl) hT.i (by omega) hT.si).mono ?_;rintro e Y ⟨r,b,rfl,aG,i⟩;rcases aG with⟨_,T⟩|⟨rfl,rfl,_⟩
  ·exact absurd rfl (hf _ T)
  ·exact⟨rfl,i⟩
 have ax:=Db e1;have c0:=(x1.cell 0).trans (show _=some (Value.string p) from rfl);have aQ:¬((f:Int)<0):=by omega
 have aR:¬((60:Int)<=(f:Int)):=by omega
 have aN:¬((1280:Int)<(l:Int)):=by omega
 clear e1 x1 k1 s1 b1 ao ai av an hf S h ap hG;go_enter Tryz.func157,Tryz.ntmps157;go_upto_region 1 with fail;rw[show w.alloc (.cells #[.string p,.int .u8 2,.int .i64 (f:Nat),.slice q l t] 141)=W1 from Da ax];unfold Dl at af;go_upto_region 2 with(go_at_call 181;refine(Da af).mono ?_;rintro e X ⟨n,v,rfl,Y,hY,y1,az,aj,P⟩;have HY:=Db hY;clear hY af c0);rw[show X.alloc (.cells (DT (some ⟨v,0,none⟩) n false ⟨none,0⟩).toArray 262)=Y from Da HY];have c2:=(y1.cell 2).trans (show _=some (Value.int .i64 (f:Nat)) from rfl);have c3:=(y1.cell 3).trans (show _=some (Value.slice q l t) from rfl);have ay:=Db y1;clear y1;go_upto_region 4 with fail;obtain⟨g,aK,aL⟩:=Da aj;have ac:Hid (∀V,V.heap=Y.heap->V.os=Y.os->V.tape=Y.tape->V.output=Y.output->Below w.heap.size w V):=fun V a b c d=>⟨b.trans g.os,c.trans g.tape,d.trans g.output,by rw[a];exact g.size,fun k m=>by rw[a];exact g.block k m⟩
 have ab:Hid (∀V o,V.heap=(Y.alloc o).heap->V.os=Y.os->V.tape=Y.tape->V.output=Y.output->Below w.heap.size w V):=fun V o a b c d=>by
  have y:=g.trans ((Below.refl w.heap.size Y).alloc g.size o);exact⟨b.trans g.os,c.trans g.tape,d.trans g.output,by rw[a];exact y.size,fun k m=>by rw[a];exact y.block k m⟩
 have ad:Hid (∀V j,Below V.heap.size V j->V.os=Y.os->V.tape=Y.tape->V.output=Y.output->(V.heap=Y.heap\/∃o,V.heap=(Y.alloc o).heap)->RowIs j w.heap.size 141 [.string p,.int .u8 2,.int .i64 (f:Nat),.slice q l t]/\RowIs j X.heap.size 262 (DT (some ⟨v,0,none⟩) n false ⟨none,0⟩)/\Below w.heap.size w j):=fun V j i ho ht hu hV=>by
  have y:=Da ay;have R:=Da az;rcases hV with e|⟨o,e⟩
  ·have m:∀k,k<Y.heap.size->j.heap[k]?=Y.heap[k]? := fun k m=>(i.block k (by rw[e];exact m)).trans (by rw[e])
   have K:=i.size;rw[e]at K;exact⟨(m _ y.lt).trans y,(m _ R.lt).trans R,i.os.trans (ho.trans g.os),i.tape.trans (ht.trans g.tape),i.output.trans (hu.trans g.output),Nat.le_trans g.size K,fun k L=>(m k (Nat.lt_of_lt_of_le L g.size)).trans (g.block k L)⟩
  ·have m:∀k,k<Y.heap.size->j.heap[k]?=Y.heap[k]? := fun k m=>(i.block k (by rw[e];simp;omega)).trans (by rw[e];exact Below.heap_alloc Y o k m)
   have K:=i.size;rw[e]at K;simp at K;exact⟨(m _ y.lt).trans y,(m _ R.lt).trans R,i.os.trans (ho.trans g.os),i.tape.trans (ht.trans g.tape),i.output.trans (hu.trans g.output),by have:=g.size;omega,fun k L=>(m k (Nat.lt_of_lt_of_le L g.size)).trans (g.block k L)⟩
 have ag:Hid (∀V j,Below V.heap.size V j->V.heap=(Y.alloc (.cells #[.slice none 0 0,.int .i64 0] 217)).heap->RowIs j Y.heap.size 217 [.slice none 0 0,.int .i64 0]):=fun V j i e=>(i.block _ (by rw[e];simp)).trans (by rw[e];exact World.alloc_heap_new Y _)
 have aq:¬Y.heap.size=w.heap.size:=by omega
 have ar:¬Y.heap.size=X.heap.size:=by omega
 clear g aK aL
 go_region_held3 (fun W=>W.cell? ⟨w.heap.size,2,none⟩=some (.int .i64 (f:Nat))) (go_keep) (first|(go_at_call 175;refine(Da ae _ (by first|exact Da ac _ rfl rfl rfl rfl|exact Da ab _ _ rfl rfl rfl rfl)).mono ?_;rintro e j ⟨rfl,ah⟩;have M:=Da ad _ j ah rfl rfl rfl (by first|exact .inl rfl|exact .inr ⟨_,rfl⟩);have am:=(M.1.cell 2).trans (show _=some (Value.int .i64 (f:Nat)) from rfl);have aU:=M.1.lt;have aS:=M.2.1.lt;(try have O:=Da ag _ j ah rfl);(try have n0:=O.cell 0);(try have n1:=O.cell 1);(try have n2:=O.frozen 0);(try have n3:=O.frozen 1);have Q:=Db M;clear M ah;(try clear O)))
 ·obtain⟨Z,z⟩:∃Z,j.alloc (.cells #[.slice none 0 0,.int .i64 0] 217)=Z:=⟨_,rfl⟩;rw[z];have bZ:Below j.heap.size j Z:=by rw[<-z];exact(Below.refl _ j).alloc (Nat.le_refl _) _
  obtain⟨D,F,H⟩:=Da Q;have t1:RowIs Z w.heap.size 141 _:=(bZ.block _ D.lt).trans D;have u:RowIs Z X.heap.size 262 _:=(bZ.block _ F.lt).trans F;have N:Below w.heap.size w Z:=H.trans (bZ.mono H.size);have c0:=u.cell 0;have c1:=u.cell 1;have aA:=u.cell 2;have aB:=u.cell 3;have c4:=u.cell 4;have d2:=(t1.cell 2).trans (show _=some (Value.int .i64 (f:Nat)) from rfl);have d3:=(t1.cell 3).trans (show _=some (Value.slice q l t) from rfl);have HM:=Db (Da P Z N);clear t1 u D F H N P Q ad ag ab ac ae c2 c3 am;go_wp2_with (go_at_call 185;refine(Da HM).mono ?_;rintro e U ⟨rfl,HP⟩);go_ret;exact Da HP
 ·obtain⟨Z,z⟩:∃Z,(j.setCell ⟨Y.heap.size,0,none⟩ (.slice none 0 0)).setCell ⟨Y.heap.size,1,none⟩ (.int .i64 0)=Z:=⟨_,rfl⟩;rw[z];obtain⟨D,F,H⟩:=Da Q;have ak:w.heap.size<=Y.heap.size:=(Da aj).1.size;have t1:RowIs Z w.heap.size 141 [.string p,.int .u8 2,.int .i64 (f:Nat),.slice q l t]:=by rw[<-z];exact(Below.heap_setCell _ _ _ _ (show w.heap.size≠Y.heap.size from fun e=>aq e.symm)).trans ((Below.heap_setCell _ _ _ _ (show w.heap.size≠Y.heap.size from fun e=>aq e.symm)).trans D)
  have u:RowIs Z X.heap.size 262 (DT (some ⟨v,0,none⟩) n false ⟨none,0⟩):=by rw[<-z];exact(Below.heap_setCell _ _ _ _ (show X.heap.size≠Y.heap.size from fun e=>ar e.symm)).trans ((Below.heap_setCell _ _ _ _ (show X.heap.size≠Y.heap.size from fun e=>ar e.symm)).trans F)
  have N:Below w.heap.size w Z:=by rw[<-z];exact(H.setCell (p:=⟨Y.heap.size,0,none⟩) ak _).setCell (p:=⟨Y.heap.size,1,none⟩) ak _
  have c0:=u.cell 0;have c1:=u.cell 1;have aA:=u.cell 2;have aB:=u.cell 3;have c4:=u.cell 4;have d2:=(t1.cell 2).trans (show _=some (Value.int .i64 (f:Nat)) from rfl);have d3:=(t1.cell 3).trans (show _=some (Value.slice q l t) from rfl);have HM:=Db (Da P Z N);clear t1 u D F H N P Q ad ag ab ac ae c2 c3 am;go_wp2_with (go_at_call 185;refine(Da HM).mono ?_;rintro e U ⟨rfl,HP⟩);go_ret;exact Da HP
theorem Znn(w:World)(tb:Nat)(G:Gh)(I:LF)(C:IB)(h:PS w tb G I C)(l:GOk G)(A:G.length<=9000)(B:I.length<=9000)(q:∀x∈I,x.2.l<=2000000)(p:By)(J:p.size<=2000000)(o:lgE G p=0)(r:JD G I (Df p).dropLast=true)
  (f:Nat) (F:f<60) (n:∀x∈I,x.1≠(f:Int)) (b:OA) (a c:Nat) (D:a<=1280) (s:By) (m:Sl w 5 1 (.slice b a c) a (Dc s))
  (u:∀I1 I2:LF,I1.length=I.length+1->(∀x,x∈I1↔x=((f:Int),⟨none,0,0,1⟩)\/x∈I)->Jm I1 I2 (f:Int) ⟨b,a,c,1⟩->DO (I2.map (·.2.l))<=160):
  Calls Tryz.prog 97 #[.pointer (some ⟨tb,0,none⟩),.agg #[.string p,.int .u8 2,.int .i64 (f:Nat),.slice b a c]] w (UG w tb G I C p f ⟨b,a,c,1⟩ s):=by
 obtain⟨g,j,d,K,O,i⟩:=De w [.string p,.int .u8 2,.int .i64 (f:Nat),.slice b a c] 141;have t:PS g tb G I C:=by obtain⟨N,V,E,P,h⟩:=h;exact⟨N,V,E,P,h.below i (Nat.le_refl _)⟩
 have v:Hid (Calls Tryz.prog 157 #[.pointer (some ⟨tb,0,none⟩),.agg #[.string p,.int .u8 2,.int .i64 (f:Nat),.slice b a c]] g fun e w'=>e = .returned (.bool true)/\Hid (UG w tb G I C p f ⟨b,a,c,1⟩ s (.returned (.bool true)) w')):=by
  refine(Zil g tb G I C t l A B q p J o r f F n b a c D s (m.kept (fun k H _=>i.block k H)) u).mono ?_;rintro e w' ⟨rfl,L,M⟩;exact⟨rfl,rfl,Fr.prog i L,M⟩
 have y:=Db j;have c0:=(d.cell 0).trans (show _=some (Value.string p) from rfl);have c1:=(d.cell 1).trans (show _=some (Value.int .u8 2) from rfl);have c2:=(d.cell 2).trans (show _=some (Value.int .i64 (f:Nat)) from rfl);have c3:=(d.cell 3).trans (show _=some (Value.slice b a c) from rfl);clear j d K O i t h l q o r n u m;go_enter Tryz.func97,Tryz.ntmps97;go_upto_region 1 with fail;rw[show w.alloc (.cells #[.string p,.int .u8 2,.int .i64 (f:Nat),.slice b a c] 141)=g from Da y];go_wp2_with (go_at_call 157;refine(Da v).mono ?_;rintro e w' ⟨rfl,z⟩);go_ret;exact Da z
theorem RdS.top{o:World}{l a j H I:Nat}{q:RdQ}{m n:Value}{W:World}(h:RdS o l a j H I q m n W)(tp' tx':Nat):RdS o l a j tp' tx' q m n ((W.setCell ⟨a,2,none⟩ (.int .i64 (tp':Nat))).setCell ⟨a,3,none⟩ (.int .u64 (tx':Nat))):=by
 obtain⟨L,x,A,B,C,D,E,F,G⟩:=h.row;obtain⟨es,r,s⟩:=h.es;have hs:=h.bel.size;have z:=h.sz;have aa:=h.lo;have c:Fr (fun k=>k=a) W ((W.setCell ⟨a,2,none⟩ (.int .i64 (tp':Nat))).setCell ⟨a,3,none⟩ (.int .u64 (tx':Nat))):=((Fr.refl (fun k=>k=a) W).set ⟨a,2,none⟩ _ rfl).set ⟨a,3,none⟩ _ rfl;have y:=(x.set 2 (.int .i64 (tp':Nat))).set 3 (.int .u64 (tx':Nat));have d:∀i,i≠2->i≠3->((L.set 2 (.int .i64 (tp':Nat))).set 3 (.int .u64 (tx':Nat)))[i]?=L[i]? := fun i t u=>by rw[List.getElem?_set_ne (Ne.symm u),List.getElem?_set_ne (Ne.symm t)]
 refine⟨⟨_,y,(d 0 (by omega) (by omega)).trans A,(d 1 (by omega) (by omega)).trans B,?_,?_,fun p w=>(d _ (by omega) (by omega)).trans (E p w),fun b v=>(d _ (by omega) (by omega)).trans (F b v),(d _ (by omega) (by omega)).trans G⟩,⟨es,r,s.fr c (fun g f e=>(h.oa g f).2.1 e)⟩,⟨h.tab.1.fr c (fun g f e=>h.ot (by rw[<-e];exact f)),h.tab.2⟩,h.oa,h.ot,h.bel.trans ⟨c.os,c.tape,c.output,c.size,fun k hk=>c.block k (by omega) (fun e=>by omega)⟩,h.lo,z⟩
 ·rw[List.getElem?_set_ne (by omega),List.getElem?_set_self (List.getElem?_eq_some_iff.1 C).1]
 ·rw[List.getElem?_set_self (by rw[List.length_set];exact(List.getElem?_eq_some_iff.1 D).1)]
theorem RdS.topc{l:World}{i a e c d:Nat}{q:RdQ}{j k:Value}{W:World}(h:RdS l i a e c d q j k W):W.cell? ⟨a,2,none⟩=some (.int .i64 (c:Nat))/\W.cell? ⟨a,3,none⟩=some (.int .u64 (d:Nat))/\W.frozen? ⟨a,2,none⟩=false/\W.frozen? ⟨a,3,none⟩=false:=by
 obtain⟨L,b,l0,l1,f,g,l4,l5,l6⟩:=h.row;exact⟨(b.cell 2).trans f,(b.cell 3).trans g,b.frozen 2,b.frozen 3⟩
def EnBy(D:LY)(s last p:By)(f:Nat)(d:By)(P:Nat->Nat)(s':By):Prop:=
 ∃(s2 s3 s4 s5 s6:By) (sm n:Nat),sm<=last.size/\n<256/\f<60/\s2=s.extract 1 s.size/\s3=s2.extract 1 s2.size/\s4=s3.extract 1 s3.size/\s5=s4.extract n s4.size/\s6=s5.extract 1 s5.size/\
  DL (BL (Di s 1))=2/\DL (BL (Di s2 1))=sm/\DL (BL (Di s3 1))=n/\last.extract 0 sm++Di s4 n=p/\DL (BL (Di s5 1))=f/\d.size<=1280/\DL (BL (Di s6 2))=d.size/\
  (∀k,k<nBl d->rdP (DC (s6.extract 2 s6.size) k)=P k/\16<=P k/\P k<1536/\D[P k]?=some (dtB d k))/\s'=DC (s6.extract 2 s6.size) (nBl d)
structure ZnO(G:Gh)(I:LF)(p:By)(f:Nat)(l:Nat):Prop where
 ok:GOk G
 gl:G.length<=9000
 il:I.length<=9000
 ll:∀x∈I,x.2.l<=2000000
 ps:p.size<=2000000
 lg:lgE G p=0
 may:JD G I (Df p).dropLast=true
 fr:∀x∈I,x.1≠(f:Int)
 use:∀(I1 I2:LF) (da:OA) (dc:Nat),I1.length=I.length+1->(∀x,x∈I1↔x=((f:Int),⟨none,0,0,1⟩)\/x∈I)->Jm I1 I2 (f:Int) ⟨da,l,dc,1⟩->DO (I2.map (·.2.l))<=160
structure ReI(W w0:World)(n0 rb db tp tx fb tb:Nat)(va0 vt0 vt:Value)(T:Gh->LF->(IB)->Prop)(q:RdQ)(s:By)(wr:World):Prop where
 rd:∃va,RdS w0 n0 rb db tp tx q va vt wr/\Dk W va0 va
 fd:FdS fb s vt wr
 ps:∃G I C,PS wr tb G I C/\T G I C
 fr:Fr (fun j=>j=rb\/Own va0 j\/Own vt0 j) W wr
 tl:W.heap.size<tb
 fl:W.heap.size<=fb
theorem PS.fr9{W i:World}{tb:Nat}{G:Gh}{I:LF}{C:IB}(h:PS W tb G I C){F:World}{g o v A B:Nat}{q:RdQ}{p u:Value}(d:RdS F g o v A B q p u W){f:Nat}{s:By}(x:FdS f s u W)(h0:0<g)(aa:g<=f)(y:Fr (fun j=>j=o\/Own p j\/j=f) W i):PS i tb G I C:=by
 obtain⟨z,V,E,D,h⟩:=h;have ab:=d.lo;refine⟨z,V,E,D,h.fr y (fun e=>?_) (fun k t R e b=>?_)⟩
 ·rcases e with e|e|e
  ·omega
  ·have:=(d.oa 0 e).1;omega
  ·omega
 ·rcases e with e|e|e
  ·obtain⟨L,m,_⟩:=d.row;subst e;unfold RowIs at m b;rw[m]at b;cases b;decide
  ·obtain⟨es,_,w⟩:=d.es;obtain⟨R2,n⟩:=w.type e;unfold RowIs at n b;rw[n]at b;cases b;decide
  ·obtain⟨a,l,c,r,_⟩:=x;subst e;unfold RowIs at r b;rw[r]at b;cases b;decide
theorem RdS.prog{l:World}{b e d f g:Nat}{q:RdQ}{i j:Value}{W c:World}(h:RdS l b e d f g q i j W){tb:Nat}(m:Fr (DM tb W) W c)(ht:b<tb):RdS l b e d f g q i j c:=
 h.fr m (fun k ⟨⟨t,R,n,a⟩,hl⟩=>by
  have:=h.ne n (by rcases a with rfl|rfl|rfl|rfl<;>decide) (by rcases a with rfl|rfl|rfl|rfl<;>decide) (by rcases a with rfl|rfl|rfl|rfl<;>decide);exact⟨by omega,this.1,this.2.1,this.2.2⟩)
theorem FdS.prog{i:Nat}{s:By}{f:Value}{W g:World}(h:FdS i s f W){z:World}{u v m w x:Nat}{q:RdQ}{y:Value}(j:RdS z u v m w x q y f W){tb:Nat}(n:Fr (DM tb W) W g):FdS i s f g:=by
 refine FdS.fr h n (fun ⟨⟨t,R,b,d⟩,p⟩=>?_) (fun k o ⟨⟨t,R,b,d⟩,p⟩=>?_) j.lt.2.2
 ·obtain⟨a,l,c,r,_⟩:=h;unfold RowIs at r b;rw[r]at b;cases b;rcases d with e|e|e|e<;>cases e
 ·have:=j.ne b (by rcases d with rfl|rfl|rfl|rfl<;>decide) (by rcases d with rfl|rfl|rfl|rfl<;>decide) (by rcases d with rfl|rfl|rfl|rfl<;>decide);exact this.2.2 o
end Go.Proofs.YtaieidcohdhgpaaGreatDoor
