/- Failed. -/
import Derived.Test.YtaieidcohdhgpaaGreatDoorSBP
namespace Go.Proofs.YtaieidcohdhgpaaGreatDoor
set_option maxHeartbeats 40000000
set_option maxRecDepth 100000
open Go.RowKit
def qa:By:=⟨#[47,97]⟩
def qaf:By:=⟨#[47,97,47,102]⟩
def qg:By:=⟨#[47,103]⟩
def na:By:=⟨#[97]⟩
def nf:By:=⟨#[102]⟩
def ng:By:=⟨#[103]⟩
def d3:By:=⟨#[120,121,122]⟩
def s6:By:=⟨#[0,0,0,120,121,122]⟩
def G1(nb:Nat):Gh:=[([na],⟨some ⟨nb,0,none⟩,0⟩)]
def G2(nb:Nat):Gh:=[([na],⟨some ⟨nb,0,none⟩,0⟩),([na,nf],⟨none,0⟩)]
def G3(nb:Nat):Gh:=[([na],⟨some ⟨nb,0,none⟩,0⟩),([na,nf],⟨none,0⟩),([ng],⟨none,0⟩)]
theorem nm_a:Df qa=[na]:=by kernel_rfl
theorem nm_af:Df qaf=[na,nf]:=by kernel_rfl
theorem nm_g:Df qg=[ng]:=by kernel_rfl
theorem ok_a:DP na=true:=by kernel_rfl
theorem ok_f:DP nf=true:=by kernel_rfl
theorem ok_g:DP ng=true:=by kernel_rfl
theorem mk0:mkE [] [] qa=0:=by kernel_rfl
theorem wr1(nb:Nat):wrE (G1 nb) [] qaf 3 d3=0:=by kernel_rfl
theorem at1(nb:Nat):atG (G1 nb) (Df qaf)=none:=by kernel_rfl
theorem at2(nb:Nat):atG (G2 nb) (Df qaf)=some ⟨none,0⟩:=by kernel_rfl
theorem rd2(nb:Nat):rdE (G2 nb) qaf 0 9=0:=by kernel_rfl
theorem ln2(nb:Nat):lnE (G2 nb) qaf qg=0:=by kernel_rfl
theorem rm3(nb:Nat):rmE (G3 nb) qa=7:=by kernel_rfl
theorem th3(nb:Nat):thE (G3 nb) qg=0:=by kernel_rfl
theorem at3(nb:Nat):atG (G3 nb) (Df qg)=some ⟨none,0⟩:=by kernel_rfl
theorem ov3:ovR ⟨#[]⟩ 3 d3=s6:=by kernel_rfl
theorem cut9:cutR s6 0 9=s6:=by kernel_rfl
theorem gok3(nb:Nat):GOk (G3 nb):=by
 refine⟨fun x a=>?_,fun x a=>?_,fun x a=>?_,?_,fun ns n u b=>?_⟩
 ·rcases List.mem_cons.1 a with rfl|a
  ·exact fun m b=>by rw[List.mem_singleton.1 b];exact ok_a
  rcases List.mem_cons.1 a with rfl|a
  ·intro m b;rcases List.mem_cons.1 b with rfl|b
   ·exact ok_a
   ·rw[List.mem_singleton.1 b];exact ok_f
  ·rw[List.mem_singleton.1 a];exact fun m b=>by rw[List.mem_singleton.1 b];exact ok_g
 ·rcases List.mem_cons.1 a with rfl|a
  ·exact fun e=>by cases e
  rcases List.mem_cons.1 a with rfl|a
  ·exact fun e=>by cases e
  ·rw[List.mem_singleton.1 a];exact fun e=>by cases e
 ·rcases List.mem_cons.1 a with rfl|a
  ·show 1<=6;omega
  rcases List.mem_cons.1 a with rfl|a
  ·show 2<=6;omega
  ·rw[List.mem_singleton.1 a];show 1<=6;omega
 ·show([[na],[na,nf],[ng]]:List (LY)).Nodup
  decide
 ·have d:(G3 nb)[0]?=some ([na],⟨some ⟨nb,0,none⟩,0⟩):=rfl;have c:∀{l m:LY} {x y:By},l++[x]=m++[y]->l=m:=fun {l m x y} e=>by
   have:=congrArg List.dropLast e
   rwa [List.dropLast_concat,List.dropLast_concat]at this
  rcases List.mem_cons.1 b with e|b
  ·rw[Prod.mk.injEq]at e;exact .inl (c (m:=[]) (y:=na) e.1)
  rcases List.mem_cons.1 b with e|b
  ·rw[Prod.mk.injEq]at e;have:=c (m:=[na]) (y:=nf) e.1;exact .inr ⟨_,by rw[this];exact List.mem_of_getElem? d,rfl⟩
  ·have e:=List.mem_singleton.1 b;rw[Prod.mk.injEq]at e;exact .inl (c (m:=[]) (y:=ng) e.1)
theorem ZlN{nb:Nat}{G:Gh}(d:∀x∈G,x∈G3 nb)(i:(G.map (·.1)).Nodup)(f:([na],(⟨some ⟨nb,0,none⟩,0⟩:VS))∈G):GOk G:=by
 have h:=gok3 nb;refine⟨fun x c=>h.nms x (d x c),fun x c=>h.ne x (d x c),fun x c=>h.le x (d x c),i,fun ns n u g=>?_⟩;rcases h.up ns n u (d _ g) with e|⟨v,b,a⟩
 ·exact .inl e
 ·right;refine⟨v,?_,a⟩;rcases List.mem_cons.1 b with e|b
  ·rw[e];exact f
  rcases List.mem_cons.1 b with e|b
  ·rw[Prod.mk.injEq]at e;rw[e.2]at a;cases a
  ·have e:=List.mem_singleton.1 b;rw[Prod.mk.injEq]at e;rw[e.2]at a;cases a
theorem gok1(nb:Nat):GOk (G1 nb):=ZlN (nb:=nb) (fun x a=>by rw[List.mem_singleton.1 a];exact List.mem_cons_self) (by show([[na]]:List (LY)).Nodup;decide) (List.mem_singleton.2 rfl)
theorem gok2(nb:Nat):GOk (G2 nb):=ZlN (nb:=nb) (fun x a=>by
  rcases List.mem_cons.1 a with rfl|a
  ·exact List.mem_cons_self
  ·rw[List.mem_singleton.1 a];exact List.mem_cons_of_mem _ List.mem_cons_self) (by show([[na],[na,nf]]:List (LY)).Nodup;decide) List.mem_cons_self
theorem gok0:GOk []:=⟨fun x a=>(by cases a),fun x a=>(by cases a),fun x a=>(by cases a),List.nodup_nil,fun _ _ _ a=>(by cases a)⟩
structure XtI(n1:Nat)(wA w:World)(vb tb db stb:Nat)(G:Gh)(I:LF)(C:IB):Prop where
 vol:VolR w vb tb db stb
 ps:PS w tb G I C
 st:StI 0 n1 w vb stb db (fun s=>s=ks0)
 bel:Below n1 wA w
 lo:n1<tb/\n1<=vb/\n1<=wA.heap.size/\0<n1
section
variable{n1:Nat}{wA w w':World}{vb tb db stb:Nat}{G G':Gh}{I I':LF}{C C':IB}
theorem XtI.prog(h:XtI n1 wA w vb tb db stb G I C)(a:Fr (DM tb w) w w')(f:PS w' tb G' I' C'):XtI n1 wA w' vb tb db stb G' I' C':=by
 have c:∀k t R,DM tb w k->RowIs w k t R->t=214\/t=229\/t=310\/t=293:=fun k t R ⟨⟨t',R',d,g⟩,_⟩ b=>by
  have:=d.type b;subst this;exact g
 obtain⟨l1,l2,i,l4⟩:=h.lo;refine⟨RowIs.fr h.vol a (fun e=>?_),f,h.st.fr a (fun k t R e b=>?_),Qt h.bel a (fun k e=>?_) i,h.lo⟩
 ·have:=c _ _ _ e h.vol
  revert this;decide
 ·rcases c k t R e b with rfl|rfl|rfl|rfl<;>decide
 ·have:=e.2;omega
theorem XtI.below(h:XtI n1 wA w vb tb db stb G I C)(a:Below w.heap.size w w'):XtI n1 wA w' vb tb db stb G I C:=by
 obtain⟨c,V,E,d,b⟩:=h.ps;exact h.prog (Fr.of_below a) ⟨c,V,E,d,b.below a (Nat.le_refl _)⟩
theorem mkX(h:XtI n1 wA w vb tb db stb [] [] C):Calls Tryz.prog 58 #[.pointer (some ⟨vb,0,none⟩),.string qa] w fun e w'=>e = .returned (.int .i64 0)/\∃nb,XtI n1 wA w' vb tb db stb (G1 nb) [] C:=by
 have a:∀e w',QV w tb [] [] C qa e w'->e = .returned (.int .i64 0)/\∃nb,XtI n1 wA w' vb tb db stb (G1 nb) [] C:=by
  rintro e w' ⟨rfl,d,c⟩;refine⟨by rw[mk0],?_⟩;rcases c with⟨f,_⟩|⟨_,nb,b⟩
  ·exact absurd mk0 f
  ·rw[nm_a]at b;exact⟨nb,h.prog d b⟩
 exact(mkdirV w vb tb h.vol.vol qa (QV w tb [] [] C qa) (fun e w' g=>⟨_,(a e w' g).1⟩) (Zj6 w tb [] [] C h.ps gok0 (by simp) (by simp) qa (by show 2<=_;omega))).mono a
def KpX(w w':World):Prop:=∀k t R,RowIs w k t R->(t=5\/t=112)->RowIs w' k t R
theorem KpX.trans{a b c:World}(h:KpX a b)(k:KpX b c):KpX a c:=fun i t R e d=>k i t R (h i t R e d) d
theorem KpX.below(h:Below w.heap.size w w'):KpX w w':=fun k _ _ a _=>(h.block k a.lt).trans a
theorem KpX.fr{X:Nat->Prop}(c:Fr X w w')(b:∀k t R,X k->RowIs w k t R->t≠5/\t≠112):KpX w w':=fun k t R a d=>a.fr c (fun e=>by
 have:=b k t R e a;rcases d with rfl|rfl
 ·exact this.1 rfl
 ·exact this.2 rfl)
theorem KpX.prog(b:Fr (DM tb w) w w'):KpX w w':=KpX.fr b (fun k t R ⟨⟨t',R',a,d⟩,_⟩ c=>by
 have:=a.type c;subst this;rcases d with rfl|rfl|rfl|rfl<;>decide)
def One(I:LF)(l:Nat)(f:Int):Prop:=I.length=1/\∃r:VF,r.l=l/\r.f=f/\∀x,x∈I↔x=((0:Int),r)
theorem One.in{l:Nat}{f:Int}(h:One I l f){x:Int×VF}(d:x∈I):x.1=0/\x.2.l=l/\x.2.f=f:=by
 obtain⟨_,r,a,b,c⟩:=h;rw[(c x).1 d];exact⟨rfl,a,b⟩
theorem One.use{f:Int}(h:One I 6 f):DO (I.map (·.2.l))=1:=by
 obtain⟨a,r,h1,h2,b⟩:=h;obtain⟨x,rfl⟩:∃x,I=[x]:=by
  match I,a with
  | [x],_=>exact⟨x,rfl⟩
 have:=(b x).1 (List.mem_singleton.2 rfl);rw[this];show(r.l+63)/64+0=1;omega
theorem wrX{nb:Nat}(h:XtI n1 wA w vb tb db stb (G1 nb) [] C)(d:OA)(g:Nat)(z:RdB w d 3 g d3):
  Calls Tryz.prog 59 #[.pointer (some ⟨vb,0,none⟩),.string qaf,.int .i64 3,.slice d 3 g] w fun e w'=>e = .returned (.int .i64 0)/\∃I' C',XtI n1 wA w' vb tb db stb (G2 nb) I' C'/\One I' 6 1/\C' 0=s6:=by
 have p:∀e w',KF w tb (G1 nb) [] C qaf 3 d3 e w'->e = .returned (.int .i64 0)/\∃I' C',XtI n1 wA w' vb tb db stb (G2 nb) I' C'/\One I' 6 1/\C' 0=s6:=by
  rintro e w' (⟨E,_⟩|⟨_,⟨u,r,a,c,j,_⟩|⟨j,A,f,I1,l,a,c,_,B,aa,D,t,k,m⟩⟩)
  ·exact absurd (wr1 nb) E
  ·rw[at1]at j;cases j
  ·obtain rfl:f=0:=by simpa using B
   rw[ov3]at k m;have n:One l 6 1:=by
    refine⟨by rw[k.1,D];rfl,⟨a,s6.size,c,1⟩,rfl,rfl,fun x=>?_⟩;rw[k.2];constructor
    ·rintro(e|⟨i,v⟩)
     ·exact e
     ·rcases (t x).1 i with rfl|i
      ·exact absurd rfl v
      ·cases i
    ·exact fun e => .inl e
   rcases m with⟨_,hu,_⟩|⟨rfl,_,s,q,y,_⟩
   ·have:=n.use;omega
   ·rw[nm_af]at q;exact⟨rfl,l,s,h.prog A q,n,y⟩
 exact(Znv w vb tb h.vol.vol qaf 3 _ (KF w tb (G1 nb) [] C qaf 3 d3) (fun e w' F=>⟨_,(p e w' F).1⟩) (Zhs w tb (G1 nb) [] C h.ps (gok1 nb) (by show 1<=_;omega) (by simp) (fun x b=>(by cases b)) (fun x b o=>by rw[List.mem_singleton.1 b]at o;cases o) (fun x b=>(by cases b)) (fun x b=>(by cases b)) qaf (by show 4<=_;omega) 3 d3 (by show 3<=_;omega) d g z)).mono p
theorem ZoA{nb:Nat}{f:Int}(h:One I 6 f)(h1:0<f)(h2:f<=10000):FlOk (G3 nb) I:=fun x a b=>by
 obtain⟨_,r,_,hf,c⟩:=h;refine⟨r,(c _).2 ?_,by omega,by omega⟩;rcases List.mem_cons.1 a with rfl|a
 ·cases b
 rcases List.mem_cons.1 a with rfl|a
 ·rfl
 ·rw[List.mem_singleton.1 a]
theorem ZnH{nb:Nat}{f:Int}(h:One I 6 f)(b:0<f)(c:f<=10000):FlOk (G2 nb) I:=fun x a d=>ZoA (nb:=nb) h b c x (by
 rcases List.mem_cons.1 a with rfl|a
 ·exact List.mem_cons_self
 ·rw[List.mem_singleton.1 a];exact List.mem_cons_of_mem _ List.mem_cons_self) d
theorem rdX'{nb:Nat}(h:XtI n1 wA w vb tb db stb (G2 nb) I C)(ho:One I 6 1)(c:C 0=s6):
  Calls Tryz.prog 55 #[.pointer (some ⟨vb,0,none⟩),.string qaf,.int .i64 0,.int .i64 9] w fun e w'=>∃x,e = .returned (.tuple #[.slice (some ⟨x,0,none⟩) 6 6,.int .i64 0])/\Sl w' 5 1 (.slice (some ⟨x,0,none⟩) 6 6) 6 (Dc s6)/\Below w.heap.size w w':=by
 obtain⟨n,V,E,o,f⟩:=h.ps;have d:∀e w',Qp w (G2 nb) C qaf 0 9 e w'->∃x,e = .returned (.tuple #[.slice (some ⟨x,0,none⟩) 6 6,.int .i64 0])/\Sl w' 5 1 (.slice (some ⟨x,0,none⟩) 6 6) 6 (Dc s6)/\Below w.heap.size w w':=by
  rintro e w' ⟨⟨j,_⟩|⟨_,u,b,_,x,m,rfl,_,a⟩,g⟩
  ·exact absurd (rd2 nb) j
  ·rw[at2]at b
   cases b
   rw[show C (VS.mk none 0).f=s6 from c,cut9]at a;have i:m=6:=by
    have:=a.1;rw[Dg]at this;have h6:s6.size=6:=rfl;omega
   subst i;exact⟨x,rfl,a,g⟩
 have aa:=ho.1;exact(readV w vb tb h.vol.vol qaf 0 9 (Qp w (G2 nb) C qaf 0 9) (fun e w' k=>by obtain⟨x,rfl,_⟩:=d e w' k;exact⟨_,_,_,_,rfl⟩) (Zgb w tb n V E o (G2 nb) I C f (gok2 nb) (by show 2<=_;omega) (by omega) (ZnH ho (by omega) (by omega)) (fun x l=>by rw[(ho.in l).1,c];show 6<=_;omega) qaf (by show 4<=_;omega) 0 9 (by omega) (by omega))).mono d
theorem lnX{nb:Nat}(h:XtI n1 wA w vb tb db stb (G2 nb) I C)(ho:One I 6 1):
  Calls Tryz.prog 61 #[.pointer (some ⟨vb,0,none⟩),.string qaf,.string qg] w fun e w'=>e = .returned (.int .i64 0)/\(∃I',XtI n1 wA w' vb tb db stb (G3 nb) I' C/\One I' 6 2)/\KpX w w':=by
 have d:∀e w',QU w tb (G2 nb) I C qaf qg e w'->e = .returned (.int .i64 0)/\(∃I',XtI n1 wA w' vb tb db stb (G3 nb) I' C/\One I' 6 2)/\KpX w w':=by
  rintro e w' ⟨rfl,b,j⟩;refine⟨by rw[ln2],?_,KpX.prog b⟩;rcases j with⟨l,_⟩|⟨_,u,r,I',a,_,k,c,f⟩
  ·exact absurd (ln2 nb) l
  ·rw[at2]at a
   cases a
   rw[nm_g]at f;obtain⟨_,n,p⟩:=ho.in k;have o:r.l=6:=n;have ab:r.f=1:=p;refine⟨I',h.prog b f,by rw[c.1];exact ho.1,⟨r.a,r.l,r.c,r.f+1⟩,o,by show r.f+1=2;omega,fun x=>?_⟩;rw[c.2];exact⟨fun e=>e.elim id (fun ⟨g,i⟩=>absurd (ho.in g).1 i),fun e => .inl e⟩
 have aa:=ho.1;exact(linkV w vb tb h.vol.vol qaf qg (QU w tb (G2 nb) I C qaf qg) (fun e w' m=>⟨_,(d e w' m).1⟩) (Zj8 w tb (G2 nb) I C h.ps (gok2 nb) (by show 2<=_;omega) (by omega) (ZnH ho (by omega) (by omega)) qaf qg (by show 4<=_;omega) (by show 2<=_;omega))).mono d
theorem rmX{nb:Nat}(h:XtI n1 wA w vb tb db stb (G3 nb) I C)(ho:One I 6 2):
  Calls Tryz.prog 63 #[.pointer (some ⟨vb,0,none⟩),.string qa] w fun e w'=>e = .returned (.int .i64 7)/\XtI n1 wA w' vb tb db stb (G3 nb) I C/\KpX w w':=by
 have aa:=ho.1;refine(Zk1 w vb tb h.vol.vol qa (QW w tb (G3 nb) I C qa) (fun e w' f=>⟨_,f.1⟩) (Zfi w tb (G3 nb) I C h.ps (gok3 nb) (by show 3<=_;omega) (by omega) (ZoA ho (by omega) (by omega)) qa (by show 2<=_;omega))).mono ?_;rintro e w' ⟨rfl,b,c⟩;refine⟨by rw[rm3],?_,KpX.prog b⟩;rcases c with⟨_,d⟩|⟨a,_⟩
 ·exact h.prog b d
 ·rw[rm3]at a;cases a
theorem stX{nb:Nat}(h:XtI n1 wA w vb tb db stb (G3 nb) I C)(ho:One I 6 2):
  Calls Tryz.prog 57 #[.pointer (some ⟨vb,0,none⟩),.string qg] w fun e w'=>(e = .returned (.tuple #[.agg #[.string ng,.bool false,.int .i64 6,.int .i64 2],.int .i64 0]))/\Below w.heap.size w w':=by
 have aa:=ho.1;obtain⟨y,V,E,z,f⟩:=h.ps;refine statV w vb tb h.vol.vol qg (fun e=>e = .returned (.tuple #[.agg #[.string ng,.bool false,.int .i64 6,.int .i64 2],.int .i64 0])) (fun e j=>⟨_,_,_,_,_,j⟩) (fun W g=>?_);refine(ZjZ W tb y V E z (G3 nb) I C (f.below g (Nat.le_refl _)) (gok3 nb) (by show 3<=_;omega) (by omega) (ZoA ho (by omega) (by omega)) qg (by show 2<=_;omega)).mono ?_;rintro e w' ⟨⟨k,_⟩|⟨_,v,p,rfl⟩,i⟩
 ·exact absurd (th3 nb) k
 ·refine⟨?_,i⟩;rcases p with⟨a,_⟩|⟨ds,n,u,c,b,o⟩
  ·rw[nm_g]at a;cases a
  ·rw[at3]at b
   cases b
   rw[nm_g]at c;have l:n=ng:=by
    have:=congrArg List.getLast? c;simp at this;exact this.symm
   rcases o with⟨d,_⟩|⟨_,r,m,rfl⟩
   ·cases d
   ·obtain⟨_,q,t⟩:=ho.in m;have s:r.l=6:=q;have x:r.f=2:=t;rw[l];unfold filV;rw[s,x]
    rfl
theorem usX{nb:Nat}(f:VolW w vb tb)(c:PS w tb (G3 nb) I C)(ho:One I 6 2):Calls Tryz.prog 34 #[.pointer (some ⟨vb,0,none⟩)] w fun e w'=>e = .returned (.int .i64 1)/\Below w.heap.size w w':=by
 obtain⟨rd,V,E,h,a⟩:=c;have aa:=ho.1;have b:=Zea w tb _ h I a.t a.i (by omega) (fun x g=>by rw[(ho.in g).2.1];omega);rw[ho.use]at b;exact Znw w vb tb f _ (fun e w' d=>⟨_,d.1⟩) b
end
theorem ltag:ltS na ng=true:=by kernel_rfl
section
variable{w:World}{tb rd nb:Nat}{V:NV}{E:NS}{vi:Value}{I:LF}{C:IB}
theorem er3(d:TW w tb rd V E vi (G3 nb) I C):E rd=[(na,⟨some ⟨nb,0,none⟩,0⟩),(ng,⟨none,0⟩)]:=by
 have g:IsDir (G3 nb) rd [] rd := .inl ⟨rfl,rfl⟩;refine(d.d.srt [] rd g).ext (fun j k x y ab f c=>?_) (fun x=>?_)
 ·have h:=(List.getElem?_eq_some_iff.1 c).1;have aa:k<2:=h;obtain rfl:j=0:=by omega
  obtain rfl:k=1:=by omega
  simp at f c;rw[<-f,<-c];exact ltag
 ·refine(d.d.en [] rd g x.1 x.2).trans ?_;rw[List.nil_append];constructor
  ·intro a;rcases List.mem_cons.1 a with e|a
   ·rw[Prod.mk.injEq]at e;have b:=e.1;injection b with b;exact List.mem_cons.2 (.inl (Prod.ext b e.2))
   rcases List.mem_cons.1 a with e|a
   ·rw[Prod.mk.injEq]at e;have:=congrArg List.length e.1;simp at this
   ·have e:=List.mem_singleton.1 a;rw[Prod.mk.injEq]at e;have b:=e.1;injection b with b;exact List.mem_cons.2 (.inr (List.mem_singleton.2 (Prod.ext b e.2)))
  ·intro a;rcases List.mem_cons.1 a with rfl|a
   ·exact List.mem_cons_self
   ·rw[List.mem_singleton.1 a];exact List.mem_cons_of_mem _ (List.mem_cons_of_mem _ List.mem_cons_self)
theorem ea3(c:TW w tb rd V E vi (G3 nb) I C):E nb=[(nf,⟨none,0⟩)]:=by
 have d:IsDir (G3 nb) rd [na] nb := .inr List.mem_cons_self;refine(c.d.srt [na] nb d).ext (fun j k x y ab hj h=>?_) (fun x=>?_)
 ·have g:=(List.getElem?_eq_some_iff.1 h).1;have aa:k<1:=g;omega
 ·refine(c.d.en [na] nb d x.1 x.2).trans ?_;constructor
  ·intro a;rcases List.mem_cons.1 a with e|a
   ·rw[Prod.mk.injEq]at e;have:=congrArg List.length e.1;simp at this
   rcases List.mem_cons.1 a with e|a
   ·rw[Prod.mk.injEq]at e;have f:[na]++[x.1]=[na]++[nf]:=e.1;have b:=List.append_cancel_left f;injection b with b;exact List.mem_singleton.2 (Prod.ext b e.2)
   ·have e:=List.mem_singleton.1 a;rw[Prod.mk.injEq]at e;have:=congrArg List.length e.1;simp at this
  ·intro a;rw[List.mem_singleton.1 a];exact List.mem_cons_of_mem _ List.mem_cons_self
def L3:List It:=[⟨[na],1,0⟩,⟨[na,nf],2,0⟩,⟨[ng],3,0⟩]
theorem all3(a:TW w tb rd V E vi (G3 nb) I C):DI (JU (G3 nb) rd E)=L3:=by
 have b:JU (G3 nb) rd E []=[(na,none),(ng,some 0)]:=by
  unfold JU;rw[if_pos rfl,er3 a];rfl
 have c:JU (G3 nb) rd E [na]=[(nf,some 0)]:=by
  unfold JU;rw[if_neg (by simp),show atG (G3 nb) [na]=some ⟨some ⟨nb,0,none⟩,0⟩ by kernel_rfl];show(E nb).map Js=_;rw[ea3 a];rfl
 unfold DI;simp[D4,itL,stp,b,c,Seen.add,L3]
theorem tr3(b:TW w tb rd V E vi (G3 nb) I C)(ho:One I 6 2)(m:C 0=s6):TrW w tb rd V E vi (G3 nb) I C (JU (G3 nb) rd E) (dvOf I) (fun n=>C (n:Int)):=by
 have aa:=ho.1;have o:=ho;obtain⟨_,r,af,ae,q⟩:=o;have f:((0:Int),r)∈I:=(q _).2 rfl;refine⟨b.wk (gok3 nb) (by show 3<=_;omega) (by omega) (fun x a p=>⟨0,r,?_,by omega,f⟩),?_,fun y e c=>?_⟩
 ·rcases List.mem_cons.1 a with rfl|a
  ·cases p
  rcases List.mem_cons.1 a with rfl|a
  ·rfl
  ·rw[List.mem_singleton.1 a];rfl
 ·rw[all3 b];have d:∀x∈L3,x=⟨[na],1,0⟩\/x=⟨[na,nf],2,0⟩\/x=⟨[ng],3,0⟩:=fun x a=>by
   unfold L3 at a
   simpa using a
  refine⟨by show 3<=_;omega,fun x a=>?_,fun x a=>?_,fun x a=>?_,fun x a c=>?_,fun i j x y ac g h k l=>?_⟩
  ·rcases d x a with rfl|rfl|rfl
   ·exact .inl rfl
   ·exact .inr (.inl rfl)
   ·exact .inr (.inr rfl)
  ·rcases d x a with rfl|rfl|rfl
   ·show 2<=100;omega
   ·show 4<=100;omega
   ·show 2<=100;omega
  ·rcases d x a with rfl|rfl|rfl<;>(show 0<60;omega)
  ·rcases d x a with rfl|rfl|rfl
   ·cases c
   ·show(C ((0:Nat):Int)).size<=1280;rw[show C ((0:Nat):Int)=s6 from m];show 6<=1280;omega
   ·cases c
  ·have hl:L3.length=3:=rfl;have a1:=(List.getElem?_eq_some_iff.1 g).1;have a2:=(List.getElem?_eq_some_iff.1 h).1;have ab:i=1:=by
    have:i=0\/i=1\/i=2:=by omega
    rcases this with rfl|rfl|rfl
    ·cases g;cases k
    ·rfl
    ·cases g;cases k
   have ad:j=1:=by
    have:j=0\/j=1\/j=2:=by omega
    rcases this with rfl|rfl|rfl
    ·cases h;cases l
    ·rfl
    ·cases h;cases l
   omega
 ·rw[all3 b]at e;unfold L3 at e;simp only[List.mem_cons,List.not_mem_nil,or_false]at e;rcases e with rfl|rfl|rfl
  ·cases c
  ·exact⟨r.a,r.l,r.c,Zi0 b.si f,b.dat _ f⟩
  ·cases c
end
theorem syncX{i:Nat}{j w:World}{c tb a b nb:Nat}{I:LF}{C:IB}(h:XtI i j w c tb a b (G3 nb) I C)(ho:One I 6 2)(u:C 0=s6):
  Calls Tryz.prog 26 #[.pointer (some ⟨c,0,none⟩)] w fun e w'=>e = .returned (.int .i64 0)/\VolR w' c tb a b/\PS w' tb (G3 nb) I C/\Below i j w'/\KpX w w':=by
 refine ZnW w c tb a b h.vol (fun w'=>VolR w' c tb a b/\PS w' tb (G3 nb) I C/\Below i j w'/\KpX w w') (fun w' q=>q.1) ?_;have d:XtI i j w.drew c tb a b (G3 nb) I C:=h.below (Below.refl _ _).drew;obtain⟨rd,V,E,vi,n⟩:=d.ps;obtain⟨s,vk,vf,y,vw,x,ps,ep,o,rfl,m,hC,h1,h2,h3,l,h5⟩:=d.st;obtain⟨l1,l2,v,l4⟩:=d.lo;refine(ZbX o m.ok m.part (tr3 n ho u) (by omega) (by omega) (by omega)).mono ?_;rintro e w' ⟨rfl,s',vk',ad,ac,ab,aa,g1,g2,g3,g4,g5,g6,g7,g,_⟩;have p:∀k t R,StO b a y vw x k->RowIs w.drew k t R->t=179\/t=204\/t=188\/t=207\/t=3:=fun k t R e f=>o.types e f
 have r:TW w' tb rd V E vi (G3 nb) I C:=n.fr g (fun e=>by have:=(l 0 e).1;omega) (fun k t R e f=>by
  rcases p k t R e f with rfl|rfl|rfl|rfl|rfl<;>decide)
 exact⟨rfl,RowIs.fr d.vol g (fun e=>(l _ e).2 rfl),⟨rd,V,E,vi,r⟩,Qt d.bel g (fun k e=>(l k e).1) v,(KpX.below (Below.refl _ _).drew).trans (KpX.fr g (fun k t R e f=>by
  rcases p k t R e f with rfl|rfl|rfl|rfl|rfl<;>decide))⟩
def FirstI(n0:Nat)(w:World)(vb stb db:Nat):Prop:=∃vk vf vn,StK w stb db vk ks0 vf vn (.slice none 0 0) (.slice none 0 0) [] []/\SlD w vf Jf/\(∀k,Own vf k->¬StO stb db vn (.slice none 0 0) (.slice none 0 0) k/\n0<=k)/\(∀k,StO stb db vn (.slice none 0 0) (.slice none 0 0) k->n0<=k/\k≠vb)/\∀k,Own vk k->n0<=k
theorem FirstI.below{d:Nat}{w w':World}{f e a:Nat}(h:FirstI d w f e a)(c:Below w.heap.size w w'):FirstI d w' f e a:=by
 obtain⟨m,l,n,g,b,i⟩:=h;exact⟨m,l,n,g.below c,⟨b.1.kept (fun k j _=>c.block k j),b.2⟩,i⟩
theorem Zh3{w w':World}{e:Ending}(v:0<w.heap.size)(h:Zev w e w'):∃f tb b d,e = .returned (.pointer (some ⟨f,0,none⟩))/\XtI w.heap.size w w' f tb b d [] [] (fun _=>⟨#[]⟩)/\FirstI w.heap.size w' f d b:=by
 obtain⟨tb,w1,h1,o,h3,x,f,b,d,n,i,g,rfl,z,D,E,F,G,q6,q7,q8,H,A,B,s,C⟩:=h;have y:=o.size;have c:∀k,¬Own (.slice none 0 0) k:=fun k e=>by simp[Own,Value.ownBlock]at e
 have q:StK w' d b g ks0 n i (.slice none 0 0) (.slice none 0 0) [] []:=⟨D,F,fun k a e=>by
  obtain⟨_,j,l,t,_⟩:=s k a;rcases e with e|e|e|e|e
  ·exact j e
  ·exact l e
  ·exact t e
  ·exact c k e
  ·exact c k e⟩
 have p:∀k,StO d b i (.slice none 0 0) (.slice none 0 0) k->w.heap.size<=k/\k≠f:=fun k a=>by
  rcases a with e|e|e|e|e
  ·exact⟨by omega,fun m=>A (m.symm.trans e)⟩
  ·exact⟨by omega,fun m=>H (m.symm.trans e)⟩
  ·have:=C k e;exact⟨by omega,this.2⟩
  ·exact absurd e (c k)
  ·exact absurd e (c k)
 have r:∀k,Own g k->w.heap.size<=k:=fun k a=>by have:=(s k a).1;omega
 refine⟨f,tb,b,d,rfl,⟨z,x,⟨ks0,g,n,i,_,_,[],[],q,rfl,ZiL,Zlo,Nat.le_refl _,Nat.zero_le _,Nat.zero_le _,p,r⟩,o.trans (G.mono y),by omega,by omega,Nat.le_refl _,v⟩,g,n,i,q,E,fun k a=>?_,p,r⟩;obtain⟨a1,j,l,_,u,_⟩:=B k a;refine⟨fun e=>?_,by omega⟩;rcases e with e|e|e|e|e
 ·exact j e
 ·exact l e
 ·exact u e
 ·exact c k e
 ·exact c k e
theorem ZgW:KeptB (fun _=>none) ks0:=
 ⟨fun _=>⟨#[]⟩,[],fun i j x y _ a=>(by cases a),fun x a=>(by cases a),⟨fun x a=>(by cases a),fun x a=>(by cases a),List.nodup_nil,List.nodup_nil,Nat.zero_le _,fun x a=>(by cases a),fun x a=>(by cases a)⟩,Zka _,fun x a=>(by cases a),fun i b t e=>(by cases e),fun i b e u c=>(by cases c)⟩
theorem XtI.lg{b:Nat}{f w:World}{d tb a c:Nat}(h:XtI b f w d tb a c [] [] (fun _=>⟨#[]⟩)):LgI 0 b f w d tb a c (fun _=>none) (KeptB (fun _=>none)):=
 ⟨h.vol,⟨[],[],_,h.ps,SetT.empty⟩,h.st.mono (fun s e=>by subst e;exact ZgW),h.bel,h.lo⟩
def Zeu(w:World)(e:Ending)(w':World):Prop:=∃vb tb db stb,e = .returned (.pointer (some ⟨vb,0,none⟩))/\LgI 0 w.heap.size w w' vb tb db stb (fun _=>none) (KeptB (fun _=>none))/\FirstI w.heap.size w' vb stb db
theorem ZiH(w:World)(K:PkgOk w):Calls Tryz.prog 23 #[] w (Zeu w):=by
 have h0:0<w.heap.size:=by
  obtain⟨⟨m,hm⟩,_⟩:=K;exact World.block_lt_of_cell? _ _ hm
 have Z:Hid (Calls Tryz.prog 71 #[] w fun e X=>∃k:Nat,e = .returned (.pointer (some ⟨k,0,none⟩))/\Hid (Calls Tryz.prog 71 #[] X fun e Y=>∃d:Nat,e = .returned (.pointer (some ⟨d,0,none⟩))/\
   Hid (Calls Tryz.prog 58 #[.pointer (some ⟨d,0,none⟩),.string qa] Y fun e b=>e = .returned (.int .i64 0)/\∃f,(convert 59 59 (.slice (some ⟨b.heap.size,0,none⟩) 3 3)).run Tryz.prog (b.alloc (.cells #[.int .u8 120,.int .u8 121,.int .u8 122] 5)) = .ok (.slice (some ⟨b.heap.size,0,none⟩) 3 3) f/\
   Hid (Calls Tryz.prog 59 #[.pointer (some ⟨d,0,none⟩),.string qaf,.int .i64 3,.slice (some ⟨b.heap.size,0,none⟩) 3 3] f fun e y=>e = .returned (.int .i64 0)/\
   Hid (Calls Tryz.prog 55 #[.pointer (some ⟨d,0,none⟩),.string qaf,.int .i64 0,.int .i64 9] y fun e q=>∃x:Nat,e = .returned (.tuple #[.slice (some ⟨x,0,none⟩) 6 6,.int .i64 0])/\
   Hid (Calls Tryz.prog 61 #[.pointer (some ⟨d,0,none⟩),.string qaf,.string qg] q fun e z=>e = .returned (.int .i64 0)/\
   Hid (Calls Tryz.prog 63 #[.pointer (some ⟨d,0,none⟩),.string qa] z fun e A=>e = .returned (.int .i64 7)/\
   Hid (Calls Tryz.prog 57 #[.pointer (some ⟨d,0,none⟩),.string qg] A fun e h=>e = .returned (.tuple #[.agg #[.string ng,.bool false,.int .i64 6,.int .i64 2],.int .i64 0])/\∃l,h.alloc (.cells #[.string ng,.bool false,.int .i64 6,.int .i64 2] 112)=l/\
   Hid (Calls Tryz.prog 26 #[.pointer (some ⟨d,0,none⟩)] l fun e a=>e = .returned (.int .i64 0)/\a.cell? ⟨h.heap.size,2,none⟩=some (.int .i64 6)/\a.cell? ⟨h.heap.size,3,none⟩=some (.int .i64 2)/\(∀W,Below a.heap.size a W->(convert 59 9 (.slice (some ⟨x,0,none⟩) 6 6)).run Tryz.prog W = .ok (.string ⟨#[0,0,0,120,121,122]⟩) W)/\
   Hid (∀W,Below a.heap.size a W->Calls Tryz.prog 34 #[.pointer (some ⟨d,0,none⟩)] W fun e c=>e = .returned (.int .i64 1)/\Below W.heap.size W c/\Hid (Zeu w (.returned (.pointer (some ⟨k,0,none⟩))) c))))))))))):=by
  refine(ZfB w K).mono ?_;intro e X hX;obtain⟨k,tb,db,aq,rfl,o,al⟩:=Zh3 h0 hX;refine⟨k,rfl,?_⟩;have au:=o.bel.size;have an:PkgOk X:=by
   obtain⟨rd,V,E,vi,G⟩:=o.ps;exact G.pk
  refine(ZfB X an).mono ?_;intro e Y hY;obtain⟨d,tx,dx,sx,rfl,hx,_⟩:=Zh3 (by omega) hY;refine⟨d,rfl,?_⟩;refine(mkX hx).mono ?_;rintro e b ⟨rfl,nb,D⟩;obtain⟨f,B⟩:∃f,f=b.alloc (.cells #[.int .u8 120,.int .u8 121,.int .u8 122] 5 (3,4)):=⟨_,rfl⟩;have b2:Below b.heap.size b f:=by rw[B];exact(Below.refl _ _).alloc (Nat.le_refl _) _
  refine⟨rfl,f,by rw[B];exact Lib.run_convert_bytes_const b 59 5 _ 3 3 Tryz.underlying59 Tryz.underlying5,?_⟩;have hh:f.heap[b.heap.size]?=some (.cells #[.int .u8 120,.int .u8 121,.int .u8 122] 5 (3,4)):=by
   rw[B];show(b.heap.push _)[b.heap.size]? = _;exact Array.getElem?_push_size
  have ak:∀j,f.cell? ⟨b.heap.size,j,none⟩=(Dc d3)[j]? := fun j=>by
   unfold World.cell?;rw[hh,show Dc d3=(#[Value.int .u8 120,.int .u8 121,.int .u8 122]:Array Value).toList from rfl,Array.getElem?_toList]
   rfl
  have ao:RdB f (some ⟨b.heap.size,0,none⟩) 3 3 d3:=⟨rfl,(fun e=>by cases e),fun j v o=>⟨_,rfl,by
   rw[Addr.add_lit,Nat.zero_add,ak];exact o⟩⟩
  refine(wrX (D.below b2) _ 3 ao).mono ?_;rintro e y ⟨rfl,I2,C2,r,ho,hc⟩;refine⟨rfl,?_⟩;refine(rdX' r ho hc).mono ?_;rintro e q ⟨x,rfl,hS,b4⟩;refine⟨x,rfl,?_⟩;have F:=r.below b4;refine(lnX F ho).mono ?_;rintro e z ⟨rfl,⟨I3,h5,t⟩,k5⟩;refine⟨rfl,?_⟩;refine(rmX h5 t).mono ?_;rintro e A ⟨rfl,h6,k6⟩;refine⟨rfl,?_⟩;refine(stX h6 t).mono ?_;rintro e h ⟨rfl,b7⟩;obtain⟨l,e8,x8,k8,z8,b8⟩:=De h [.string ng,.bool false,.int .i64 6,.int .i64 2] 112;refine⟨rfl,l,e8,?_⟩;have h8:=(h6.below b7).below b8;refine(syncX h8 t hc).mono ?_;rintro e a ⟨rfl,ac,ah,aa,k9⟩;have r9:=k9 _ _ _ x8 (.inr rfl);have am:KpX q a:=((k5.trans k6).trans ((KpX.below b7).trans (KpX.below b8))).trans k9;have ai:∀W,Below a.heap.size a W->Sl W 5 1 (.slice (some ⟨x,0,none⟩) 6 6) 6 (Dc s6):=fun W i=>by
   refine⟨hS.1,?_⟩;rcases hS.2 with⟨e,_⟩|⟨g,ag,L,e,hR,D,h2,r,F⟩
   ·cases e
   ·have ab:=am _ _ _ hR (.inl rfl);exact .inr ⟨g,ag,L,e,(i.block _ ab.lt).trans ab,D,h2,r,F⟩
  refine⟨rfl,(r9.cell 2).trans rfl,(r9.cell 3).trans rfl,fun W i=>UU (ai W i) rfl,fun W i=>?_⟩;obtain⟨rd,V,E,vi,G⟩:=ah;refine(usX (nb:=nb) (I:=I3) (C:=C2) (tb:=tx) ⟨dx,sx,(i.block _ (RowIs.lt ac)).trans ac⟩ ⟨rd,V,E,vi,G.below i (Nat.le_refl _)⟩ t).mono ?_;rintro e c ⟨rfl,s⟩;refine⟨rfl,s,k,tb,db,aq,rfl,?_⟩;have ap:=aa.size;have av:=i.size;have ae:=aa.trans ((i.mono ap).trans (s.mono (by omega)));exact⟨o.lg.below ae,al.below ae⟩
 clear K h0;go_enter Tryz.func23,Tryz.ntmps23;go_upto_region 2 with(go_at_call 71;refine(Da Z).mono ?_;rintro e X ⟨k,rfl,N⟩);go_upto_region 3 with(go_at_call 71;refine(Da N).mono ?_;rintro e Y ⟨d,rfl,O⟩);clear Z N;go_upto_region 5 with fail;go_upto_region 6 with(go_at_call 58;refine(Da O).mono ?_;rintro e b ⟨rfl,f,aj,P⟩);clear O;go_upto_region 7 with(go_at_call 59;refine(Da P).mono ?_;rintro e y ⟨rfl,Q⟩);clear P;go_upto_region 8 with(go_at_call 55;refine(Da Q).mono ?_;rintro e q ⟨x,rfl,R⟩);clear Q;go_upto_region 9 with(go_at_call 61;refine(Da R).mono ?_;rintro e z ⟨rfl,S⟩);clear R;go_upto_region 10 with(go_at_call 63;refine(Da S).mono ?_;rintro e A ⟨rfl,T⟩);clear S;go_upto_region 11 with(go_at_call 57;refine(Da T).mono ?_;rintro e h ⟨rfl,l,ad,U⟩;have af:=Db ad;clear ad);rw[show h.alloc (.cells #[.string ng,.bool false,.int .i64 6,.int .i64 2] 112)=l from Da af];clear T;go_upto_region 12 with(go_at_call 26;refine(Da U).mono ?_;rintro e a ⟨rfl,c2,c3,J,M⟩);clear U;have n:Below a.heap.size a a:=Below.refl _ _;have ar:=J _ n;have HC:Hid (Calls Tryz.prog 34 #[.pointer (some ⟨d,0,none⟩)] a fun e c=>e = .returned (.int .i64 1)/\c.cell? ⟨h.heap.size,2,none⟩=some (.int .i64 6)/\c.cell? ⟨h.heap.size,3,none⟩=some (.int .i64 2)/\(convert 59 9 (.slice (some ⟨x,0,none⟩) 6 6)).run Tryz.prog c = .ok (.string ⟨#[0,0,0,120,121,122]⟩) c/\Hid (Zeu w (.returned (.pointer (some ⟨k,0,none⟩))) c)):=by
  refine(Da M _ n).mono ?_;rintro e c ⟨rfl,s,u⟩;have H:Below a.heap.size a c:=n.trans (s.mono n.size);exact⟨rfl,(H.cell (p:=⟨h.heap.size,2,none⟩) (World.block_lt_of_cell? _ _ c2)).trans c2,(H.cell (p:=⟨h.heap.size,3,none⟩) (World.block_lt_of_cell? _ _ c3)).trans c3,J c H,u⟩
 clear J M n aj;go_wp2_with (go_at_call 34;refine(Da HC).mono ?_;rintro e c ⟨rfl,g2,g3,gc,u⟩);go_ret;exact Da u
def KpS(w w':World):Prop:=∀k t R,RowIs w k t R->(t=179\/t=204\/t=188\/t=207\/t=3\/t=350)->RowIs w' k t R
theorem KpE.s{d:Nat}{w w':World}(h:KpE d w w'){f:LVa}(g:RowIs w d 62 f):KpS w w':=fun k t R a c=>h k t R a (by rcases c with rfl|rfl|rfl|rfl|rfl|rfl<;>decide) (fun e=>by
 subst e;have:=g.type a;subst this
 revert c;decide)
theorem Sl.kpS{w w':World}{e:TypeId}{a:Nat}{v:Value}{n:Nat}{xs:LVa}(h:Sl w e a v n xs)(i:KpS w w')(f:e=179\/e=204\/e=188\/e=207\/e=3\/e=350):Sl w' e a v n xs:=by
 refine⟨h.1,?_⟩;rcases h.2 with q|⟨g,c,L,q,d,j⟩
 ·exact .inl q
 ·exact .inr ⟨g,c,L,q,i _ _ _ d f,j⟩
theorem StK.kpS{w w':World}{stb db:Nat}{e:Value}{s:KS}{d f vw c:Value}{ps:LB}{ep:List Int}(h:StK w stb db e s d f vw c ps ep)(a:KpS w w'):StK w' stb db e s d f vw c ps ep:=
 ⟨⟨a _ _ _ h.st.row (by decide),⟨a _ _ _ h.st.disk.1 (by decide),⟨h.st.disk.2.1.1.kpS a (by decide),h.st.disk.2.1.2⟩,h.st.disk.2.2⟩,Sl.kpS h.st.sw a (by decide),h.st.se.kpS a (by decide),h.st.ne,h.st.ns,h.st.nd,h.st.d1,h.st.d2,h.st.d3⟩,h.sk.kpS a (by decide),h.ok⟩
def StF(X:Nat->Prop)(N n0:Nat)(w:World)(vb stb db:Nat)(kb:List (Nat->Option By))(en:List Nat):Prop:=
 ∃s vk vf vn vw ve ps ep F,StK w stb db vk s vf vn vw ve ps ep/\SlD w vf F/\(∀k,Own vf k->¬StO stb db vn vw ve k/\n0<=k)/\Hs (N+1) F ps ep s kb en/\InvS s/\InvC s/\s.tn<=N+1/\ps.length<=256*N/\ep.length<=2*N/\(∀k,StO stb db vn vw ve k->n0<=k/\k≠vb)/\(∀k,Own vk k->n0<=k)/\∀k,StO stb db vn vw ve k->¬X k
structure FgI(X:Nat->Prop)(N n0:Nat)(w0 w:World)(vb tb db stb:Nat)(b:Nat->Option By)(kb:List (Nat->Option By))(en:List Nat):Prop where
 vol:VolR w vb tb db stb
 tr:∃G I CI,PS w tb G I CI/\SetT b G I CI
 st:StF X N n0 w vb stb db kb en
 bel:Below n0 w0 w
 lo:n0<tb/\n0<=vb/\n0<=w0.heap.size/\0<n0
section
variable{X:Nat->Prop}{N n0:Nat}{w0 w w':World}{vb tb db stb:Nat}{b:Nat->Option By}{kb:List (Nat->Option By)}{en:List Nat}
theorem Hs.any{T:Nat}{F:LY}{ps:LB}{ep:List Int}{s:KS}(h:Hs T F ps ep s kb en):K9 s:=by
 obtain⟨b,_,h⟩:=h.last;exact h.any
theorem FgI.lg(h:FgI X N n0 w0 w vb tb db stb b kb en):LgI N n0 w0 w vb tb db stb b K9:=by
 obtain⟨s,n,m,o,vw,l,ps,ep,F,j,_,_,k,a,c,d,e,f,g,i,_⟩:=h.st;exact⟨h.vol,h.tr,⟨s,n,m,o,vw,l,ps,ep,j,k.any,a,c,d,e,f,g,i⟩,h.bel,h.lo⟩
theorem FgI.of(h:LgI N n0 w0 w' vb tb db stb b K9)(f:StF X N n0 w vb stb db kb en)(c:KpS w w'):FgI X N n0 w0 w' vb tb db stb b kb en:=by
 obtain⟨s,j,i,k,vw,g,ps,ep,F,d,a,e⟩:=f;exact⟨h.vol,h.tr,⟨s,j,i,k,vw,g,ps,ep,F,d.kpS c,⟨a.1.kpS c (by decide),a.2⟩,e⟩,h.bel,h.lo⟩
theorem FgI.below(h:FgI X N n0 w0 w vb tb db stb b kb en)(a:Below w.heap.size w w'):FgI X N n0 w0 w' vb tb db stb b kb en:=
 FgI.of (h.lg.below a) h.st (fun k _ _ c _=>(a.block k c.lt).trans c)
theorem FgI.turn{d:Nat}{vs:NV}(h:FgI X N n0 w0 w vb tb db stb b kb en)(g:SetW n0 w d b vs)(c:Int)(k:In64 c):
  Calls Tryz.prog 25 #[.pointer (some ⟨d,0,none⟩),.pointer (some ⟨vb,0,none⟩),.int .i64 c] w fun e Y=>e = .returned (.bool true)/\∃a f,FgI X N n0 w0 Y vb tb db stb a kb en/\SetW n0 Y d a f/\KpE d w Y:=
 (Zhw h.lg g c k).mono fun _ _ ⟨j,a,f,l,m,i⟩=>⟨j,a,f,FgI.of l h.st (i.s g.row),m,i⟩
theorem FgI.keep(h:FgI X N n0 w0 w vb tb db stb b kb en)(hN:N<=2000000)(hX:∀k,X k->k<w.heap.size):
  Calls Tryz.prog 74 #[.pointer (some ⟨stb,0,none⟩),.pointer (some ⟨tb,0,none⟩)] w fun e w'=>e = .returned (.tuple #[])/\(∃m,FgI X (N+1) n0 w0 w' vb tb db stb b (kb++[b]) (en++[m]))/\Kp62 w w'/\∀k,X k->k<w.heap.size->w'.heap[k]?=w.heap[k]? := by
 obtain⟨G,I,R,⟨rd,V,E,vi,t⟩,u⟩:=h.tr;obtain⟨s,vk,vf,K,vw,ve,ps,ep,F,aa,P,W,A,c,v,h1,h2,h3,d,U,f⟩:=h.st;refine(ZbX aa c.ok c.part (u.fl.keep t).2 (by omega) (by omega) (by omega)).mono fun e w' q=>?_
 rw[u.fl.its t]at q;obtain⟨he,B,a⟩:=LgI.after (Nat.le_refl _) h.lg aa A.any c v h1 h2 h3 d U t u q;obtain⟨_,H,vk',L,J,ab,S,g1,l,g3,g4,M,O,g7,T,g9⟩:=q;obtain⟨C0,L0,af,ah⟩:=A.any;obtain⟨p,_⟩:=u.fl.keep t;obtain⟨i1,i2,i3,i4⟩:=l.ok (Nat.le_refl _) c p ah af;have iC:=l.ck c p v;have D:KeptB b H:=u.kept t i2;have aj:=h.bel.size;have ag:∀k,Own vf k->¬StO stb db K L J k/\n0<=k:=fun k a=>by
  obtain⟨i,a2⟩:=W k a;have Z:=P.1.lt a;refine⟨fun e=>?_,a2⟩;rcases e with e|e|e|e|e
  ·exact i (.inl e)
  ·exact i (.inr (.inl e))
  ·exact i (.inr (.inr (.inl e)))
  ·rcases M k e with q|q
   ·exact i (.inr (.inr (.inr (.inl q))))
   ·omega
  ·rcases O k e with q|q
   ·exact i (.inr (.inr (.inr (.inr q))))
   ·omega
 have ac:∀k,StO stb db K L J k->n0<=k/\k≠vb:=fun k a=>by
  have al:vb<w.heap.size:=RowIs.lt h.vol;obtain⟨l1,l2,l3,l4⟩:=h.lo;rcases a with e|e|e|e|e
  ·exact d k (.inl e)
  ·exact d k (.inr (.inl e))
  ·exact d k (.inr (.inr (.inl e)))
  ·rcases M k e with q|q
   ·exact d k (.inr (.inr (.inr (.inl q))))
   ·exact⟨by omega,by omega⟩
  ·rcases O k e with q|q
   ·exact d k (.inr (.inr (.inr (.inr q))))
   ·exact⟨by omega,by omega⟩
 have ad:∀k,Own vk' k->n0<=k:=fun k a=>by
  obtain⟨l1,l2,l3,l4⟩:=h.lo;rcases g7 k a with q|q
  ·exact U k q
  ·omega
 have ae:(∀k,X k->k<w.heap.size)->∀k,StO stb db K L J k->¬X k:=fun g k a e=>by
  rcases a with q|q|q|q|q
  ·exact f k (.inl q) e
  ·exact f k (.inr (.inl q)) e
  ·exact f k (.inr (.inr (.inl q))) e
  ·rcases M k q with q|q
   ·exact f k (.inr (.inr (.inr (.inl q)))) e
   ·have:=g k e;omega
  ·rcases O k q with q|q
   ·exact f k (.inr (.inr (.inr (.inr q)))) e
   ·have:=g k e;omega
 have ak:H.tn<=s.tn+1:=by
  rcases l with⟨_,rfl⟩|⟨_,_,_,_,q,_⟩
  ·omega
  ·omega
 have Q:∃m,Hs (N+1+1) F ab S H (kb++[b]) (en++[m]):=by
  rcases g9 with⟨z,rfl,rfl⟩|⟨z,rfl,rfl⟩
  ·rcases l with⟨_,rfl⟩|⟨y,_⟩
   ·exact⟨_,A.none (by omega) ⟨_,rfl,c,v,D,by omega⟩ D⟩
   ·exact absurd z y
  ·rcases l with⟨y,_⟩|⟨_,_,_,_,_,y6⟩
   ·exact absurd y z
   ·obtain⟨cl,ai,_⟩:=Qe 512 s (fun n=>R (n:Int)) ((E rd).map itE);have hp:=PI.all c cl p.ok (by have:=p.puts s cl;omega);have C:=Qz p.ok (Dh s.es cl s.tp s.D) (c.ok.env cl) (s.tp+1) (by have:=c.ok.tp;omega);change ZoW (Dq s cl _ _) at C;rw[<-ai]at hp C;obtain⟨j,o,Y,_⟩:=hp.ri;refine⟨_,A.some (by omega) c v (by omega) (fun x g=>?_) (Nat.mod_lt _ (by omega)) (Q8 _ _ _) y6 ⟨_,rfl,i1,iC,D,by omega⟩ D⟩;have hm:x.1∈(DE 512 s (fun n=>R (n:Int)) ((E rd).map itE)).2.ps.map (·.1):=List.mem_map.2 ⟨x,g,rfl⟩;exact⟨(C.pl.2 x g).1,(C.pl.2 x g).2,(Y.ge c hm).1,fun r=>Y.not_es c hm r⟩
 obtain⟨m,Q⟩:=Q;exact⟨he,⟨m,B.vol,B.tr,⟨H,vk',vf,K,L,J,ab,S,F,g1,⟨P.1.fr T (fun k a=>(W k a).1),P.2⟩,ag,Q,i1,iC,by omega,by omega,by omega,ac,ad,ae hX⟩,B.bel,B.lo⟩,a,fun k a Z=>T.block k Z (fun e=>f k e a)⟩
theorem FgI.sync(h:FgI X N n0 w0 w vb tb db stb b kb en)(a:N<=2000000)(c:∀k,X k->k<w.heap.size):
  Calls Tryz.prog 26 #[.pointer (some ⟨vb,0,none⟩)] w fun e w'=>e = .returned (.int .i64 0)/\(∃m,FgI X (N+1) n0 w0 w' vb tb db stb b (kb++[b]) (en++[m]))/\Kp62 w w'/\∀k,X k->k<w.heap.size->w'.heap[k]?=w.heap[k]? :=
 ZnW w vb tb db stb h.vol (fun w'=>(∃m,FgI X (N+1) n0 w0 w' vb tb db stb b (kb++[b]) (en++[m]))/\Kp62 w w'/\∀k,X k->k<w.heap.size->w'.heap[k]?=w.heap[k]?) (fun _ ⟨⟨_,q⟩,_⟩=>q.vol)
  (((h.below (Below.refl _ _).drew).keep a c).mono fun _ _ q=>⟨q.1,q.2.1,(Kp62.below (Below.refl _ _).drew).trans q.2.2.1,q.2.2.2⟩)
theorem FgI.mean(h:FgI X N n0 w0 w vb tb db stb b kb en){Y:Nat->Prop}(t:∀k,Y k->X k\/w.heap.size<=k):FgI Y N n0 w0 w vb tb db stb b kb en:=by
 obtain⟨s,x,v,y,vw,u,ps,ep,F,a,o,p,r,d,f,g,i,j,l,m,n⟩:=h.st;refine⟨h.vol,h.tr,⟨s,x,v,y,vw,u,ps,ep,F,a,o,p,r,d,f,g,i,j,l,m,fun k c e=>?_⟩,h.bel,h.lo⟩;rcases t k e with q|q
 ·exact n k c q
 ·have:=a.lo k c;omega
theorem FgI.epochs(h:FgI X N n0 w0 w vb tb db stb b kb en){x:Nat}(k:en[en.length-1]?=some x):
  Calls Tryz.prog 30 #[.pointer (some ⟨vb,0,none⟩)] w fun e w'=>e = .returned (.int .i64 (x:Nat))/\w'=w:=by
 obtain⟨s,vk,vf,vn,vw,ve,ps,ep,F,d,h2,h3,j,_⟩:=h.st;obtain⟨a,l,c,rfl⟩:=d.st.se.shape;have g:l=ep.length:=d.st.se.len;have f:=j.el;rw[k]at f;have i:=Option.some.inj f;rw[i,<-g];exact ZoJ w vb tb db stb h.vol a l c ((d.st.disk.1.cell 3).trans rfl)
end
end Go.Proofs.YtaieidcohdhgpaaGreatDoor
