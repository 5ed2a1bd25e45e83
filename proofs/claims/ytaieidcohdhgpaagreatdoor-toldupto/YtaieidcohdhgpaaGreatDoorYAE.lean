/- Told. -/
import Derived.Test.YtaieidcohdhgpaaGreatDoorYAD
namespace Go.Proofs.YtaieidcohdhgpaaGreatDoor
set_option maxHeartbeats 40000000
set_option maxRecDepth 100000
open Tryz
open Go.RowKit
theorem Uu:∀(d xs:LY) (y:By) (ys:LY),xs≠[]->DZ d (xs++y::ys)=DZ d xs++(d++xs)::DZ (d++xs) (y::ys)
 |d,[],y,ys,h=>absurd rfl h
 |d,[x],y,ys,_=>by simp[DZ]
 |d,x::x'::xs,y,ys,_=>by
  have:=Uu (d++[x]) (x'::xs) y ys (by simp);rw[AN,AN,DZ,DZ,<-AN,this];simp
theorem UX(G:Gh):∀(A B:List (LY)),GO G A=0->GO G (A++B)=GO G B
 |[],B,_=>rfl
 |q::A,B,h=>by
  rw[AN,GO];rw[GO]at h
  cases hq:Gl G q with
  |none=>rw[hq]at h;simp at h
  |some u=>
   rw[hq]at h;by_cases a:u.p.isSome=true
   ·simp only[a,if_true]at h ⊢;exact UX G A B h
   ·simp[a]at h
theorem Y9{G:Gh}{xs:LY}{y:By}{a:LY}(c:xs≠[])(b:GO G (DZ [] xs)=0)(h:Gl G xs=none):GO G (DZ [] (xs++y::a))=3:=by
 rw[Uu [] xs y a c,UX G _ _ b,GO,AD,h]
theorem Y5{G:Gh}{xs:LY}{y:By}{a:LY}{u:VS}(c:xs≠[])(b:GO G (DZ [] xs)=0)(h:Gl G xs=some u)(d:u.p=none):GO G (DZ [] (xs++y::a))=4:=by
 rw[Uu [] xs y a c,UX G _ _ b,GO,AD,h];simp[d]
theorem ah_dir{G:Gh}{xs:LY}{y:By}{u:VS}(b:xs≠[])(a:GO G (DZ [] xs)=0)(h:Gl G xs=some u)(c:u.p.isSome=true):GO G (DZ [] (xs++[y]))=0:=by
 rw[Uu [] xs y [] b,UX G _ _ a,GO,AD,h];simp[c,DZ,GO]
def Dj(d:OA)(name:By)(there:Bool)(u:VS):Value:=.agg #[.pointer d,.string name,.bool there,.pointer u.p,.int .i64 u.f]
def DB:Value:=Dj none ⟨#[]⟩ false ⟨none,0⟩
def Gz(G:Gh)(rd:Nat)(ns:LY)(d:OA)(name:By)(there:Bool)(u:VS):Prop:=
 (ns=[]/\d=none/\name=⟨#[]⟩/\there=true/\u=⟨some ⟨rd,0,none⟩,0⟩)\/
 ∃ds db,ns=ds++[name]/\FY G rd ds db/\d=some ⟨db,0,none⟩/\there=(Gl G ns).isSome/\u=(Gl G ns).getD ⟨none,0⟩
def Yb(G:Gh)(rd:Nat)(ns:LY)(w:World)(e:Ending)(w':World):Prop:=
 ((GO G (DZ [] ns)≠0/\e=.returned (.tuple #[DB,.int .i64 (GO G (DZ [] ns))]))\/
  (GO G (DZ [] ns)=0/\∃d n t u,Gz G rd ns d n t u/\e=.returned (.tuple #[Dj d n t u,.int .i64 0])))/\Bw w w'
theorem Ib.at{G:Gh}(d:Gk G){a:LY}{es:LS}(c:Ib G a es){n:By}{r:VS}{b:Bool}(e:Sr es n r b):b=(Gl G (a++[n])).isSome/\r=(Gl G (a++[n])).getD ⟨none,0⟩:=by
 rcases e with⟨rfl,f⟩|⟨rfl,rfl,g⟩
 ·rw[KL d.nd ((c n r).1 f)];exact⟨rfl,rfl⟩
 ·cases ha:Gl G (a++[n]) with
  |none=>exact⟨rfl,rfl⟩
  |some u=>exact absurd rfl (g (n,u) ((c n u).2 (KI ha)))
theorem Ot{w:World}{G:Gh}{a:Nat}{V:NV}{E:NS}(g:Gr w G a V E){xs:LY}{d:OA}{n:By}{t:Bool}{u:VS}(h:Gz G a xs d n t u):
  (t=false/\xs≠[]/\Gl G xs=none)\/(t=true/\xs≠[]/\Gl G xs=some u/\u.p=none)\/(t=true/\∃b,u=⟨some ⟨b,0,none⟩,0⟩/\FY G a xs b/\(xs=[]\/Gl G xs=some u)):=by
 rcases h with⟨rfl,_,_,rfl,rfl⟩|⟨c,db,rfl,hd,rfl,rfl,rfl⟩
 ·exact .inr (.inr ⟨rfl,a,rfl,.inl ⟨rfl,rfl⟩,.inl rfl⟩)
 ·cases ha:Gl G (c++[n]) with
  |none=>exact .inl ⟨rfl,by simp,rfl⟩
  |some u=>
   rcases g.shp _ (KI ha) with f|⟨b,e⟩
   ·exact .inr (.inl ⟨rfl,by simp,rfl,f⟩)
   ·simp only at e;exact .inr (.inr ⟨rfl,b,by simpa using e,.inr (by rw[<-e];exact KI ha),.inr rfl⟩)
theorem FX.alloc{w:World}{b:Nat}{t:TypeId}{L:F0}(h:FX w b t L)(o:Obj):FX (w.alloc o) b t L:=(BH _ _ _ h.lt).trans h
theorem Ju{w:World}{b:Nat}{t:TypeId}{g i j k l:Value}(h:FX w b t [g,i,j,k,l])(a c d e f:Value):
  FX (((((w.setCell ⟨b,0,none⟩ a).setCell ⟨b,1,none⟩ c).setCell ⟨b,2,none⟩ d).setCell ⟨b,3,none⟩ e).setCell ⟨b,4,none⟩ f) b t [a,c,d,e,f]:=by
 have:=((((h.set 0 a).set 1 c).set 2 d).set 3 e).set 4 f
 simpa using this
theorem JC{w w1:World}{B b:Nat}(h:Below B w w1)(a:B<=b)(c d e f g:Value):Below B w (((((w1.setCell ⟨b,0,none⟩ c).setCell ⟨b,1,none⟩ d).setCell ⟨b,2,none⟩ e).setCell ⟨b,3,none⟩ f).setCell ⟨b,4,none⟩ g):=
 ((((h.setCell (p:=⟨b,0,none⟩) a _).setCell (p:=⟨b,1,none⟩) a _).setCell (p:=⟨b,2,none⟩) a _).setCell (p:=⟨b,3,none⟩) a _).setCell (p:=⟨b,4,none⟩) a _
theorem FX.setOther{w:World}{b:Nat}{t:TypeId}{L:F0}(h:FX w b t L)(a:Addr)(u:Value)(c:a.block≠b):FX (w.setCell a u) b t L:=by
 unfold FX at h ⊢;rw[Aw _ _ _ _ c.symm];exact h
theorem Ml{w:World}{b a:Nat}{t:TypeId}{L:F0}(h:FX w b t L)(c:a≠b)(d e f g i:Value):FX (((((w.setCell ⟨a,0,none⟩ d).setCell ⟨a,1,none⟩ e).setCell ⟨a,2,none⟩ f).setCell ⟨a,3,none⟩ g).setCell ⟨a,4,none⟩ i) b t L:=
 ((((h.setOther ⟨a,0,none⟩ d c).setOther ⟨a,1,none⟩ e c).setOther ⟨a,2,none⟩ f c).setOther ⟨a,3,none⟩ g c).setOther ⟨a,4,none⟩ i c
def MK(G:Gh)(rd:Nat)(ns:LY)(w:World)(i:Value)(wr:World):Prop:=
 ∃k:Nat,k<=ns.length/\i=.int .i64 k/\∃d n t u,Gz G rd (ns.take k) d n t u/\GO G (DZ [] (ns.take k))=0/\FX wr (w.heap.size+1) 262 [.pointer d,.string n,.bool t,.pointer u.p,.int .i64 u.f]/\
  FX wr w.heap.size 262 [.pointer none,.string ⟨#[]⟩,.bool false,.pointer none,.int .i64 0]/\Bw w wr
theorem Xa(w:World)(tb s:Nat)(V:NV)(E:NS)(vi:Value)(G:Gh)(hG:Gk G)(ah:G.length<=10000)(hT:FX w tb 214 [.pointer (some ⟨s,0,none⟩),vi])(hD:Gr w G s V E)(ns:LY)(aq:ns.length<=6)(U:OA)(W:Nat)(hN:Sl w 9 1 (.slice U ns.length W) ns.length (ns.map .string)):
  Cl 227 #[.pointer (some ⟨tb,0,none⟩),.slice U ns.length W] w (Yb G s ns w):=by
 have ao:=hT.cell 0;have ar:=hT.lt;obtain⟨am,an,e,ae⟩:=hN.rdF
 cases e
 have af:=Db ae;have o:=Db hD;clear ae hD;go_enter func227,ntmps227;go_wp2
 go_loopw [8,9,10,11,20] (λ_ _ _ _ i wr=>MK G s ns w i wr) (λ_ _ _ _ i _=>ns.length-(intOf i).toNat)
 case atStart=>
  refine⟨0,Au _,rfl,none,⟨#[]⟩,true,⟨some ⟨s,0,none⟩,0⟩,.inl ⟨rfl,rfl,rfl,rfl,rfl⟩,rfl,?_,?_,((Ak _ w).alloc (Aa _) _).alloc (by simp) _⟩
  ·have:=Je (w.alloc (Obj.cells #[Value.pointer none,Value.string { data:=#[] },Value.bool false,Value.pointer none,Value.int IntKind.i64 0] 262)) [Value.pointer none,Value.string { data:=#[] },Value.bool true,Value.pointer (some { block:=s,off:=0 }),Value.int IntKind.i64 0] 262
   simpa using this
  ·have:=Je w [Value.pointer none,Value.string { data:=#[] },Value.bool false,Value.pointer none,Value.int IntKind.i64 0] 262;exact(BH _ _ _ (by simp)).trans this
 case round=>
  obtain⟨k,hk,rfl,d,n,t,u,B,z,f,c,j⟩:=hrel;have b0:=c.cell 0;have b1:=c.cell 1;have b2:=c.cell 2;have b3:=c.cell 3;have b4:=c.cell 4;have g0:=c.frozen 0;have g1:=c.frozen 1;have g2:=c.frozen 2;have g3:=c.frozen 3;have g4:=c.frozen 4;have Q:=f.cell 0;have R:=f.cell 1;have S:=f.cell 2;have K:=f.cell 3;have T:=f.cell 4;have Z:=f.frozen 0;have f1:=f.frozen 1;have f2:=f.frozen 2;have f3:=f.frozen 3;have f4:=f.frozen 4;have O:=Db B;have J:=Db z;clear B z;by_cases ac:k<ns.length
  ·obtain⟨y,M⟩:∃y,ns[k]?=some y:=⟨_,Ac ac⟩;obtain⟨g,rfl,q0⟩:=Da af k y M;have aj:g<w.heap.size:=hN.lt rfl;have q1:=(j.cell (p:=⟨g,k,none⟩) aj).trans q0;have P:Hid (ns.take (k+1)=ns.take k++[y]):=by show _=_;rw[BK,M];rfl
   have N:Hid (ns=ns.take k++y::ns.drop (k+1)):=by
    show _=_;have ak:=Ae.1 M;have:=(Co k ns).symm;rw[BN ac,ak.2]at this;exact this
   clear q0;rcases Ot (Da o) (Da O) with⟨rfl,l,A⟩|⟨rfl,l,A,hu⟩|⟨rfl,b,rfl,q,ad⟩
   ·have m:Hid (GO G (DZ [] ns)=3):=by show _=_;rw[Da N];exact Y9 l (Da J) A
    clear A l;go_wp2;have a:=Ju c (.pointer none) (.string ⟨#[]⟩) (.bool false) (.pointer none) (.int .i64 0);have C:=a.cell 0;have D:=a.cell 1;have F:=a.cell 2;have H:=a.cell 3;have I:=a.cell 4;exact Ap (v:=.tuple #[DB,.int .i64 3]) (by simp[results,results227,go_sem,C,D,F,H,I,DB,Dj]) rfl
     ⟨.inl ⟨by rw[Da m];decide,by rw[Da m]⟩,JC j (Aa _) _ _ _ _ _⟩
   ·have m:Hid (GO G (DZ [] ns)=4):=by show _=_;rw[Da N];exact Y5 l (Da J) A hu
    rw[hu]at K;clear A l;go_wp2;have a:=Ju c (.pointer none) (.string ⟨#[]⟩) (.bool false) (.pointer none) (.int .i64 0);have C:=a.cell 0;have D:=a.cell 1;have F:=a.cell 2;have H:=a.cell 3;have I:=a.cell 4;exact Ap (v:=.tuple #[DB,.int .i64 4]) (by simp[results,results227,go_sem,C,D,F,H,I,DB,Dj]) rfl
     ⟨.inl ⟨by rw[Da m];decide,by rw[Da m]⟩,JC j (Aa _) _ _ _ _ _⟩
   ·have ab:=OU wr b 0 (V b) (E b) y (((j.cell (p:=⟨b,0,none⟩) ((Da o).row _ b q).lt)).trans (((Da o).row _ b q).cell 0)) ((((Da o).below j (Aa _))).sl _ b q) (Af ((Da o).le hG q) ah) ((Da o).srt _ b q);go_wp2_with fail;refine ab.mono ?_;rintro e w2⟨r,x,rfl,aa,L⟩;obtain⟨X,Y⟩:=Ib.at hG ((Da o).en _ b q) aa;have ag:Hid (Gz G s (ns.take (k+1)) (some ⟨b,0,none⟩) y x r):=by
     show Gz _ _ _ _ _ _ _;rw[Da P];exact .inr ⟨_,b,rfl,q,rfl,X,Y⟩
    have m:Hid (GO G (DZ [] (ns.take (k+1)))=0):=by
     show _=_;rw[Da P];rcases ad with e|ha
     ·rw[e];rfl
     ·by_cases l:ns.take k=[]
      ·rw[l];rfl
      ·exact ah_dir l (Da J) ha rfl
    have h:FX w2 _ _ _:=(L.block _ f.lt).trans f;have al:FX w2 _ _ _:=(L.block _ c.lt).trans c;have ap:w.heap.size+1<w2.heap.size:=h.lt;have ai:Bw w w2:=j.trans (L.mono j.size);clear ab aa X Y ad b0 b1 b2 b3 b4 g0 g1 g2 g3 g4 Q R S K T Z f1 f2 f3 f4;have Q:=h.cell 0;have R:=h.cell 1;have S:=h.cell 2;have K:=h.cell 3;have T:=h.cell 4;have Z:=h.frozen 0;have f1:=h.frozen 1;have f2:=h.frozen 2;have f3:=h.frozen 3;have f4:=h.frozen 4;go_wp2
    go_roundw
    case rel=>
     refine⟨k+1,by omega,by go_num,some ⟨b,0,none⟩,y,x,r,Da ag,Da m,?_,?_,?_⟩
     ·exact FX.alloc (Ju h (.pointer (some ⟨b,0,none⟩)) (.string y) (.bool x) (.pointer r.p) (.int .i64 r.f)) _
     ·exact FX.alloc (Ml al (by omega) (.pointer (some ⟨b,0,none⟩)) (.string y) (.bool x) (.pointer r.p) (.int .i64 r.f)) _
     ·have h5:=JC ai (EL _) (.pointer (some ⟨b,0,none⟩)) (.string y) (.bool x) (.pointer r.p) (.int .i64 r.f);exact h5.alloc h5.size _
    case measure=>simp[intOf];omega
  ·obtain rfl:k=ns.length:=by omega
   go_wp2;have a:=Ju c (.pointer d) (.string n) (.bool t) (.pointer u.p) (.int .i64 u.f);have C:=a.cell 0;have D:=a.cell 1;have F:=a.cell 2;have H:=a.cell 3;have I:=a.cell 4;have z:=Da J;have B:=Da O;rw[Cy]at z B;exact Ap (v:=.tuple #[Dj d n t u,.int .i64 0]) (by simp[results,results227,go_sem,C,D,F,H,I,Dj]) rfl
    ⟨.inr ⟨z,d,n,t,u,B,rfl⟩,JC j (Aa _) _ _ _ _ _⟩
def Gd(w:World):Prop:=(∃m,w.cell? ⟨0,0,none⟩=some (.int .i64 m))/\∀t R,FX w 0 t R->t=3
def Dc(s:By):F0:=s.data.toList.map (λb => .int .u8 (b.toNat:Int))
structure TW(w:World)(tb rd:Nat)(V:NV)(E:NS)(vi:Value)(G:Gh)(I:LF)(C:IB):Prop where
 pk:Gd w
 t:FX w tb 214 [.pointer (some ⟨rd,0,none⟩),vi]
 d:Gr w G rd V E
 i:Sl w 293 3 vi I.length (Dq I)
 si:Gm I
 dat:∀x∈I,Sl w 5 1 (.slice x.2.a x.2.l x.2.c) x.2.l (Dc (C x.1))
 lo:tb<=rd+1/\∀g,vi.ownBlock=some g->rd<=g
theorem Gd.fr{X:Nat->Prop}{w w':World}(h:Gd w)(f:Fr X w w')(e:¬X 0):Gd w':=by
 obtain⟨⟨m,c⟩,g⟩:=h;have d:0<w.heap.size:=Am _ _ c;have b:=f.block 0 d e;refine⟨⟨m,?_⟩,λt R a=>g t R ?_⟩
 ·rw[<-c];unfold World.cell?;rw[b]
 ·unfold FX at a ⊢;rw[<-b];exact a
theorem TW.fr{X:Nat->Prop}{w w':World}{tb i:Nat}{V:NV}{E:NS}{j:Value}{G:Gh}{I:LF}{C:IB}(h:TW w tb i V E j G I C)(c:Fr X w w')(l:¬X 0)(b:∀k t R,X k->FX w k t R->t≠214/\t≠229/\t≠310/\t≠293/\t≠5):TW w' tb i V E j G I C:=
 ⟨h.pk.fr c l,h.t.fr c (λe=>(b _ _ _ e h.t).1 rfl),h.d.fr c (λk t R e a=>⟨(b k t R e a).2.1,(b k t R e a).2.2.1⟩),
  h.i.fr c (λg d e=>by obtain⟨R,a⟩:=h.i.type d;exact(b _ _ _ e a).2.2.2.1 rfl),h.si,
  λx f=>(h.dat x f).fr c (λg d e=>by obtain⟨R,a⟩:=(h.dat x f).type d;exact(b _ _ _ e a).2.2.2.2 rfl),h.lo⟩
theorem TW.dlo{w:World}{tb a:Nat}{V:NV}{E:NS}{f:Value}{G:Gh}{I:LF}{C:IB}(h:TW w tb a V E f G I C){ns:LY}{b:Nat}(d:FY G a ns b):tb<=b+1/\∀g,(V b).ownBlock=some g->tb<=g+1:=by
 have h1:=h.lo.1;have c:=h.d.lo ns b d;exact⟨by omega,λg e=>by have:=c.2 g e;omega⟩
theorem TW.below{w w':World}{tb a:Nat}{V:NV}{E:NS}{b:Value}{G:Gh}{I:LF}{C:IB}(h:TW w tb a V E b G I C){B:Nat}(d:Below B w w')(c:w.heap.size<=B):TW w' tb a V E b G I C:=
 h.fr (X:=λ_=>False) (Fr.of_below (d.mono c)) id (λ_ _ _ e=>e.elim)
def DN(G:Gh)(p:By)(fits:Bool):Int:=if DS p=false then 1 else if fits=false then 2 else GO G (DZ [] (Df p))
def Yd(G:Gh)(rd:Nat)(p:By)(fits:Bool)(w:World)(e:Ending)(w':World):Prop:=
 ((DN G p fits≠0/\e=.returned (.tuple #[DB,.int .i64 (DN G p fits)]))\/
  (DN G p fits=0/\DS p=true/\∃d n t u,Gz G rd (Df p) d n t u/\e=.returned (.tuple #[Dj d n t u,.int .i64 0])))/\Bw w w'
theorem Uv{p:By}(h:DS p=true):(Df p).length<=6:=by
 cases hr:(p.toList==[47]) with
 |true=>rw[Us hr];exact Au _
 |false=>exact(Qt h hr).2.2.2
theorem On(w:World)(tb P:Nat)(V:NV)(E:NS)(vi:Value)(G:Gh)(I:LF)(C:IB)(h:TW w tb P V E vi G I C)(hG:Gk G)(ae:G.length<=10000)(p:By)(hp:p.size<=2000000)(y:Bool):
  Cl 184 #[.pointer (some ⟨tb,0,none⟩),.string p,.bool y] w (Yd G P p y w):=by
 obtain⟨m,X⟩:=h.pk.1;have h0:0<w.heap.size:=Am _ _ X;have N:∀o,Bw w (w.alloc o):=λo=>(Ak _ _).alloc (Aa _) o
 have Y:=λo=>RK p m (w.alloc o) hp (((N o).cell (p:=⟨0,0,none⟩) h0).trans X)
 have Z:=Je w [.pointer none,.string ⟨#[]⟩,.bool false,.pointer none,.int .i64 0] 262;have ac:=Db Z;clear Z;go_enter func184,ntmps184;go_wp2_with fail;refine(Y _).mono ?_;rintro e w1⟨O,R⟩;have x:Bw w w1:=(N _).trans (R.mono (by simp));have b:FX w1 w.heap.size 262 _:=(R.block _ (by simp)).trans (Da ac);have HH:=Db h;clear Y N h;rcases O with⟨j,rfl⟩|⟨j,a,c,rfl,af⟩
 ·have i:Hid (DN G p y=1):=by show _=_;unfold DN;rw[if_pos j]
  have H:=b.frozen 0;have J:=b.frozen 1;have K:=b.frozen 2;have L:=b.frozen 3;have M:=b.frozen 4;have z:=b.cell 0;have A:=b.cell 1;have B:=b.cell 2;have D:=b.cell 3;have F:=b.cell 4;clear j;go_wp2;have f:=Ju b (.pointer none) (.string ⟨#[]⟩) (.bool false) (.pointer none) (.int .i64 0);have k:=f.cell 0;have l:=f.cell 1;have q:=f.cell 2;have r:=f.cell 3;have s:=f.cell 4;exact Ap (v:=.tuple #[DB,.int .i64 1]) (by simp[results,results184,go_sem,k,l,q,r,s,DB,Dj]) rfl
   ⟨.inl ⟨by rw[Da i];decide,by rw[Da i]⟩,JC x (Aa _) _ _ _ _ _⟩
 ·have H:=b.frozen 0;have J:=b.frozen 1;have K:=b.frozen 2;have L:=b.frozen 3;have M:=b.frozen 4;have z:=b.cell 0;have A:=b.cell 1;have B:=b.cell 2;have D:=b.cell 3;have F:=b.cell 4
  cases y with
  |false=>
   have i:Hid (DN G p false=2):=by show _=_;unfold DN;rw[if_neg (by rw[j];simp),if_pos rfl]
   clear j;go_wp2;have f:=Ju b (.pointer none) (.string ⟨#[]⟩) (.bool false) (.pointer none) (.int .i64 0);have k:=f.cell 0;have l:=f.cell 1;have q:=f.cell 2;have r:=f.cell 3;have s:=f.cell 4;exact Ap (v:=.tuple #[DB,.int .i64 2]) (by simp[results,results184,go_sem,k,l,q,r,s,DB,Dj]) rfl
    ⟨.inl ⟨by rw[Da i];decide,by rw[Da i]⟩,JC x (Aa _) _ _ _ _ _⟩
  |true=>
   have i:Hid (DN G p true=GO G (DZ [] (Df p))):=by show _=_;unfold DN;rw[if_neg (by rw[j];simp),if_neg (by simp)]
   have Q:=(Da HH).below x (Aa _);have W:=Xa w1 tb P V E vi G hG ae Q.t Q.d (Df p) (Uv j) a c af;have HN:=Db j;clear j;go_wp2_with fail;refine W.mono ?_;rintro e w2⟨O,S⟩;have g:FX w2 w.heap.size 262 _:=(S.block _ b.lt).trans b;have T:Bw w w2:=x.trans (S.mono x.size);clear W H J K L M z A B D F;have H:=g.frozen 0;have J:=g.frozen 1;have K:=g.frozen 2;have L:=g.frozen 3;have M:=g.frozen 4;have z:=g.cell 0;have A:=g.cell 1;have B:=g.cell 2;have D:=g.cell 3;have F:=g.cell 4;rcases O with⟨ag,rfl⟩|⟨U,d,n,t,u,aa,rfl⟩
   ·unfold DB Dj;go_wp2;have f:=Ju g (.pointer none) (.string ⟨#[]⟩) (.bool false) (.pointer none) (.int .i64 0);have k:=f.cell 0;have l:=f.cell 1;have q:=f.cell 2;have r:=f.cell 3;have s:=f.cell 4;exact Ap (v:=.tuple #[DB,.int .i64 (GO G (DZ [] (Df p)))]) (by simp[results,results184,go_sem,k,l,q,r,s,DB,Dj]) rfl
     ⟨.inl ⟨by rw[Da i];exact ag,by rw[Da i]⟩,JC T (Aa _) _ _ _ _ _⟩
   ·have ad:=Db aa;have ab:=Db U;clear aa U;unfold Dj;go_wp2;have f:=Ju g (.pointer d) (.string n) (.bool t) (.pointer u.p) (.int .i64 u.f);have k:=f.cell 0;have l:=f.cell 1;have q:=f.cell 2;have r:=f.cell 3;have s:=f.cell 4;exact Ap (v:=.tuple #[Dj d n t u,.int .i64 0]) (by simp[results,results184,go_sem,k,l,q,r,s,Dj]) rfl
     ⟨.inr ⟨(Da i).trans (Da ab),Da HN,d,n,t,u,Da ad,rfl⟩,JC T (Aa _) _ _ _ _ _⟩
def Hx(G:Gh)(p:By):Int:=if DN G p true≠0 then DN G p true else if Df p≠[]/\Gl G (Df p)=none then 3 else 0
def ZmW(G:Gh)(rd:Nat)(p:By)(w:World)(e:Ending)(w':World):Prop:=
 ((Hx G p≠0/\e=.returned (.tuple #[DB,.int .i64 (Hx G p)]))\/
  (Hx G p=0/\DS p=true/\∃d n u,Gz G rd (Df p) d n true u/\e=.returned (.tuple #[Dj d n true u,.int .i64 0])))/\Bw w w'
theorem Xf{G:Gh}{b:Nat}{ns:LY}{d:OA}{n:By}{t:Bool}{u:VS}(h:Gz G b ns d n t u):(t=false↔ns≠[]/\Gl G ns=none):=by
 rcases h with⟨rfl,_,_,rfl,_⟩|⟨a,db,rfl,_,_,rfl,_⟩
 ·simp
 ·cases Gl G (a++[n])<;>simp
theorem De(w1:World)(L:F0)(t:TypeId):∃W,w1.alloc (.cells L.toArray t)=W/\FX W w1.heap.size t L/\(∀b t' R,FX w1 b t' R->FX W b t' R)/\W.heap.size=w1.heap.size+1/\Bw w1 W:=
 ⟨_,rfl,Je w1 L t,λ_ _ _ h=>h.alloc _,by simp,(Ak _ _).alloc (Aa _) _⟩
abbrev Ks:F0:=[.pointer none,.string ⟨#[]⟩,.bool false,.pointer none,.int .i64 0]
abbrev DG(d:OA)(n:By)(t:Bool)(u:VS):F0:=[.pointer d,.string n,.bool t,.pointer u.p,.int .i64 u.f]
theorem RM(w:World)(tb J:Nat)(V:NV)(E:NS)(N:Value)(G:Gh)(I:LF)(C:IB)(h:TW w tb J V E N G I C)(hG:Gk G)(aa:G.length<=10000)(p:By)(hp:p.size<=2000000):
  Cl 177 #[.pointer (some ⟨tb,0,none⟩),.string p] w (ZmW G J p w):=by
 have D:∀o,Bw w (w.alloc o):=λo=>(Ak _ _).alloc (Aa _) o
 have L:=λo=>On (w.alloc o) tb J V E N G I C (h.below (D o) (Aa _)) hG aa p hp true
 have K:=Db (Je w Ks 262);go_enter func177,ntmps177;go_wp2_with fail;refine(L _).mono ?_;rintro e w1⟨ac,F⟩;have g:Bw w w1:=(D _).trans (F.mono (by simp));have l:FX w1 w.heap.size 262 Ks:=(F.block _ (by simp)).trans (Da K);have ae:w.heap.size<w1.heap.size:=l.lt;clear L D h F K;rcases ac with⟨A,rfl⟩|⟨z,M,d,n,t,u,H,rfl⟩
 ·have f:Hid (Hx G p=DN G p true):=by show _=_;unfold Hx;rw[if_pos A]
  have O:=Db A;have ab:(DN G p true==0)=false:=by simpa using A
  clear A;unfold DB Dj;go_upto_if 20 with fail;obtain⟨W,i,c,k,ad,j⟩:=De w1 Ks 262;have a:=k _ _ _ l;have y:Bw w W:=g.trans (j.mono g.size);rw[i];clear i l g ab k j;have R:=c.cell 0;have S:=c.cell 1;have T:=c.cell 2;have U:=c.cell 3;have X:=c.cell 4;have Y:=a.cell 0;have Z:=a.cell 1;have b2:=a.cell 2;have b3:=a.cell 3;have b4:=a.cell 4;have g0:=a.frozen 0;have g1:=a.frozen 1;have g2:=a.frozen 2;have g3:=a.frozen 3;have g4:=a.frozen 4;go_wp2;have b:=Ju a (.pointer none) (.string ⟨#[]⟩) (.bool false) (.pointer none) (.int .i64 0);have m:=b.cell 0;have q:=b.cell 1;have r:=b.cell 2;have s:=b.cell 3;have x:=b.cell 4;exact Ap (v:=.tuple #[DB,.int .i64 (DN G p true)]) (by simp[results,results177,go_sem,m,q,r,s,x,DB,Dj]) rfl
   ⟨.inl ⟨by rw[Da f];exact Da O,by rw[Da f]⟩,JC y (Aa _) _ _ _ _ _⟩
 ·have Q:=Db H;have P:=Db M;have B:=Xf H;unfold Dj;go_upto_if 20 with fail;obtain⟨W,i,c,k,ad,j⟩:=De w1 (DG d n t u) 262;have a:=k _ _ _ l;have y:Bw w W:=g.trans (j.mono g.size);rw[i];clear i l g k j H M;have R:=c.cell 0;have S:=c.cell 1;have T:=c.cell 2;have U:=c.cell 3;have X:=c.cell 4;have Y:=a.cell 0;have Z:=a.cell 1;have b2:=a.cell 2;have b3:=a.cell 3;have b4:=a.cell 4;have g0:=a.frozen 0;have g1:=a.frozen 1;have g2:=a.frozen 2;have g3:=a.frozen 3;have g4:=a.frozen 4
  cases t with
  |false=>
   have f:Hid (Hx G p=3):=by show _=_;unfold Hx;rw[if_neg (by simpa using z),if_pos (B.1 rfl)]
   clear z B;go_wp2;have b:=Ju a (.pointer none) (.string ⟨#[]⟩) (.bool false) (.pointer none) (.int .i64 0);have m:=b.cell 0;have q:=b.cell 1;have r:=b.cell 2;have s:=b.cell 3;have x:=b.cell 4;exact Ap (v:=.tuple #[DB,.int .i64 3]) (by simp[results,results177,go_sem,m,q,r,s,x,DB,Dj]) rfl
    ⟨.inl ⟨by rw[Da f];decide,by rw[Da f]⟩,JC y (Aa _) _ _ _ _ _⟩
  |true=>
   have f:Hid (Hx G p=0):=by show _=_;unfold Hx;rw[if_neg (by simpa using z),if_neg (λh=>by have:=B.2 h;cases this)]
   clear z B;go_wp2;have b:=Ju a (.pointer d) (.string n) (.bool true) (.pointer u.p) (.int .i64 u.f);have m:=b.cell 0;have q:=b.cell 1;have r:=b.cell 2;have s:=b.cell 3;have x:=b.cell 4;exact Ap (v:=.tuple #[Dj d n true u,.int .i64 0]) (by simp[results,results177,go_sem,m,q,r,s,x,Dj]) rfl
    ⟨.inr ⟨Da f,Da P,d,n,u,Da Q,rfl⟩,JC y (Aa _) _ _ _ _ _⟩
def Jk(G:Gh)(ns:LY):Int:=if GO G (DZ [] ns)≠0 then GO G (DZ [] ns) else if ns=[]\/(Gl G ns).isSome=true then 6 else 0
def Yc(G:Gh)(rd:Nat)(ns:LY)(w:World)(e:Ending)(w':World):Prop:=
 ((Jk G ns≠0/\e=.returned (.tuple #[DB,.int .i64 (Jk G ns)]))\/
  (Jk G ns=0/\∃ds n db,ns=ds++[n]/\FY G rd ds db/\Gl G ns=none/\e=.returned (.tuple #[Dj (some ⟨db,0,none⟩) n false ⟨none,0⟩,.int .i64 0])))/\Bw w w'
theorem TB(w:World)(tb K:Nat)(V:NV)(E:NS)(Y:Value)(G:Gh)(I:LF)(C:IB)(h:TW w tb K V E Y G I C)(hG:Gk G)(ac:G.length<=10000)(ns:LY)(ad:ns.length<=6)(L:OA)(M:Nat)(U:Sl w 9 1 (.slice L ns.length M) ns.length (ns.map .string)):
  Cl 191 #[.pointer (some ⟨tb,0,none⟩),.slice L ns.length M] w (Yc G K ns w):=by
 have q:∀o,Bw w (w.alloc o):=λo=>(Ak _ _).alloc (Aa _) o
 have X:=λo=>Xa (w.alloc o) tb K V E Y G hG ac (h.below (q o) (Aa _)).t (h.below (q o) (Aa _)).d ns ad L M (U.kept (λk g _=>(q o).block k g))
 have S:=Db (Je w Ks 262);go_enter func191,ntmps191;go_wp2_with fail;refine(X _).mono ?_;rintro e w1⟨ae,Q⟩;have l:Bw w w1:=(q _).trans (Q.mono (by simp));have s:FX w1 w.heap.size 262 Ks:=(Q.block _ (by simp)).trans (Da S);have ag:w.heap.size<w1.heap.size:=s.lt;clear X q h Q S U;rcases ae with⟨c,rfl⟩|⟨H,d,n,t,u,R,rfl⟩
 ·have f:Hid (Jk G ns=GO G (DZ [] ns)):=by show _=_;unfold Jk;rw[if_pos c]
  have aa:=Db c;have ah:(GO G (DZ [] ns) != 0)=true:=by simpa using c
  clear c;unfold DB Dj;go_upto_if 15 with fail;obtain⟨W,p,m,g,af,r⟩:=De w1 Ks 262;have a:=g _ _ _ s;have F:Bw w W:=l.trans (r.mono l.size);rw[p];clear p s l g r;have b0:=a.cell 0;have b1:=a.cell 1;have b2:=a.cell 2;have b3:=a.cell 3;have b4:=a.cell 4;have g0:=a.frozen 0;have g1:=a.frozen 1;have g2:=a.frozen 2;have g3:=a.frozen 3;have g4:=a.frozen 4;go_wp2;have b:=Ju a (.pointer none) (.string ⟨#[]⟩) (.bool false) (.pointer none) (.int .i64 0);have x:=b.cell 0;have y:=b.cell 1;have z:=b.cell 2;have A:=b.cell 3;have B:=b.cell 4;exact Ap (v:=.tuple #[DB,.int .i64 (GO G (DZ [] ns))]) (by simp[results,results191,go_sem,x,y,z,A,B,DB,Dj]) rfl
   ⟨.inl ⟨by rw[Da f];exact Da aa,by rw[Da f]⟩,JC F (Aa _) _ _ _ _ _⟩
 ·have ab:=Db R;have J:=Xf R;unfold Dj;go_upto_if 15 with fail;obtain⟨W,p,m,g,af,r⟩:=De w1 (DG d n t u) 262;have a:=g _ _ _ s;have F:Bw w W:=l.trans (r.mono l.size);rw[p];clear p s l g r R;have a0:=m.cell 0;have a1:=m.cell 1;have a2:=m.cell 2;have a3:=m.cell 3;have a4:=m.cell 4;have b0:=a.cell 0;have b1:=a.cell 1;have b2:=a.cell 2;have b3:=a.cell 3;have b4:=a.cell 4;have g0:=a.frozen 0;have g1:=a.frozen 1;have g2:=a.frozen 2;have g3:=a.frozen 3;have g4:=a.frozen 4
  cases t with
  |true=>
   have f:Hid (Jk G ns=6):=by
    show _=_;unfold Jk;rw[if_neg (by simpa using H),if_pos];by_cases T:ns=[]
    ·exact .inl T
    ·refine .inr ?_
     cases ha:Gl G ns with
     |none=>have:=J.2 ⟨T,ha⟩;cases this
     |some u=>rfl
   clear H J;go_wp2;have b:=Ju a (.pointer none) (.string ⟨#[]⟩) (.bool false) (.pointer none) (.int .i64 0);have x:=b.cell 0;have y:=b.cell 1;have z:=b.cell 2;have A:=b.cell 3;have B:=b.cell 4;exact Ap (v:=.tuple #[DB,.int .i64 6]) (by simp[results,results191,go_sem,x,y,z,A,B,DB,Dj]) rfl
    ⟨.inl ⟨by rw[Da f];decide,by rw[Da f]⟩,JC F (Aa _) _ _ _ _ _⟩
  |false=>
   obtain⟨c,D⟩:=J.1 rfl;have f:Hid (Jk G ns=0):=by show _=_;unfold Jk;rw[if_neg (by simpa using H),if_neg (λh=>by rcases h with h|h;exact c h;rw[D]at h;cases h)]
   have Z:=Db D;have HX:Hid (∃j i,ns=j++[n]/\FY G K j i/\d=some ⟨i,0,none⟩/\u=⟨none,0⟩):=by
    rcases Da ab with⟨rfl,_⟩|⟨j,i,N,O,P,_,h5⟩
    ·exact absurd rfl c
    ·exact⟨j,i,N,O,P,by rw[h5,D];rfl⟩
   clear H J c D;go_wp2;have b:=Ju a (.pointer d) (.string n) (.bool false) (.pointer u.p) (.int .i64 u.f);have x:=b.cell 0;have y:=b.cell 1;have z:=b.cell 2;have A:=b.cell 3;have B:=b.cell 4;obtain⟨j,i,N,O,P,h4⟩:=Da HX;exact Ap (v:=.tuple #[Dj d n false u,.int .i64 0]) (by simp[results,results191,go_sem,x,y,z,A,B,Dj]) rfl
    ⟨.inr ⟨Da f,j,n,i,N,O,Da Z,by rw[P,h4]⟩,JC F (Aa _) _ _ _ _ _⟩
theorem Oc(d:OA)(n:By)(t:Bool)(u:VS)(w:World):Cl 188 #[Dj d n t u] w λe w'=>e=.returned (if t=false then .tuple #[.int .i64 0,.int .i64 3] else if u.p.isSome=true then .tuple #[.int .i64 0,.int .i64 5] else .tuple #[.int .i64 u.f,.int .i64 0])/\Bw w w':=by
 obtain⟨p,f⟩:=u;unfold Dj;have b:∀o,Bw w (w.alloc o):=λo=>(Ak _ _).alloc (Aa _) o
 cases t with
 |false=>
  go_enter func188,ntmps188;go_wp2
  go_ret2
  exact⟨rfl,b _⟩
 |true=>
  cases p with
  |none=>
   go_enter func188,ntmps188;go_wp2
   go_ret2
   exact⟨rfl,b _⟩
  |some a=>
   go_enter func188,ntmps188;go_wp2
   go_ret2
   exact⟨rfl,b _⟩
def DJ(G:Gh)(p:By)(fits:Bool):Int:=if DN G p fits≠0 then DN G p fits else if Df p=[] then 5 else match Gl G (Df p) with|none=>3|some u=>if u.p.isSome=true then 5 else 0
def Ts(G:Gh)(p:By)(fits:Bool)(w:World)(e:Ending)(w':World):Prop:=
 ((DJ G p fits≠0/\e=.returned (.tuple #[.int .i64 0,.int .i64 (DJ G p fits)]))\/
  (DJ G p fits=0/\DS p=true/\∃u,Gl G (Df p)=some u/\u.p=none/\e=.returned (.tuple #[.int .i64 u.f,.int .i64 0])))/\Bw w w'
theorem VX{G:Gh}{c:Nat}{ns:LY}{d:OA}{n:By}{t:Bool}{u:VS}(h:Gz G c ns d n t u):
  (t=false/\ns≠[]/\Gl G ns=none)\/(t=true/\u.p.isSome=true/\(ns=[]\/(ns≠[]/\Gl G ns=some u)))\/(t=true/\u.p=none/\ns≠[]/\Gl G ns=some u):=by
 rcases h with⟨rfl,_,_,rfl,rfl⟩|⟨b,db,rfl,_,_,rfl,rfl⟩
 ·exact .inr (.inl ⟨rfl,rfl,.inl rfl⟩)
 ·cases ha:Gl G (b++[n]) with
  |none=>exact .inl ⟨rfl,by simp,rfl⟩
  |some u=>
   cases hu:u.p with
   |none=>exact .inr (.inr ⟨rfl,by simpa using hu,by simp,rfl⟩)
   |some a=>exact .inr (.inl ⟨rfl,by simp[hu],.inr ⟨by simp,rfl⟩⟩)
theorem Xm(w:World)(tb B:Nat)(V:NV)(E:NS)(D:Value)(G:Gh)(I:LF)(C:IB)(h:TW w tb B V E D G I C)(K:Gk G)(L:G.length<=10000)(p:By)(P:p.size<=2000000)(a:Bool):
  Cl 174 #[.pointer (some ⟨tb,0,none⟩),.string p,.bool a] w (Ts G p a w):=by
 have r:=On w tb B V E D G I C h K L p P a;go_enter func174,ntmps174;go_wp2_with fail;refine r.mono ?_;rintro e w1⟨Q,f⟩;clear r h;rcases Q with⟨j,rfl⟩|⟨i,s,d,n,t,u,z,rfl⟩
 ·have l:Hid (DJ G p a=DN G p a):=by show _=_;unfold DJ;rw[if_pos j]
  have F:=Db j;have aa:(DN G p a != 0)=true:=by simpa using j
  clear j;unfold DB Dj;go_wp2
  go_ret2
  exact⟨.inl ⟨by rw[Da l];exact Da F,by rw[Da l];rfl⟩,f.alloc f.size _⟩
 ·have H:=Db s;have v:=VX z;have q:=λW=>Oc d n t u W
  have m:=Db q;have o:Hid (∀W,Bw w W->Ts G p a w (.returned (if t=false then .tuple #[.int .i64 0,.int .i64 3] else if u.p.isSome=true then .tuple #[.int .i64 0,.int .i64 5] else .tuple #[.int .i64 u.f,.int .i64 0])) W):=by
   intro W M;refine⟨?_,M⟩;rcases v with⟨rfl,c,b⟩|⟨rfl,c,b⟩|⟨rfl,c,b,g⟩
   ·have:DJ G p a=3:=by unfold DJ;rw[if_neg (by simpa using i),if_neg c,b]
    exact .inl ⟨by rw[this];decide,by rw[this];rfl⟩
   ·have:DJ G p a=5:=by
     unfold DJ;rw[if_neg (by simpa using i)];rcases b with b|⟨b,g⟩
     ·rw[if_pos b]
     ·rw[if_neg b,g];simp[c]
    exact .inl ⟨by rw[this];decide,by rw[this,if_neg (by simp),if_pos c]⟩
   ·have:DJ G p a=0:=by unfold DJ;rw[if_neg (by simpa using i),if_neg b,g];simp[c]
    exact .inr ⟨this,Da H,u,g,c,by rw[if_neg (by simp),if_neg (by simp[c])]⟩
  clear z i s v q;unfold Dj;go_wp2_with fail;refine(Da m _).mono ?_;rintro e w2⟨rfl,N⟩;have O:Bw w w2:=(f.alloc f.size _).trans (N.mono (by have:=f.size;simp;omega));have k:=Da o w2 O;obtain⟨x,y,A⟩:∃x y,(if t=false then Value.tuple #[.int .i64 0,.int .i64 3] else if u.p.isSome=true then .tuple #[.int .i64 0,.int .i64 5] else .tuple #[.int .i64 u.f,.int .i64 0])=.tuple #[.int .i64 x,.int .i64 y]:=by
   split
   ·exact⟨_,_,rfl⟩
   ·split<;>exact⟨_,_,rfl⟩
  rw[A]at k ⊢;have J:=Db k;clear k A o m;go_wp2
  go_ret2
  exact Da J
theorem S7{w:World}{e:TypeId}{c:Nat}{v:Value}{n:Nat}{xs:F0}{b:Nat}{t:TypeId}{L:F0}(h:Sl w e c v n xs)(m:FX w b t L)(d f g i j:Value)(o:e≠t:=by decide):
  Sl (((((w.setCell ⟨b,0,none⟩ d).setCell ⟨b,1,none⟩ f).setCell ⟨b,2,none⟩ g).setCell ⟨b,3,none⟩ i).setCell ⟨b,4,none⟩ j) e c v n xs:=by
 have a:v.ownBlock≠some b:=λk=>by
  obtain⟨R,l⟩:=h.type k;exact o (l.type m)
 exact((((h.setCell ⟨b,0,none⟩ d a).setCell ⟨b,1,none⟩ f a).setCell ⟨b,2,none⟩ g a).setCell ⟨b,3,none⟩ i a).setCell ⟨b,4,none⟩ j a
def Zm7(G:Gh)(rd:Nat)(p q:By)(w:World)(e:Ending)(w':World):Prop:=
 ((DS q=false/\e=.returned (.tuple #[DB,.slice none 0 0,.int .i64 1]))\/
  (DS q=true/\∃a c,Sl w' 9 1 (.slice a (Df q).length c) (Df q).length ((Df q).map .string)/\
   ((DN G p true≠0/\e=.returned (.tuple #[DB,.slice a (Df q).length c,.int .i64 (DN G p true)]))\/
   (DN G p true=0/\DS p=true/\∃d n t u,Gz G rd (Df p) d n t u/\e=.returned (.tuple #[Dj d n t u,.slice a (Df q).length c,.int .i64 0])))))/\Bw w w'
theorem ZkF(w:World)(tb S:Nat)(V:NV)(E:NS)(vi:Value)(G:Gh)(I:LF)(C:IB)(h:TW w tb S V E vi G I C)(hG:Gk G)(al:G.length<=10000)(p q:By)(hp:p.size<=2000000)(hq:q.size<=2000000):
  Cl 190 #[.pointer (some ⟨tb,0,none⟩),.string p,.string q] w (Zm7 G S p q w):=by
 obtain⟨m,hm⟩:=h.pk.1;have h0:0<w.heap.size:=Am _ _ hm;have L:∀o,Bw w (w.alloc o):=λo=>(Ak _ _).alloc (Aa _) o
 have af:=λo=>RK q m (w.alloc o) hq (((L o).cell (p:=⟨0,0,none⟩) h0).trans hm)
 have U:=Db (Je w Ks 262);go_enter func190,ntmps190;go_wp2_with fail;refine(af _).mono ?_;rintro e w1⟨Q,M⟩;have l:Bw w w1:=(L _).trans (M.mono (by simp));have g:FX w1 w.heap.size 262 Ks:=(M.block _ (by simp)).trans (Da U);have am:w.heap.size<w1.heap.size:=g.lt;have HH:=Db h;clear af L h M U;rcases Q with⟨s,rfl⟩|⟨s,a,c,rfl,aa⟩
 ·have F:=Db s;have Y:=g.cell 0;have Z:=g.cell 1;have b2:=g.cell 2;have b3:=g.cell 3;have b4:=g.cell 4;have g0:=g.frozen 0;have g1:=g.frozen 1;have g2:=g.frozen 2;have g3:=g.frozen 3;have g4:=g.frozen 4;clear s;go_wp2;have f:=Ju g (.pointer none) (.string ⟨#[]⟩) (.bool false) (.pointer none) (.int .i64 0);have x:=f.cell 0;have y:=f.cell 1;have z:=f.cell 2;have A:=f.cell 3;have B:=f.cell 4;exact Ap (v:=.tuple #[DB,.slice none 0 0,.int .i64 1]) (by simp[results,results190,go_sem,x,y,z,A,B,DB,Dj]) rfl
   ⟨.inl ⟨Da F,rfl⟩,JC l (Aa _) _ _ _ _ _⟩
 ·have F:=Db s;have h1:=(Da HH).below l (Aa _);have ad:=On w1 tb S V E vi G I C h1 hG al p hp true;obtain⟨J,P⟩:=ex ((Df q).length);have T:=Db P;rw[<-P];clear s h1 P;go_wp2_with fail;refine ad.mono ?_;rintro e w2⟨Q,H⟩;have R:FX w2 w.heap.size 262 Ks:=(H.block _ g.lt).trans g;have N:Bw w w2:=l.trans (H.mono l.size);have ab:Sl w2 9 1 (.slice a (Df q).length c) (Df q).length ((Df q).map .string):=aa.kept (λk r _=>H.block k r);have X:=Db ab;have an:w.heap.size<w2.heap.size:=R.lt;clear ad aa ab g l H;have ac:∀(d:OA) (n:By) (t:Bool) (u:VS) (W:World),w2.alloc (.cells (DG d n t u).toArray 262)=W->FX W w2.heap.size 262 (DG d n t u)/\FX W w.heap.size 262 Ks/\Bw w W/\Hid (Bw w2 W):=by
   intro d n t u W j;rw[<-j];exact⟨Je w2 _ _,R.alloc _,N.alloc N.size _,(Ak _ _).alloc (Aa _) _⟩
  have D:=Db ac;clear ac R N;rcases Q with⟨ae,rfl⟩|⟨he,ag,d,n,t,u,ah,rfl⟩
  ·have ai:=Db ae;clear ae;unfold DB Dj;go_upto_region 5 with fail;obtain⟨W,j⟩:∃W,w2.alloc (.cells (DG none ⟨#[]⟩ false ⟨none,0⟩).toArray 262)=W:=⟨_,rfl⟩;obtain⟨i,b,O,K⟩:=Da D _ _ _ _ W j;rw[j];clear j D;have a0:=i.cell 0;have a1:=i.cell 1;have a2:=i.cell 2;have a3:=i.cell 3;have a4:=i.cell 4;have Y:=b.cell 0;have Z:=b.cell 1;have b2:=b.cell 2;have b3:=b.cell 3;have b4:=b.cell 4;have g0:=b.frozen 0;have g1:=b.frozen 1;have g2:=b.frozen 2;have g3:=b.frozen 3;have g4:=b.frozen 4;go_wp2;have f:=Ju b (.pointer none) (.string ⟨#[]⟩) (.bool false) (.pointer none) (.int .i64 0);have x:=f.cell 0;have y:=f.cell 1;have z:=f.cell 2;have A:=f.cell 3;have B:=f.cell 4;exact Ap (v:=.tuple #[DB,.slice a J c,.int .i64 (DN G p true)]) (by simp[results,results190,go_sem,x,y,z,A,B,DB,Dj]) rfl
    ⟨.inr ⟨Da F,a,c,S7 ((Da X).kept (λk r _=>(Da K).block k r)) b _ _ _ _ _,.inl ⟨Da ai,by rw[Da T]⟩⟩,JC O (Aa _) _ _ _ _ _⟩
  ·have ak:=Db ah;have aj:=Db ag;have HE:=Db he;clear ah ag he;unfold Dj;go_upto_region 5 with fail;obtain⟨W,j⟩:∃W,w2.alloc (.cells (DG d n t u).toArray 262)=W:=⟨_,rfl⟩;obtain⟨i,b,O,K⟩:=Da D _ _ _ _ W j;rw[j];clear j D;have a0:=i.cell 0;have a1:=i.cell 1;have a2:=i.cell 2;have a3:=i.cell 3;have a4:=i.cell 4;have Y:=b.cell 0;have Z:=b.cell 1;have b2:=b.cell 2;have b3:=b.cell 3;have b4:=b.cell 4;have g0:=b.frozen 0;have g1:=b.frozen 1;have g2:=b.frozen 2;have g3:=b.frozen 3;have g4:=b.frozen 4;go_wp2;have f:=Ju b (.pointer d) (.string n) (.bool t) (.pointer u.p) (.int .i64 u.f);have x:=f.cell 0;have y:=f.cell 1;have z:=f.cell 2;have A:=f.cell 3;have B:=f.cell 4;exact Ap (v:=.tuple #[Dj d n t u,.slice a J c,.int .i64 0]) (by simp[results,results190,go_sem,x,y,z,A,B,Dj]) rfl
    ⟨.inr ⟨Da F,a,c,S7 ((Da X).kept (λk r _=>(Da K).block k r)) b _ _ _ _ _,.inr ⟨Da HE,Da aj,d,n,t,u,Da ak,by rw[Da T]⟩⟩,JC O (Aa _) _ _ _ _ _⟩
theorem RA(s:By)(w:World)(hs:s.size<=2000000):Cl 223 #[.string s] w λe w'=>e=.returned (.string s)/\Bw w w':=by
 have b:=Tryz.stringslite_Clone s w (by omega);go_enter func223,ntmps223;go_wp2_with fail;refine b.mono ?_;rintro e w'⟨rfl,a⟩;go_wp2;go_ret;exact⟨rfl,a⟩
theorem Zi8(d:OA)(n:By)(t:Bool)(u:VS)(w:World):Cl 193 #[Dj d n t u] w λe w'=>e=.returned (.bool d.isNone)/\Bw w w':=by
 unfold Dj
 cases d with
 |none=>
  go_enter func193,ntmps193;go_wp2;go_ret;exact⟨rfl,(Ak _ _).alloc (Aa _) _⟩
 |some a=>
  go_enter func193,ntmps193;go_wp2;go_ret;exact⟨rfl,(Ak _ _).alloc (Aa _) _⟩
theorem Zi9(w:World)(b:Nat)(v:Value)(n:Nat)(xs:F0)(g:FX w b 229 [v])(f:Sl w 310 3 v n xs):Cl 231 #[.pointer (some ⟨b,0,none⟩)] w λe w'=>e=.returned (.bool (decide (20<=n)))/\w'=w:=by
 have c:=Lp w b 0 v n xs (g.cell 0) f;go_enter func231,ntmps231;go_wp2_with fail;refine c.mono ?_;rintro e w'⟨rfl,rfl⟩;have a:decide ((20:Int)<=(n:Int))=decide (20<=n):=by rw[decide_eq_decide];omega
 have d:=Db a;clear a c;go_wp2;go_ret;exact⟨by rw[<-Da d];rfl,rfl⟩
theorem Vr(w:World)(c:Nat)(n:By)(hn:n.size<=2000000)(t:Bool)(Y u:VS)(v:Value)(es:LS)(o:FX w c 229 [v])(q:Sl w 310 3 v es.length (Dm es))(N:es.length<=10000)(P:Ge es)(O:∀x∈es,x.1≠n):
  Cl 183 #[Dj (some ⟨c,0,none⟩) n t Y,.agg #[.pointer u.p,.int .i64 u.f]] w λe w'=>e=.returned (.tuple #[])/\∃d b,FX w' c 229 [d]/\Sl w' 310 3 d b.length (Dm b)/\
   Ge b/\b.length=es.length+1/\(∀x,x∈b↔x=(n,u)\/x∈es)/\Dk w v d/\Fr (λk=>k=c\/v.ownBlock=some k) w w':=by
 unfold Dj;go_enter func183,ntmps183;go_wp2;obtain⟨W1,G,Q,ab,ad,K⟩:=De w (DG (some ⟨c,0,none⟩) n t Y) 262;obtain⟨W2,H,r,M,ag,L⟩:=De W1 [.pointer u.p,.int .i64 u.f] 260;have z:=M _ _ _ Q;rw[ad]at r;have J:Bw w W2:=K.trans (L.mono (by omega));rw[G,H];have a0:=z.cell 0;have a1:=z.cell 1;have c0:=r.cell 0;have c1:=r.cell 1;have Z:Hid (∀j,Bw w j->Cl 226 #[.pointer (some ⟨c,0,none⟩),.string n,.agg #[.pointer u.p,.int .i64 u.f]] j λe w'=>e=.returned (.tuple #[])/\∃d b,FX w' c 229 [d]/\Sl w' 310 3 d b.length (Dm b)/\
   Ge b/\b.length=es.length+1/\(∀x,x∈b↔x=(n,u)\/x∈es)/\Dk w v d/\Fr (λk=>k=c\/v.ownBlock=some k) w w'/\∀k,k<j.heap.size->w.heap.size<=k->w'.heap[k]?=j.heap[k]?):=by
  intro j f;have y:FX j c 229 [v]:=(f.block _ o.lt).trans o;have aa:Sl j 310 3 v es.length (Dm es):=q.kept (λk m _=>f.block k m);have ac:v.ownBlock≠some c:=λe=>by obtain⟨R,hR⟩:=q.type e;have:=hR.type o;revert this;decide
  refine(Yu j c 0 v es n u (y.cell 0) (y.frozen 0) ac aa N P O).mono ?_;rintro e w'⟨rfl,d,b,X,A,B,C,D,E,i⟩;refine⟨rfl,d,b,?_,A,B,C,D,λg hg=>?_,?_,λk m af=>i.block k m (λe=>by have:=o.lt;omega) (λe=>by have:=q.lt e;omega)⟩
  ·have h1:=i.head;have F:=y.set 0 d;unfold FX at F ⊢;rw[h1];simpa using F
  ·rcases E g hg with h|h
   ·exact .inl h
   ·exact .inr (Af f.size h)
  ·exact⟨i.os.trans f.os,i.tape.trans f.tape,i.output.trans f.output,Af f.size i.size,λk m I=>(i.block k (AY m f.size) (λe=>I (.inl e)) (λe=>I (.inr e))).trans (f.block k m)⟩
 clear G H Q ab M K L o q N P O z r
 go_region_held3 (λW=>W.cell? ⟨w.heap.size,0,none⟩=some (.pointer (some ⟨c,0,none⟩))/\W.cell? ⟨w.heap.size,1,none⟩=some (.string n)/\W.cell? ⟨w.heap.size+1,0,none⟩=some (.pointer u.p)/\W.cell? ⟨w.heap.size+1,1,none⟩=some (.int .i64 u.f)) (go_keep)
  (first|(go_at_call 223;refine(RA _ _ hn).mono ?_;rintro e w'⟨rfl,l⟩;have ae:Bw w w':=(J.drew).trans (l.mono (by have:=J.size;simp;omega));have S:=(l.cell (p:=⟨w.heap.size,0,none⟩) (by simp;omega)).trans a0;have T:=(l.cell (p:=⟨w.heap.size,1,none⟩) (by simp;omega)).trans a1;have U:=(l.cell (p:=⟨w.heap.size+1,0,none⟩) (by simp;omega)).trans c0;have V:=(l.cell (p:=⟨w.heap.size+1,1,none⟩) (by simp;omega)).trans c1;clear l)|(go_at_call 226;refine(Da Z _ (by assumption)).mono ?_;rintro e ah⟨rfl,d,b,X,A,B,C,D,E,i,s⟩;have m0:=(Ay (a:=⟨w.heap.size,0,none⟩) (s _ (Am _ _ S) (Aa _))).trans S;have m1:=(Ay (a:=⟨w.heap.size,1,none⟩) (s _ (Am _ _ T) (Aa _))).trans T;have m2:=(Ay (a:=⟨w.heap.size+1,0,none⟩) (s _ (Am _ _ U) (EL _))).trans U;have m3:=(Ay (a:=⟨w.heap.size+1,1,none⟩) (s _ (Am _ _ V) (EL _))).trans V))
 all_goals
  go_wp2
  go_end0
  exact⟨rfl,d,b,X,A,B,C,D,E,i⟩
theorem Wg(w:World)(c:Nat)(n:By)(t:Bool)(L u:VS)(v:Value)(es:LS)(m:FX w c 229 [v])(o:Sl w 310 3 v es.length (Dm es))(H:es.length<=10000)(I:Ge es)(G:(n,u)∈es):
  Cl 196 #[Dj (some ⟨c,0,none⟩) n t L] w λe w'=>e=.returned (.tuple #[])/\∃d b,FX w' c 229 [d]/\Sl w' 310 3 d b.length (Dm b)/\
   Ge b/\b.length+1=es.length/\(∀x,x∈b↔x∈es/\x.1≠n)/\Dk w v d/\Fr (λk=>k=c\/v.ownBlock=some k) w w':=by
 unfold Dj;go_enter func196,ntmps196;go_wp2;obtain⟨W2,E,q,T,ab,Q⟩:=De w (DG (some ⟨c,0,none⟩) n t L) 262;rw[E];have B:=q.cell 0;have C:=q.cell 1;have M:Hid (∀j,Bw w j->Cl 233 #[.pointer (some ⟨c,0,none⟩),.string n] j λe w'=>e=.returned (.tuple #[])/\∃d b,FX w' c 229 [d]/\Sl w' 310 3 d b.length (Dm b)/\
   Ge b/\b.length+1=es.length/\(∀x,x∈b↔x∈es/\x.1≠n)/\Dk w v d/\Fr (λk=>k=c\/v.ownBlock=some k) w w'/\∀k,k<j.heap.size->w.heap.size<=k->w'.heap[k]?=j.heap[k]?):=by
  intro j f;have p:FX j c 229 [v]:=(f.block _ m.lt).trans m;have P:Sl j 310 3 v es.length (Dm es):=o.kept (λk l _=>f.block k l);have U:v.ownBlock≠some c:=λe=>by obtain⟨R,O⟩:=o.type e;have:=O.type m;revert this;decide
  refine(Nm j c 0 v es n u (p.cell 0) (p.frozen 0) U P H I G).mono ?_;rintro e w'⟨rfl,d,b,J,r,s,y,z,A,i⟩;refine⟨rfl,d,b,?_,r,s,y,z,λg S=>?_,?_,λk l aa=>i.block k l (λe=>by have:=m.lt;omega) (λe=>by have:=o.lt e;omega)⟩
  ·have N:=i.head;have D:=p.set 0 d;unfold FX at D ⊢;rw[N];simpa using D
  ·rcases A g S with h|h
   ·exact .inl h
   ·exact .inr (Af f.size h)
  ·exact⟨i.os.trans f.os,i.tape.trans f.tape,i.output.trans f.output,Af f.size i.size,λk l F=>(i.block k (AY l f.size) (λe=>F (.inl e)) (λe=>F (.inr e))).trans (f.block k l)⟩
 clear E T m o H I G q
 go_region_held3 (λW=>W.cell? ⟨w.heap.size,0,none⟩=some (.pointer (some ⟨c,0,none⟩))/\W.cell? ⟨w.heap.size,1,none⟩=some (.string n)) (go_keep)
  (first|(go_at_call 233;refine(Da M _ Q.drew).mono ?_;rintro e ac⟨rfl,d,b,J,r,s,y,z,A,i,K⟩;have m0:=(Ay (a:=⟨w.heap.size,0,none⟩) (K _ (Am _ _ B) (Aa _))).trans B;have m1:=(Ay (a:=⟨w.heap.size,1,none⟩) (K _ (Am _ _ C) (Aa _))).trans C))
 all_goals
  go_wp2
  go_end0
  exact⟨rfl,d,b,J,r,s,y,z,A,i⟩
theorem Xo(w:World)(tb i:Nat)(V:NV)(E:NS)(t:Value)(G:Gh)(I:LF)(C:IB)(h:TW w tb i V E t G I C)(k:Gk G)(r:G.length<=10000)(d:LY)(a:Nat)(n:FY G i d a):
  Cl 225 #[.pointer (some ⟨tb,0,none⟩),.pointer (some ⟨a,0,none⟩)] w λe w'=>e=.returned (.bool (decide (G.countP (He d)<20/\G.length<100)))/\Bw w w':=by
 have m:=Wo G k r i V E 6 [] i w (by simp) (.inl ⟨rfl,rfl⟩) h.d;rw[Zc k]at m;have g:=λ(W:World) (b:Bw w W)=>Zi9 W a (V a) (E a).length (Dm (E a)) ((h.d.below b (Aa _)).row d a n) ((h.d.below b (Aa _)).sl d a n)
 rw[h.d.len k n]at g;have s:=h.t.cell 0;obtain⟨c,l⟩:=ex (G.countP (He d));have aa:c<=10000:=by rw[l];exact Af B2 r
 rw[<-l]at g ⊢;have p:=Db g;clear g l;go_enter func225,ntmps225;go_wp2_with fail;refine m.mono ?_;rintro e w1⟨rfl,b⟩;clear m s;by_cases q:20<=c
 ·have j:Hid (decide (c<20/\G.length<100)=false):=Cm (λh=>by omega);have o:decide (20<=c)=true:=Cr q;go_wp2_with(first|(go_at_call 231;refine(Da p _ b).mono ?_;rintro e w'⟨rfl,f⟩;rw[f];clear f;rw[o]));go_ret;exact⟨by rw[Da j];rfl,b⟩
 ·have o:decide (20<=c)=false:=Cm q;have j:Hid (decide (c<20/\G.length<100)=decide ((G.length:Int)<100)):=by show _=_;rw[decide_eq_decide];omega
  go_wp2_with(first|(go_at_call 231;refine(Da p _ b).mono ?_;rintro e w'⟨rfl,f⟩;rw[f];clear f;rw[o]));go_ret;exact⟨by rw[Da j];rfl,b⟩
theorem Zkq(w:World)(tb d:Nat)(V:NV)(E:NS)(j:Value)(G:Gh)(I:LF)(C:IB)(h:TW w tb d V E j G I C)(l:Gk G)(m:G.length<=10000)(aa:I.length<=10000):
  Cl 81 #[.pointer (some ⟨tb,0,none⟩)] w λe w'=>e=.returned (.int .i64 ((cD G []+I.length:Nat):Int))/\Bw w w':=by
 have b:=Wo G l m d V E 6 [] d w (by simp) (.inl ⟨rfl,rfl⟩) h.d;have g:=λ(W:World) (a:Bw w W)=>OR W tb 1 j I.length (Dq I) ((h.below a (Aa _)).t.cell 1) (h.below a (Aa _)).i
 have n:=h.t.cell 0;have o:=Pe G [];obtain⟨cd,f⟩:∃c,c=cD G []:=⟨_,rfl⟩;rw[<-f]at b o ⊢;have k:=Db g;clear g f;go_enter func81,ntmps81;go_wp2_with fail;refine b.mono ?_;rintro e w1⟨rfl,a⟩;clear b n;go_wp2_with(first|(go_at_call 144;refine(Da k _ a).mono ?_;rintro e w'⟨rfl,i⟩;rw[i];clear i));go_ret;exact⟨rfl,a⟩
theorem Xp(w:World)(tb f:Nat)(V:NV)(E:NS)(m:Value)(G:Gh)(I:LF)(C:IB)(h:TW w tb f V E m G I C)(n:Gk G)(o:G.length<=10000)(s:I.length<=10000)(a:LY)(i:Nat)(u:FY G f a i):
  Cl 182 #[.pointer (some ⟨tb,0,none⟩),.pointer (some ⟨i,0,none⟩)] w λe w'=>e=.returned (.bool (decide ((G.countP (He a)<20/\G.length<100)/\cD G []+I.length<60)))/\Bw w w':=by
 have p:=Xo w tb f V E m G I C h n o a i u;have k:=λ(W:World) (b:Bw w W)=>Zkq W tb f V E m G I C (h.below b (Aa _)) n o s
 obtain⟨l,q⟩:∃c,c=cD G []+I.length:=⟨_,rfl⟩;rw[<-q]at k ⊢;have r:=Db k;clear k q h;go_enter func182,ntmps182;go_wp2_with fail;refine p.mono ?_;rintro e w2⟨rfl,b⟩;clear p;by_cases j:G.countP (He a)<20/\G.length<100
 ·have d:decide (G.countP (He a)<20/\G.length<100)=true:=Cr j;rw[d];have g:Hid (decide ((G.countP (He a)<20/\G.length<100)/\l<60)=decide ((l:Int)<60)):=by show _=_;rw[decide_eq_decide];omega
  clear d;go_wp2_with(first|(go_at_call 81;refine(Da r _ b).mono ?_;rintro e w3⟨rfl,t⟩));go_ret;exact⟨by rw[Da g];rfl,b.trans (t.mono b.size)⟩
 ·have d:decide (G.countP (He a)<20/\G.length<100)=false:=Cm j;rw[d];have g:Hid (decide ((G.countP (He a)<20/\G.length<100)/\l<60)=false):=Cm (λh=>j h.1);clear d;go_wp2;go_ret;exact⟨by rw[Da g];rfl,b⟩
def Is{α : Type}(f:Nat -> α)(b:Nat)(v : α):Nat -> α:=λk=>if k=b then v else f k
theorem JO{α : Type}(f:Nat -> α)(b:Nat)(v : α):Is f b v b=v:=by simp[Is]
theorem JB{α : Type}(f:Nat -> α){b k:Nat}(v : α)(h:k≠b):Is f b v k=f k:=by simp[Is,h]
structure Ir(w:World)(rd:Nat)(B:Nat->Prop)(V:NV)(E:NS):Prop where
 row:∀b,B b->FX w b 229 [V b]
 sl:∀b,B b->Sl w 310 3 (V b) (E b).length (Dm (E b))
 srt:∀b,B b->Ge (E b)
 own:∀b b' g,B b->B b'->(V b).ownBlock=some g->(V b').ownBlock=some g->b=b'
 lo:∀b,B b->rd<=b/\∀g,(V b).ownBlock=some g->rd<=g
theorem Gr.h{w:World}{G:Gh}{c:Nat}{V:NV}{E:NS}(h:Gr w G c V E):Ir w c (λb=>∃ns,FY G c ns b) V E:=
 ⟨λb ⟨ns,a⟩=>h.row ns b a,λb ⟨ns,a⟩=>h.sl ns b a,λb ⟨ns,a⟩=>h.srt ns b a,λb d g ⟨ns,a⟩ ⟨f,e⟩=>h.own ns f b d g a e,λb ⟨ns,a⟩=>h.lo ns b a⟩
theorem Ir.w{w:World}{d:Nat}{B:Nat->Prop}{V:NV}{E:NS}(h:Ir w d B V E){G:Gh}(c:∀ns b,FY G d ns b->B b)(l:∀x∈G,x.2.p=none\/∃b,x.2=⟨some ⟨b,0,none⟩,0⟩)(j:∀ns b,FY G d ns b->Ib G ns (E b))(k:∀ns e b,FY G d ns b->FY G d e b->ns=e):Gr w G d V E:=
 ⟨l,λns b a=>h.row b (c ns b a),λns b a=>h.sl b (c ns b a),λns b a=>h.srt b (c ns b a),j,k,λns e b f g a i=>h.own b f g (c ns b a) (c e f i),λns b a=>h.lo b (c ns b a)⟩
theorem Ir.upd{w w':World}{x:Nat}{B:Nat->Prop}{V:NV}{E:NS}(h:Ir w x B V E){a:Nat}(j:B a){p:Value}{o:LS}(z:FX w' a 229 [p])(y:Sl w' 310 3 p o.length (Dm o))(A:Ge o)(s:Dk w (V a) p)(u:Fr (λk=>k=a\/(V a).ownBlock=some k) w w'):Ir w' x B (Is V a p) (Is E a o):=by
 have v:=h.lo a j;have aa:=(h.row a j).lt;refine⟨λb c=>?_,λb c=>?_,λb c=>?_,λb n g c r d i=>?_,λb c=>⟨(h.lo b c).1,λg l=>?_⟩⟩
 ·by_cases e:b=a
  ·subst e;rw[JO];exact z
  ·rw[JB _ _ e];exact(h.row b c).fr u (λt=>t.elim e (λd=>by obtain⟨R,q⟩:=(h.sl a j).type d;have:=q.type (h.row b c);revert this;decide))
 ·by_cases e:b=a
  ·subst e;rw[JO,JO];exact y
  ·rw[JB _ _ e,JB _ _ e];refine(h.sl b c).fr u (λg l t=>?_);rcases t with rfl|d
   ·obtain⟨R,q⟩:=(h.sl b c).type l;have:=q.type (h.row g j);revert this;decide
   ·exact e (h.own b a g c j l d)
 ·by_cases e:b=a
  ·subst e;rw[JO];exact A
  ·rw[JB _ _ e];exact h.srt b c
 ·by_cases e:b=a
  ·by_cases m:n=a
   ·rw[e,m]
   ·rw[e,JO]at d;rw[JB _ _ m]at i;rcases s g d with f|f
    ·rw[e];exact h.own a n g j r f i
    ·have:=(h.sl n r).lt i;omega
  ·by_cases m:n=a
   ·rw[m,JO]at i;rw[JB _ _ e]at d;rcases s g i with f|f
    ·rw[m];exact h.own b a g c j d f
    ·have:=(h.sl b c).lt d;omega
   ·rw[JB _ _ e]at d;rw[JB _ _ m]at i;exact h.own b n g c r d i
 ·by_cases e:b=a
  ·subst e;rw[JO]at l;rcases s g l with f|f
   ·exact v.2 g f
   ·have:=v.1;omega
  ·rw[JB _ _ e]at l;exact(h.lo b c).2 g l
theorem Ir.new{w:World}{i:Nat}{B:Nat->Prop}{V:NV}{E:NS}(h:Ir w i B V E){nb:Nat}(n:i<=nb)(c:∀b,B b->b≠nb)(o:FX w nb 229 [.slice none 0 0]):Ir w i (λb=>B b\/b=nb) (Go.Proofs.YtaieidcohdhgpaaGreatDoor.Is V nb (.slice none 0 0)) (Go.Proofs.YtaieidcohdhgpaaGreatDoor.Is E nb []):=by
 refine⟨λb a=>?_,λb a=>?_,λb a=>?_,λb l g a f d e=>?_,λb a=>?_⟩
 ·rcases a with a|rfl
  ·rw[JB _ _ (c b a)];exact h.row b a
  ·rw[JO];exact o
 ·rcases a with a|rfl
  ·rw[JB _ _ (c b a),JB _ _ (c b a)];exact h.sl b a
  ·rw[JO,JO];exact⟨rfl,.inl ⟨rfl,rfl⟩⟩
 ·rcases a with a|rfl
  ·rw[JB _ _ (c b a)];exact h.srt b a
  ·rw[JO];intro j k x y _ p;simp at p
 ·rcases a with a|rfl
  ·rcases f with f|rfl
   ·rw[JB _ _ (c b a)]at d;rw[JB _ _ (c l f)]at e;exact h.own b l g a f d e
   ·rw[JO]at e;simp[Value.ownBlock]at e
  ·rw[JO]at d;simp[Value.ownBlock]at d
 ·rcases a with a|rfl
  ·rw[JB _ _ (c b a)];exact h.lo b a
  ·rw[JO];exact⟨n,λg m=>by simp[Value.ownBlock]at m⟩
theorem FY.func{G:Gh}(c:Gk G){e:Nat}{ns:LY}{b d:Nat}(h:FY G e ns b)(a:FY G e ns d):b=d:=by
 rcases h with⟨rfl,rfl⟩|h
 ·rcases a with⟨_,rfl⟩|a
  ·rfl
  ·exact absurd rfl (c.ne _ a)
 ·rcases a with⟨rfl,rfl⟩|a
  ·exact absurd rfl (c.ne _ h)
  ·have:=QO c.nd h a
   simpa using this
theorem Qs{α : Type}{a b:List α}{x y : α}(h:a++[x]=b++[y]):a=b/\x=y:=by
 have:=List.append_inj' h rfl;exact⟨this.1,by simpa using this.2⟩
theorem Gr.addFile{w w':World}{G:Gh}{l:Nat}{V:NV}{E:NS}(h:Gr w G l V E)(y:Gk G){d:LY}{c:Nat}(s:FY G l d c){n:By}{f:Int}{p:Value}{i:LS}(D:FX w' c 229 [p])(z:Sl w' 310 3 p i.length (Dm i))(F:Ge i)(B:∀x,x∈i↔x=(n,⟨none,f⟩)\/x∈E c)(C:Dk w (V c) p)(A:Fr (λk=>k=c\/(V c).ownBlock=some k) w w'):Gr w' (G++[(d++[n],⟨none,f⟩)]) l (Is V c p) (Is E c i):=by
 have o:∀ns b,FY (G++[(d++[n],(⟨none,f⟩:VS))]) l ns b↔FY G l ns b:=by
  intro ns b;constructor
  ·rintro(e|a)
   ·exact .inl e
   ·rcases Aq.1 a with a|a
    ·exact .inr a
    ·simp at a
  ·rintro(e|a)
   ·exact .inl e
   ·exact .inr (Bn _ a)
 refine(h.h.upd ⟨d,s⟩ D z F C A).w (λns b r=>⟨ns,(o ns b).1 r⟩) (λx a=>?_) (λns b r=>?_) (λns H b t v=>h.inj ns H b ((o _ _).1 t) ((o _ _).1 v))
 ·rcases Aq.1 a with a|a
  ·exact h.shp x a
  ·obtain rfl:x=_:=by simpa using a
   exact .inl rfl
 ·have j:=(o ns b).1 r;intro m u;by_cases e:b=c
  ·subst e;obtain rfl:=h.inj ns d b j s;rw[JO,B,Aq,h.en ns b j m u,Ad];constructor
   ·rintro(e|e)
    ·right;obtain⟨rfl,rfl⟩:=Ev e;rfl
    ·exact .inl e
   ·rintro(e|e)
    ·exact .inr e
    ·left;obtain⟨g,q⟩:=Ev e;rw[(Qs g).2,q]
  ·rw[JB _ _ e,h.en ns b j m u,Aq,Ad];constructor
   ·exact .inl
   ·rintro(g|g)
    ·exact g
    ·obtain⟨q,_⟩:=Ev g;rw[(Qs q).1]at j;exact absurd (j.func y s) e
theorem Gr.addDir{w w':World}{G:Gh}{g:Nat}{V:NV}{E:NS}(h:Gr w G g V E)(C:Gk G){d:LY}{c:Nat}(y:FY G g d c){n:By}(H:Gl G (d++[n])=none){nb:Nat}(L:g<=nb)(r:∀ns b,FY G g ns b->b≠nb)(M:FX w' nb 229 [.slice none 0 0]){s:Value}{l:LS}(N:FX w' c 229 [s])(F:Sl w' 310 3 s l.length (Dm l))(O:Ge l)(J:∀x,x∈l↔x=(n,⟨some ⟨nb,0,none⟩,0⟩)\/x∈E c)(K:Dk w (V c) s)(I:Fr (λk=>k=c\/(V c).ownBlock=some k) w w'):Gr w' (G++[(d++[n],⟨some ⟨nb,0,none⟩,0⟩)]) g (Is (Is V c s) nb (.slice none 0 0)) (Is (Is E c l) nb []):=by
 have q:∀ns b,FY (G++[(d++[n],(⟨some ⟨nb,0,none⟩,0⟩:VS))]) g ns b->FY G g ns b\/(ns=d++[n]/\b=nb):=by
  intro ns b;rintro(e|a)
  ·exact .inl (.inl e)
  ·rcases Aq.1 a with a|a
   ·exact .inl (.inr a)
   ·simp at a;exact .inr a
 refine((h.h.upd ⟨d,y⟩ N F O K I).new L (λb ⟨ns,p⟩=>r ns b p) M).w (λns b p=>?_) (λx a=>?_) (λns b p=>?_) (λns A b o B=>?_)
 ·rcases q ns b p with o|⟨_,o⟩
  ·exact .inl ⟨ns,o⟩
  ·exact .inr o
 ·rcases Aq.1 a with a|a
  ·exact h.shp x a
  ·obtain rfl:x=_:=by simpa using a
   exact .inr ⟨nb,rfl⟩
 ·intro m u;rcases q ns b p with i|⟨rfl,rfl⟩
  ·rw[JB _ _ (r ns b i)];by_cases e:b=c
   ·subst e;obtain rfl:=h.inj ns d b i y;rw[JO,J,Aq,h.en ns b i m u,Ad];constructor
    ·rintro(e|e)
     ·right;obtain⟨rfl,rfl⟩:=Ev e;rfl
     ·exact .inl e
    ·rintro(e|e)
     ·exact .inr e
     ·left;obtain⟨f,j⟩:=Ev e;rw[(Qs f).2,j]
   ·rw[JB _ _ e,h.en ns b i m u,Aq,Ad];constructor
    ·exact .inl
    ·rintro(f|f)
     ·exact f
     ·obtain⟨j,_⟩:=Ev f;rw[(Qs j).1]at i;exact absurd (i.func C y) e
  ·rw[JO];constructor
   ·intro a;cases a
   ·intro a;exfalso;rcases Aq.1 a with a|a
    ·rcases C.up _ _ _ a with e|⟨v,P,_⟩
     ·simp at e
     ·exact Uh H v P
    ·have e:=(Ev (Ad.1 a)).1;have:=Cu List.length e;simp at this
 ·rcases q ns b o with D|⟨f,j⟩
  ·rcases q A b B with z|⟨_,t⟩
   ·exact h.inj ns A b D z
   ·exact absurd t (r _ _ D)
  ·rcases q A b B with z|⟨t,_⟩
   ·exact absurd j (r _ _ z)
   ·rw[f,t]
theorem Gr.del{w w':World}{G G':Gh}{i:Nat}{V:NV}{E:NS}(h:Gr w G i V E)(v:Gk G){j:LY}{a:Nat}(r:FY G i j a){n:By}(l:∀x,x∈G'↔x∈G/\x.1≠j++[n]){p:Value}{d:LS}(C:FX w' a 229 [p])(y:Sl w' 310 3 p d.length (Dm d))(D:Ge d)(A:∀x,x∈d↔x∈E a/\x.1≠n)(B:Dk w (V a) p)(z:Fr (λk=>k=a\/(V a).ownBlock=some k) w w'):Gr w' G' i (Is V a p) (Is E a d):=by
 have o:∀ns b,FY G' i ns b->FY G i ns b:=by
  intro ns b;rintro(e|s)
  ·exact .inl e
  ·exact .inr ((l _).1 s).1
 refine(h.h.upd ⟨j,r⟩ C y D B z).w (λns b q=>⟨ns,o ns b q⟩) (λx s=>h.shp x ((l x).1 s).1) (λns b q=>?_) (λns F b c f=>h.inj ns F b (o _ _ c) (o _ _ f));have g:=o ns b q;intro m u;by_cases e:b=a
 ·subst e;obtain rfl:=h.inj ns j b g r;rw[JO,A,l,h.en ns b g m u];constructor
  ·rintro⟨c,f⟩;exact⟨c,λe=>f (Qs e).2⟩
  ·rintro⟨c,f⟩;exact⟨c,λe=>f (by rw[show m=n from e])⟩
 ·rw[JB _ _ e,h.en ns b g m u,l];constructor
  ·intro c;refine⟨c,λt=>?_⟩;rw[(Qs t).1]at g;exact e (g.func v r)
  ·exact λc=>c.1
def DM(tb:Nat)(w:World)(k:Nat):Prop:=(∃t R,FX w k t R/\(t=214\/t=229\/t=310\/t=293))/\tb<=k+1
def PS(w:World)(tb:Nat)(G:Gh)(I:LF)(C:IB):Prop:=∃rd V E vi,TW w tb rd V E vi G I C
theorem FX.back{B:Nat}{w w':World}(b:Below B w w'){k:Nat}(_hk:k<w.heap.size)(a:k<B){t:TypeId}{R:F0}(h:FX w' k t R):FX w k t R:=(b.block k a).symm.trans h
theorem Fr.prog{tb:Nat}{w w1 w2:World}(a:Bw w w1)(b:Fr (DM tb w1) w1 w2):Fr (DM tb w) w w2:=
 ⟨b.os.trans a.os,b.tape.trans a.tape,b.output.trans a.output,Af a.size b.size,λk c e=>(b.block k (AY c a.size) (λ⟨⟨t,R,d,g⟩,f⟩=>e ⟨⟨t,R,d.back a c c,g⟩,f⟩)).trans (a.block k c)⟩
theorem Fr.progTrans{tb:Nat}{w w1 w2:World}(a:Fr (DM tb w) w w1)(b:Fr (DM tb w1) w1 w2):Fr (DM tb w) w w2:=
 ⟨b.os.trans a.os,b.tape.trans a.tape,b.output.trans a.output,Af a.size b.size,λk f e=>by
  have c:=a.block k f e;refine(b.block k (AY f a.size) (λ⟨⟨t,R,d,h⟩,g⟩=>e ⟨⟨t,R,?_,h⟩,g⟩)).trans c;unfold FX at d ⊢;rw[<-c];exact d⟩
theorem Fr.progOne{tb:Nat}{w w':World}{b:Nat}{v:Value}(c:tb<=b+1/\∀g,v.ownBlock=some g->tb<=g+1)(h:FX w b 229 [v]){n:Nat}{xs:F0}(e:Sl w 310 3 v n xs)(f:Fr (λk=>k=b\/v.ownBlock=some k) w w'):Fr (DM tb w) w w':=
 f.mono (λk _ a=>by
  rcases a with rfl|a
  ·exact⟨⟨229,_,h,.inr (.inl rfl)⟩,c.1⟩
  ·obtain⟨R,d⟩:=e.type a;exact⟨⟨310,R,d,.inr (.inr (.inl rfl))⟩,c.2 k a⟩)
theorem TW.dirs{w w':World}{tb m:Nat}{V:NV}{E:NS}{y:Value}{G:Gh}{I:LF}{C:IB}(h:TW w tb m V E y G I C){f:Nat}{v:Value}(r:FX w f 229 [v]){n:Nat}{xs:F0}(q:Sl w 310 3 v n xs)(d:Fr (λk=>k=f\/v.ownBlock=some k) w w'){G':Gh}{p:NV}{o:NS}(A:Gr w' G' m p o):TW w' tb m p o y G' I C:=by
 have j:∀k t R,(k=f\/v.ownBlock=some k)->FX w k t R->t=229\/t=310:=λk t R c b=>by
  rcases c with rfl|c
  ·exact .inl (b.type r)
  ·obtain⟨z,i⟩:=q.type c;exact .inr (b.type i)
 refine⟨h.pk.fr d (λe=>?_),h.t.fr d (λe=>?_),A,h.i.fr d (λg l e=>?_),h.si,λx u=>(h.dat x u).fr d (λg l e=>?_),h.lo⟩
 ·obtain⟨_,s⟩:=h.pk;rcases e with rfl|c
  ·have:=s _ _ r;revert this;decide
  ·obtain⟨z,i⟩:=q.type c;have:=s _ _ i;revert this;decide
 ·rcases j _ _ _ e h.t with a|a<;>(revert a;decide)
 ·obtain⟨R,b⟩:=h.i.type l;rcases j _ _ _ e b with a|a<;>(revert a;decide)
 ·obtain⟨R,b⟩:=(h.dat x u).type l;rcases j _ _ _ e b with a|a<;>(revert a;decide)
def Jh(G:Gh)(I:LF)(ds:LY):Bool:=decide ((G.countP (He ds)<20/\G.length<100)/\cD G []+I.length<60)
def IL(G:Gh)(I:LF)(p:By):Int:=if DS p=false then 1 else if Jk G (Df p)≠0 then Jk G (Df p) else if Jh G I (Df p).dropLast=false then 8 else 0
def Q7(w:World)(tb:Nat)(G:Gh)(I:LF)(C:IB)(p:By)(e:Ending)(w':World):Prop:=
 e=.returned (.int .i64 (IL G I p))/\Fr (DM tb w) w w'/\((IL G I p≠0/\PS w' tb G I C)\/(IL G I p=0/\∃nb,PS w' tb (G++[(Df p,⟨some ⟨nb,0,none⟩,0⟩)]) I C))
def Ho(G:Gh)(p:By):Int:=if DS p=false then 1 else Jk G (Df p)
def Ss(G:Gh)(rd:Nat)(p:By)(w:World)(e:Ending)(w':World):Prop:=
 ((Ho G p≠0/\e=.returned (.tuple #[DB,.int .i64 (Ho G p)]))\/
  (Ho G p=0/\DS p=true/\∃ds n db,Df p=ds++[n]/\FY G rd ds db/\Gl G (Df p)=none/\e=.returned (.tuple #[Dj (some ⟨db,0,none⟩) n false ⟨none,0⟩,.int .i64 0])))/\Bw w w'
theorem UA(w:World)(tb u:Nat)(V:NV)(E:NS)(Q:Value)(G:Gh)(I:LF)(C:IB)(h:TW w tb u V E Q G I C)(hG:Gk G)(aa:G.length<=10000)(p:By)(hp:p.size<=2000000):
  Cl 181 #[.pointer (some ⟨tb,0,none⟩),.string p] w (Ss G u p w):=by
 obtain⟨m,M⟩:=h.pk.1;have h0:0<w.heap.size:=Am _ _ M;have x:∀o,Bw w (w.alloc o):=λo=>(Ak _ _).alloc (Aa _) o
 have N:=λo=>RK p m (w.alloc o) hp (((x o).cell (p:=⟨0,0,none⟩) h0).trans M)
 have P:=Je w [.pointer none,.string ⟨#[]⟩,.bool false,.pointer none,.int .i64 0] 262;have U:=Db P;clear P;go_enter func181,ntmps181;go_wp2_with fail;refine(N _).mono ?_;rintro e w1⟨A,y⟩;have k:Bw w w1:=(x _).trans (y.mono (by simp));have d:FX w1 w.heap.size 262 _:=(y.block _ (by simp)).trans (Da U);have R:=Db h;clear N x h;rcases A with⟨g,rfl⟩|⟨g,a,c,rfl,D⟩
 ·have i:Hid (Ho G p=1):=by show _=_;unfold Ho;rw[if_pos g]
  have g0:=d.frozen 0;have g1:=d.frozen 1;have g2:=d.frozen 2;have g3:=d.frozen 3;have g4:=d.frozen 4;have W:=d.cell 0;have X:=d.cell 1;have Y:=d.cell 2;have Z:=d.cell 3;have a4:=d.cell 4;clear g;go_wp2;have b:=Ju d (.pointer none) (.string ⟨#[]⟩) (.bool false) (.pointer none) (.int .i64 0);have l:=b.cell 0;have q:=b.cell 1;have r:=b.cell 2;have s:=b.cell 3;have t:=b.cell 4;exact Ap (v:=.tuple #[DB,.int .i64 1]) (by simp[results,results181,go_sem,l,q,r,s,t,DB,Dj]) rfl
   ⟨.inl ⟨by rw[Da i];decide,by rw[Da i]⟩,JC k (Aa _) _ _ _ _ _⟩
 ·have i:Hid (Ho G p=Jk G (Df p)):=by show _=_;unfold Ho;rw[if_neg (by rw[g];simp)]
  have B:=(Da R).below k (Aa _);have L:=TB w1 tb u V E Q G I C B hG aa (Df p) (Uv g) a c D;have S:=Db g;clear g B;go_wp2_with fail;refine L.mono ?_;rintro e w2⟨A,z⟩;have f:FX w2 w.heap.size 262 _:=(z.block _ d.lt).trans d;have H:Bw w w2:=k.trans (z.mono k.size);clear L d k z y D;have g0:=f.frozen 0;have g1:=f.frozen 1;have g2:=f.frozen 2;have g3:=f.frozen 3;have g4:=f.frozen 4;have W:=f.cell 0;have X:=f.cell 1;have Y:=f.cell 2;have Z:=f.cell 3;have a4:=f.cell 4;rcases A with⟨ab,rfl⟩|⟨K,ds,n,j,O,J,F,rfl⟩
  ·unfold DB Dj;go_wp2;have b:=Ju f (.pointer none) (.string ⟨#[]⟩) (.bool false) (.pointer none) (.int .i64 0);have l:=b.cell 0;have q:=b.cell 1;have r:=b.cell 2;have s:=b.cell 3;have t:=b.cell 4;exact Ap (v:=.tuple #[DB,.int .i64 (Jk G (Df p))]) (by simp[results,results181,go_sem,l,q,r,s,t,DB,Dj]) rfl
    ⟨.inl ⟨by rw[Da i];exact ab,by rw[Da i]⟩,JC H (Aa _) _ _ _ _ _⟩
  ·have T:Hid (Ss G u p w (.returned (.tuple #[Dj (some ⟨j,0,none⟩) n false ⟨none,0⟩,.int .i64 0])) (((((w2.setCell ⟨w.heap.size,0,none⟩ (.pointer (some ⟨j,0,none⟩))).setCell ⟨w.heap.size,1,none⟩ (.string n)).setCell ⟨w.heap.size,2,none⟩ (.bool false)).setCell ⟨w.heap.size,3,none⟩ (.pointer none)).setCell ⟨w.heap.size,4,none⟩ (.int .i64 0))):=
    ⟨.inr ⟨(Da i).trans K,Da S,ds,n,j,O,J,F,rfl⟩,JC H (Aa _) _ _ _ _ _⟩
   clear K O J F;unfold Dj;go_wp2;have b:=Ju f (.pointer (some ⟨j,0,none⟩)) (.string n) (.bool false) (.pointer none) (.int .i64 0);have l:=b.cell 0;have q:=b.cell 1;have r:=b.cell 2;have s:=b.cell 3;have t:=b.cell 4;exact Ap (v:=.tuple #[Dj (some ⟨j,0,none⟩) n false ⟨none,0⟩,.int .i64 0]) (by simp[results,results181,go_sem,l,q,r,s,t,Dj]) rfl (Da T)
theorem WC(w:World)(tb:Nat)(G:Gh)(I:LF)(C:IB)(h:PS w tb G I C)(y:Gk G)(D:G.length<=10000)(an:I.length<=10000)(p:By)(hp:p.size<=2000000):
  Cl 122 #[.pointer (some ⟨tb,0,none⟩),.string p] w (Q7 w tb G I C p):=by
 obtain⟨u,V,E,z,h⟩:=h;have N:Hid (∀W,Bw w W->IL G I p≠0->Q7 w tb G I C p (.returned (.int .i64 (IL G I p))) W):=λW g m=>⟨rfl,Fr.of_below g,.inl ⟨m,u,V,E,z,h.below g (Aa _)⟩⟩
 have af:=UA w tb u V E z G I C h y D p hp;have v:=Db h;clear h;go_enter func122,ntmps122;go_wp2_with fail;refine af.mono ?_;rintro e w2⟨aq,g⟩;clear af;rcases aq with⟨m,rfl⟩|⟨o,k,c,n,f,J,a,ab,rfl⟩
 ·have j:Hid (IL G I p=Ho G p):=by
   show _=_;unfold IL Ho at *;by_cases k:DS p=false
   ·rw[if_pos k,if_pos k]
   ·rw[if_neg k]at m;rw[if_neg k,if_neg k,if_pos m]
  have al:=Db m;have aw:(Ho G p != 0)=true:=by simpa using m
  clear m;unfold DB Dj;go_wp2;go_ret;have:=Da N _ (g.alloc g.size (.cells (DG none ⟨#[]⟩ false ⟨none,0⟩).toArray 262)) (by rw[Da j];exact Da al);rw[Da j]at this;exact this
 ·have o:Jk G (Df p)=0:=by unfold Ho at o;rw[if_neg (by rw[k];simp)]at o;exact o
  have B:=Db k;obtain⟨W,hW,i,hk,ax,ap⟩:=De w2 (DG (some ⟨f,0,none⟩) n false ⟨none,0⟩) 262;have F:Bw w W:=g.trans (ap.mono g.size);have ag:=Xp W tb u V E z G I C ((Da v).below F (Aa _)) y D an c f a;have A:Hid (IL G I p=if Jh G I c=false then 8 else 0):=by
   show _=_;unfold IL;rw[if_neg (by rw[Da B];simp),if_neg (by rw[o];simp),J,CV]
  have q:=Db J;have L:=Db ab;have aj:=Db a;have O:=Db hW;clear o J ab a hk hW;unfold Dj;go_upto_if 20 with fail;rw[Da O];clear O;have Q:=i.cell 0;have S:=i.cell 1;have T:=i.cell 2;have U:=i.cell 3;have X:=i.cell 4;go_wp2_with fail;refine ag.mono ?_;rintro e l⟨rfl,ac⟩;have s:FX l w2.heap.size 262 _:=(ac.block _ i.lt).trans i;have r:Bw w l:=F.trans (ac.mono F.size);clear ag Q S T U X;change Hid (IL G I p=if Jh G I c=false then 8 else 0) at A;rw[show decide ((G.countP (He c)<20/\G.length<100)/\cD G []+I.length<60)=Jh G I c from rfl]
  cases hmb:Jh G I c with
  |false=>
   have j:Hid (IL G I p=8):=by show _=_;rw[Da A,hmb];rfl
   go_wp2;go_ret;have:=Da N l r (by rw[Da j];decide);rw[Da j]at this;exact this
  |true=>
   have j:Hid (IL G I p=0):=by show _=_;rw[Da A,hmb];rfl
   have Q:=s.cell 0;have S:=s.cell 1;have T:=s.cell 2;have U:=s.cell 3;have X:=s.cell 4;obtain⟨P,aa,ai,av,ay,ao⟩:=De l [.slice none 0 0] 229;have ad:Bw w P:=r.trans (ao.mono r.size);have d:=(Da v).below ad (Aa _);have a:=Da aj;have H:=Vr P f n (by
    have:=Uv (Da B)
    cases hr:(p.toList==[47]) with
    |true=>have Y:=Us hr;rw[Da q]at Y;simp at Y
    |false=>
     have Z:=(Qt (Da B) hr).2.1 n (by rw[Da q];simp);simp only[DL,A6,AH]at Z;have:=Z.1.2;omega) false ⟨none,0⟩ ⟨some ⟨l.heap.size,0,none⟩,0⟩ (V f) (E f) (d.d.row c f a) (d.d.sl c f a) (Af (d.d.le y a) D) (d.d.srt c f a) (λx i e=>by
     have:=(d.d.en c f a x.1 x.2).1 i;rw[e]at this;exact Uh (by rw[<-Da q];exact Da L) _ this)
   unfold Dj at H;have M:=Db H;have H4:=Db d;have am:=Db aa;clear H d aa;go_wp2_with fail;rw[Da am];refine(Da M).mono ?_;rintro e w5⟨rfl,v',au,q1,q2,q3,q4,q5,q6,t⟩;have ak:Hid (Q7 w tb G I C p (.returned (.int .i64 0)) w5):=by
    have d:=Da H4;have ah:=d.d.row c f a;have K:=d.d.sl c f a;have ae:∀ns b,FY G u ns b->b≠l.heap.size:=λns b g e=>by
     have:=((Da v).d.row ns b g).lt;have:=r.size;omega
    have ar:FX w5 l.heap.size 229 [.slice none 0 0]:=by
     refine ai.fr t (λe=>?_);rcases e with e|e
     ·exact ae c f a e.symm
     ·obtain⟨R,hR⟩:=K.type e;have:=hR.type ai;revert this;decide
    have hD:=d.d.addDir y a (by rw[<-Da q];exact Da L) (Af (CC ((Da v).d.row _ _ (.inl ⟨rfl,rfl⟩)).lt) r.size) ae ar q1 q2 q3 q5 q6 t;have hT:=TW.dirs d ah K t hD;rw[<-Da q]at hT;exact⟨by rw[Da j],Fr.prog ad (Fr.progOne (d.dlo a) ah K t),.inr ⟨Da j,l.heap.size,u,_,_,z,hT⟩⟩
   clear M q1 q2 q3 q4 q5 q6 t;go_wp2;go_ret;exact Da ak
end Go.Proofs.YtaieidcohdhgpaaGreatDoor
