/- Dumps. -/
import Derived.Test.YtaieidcohdhgpaaGreatDoorZAH
namespace Go.Proofs.YtaieidcohdhgpaaGreatDoor
set_option maxHeartbeats 40000000
set_option maxRecDepth 100000
open Go.RowKit
def FI(G:Gh)(rd:Nat)(ns:LY)(b:Nat):Prop:=(ns=[]/\b=rd)\/(ns,(⟨some ⟨b,0,none⟩,0⟩:VS))∈G
structure F3(w:World)(G:Gh)(rd:Nat)(V:NV)(E:NS):Prop where
 shp:∀x∈G,x.2.p=none\/∃b,x.2=⟨some ⟨b,0,none⟩,0⟩
 row:∀ns b,FI G rd ns b->FH w b 229 [V b]
 sl:∀ns b,FI G rd ns b->Sl w 310 3 (V b) (E b).length (Di (E b))
 srt:∀ns b,FI G rd ns b->FZ (E b)
 en:∀ns b,FI G rd ns b->GP G ns (E b)
 inj:∀ns ns' b,FI G rd ns b->FI G rd ns' b->ns=ns'
 own:∀ns ns' b b' g,FI G rd ns b->FI G rd ns' b'->(V b).ownBlock=some g->(V b').ownBlock=some g->b=b'
 lo:∀ns b,FI G rd ns b->rd<=b/\∀g,(V b).ownBlock=some g->rd<=g
theorem F3.fr{X:Nat->Prop}{w w':World}{G:Gh}{f:Nat}{V:NV}{E:NS}(h:F3 w G f V E)(d:Fr X w w')(c:∀k t R,X k->FH w k t R->t≠229/\t≠310):F3 w' G f V E:=
 ⟨h.shp,fun ns b a=>(h.row ns b a).fr d (fun e=>(c _ _ _ e (h.row ns b a)).1 rfl),
  fun ns b a=>(h.sl ns b a).fr d (fun g j e=>by obtain⟨R,i⟩:=(h.sl ns b a).type j;exact(c _ _ _ e i).2 rfl),
  h.srt,h.en,h.inj,h.own,h.lo⟩
theorem F3.below{w w':World}{G:Gh}{a:Nat}{V:NV}{E:NS}(h:F3 w G a V E){B:Nat}(c:Below B w w')(b:w.heap.size<=B):F3 w' G a V E:=
 h.fr (X:=fun _=>False) (Fr.of_below (c.mono b)) (fun _ _ _ e=>e.elim)
theorem F3.len{w:World}{G:Gh}{c:Nat}{V:NV}{E:NS}(h:F3 w G c V E)(d:F0 G){ns:LY}{b:Nat}(a:FI G c ns b):(E b).length=G.countP (GF ns):=(h.en ns b a).length d (h.srt ns b a)
theorem F3.le{w:World}{G:Gh}{a:Nat}{V:NV}{E:NS}(h:F3 w G a V E)(c:F0 G){ns:LY}{b:Nat}(d:FI G a ns b):(E b).length<=G.length:=by
 rw[h.len c d];exact Bj
theorem F3.sub{w:World}{G:Gh}{c:Nat}{V:NV}{E:NS}(h:F3 w G c V E){ns:LY}{b:Nat}(g:FI G c ns b){x:By×VS}(i:x∈E b):
  x.2.p=none\/∃a,x.2=⟨some ⟨a,0,none⟩,0⟩/\FI G c (ns++[x.1]) a:=by
 have d:=(h.en ns b g x.1 x.2).1 i;rcases h.shp _ d with f|⟨a,e⟩
 ·exact .inl f
 ·exact .inr ⟨a,e,.inr (by rw[<-e];exact d)⟩
def fD(G:Gh)(ns:LY)(x:By×VS):Nat:=if x.2.p.isSome=true then cD G (ns++[x.1]) else 0
def fE(G:Gh)(ns:LY)(x:By×VS):Nat:=if x.2.p.isSome=true then cE G (ns++[x.1]) else 0
def Jk(f:By×VS->Nat)(l:LS):Nat:=(l.map f).sum
theorem M8(f:By×VS->Nat)(l:LS)(x:By×VS):Jk f (l++[x])=Jk f l+f x:=by simp[Jk]
theorem RZ(f:By×VS->Nat)(m:Nat)(c:∀x,f x<=m)(l:LS):Jk f l<=l.length*m:=by
 induction l with
 | nil=>simp[Jk]
 | cons a l ih=>
  have b:Jk f (a::l)=f a+Jk f l:=by simp[Jk]
  have:=c a;rw[b,Af,ER];omega
theorem NX(G:Gh)(ns:LY):cD G ns<=1+G.length:=by
 unfold cD;exact Nat.add_le_add_left Bj 1
theorem cE_le(G:Gh)(ns:LY):cE G ns<=G.length:=by unfold cE;exact Bj
theorem fD_le(G:Gh)(ns:LY)(x:By×VS):fD G ns x<=1+G.length:=by
 unfold fD;split
 ·exact NX _ _
 ·omega
theorem fE_le(G:Gh)(ns:LY)(x:By×VS):fE G ns x<=G.length:=by
 unfold fE;split
 ·exact cE_le _ _
 ·omega
theorem YU{G:Gh}(c:F0 G){ns:LY}{b:LS}(g:FZ b)(e:GP G ns b):∀k,k<=b.length->
  Kx G (fun x=>x.2.p.isSome) ns (GS (b.take k))=Jk (fD G ns) (b.take k)/\Kx G (fun _=>true) ns (GS (b.take k))=k+Jk (fE G ns) (b.take k):=by
 intro k
 induction k with
 | zero=>
  intro _;have:∀r,Kx G r ns []=0:=fun r=>by unfold Kx;rw[EW];intro x _;simp
  simp[GS,Jk,this]
 | succ k ih=>
  intro hk;obtain⟨i,j⟩:=ih (by omega);have d:k<b.length:=by omega
  have h:b.take (k+1)=b.take k++[b[k]]:=by rw[Bg,Ac d];rfl
  have f:=(e b[k].1 b[k].2).1 (Cq d);rw[SP c _ g e k d,SP c _ g e k d,i,j,h,M8,M8];unfold fD fE cD cE
  cases hp:b[k].2.p with
  | none=>
   rw[T9 c (fun x=>x.2.p.isSome) f hp,T9 c (fun _=>true) f hp];simp;omega
  | some a=>simp;omega
theorem WY{G:Gh}(d:F0 G){ns:LY}{a:LS}(f:FZ a)(e:GP G ns a):1+Jk (fD G ns) a=cD G ns/\a.length+Jk (fE G ns) a=cE G ns:=by
 obtain⟨b,c⟩:=YU d f e a.length (Aa _);rw[BN,XI d _ e]at b c;exact⟨by rw[<-b];rfl,by rw[<-c];rfl⟩
section
open Go.RowKit Go.Shelf
attribute [local go_sem] Oper.semAt_some
theorem Vf(G:Gh)(hG:F0 G)(ah:G.length<=10000)(N:Nat)(V:NV)(E:NS)(ns:LY)(b:Nat)(u:FI G N ns b)
  (an:∀x F w,x∈E b->FI G N (ns++[x.1]) F->F3 w G N V E->Cl 143 #[.pointer (some ⟨F,0,none⟩)] w fun e w'=>e = .returned (.tuple #[.int .i64 (cD G (ns++[x.1]):Nat),.int .i64 (cE G (ns++[x.1]):Nat)])/\Bw w w')
  (w:World) (h:F3 w G N V E):
  Cl 143 #[.pointer (some ⟨b,0,none⟩)] w fun e w'=>e = .returned (.tuple #[.int .i64 (cD G ns:Nat),.int .i64 (cE G ns:Nat)])/\Bw w w':=by
 have hS:=h.sl ns b u;have aE:=h.le hG u;have ao:=h.row ns b u;have hc:=ao.cell 0;have ak:b<w.heap.size:=ao.lt;have am:=fun (W:World) (hb:Bw w W)=>IY W b 0 (V b) (E b).length (Di (E b)) ((hb.cell (p:=⟨b,0,none⟩) ak).trans hc) (hS.kept (fun k hk _=>hb.block k hk))
 have af:=Db am;clear am;refine(A0 (n:=3)).1 ?_;refine Bq Tryz.func143 rfl trivial ?_ rfl;simp only[Tryz.ntmps143,AQ,Af,Ay,Nat.reduceAdd,Nat.reduceSub,AP,AO,AV,AR,AJ,AL]
 gi_wp2_with (refine⟨trivial,?_⟩;first|(gi_at_call 178;refine(A0.2 (Da af _ (by exact((Ag _ w).alloc (Aa _) _).alloc (by simp) _))).mono ?_;rintro e w' ⟨rfl,hw⟩;rw[hw];clear hw)|(gi_at_call 179;refine(Ou _ _ trivial rfl _ _).mono ?_;rintro e w' ⟨rfl,rfl⟩))
 obtain⟨j,q⟩:∃j,((w.alloc (Obj.cells #[Value.int IntKind.i64 1] 3)).alloc (Obj.cells #[Value.int IntKind.i64 ((E b).length:Nat)] 3)).alloc (Obj.cells #[Value.pointer (some { block:=b,off:=0 })] 307)=j:=⟨_,rfl⟩;rw[q];have aM:j.heap.size=w.heap.size+3:=by rw[<-q];simp
 have aa:Bw w j:=by rw[<-q];exact(((Ag _ w).alloc (Aa _) _).alloc (by simp) _).alloc (by simp;omega) _
 have aA:Boxed j w.heap.size 3 (.int .i64 1):=by rw[<-q];exact((Boxed.new w 3 _).alloc _).alloc _
 have aB:Boxed j (w.heap.size+1) 3 (.int .i64 ((E b).length:Nat)):=by rw[<-q];have:=(Boxed.new (w.alloc (Obj.cells #[Value.int IntKind.i64 1] 3)) 3 (.int .i64 ((E b).length:Nat))).alloc (Obj.cells #[Value.pointer (some { block:=b,off:=0 })] 307);simpa using this
 have aC:Boxed j (w.heap.size+1+1) 307 (.pointer (some ⟨b,0,none⟩)):=by rw[<-q];have:=Boxed.new ((w.alloc (Obj.cells #[Value.int IntKind.i64 1] 3)).alloc (Obj.cells #[Value.int IntKind.i64 ((E b).length:Nat)] 3)) 307 (.pointer (some ⟨b,0,none⟩));simpa using this
 have ay:Sl j 310 3 (V b) (E b).length (Di (E b)):=hS.kept (fun k hk _=>aa.block k hk);have aD:j.cell? ⟨b,0,none⟩=some (V b):=(aa.cell (p:=⟨b,0,none⟩) ak).trans hc;have ab:(E b).attach.map (fun x=>x.1)=E b:=CW _;have av:=Db an;have C:=Db h;clear q an h af;refine Fj (α := { x // x∈E b }) rfl (by omega) (gf:=222) (lb := #[.pointer (some ⟨w.heap.size+1+1,0,none⟩)]) rfl trivial (Ez Tryz.func222 (by kernel_rfl) rfl)
  (T7 Fence.wide 2 trivial rfl (by omega) (w.heap.size+1+1) w.heap.size b 0 (V b) (fun x=>x.1) (E b).attach (by simpa using Ae aE ah) j (by omega) (by omega) (by omega) aC.cell aD (by rw[ab];simpa using ay) (fun g hg=>hS.lt hg))
  belowK_t (Fx (by omega)) (Ag _ _) (fun _=>rfl)
  (fun a W=>(Boxed W w.heap.size 3 (.int .i64 ((1+Jk (fD G ns) (a.map (·.1)):Nat):Int))/\Boxed W (w.heap.size+1) 3 (.int .i64 (((E b).length+Jk (fE G ns) (a.map (·.1)):Nat):Int)))/\Bw w W)
  (fun _ _ _=>False)
  (OwnFrom.and (OwnFrom.and (Own.from (boxed_own _ _ _) _) (Own.from (boxed_own _ _ _) _)) (ownFrom_below (Aa _) (by omega)))
  (fun _ _ _ _ _ hs _ _=>hs)
  ⟨⟨aA,aB⟩,aa⟩
  (fun x R W=>∃o,w.heap.size+1<o/\FH W o 260 [.pointer x.1.2.p,.int .i64 x.1.2.f]/\R={ tmps := #[.pointer (some ⟨b,0,none⟩),undef,.pointer (some ⟨w.heap.size,0,none⟩),.pointer (some ⟨w.heap.size+1,0,none⟩),undef,.pointer (some ⟨o,0,none⟩),undef,undef,.pointer (some ⟨b,0,none⟩),.pointer (some ⟨b,0,none⟩),.pointer (some ⟨b,0,none⟩),.int .i64 ((E b).length:Nat),.pointer (some ⟨b,0,none⟩),.pointer (some ⟨b,0,none⟩),.pointer (some ⟨b,0,none⟩),.func (.func 222) #[] #[.pointer (some ⟨w.heap.size+1+1,0,none⟩)],.string x.1.1,.agg #[.pointer x.1.2.p,.int .i64 x.1.2.f],undef,undef,undef,undef,undef,undef,undef,undef,undef,undef,undef,undef,undef,undef,undef,undef,undef],defers:=[] })
  (fun x R _ X Y row hs hg hr=>by
   obtain⟨o,h1,h2,h3⟩:=hs;exact⟨o,h1,(UB (β := Unit) o 260 (fun _=>_)).from _ () X Y row h2 hg hr,h3⟩)
  ?assign ?body ?done ?stop
 case assign=>
  rintro l a x W K ⟨⟨i,f⟩,m⟩ hK
  gi_wp2
  refine hK _ _ ((Eb _ _).from _) ((Ag _ W).alloc m.size _) ⟨⟨i.alloc _,f.alloc _⟩,m.alloc m.size _⟩ ⟨W.heap.size,f.lt,Jj W _ _,rfl⟩
 case body=>
  rintro l a x R W aI ⟨r,hr⟩ ⟨⟨i,f⟩,m⟩ ⟨o,aH,bX,rfl⟩ aF;have aL:a.length<(E b).length:=by simpa using aF
  have I:=RZ (fD G ns) 10001 (fun y=>Ae (fD_le G ns y) (by omega)) (a.map (·.1));have J:=RZ (fE G ns) 10000 (fun y=>Ae (fE_le G ns y) (by omega)) (a.map (·.1));rw[A7]at I J;have U:Jk (fD G ns) ((a++[x]).map (·.1))=Jk (fD G ns) (a.map (·.1))+fD G ns x.1:=by rw[Bo,BK,Ec,M8]
  have Z:Jk (fE G ns) ((a++[x]).map (·.1))=Jk (fE G ns) (a.map (·.1))+fE G ns x.1:=by rw[Bo,BK,Ec,M8]
  obtain⟨O,ap⟩:∃s,s=Jk (fD G ns) (a.map (·.1)):=⟨_,rfl⟩;obtain⟨P,aq⟩:∃s,s=Jk (fE G ns) (a.map (·.1)):=⟨_,rfl⟩;rw[<-ap]at I U i;rw[<-aq]at J Z f;have E1:=Db U;have E2:=Db Z;clear ap aq U Z;have x0:=bX.cell 0;have aJ:O<=100010000:=Ae I (by omega);have aK:P<=100000000:=Ae J (by omega);clear I J;rcases (Da C).sub u x.2 with hp|⟨F,ae,aG⟩
  ·have L:fD G ns x.1=0:=by unfold fD;rw[hp];rfl
   have M:fE G ns x.1=0:=by unfold fE;rw[hp];rfl
   rw[hp]at x0
   gi_wp2
   exact⟨(KeepsOthers.refl _).from _,Ag _ _,⟨by rw[Da E1,L];exact i,by rw[Da E2,M];exact f⟩,m⟩
  ·have L:fD G ns x.1=cD G (ns++[x.1.1]):=by unfold fD;rw[ae];rfl
   have M:fE G ns x.1=cE G (ns++[x.1.1]):=by unfold fE;rw[ae];rfl
   have ai:=Ae (NX G (ns++[x.1.1])) (by omega:_<=10001);have aj:=Ae (cE_le G (ns++[x.1.1])) ah;have t:=Da av x.1 F W x.2 aG ((Da C).below m (Aa _));rw[ae]at x0;rw[<-L]at t ai;rw[<-M]at t aj;obtain⟨d1,ac⟩:∃d,d=fD G ns x.1:=⟨_,rfl⟩;obtain⟨d2,ad⟩:∃d,d=fE G ns x.1:=⟨_,rfl⟩;have ar:=Db ac;have au:=Db ad;rw[<-ac]at t ai;rw[<-ad]at t aj;clear L M ac ad
   gi_wp2_with fail
   refine⟨trivial,?_⟩;refine(Cp l (A0.2 t)).mono ?_;rintro e Q ⟨rfl,H⟩;have A:Boxed Q w.heap.size 3 _:=(H.block _ i.lt).trans i;have B:Boxed Q (w.heap.size+1) 3 _:=(H.block _ f.lt).trans f;have c0:=A.cell;have c1:=B.cell;have f0:=A.frozen;have f1:=B.frozen;clear t
   gi_wp2
   have v1:(1+(O:Int)+(d1:Int))=((1+Jk (fD G ns) ((a++[x]).map (·.1)):Nat):Int):=by rw[Da E1,<-Da ar];omega
   have v2:(((E b).length:Int)+(P:Int)+(d2:Int))=(((E b).length+Jk (fE G ns) ((a++[x]).map (·.1)):Nat):Int):=by rw[Da E2,<-Da au];omega
   have al:Below w.heap.size W Q:=H.mono m.size;refine⟨((Wl H).trans ((CA _ _ _).trans (CA _ _ _))).from _,(al.setCell (p:=⟨w.heap.size,0,none⟩) (Aa _) _).setCell (p:=⟨w.heap.size+1,0,none⟩) (EB _) _,⟨?_,?_⟩,((m.trans al).setCell (p:=⟨w.heap.size,0,none⟩) (Aa _) _).setCell (p:=⟨w.heap.size+1,0,none⟩) (EB _) _⟩
   ·rw[v1];exact(A.set _).other (by omega) _
   ·rw[v2];exact(B.other (by omega) _).set _
 case done=>
  rintro D ys W hD rfl ⟨⟨i,f⟩,m⟩ hK;have c0:=i.cell;have c1:=f.cell;have f0:=i.frozen;have f1:=f.frozen;obtain⟨O,P⟩:=WY hG ((Da C).srt ns b u) ((Da C).en ns b u);rw[ab,O]at c0 i;rw[ab,P]at c1 f;have A:=i;have B:=f;clear i f
  gi_wp2
  gi_region
  all_goals gi_wp2
  have S:Boxed ((W.setCell ⟨w.heap.size,0,none⟩ (.int .i64 (cD G ns:Nat))).setCell ⟨w.heap.size+1,0,none⟩ (.int .i64 (cE G ns:Nat))).drew w.heap.size 3 (.int .i64 (cD G ns:Nat)):=(A.set _).other (by omega) _;have T:Boxed ((W.setCell ⟨w.heap.size,0,none⟩ (.int .i64 (cD G ns:Nat))).setCell ⟨w.heap.size+1,0,none⟩ (.int .i64 (cE G ns:Nat))).drew (w.heap.size+1) 3 (.int .i64 (cE G ns:Nat)):=(B.other (by omega) _).set _;have ag:Bw w ((W.setCell ⟨w.heap.size,0,none⟩ (.int .i64 (cD G ns:Nat))).setCell ⟨w.heap.size+1,0,none⟩ (.int .i64 (cE G ns:Nat))).drew:=((m.setCell (p:=⟨w.heap.size,0,none⟩) (Aa _) _).setCell (p:=⟨w.heap.size+1,0,none⟩) (EB _) _).drew;have z:((W.setCell ⟨w.heap.size,0,none⟩ (.int .i64 (cD G ns:Nat))).setCell ⟨w.heap.size+1,0,none⟩ (.int .i64 (cE G ns:Nat))).drew.heap[D]?=some (.deferred (some [])):=(((CA W ⟨w.heap.size,0,none⟩ (.int .i64 (cD G ns:Nat))).trans (CA _ ⟨w.heap.size+1,0,none⟩ (.int .i64 (cE G ns:Nat)))).trans (KeepsOthers.drew _)).same D _ hK rfl;obtain⟨v,az⟩:∃v,((W.setCell ⟨w.heap.size,0,none⟩ (.int .i64 (cD G ns:Nat))).setCell ⟨w.heap.size+1,0,none⟩ (.int .i64 (cE G ns:Nat))).drew=v:=⟨_,rfl⟩;rw[az]at S T ag z ⊢;have aw:=(S.kept (Fl v D (.deferred none)) (fun e=>by cases e;have:=S.symm.trans z;cases this)).cell;have ax:=(T.kept (Fl v D (.deferred none)) (fun e=>by cases e;have:=T.symm.trans z;cases this)).cell;refine⟨by simp,.inl ⟨_,_,rfl,BS z,?_⟩⟩;refine⟨.tuple #[.int .i64 (cD G ns:Nat),.int .i64 (cE G ns:Nat)],?_,rfl,ag.trans (Fx (w:=w) (Aa _) v D _ _ (by omega) z rfl rfl)⟩;simp[results,Tryz.results143,go_sem,aw,ax]
 case stop=>
  rintro D c a W _ _ h _;exact h.elim
theorem FI.le{G:Gh}(a:F0 G){c:Nat}{ns:LY}{b:Nat}(h:FI G c ns b):ns.length<=6:=by
 rcases h with⟨rfl,_⟩|h
 ·exact Aw _
 ·exact a.le _ h
theorem Ve(G:Gh)(c:F0 G)(j:G.length<=10000)(a:Nat)(V:NV)(E:NS):∀(d:Nat) (ns:LY) (b:Nat) (w:World),6<=ns.length+d->FI G a ns b->F3 w G a V E->
  Cl 143 #[.pointer (some ⟨b,0,none⟩)] w fun e w'=>e = .returned (.tuple #[.int .i64 (cD G ns:Nat),.int .i64 (cE G ns:Nat)])/\Bw w w':=by
 intro d
 induction d with
 | zero=>
  intro ns b w k h g;exact Vf G c j a V E ns b h (fun x i w' _ f _=>by have:=f.le c;simp at this;omega) w g
 | succ d ih=>
  intro ns b w k h g;exact Vf G c j a V E ns b h (fun x i w' _ f l=>ih _ i w' (by simp;omega) f l) w g
end
theorem Ux:∀(d xs:LY) (y:By) (ys:LY),xs≠[]->Ds d (xs++y::ys)=Ds d xs++(d++xs)::Ds (d++xs) (y::ys)
 | d,[],y,ys,h=>absurd rfl h
 | d,[x],y,ys,_=>by simp[Ds]
 | d,x::x'::xs,y,ys,_=>by
  have:=Ux (d++[x]) (x'::xs) y ys (by simp);rw[AL,AL,Ds,Ds,<-AL,this];simp
theorem MT(G:Gh):∀(A B:List (LY)),F8 G A=0->F8 G (A++B)=F8 G B
 | [],B,_=>rfl
 | q::A,B,h=>by
  rw[AL,F8];rw[F8]at h
  cases hq:FQ G q with
  | none=>rw[hq]at h;simp at h
  | some u=>
   rw[hq]at h;by_cases a:u.p.isSome=true
   ·simp only[a,EZ]at h ⊢;exact MT G A B h
   ·simp[a]at h
theorem Wx{G:Gh}{xs:LY}{y:By}{a:LY}(c:xs≠[])(b:F8 G (Ds [] xs)=0)(h:FQ G xs=none):F8 G (Ds [] (xs++y::a))=3:=by
 rw[Ux [] xs y a c,MT G _ _ b,F8,AJ,h]
theorem Ww{G:Gh}{xs:LY}{y:By}{a:LY}{u:VS}(c:xs≠[])(b:F8 G (Ds [] xs)=0)(h:FQ G xs=some u)(d:u.p=none):F8 G (Ds [] (xs++y::a))=4:=by
 rw[Ux [] xs y a c,MT G _ _ b,F8,AJ,h];simp[d]
theorem Rn{G:Gh}{xs:LY}{y:By}{u:VS}(b:xs≠[])(a:F8 G (Ds [] xs)=0)(h:FQ G xs=some u)(c:u.p.isSome=true):F8 G (Ds [] (xs++[y]))=0:=by
 rw[Ux [] xs y [] b,MT G _ _ a,F8,AJ,h];simp[c,Ds,F8]
def Dn(d:OA)(name:By)(there:Bool)(u:VS):Value := .agg #[.pointer d,.string name,.bool there,.pointer u.p,.int .i64 u.f]
def DE:Value:=Dn none ⟨#[]⟩ false ⟨none,0⟩
def Gf(G:Gh)(rd:Nat)(ns:LY)(d:OA)(name:By)(there:Bool)(u:VS):Prop:=
 (ns=[]/\d=none/\name=⟨#[]⟩/\there=true/\u=⟨some ⟨rd,0,none⟩,0⟩)\/
 ∃ds db,ns=ds++[name]/\FI G rd ds db/\d=some ⟨db,0,none⟩/\there=(FQ G ns).isSome/\u=(FQ G ns).getD ⟨none,0⟩
def Wp(G:Gh)(rd:Nat)(ns:LY)(w:World)(e:Ending)(w':World):Prop:=
 ((F8 G (Ds [] ns)≠0/\e = .returned (.tuple #[DE,.int .i64 (F8 G (Ds [] ns))]))\/
  (F8 G (Ds [] ns)=0/\∃d n t u,Gf G rd ns d n t u/\e = .returned (.tuple #[Dn d n t u,.int .i64 0])))/\Bw w w'
theorem GP.at{G:Gh}(e:F0 G){a:LY}{c:LS}(d:GP G a c){n:By}{r:VS}{b:Bool}(f:Rj c n r b):b=(FQ G (a++[n])).isSome/\r=(FQ G (a++[n])).getD ⟨none,0⟩:=by
 rcases f with⟨rfl,g⟩|⟨rfl,rfl,h⟩
 ·rw[Ut e.nd ((d n r).1 g)];exact⟨rfl,rfl⟩
 ·cases ha:FQ G (a++[n]) with
  | none=>exact⟨rfl,rfl⟩
  | some u=>exact absurd rfl (h (n,u) ((d n u).2 (Ko ha)))
theorem Np{w:World}{G:Gh}{a:Nat}{V:NV}{E:NS}(g:F3 w G a V E){xs:LY}{d:OA}{n:By}{t:Bool}{u:VS}(h:Gf G a xs d n t u):
  (t=false/\xs≠[]/\FQ G xs=none)\/(t=true/\xs≠[]/\FQ G xs=some u/\u.p=none)\/(t=true/\∃b,u=⟨some ⟨b,0,none⟩,0⟩/\FI G a xs b/\(xs=[]\/FQ G xs=some u)):=by
 rcases h with⟨rfl,_,_,rfl,rfl⟩|⟨c,db,rfl,hd,rfl,rfl,rfl⟩
 ·exact .inr (.inr ⟨rfl,a,rfl,.inl ⟨rfl,rfl⟩,.inl rfl⟩)
 ·cases ha:FQ G (c++[n]) with
  | none=>exact .inl ⟨rfl,by simp,rfl⟩
  | some u=>
   rcases g.shp _ (Ko ha) with f|⟨b,e⟩
   ·exact .inr (.inl ⟨rfl,by simp,rfl,f⟩)
   ·simp only at e;exact .inr (.inr ⟨rfl,b,by simpa using e,.inr (by rw[<-e];exact Ko ha),.inr rfl⟩)
theorem FH.alloc{w:World}{b:Nat}{t:TypeId}{L:LV}(h:FH w b t L)(o:Obj):FH (w.alloc o) b t L:=(BE _ _ _ h.lt).trans h
theorem JN{w:World}{b:Nat}{t:TypeId}{g i j k l:Value}(h:FH w b t [g,i,j,k,l])(a c d e f:Value):
  FH (((((w.setCell ⟨b,0,none⟩ a).setCell ⟨b,1,none⟩ c).setCell ⟨b,2,none⟩ d).setCell ⟨b,3,none⟩ e).setCell ⟨b,4,none⟩ f) b t [a,c,d,e,f]:=by
 have:=((((h.set 0 a).set 1 c).set 2 d).set 3 e).set 4 f
 simpa using this
theorem J0{w w1:World}{B b:Nat}(h:Below B w w1)(a:B<=b)(c d e f g:Value):Below B w (((((w1.setCell ⟨b,0,none⟩ c).setCell ⟨b,1,none⟩ d).setCell ⟨b,2,none⟩ e).setCell ⟨b,3,none⟩ f).setCell ⟨b,4,none⟩ g):=
 ((((h.setCell (p:=⟨b,0,none⟩) a _).setCell (p:=⟨b,1,none⟩) a _).setCell (p:=⟨b,2,none⟩) a _).setCell (p:=⟨b,3,none⟩) a _).setCell (p:=⟨b,4,none⟩) a _
theorem FH.setOther{w:World}{b:Nat}{t:TypeId}{L:LV}(h:FH w b t L)(a:Addr)(u:Value)(c:a.block≠b):FH (w.setCell a u) b t L:=by
 unfold FH at h ⊢;rw[AB _ _ _ _ c.symm];exact h
theorem Lu{w:World}{b a:Nat}{t:TypeId}{L:LV}(h:FH w b t L)(c:a≠b)(d e f g i:Value):FH (((((w.setCell ⟨a,0,none⟩ d).setCell ⟨a,1,none⟩ e).setCell ⟨a,2,none⟩ f).setCell ⟨a,3,none⟩ g).setCell ⟨a,4,none⟩ i) b t L:=
 ((((h.setOther ⟨a,0,none⟩ d c).setOther ⟨a,1,none⟩ e c).setOther ⟨a,2,none⟩ f c).setOther ⟨a,3,none⟩ g c).setOther ⟨a,4,none⟩ i c
def LQ(G:Gh)(rd:Nat)(ns:LY)(w:World)(i:Value)(wr:World):Prop:=
 ∃k:Nat,k<=ns.length/\i = .int .i64 k/\∃d n t u,Gf G rd (ns.take k) d n t u/\F8 G (Ds [] (ns.take k))=0/\FH wr (w.heap.size+1) 262 [.pointer d,.string n,.bool t,.pointer u.p,.int .i64 u.f]/\
  FH wr w.heap.size 262 [.pointer none,.string ⟨#[]⟩,.bool false,.pointer none,.int .i64 0]/\Bw w wr
theorem Vo(w:World)(tb s:Nat)(V:NV)(E:NS)(vi:Value)(G:Gh)(hG:F0 G)(ah:G.length<=10000)(hT:FH w tb 214 [.pointer (some ⟨s,0,none⟩),vi])(hD:F3 w G s V E)
  (ns:LY) (aq:ns.length<=6) (W:OA) (X:Nat) (hN:Sl w 9 1 (.slice W ns.length X) ns.length (ns.map .string)):
  Cl 227 #[.pointer (some ⟨tb,0,none⟩),.slice W ns.length X] w (Wp G s ns w):=by
 have ao:=hT.cell 0;have ar:=hT.lt;obtain⟨am,an,e,ae⟩:=hN.rdF
 cases e
 have af:=Db ae;have o:=Db hD;clear ae hD;go_enter Tryz.func227,Tryz.ntmps227;go_wp2
 go_loopw [8,9,10,11,20] (fun _ _ _ _ i wr=>LQ G s ns w i wr) (fun _ _ _ _ i _=>ns.length-(intOf i).toNat)
 case atStart=>
  refine⟨0,Aw _,rfl,none,⟨#[]⟩,true,⟨some ⟨s,0,none⟩,0⟩,.inl ⟨rfl,rfl,rfl,rfl,rfl⟩,rfl,?_,?_,((Ag _ w).alloc (Aa _) _).alloc (by simp) _⟩
  ·have:=Jj (w.alloc (Obj.cells #[Value.pointer none,Value.string { data := #[] },Value.bool false,Value.pointer none,Value.int IntKind.i64 0] 262)) [Value.pointer none,Value.string { data := #[] },Value.bool true,Value.pointer (some { block:=s,off:=0 }),Value.int IntKind.i64 0] 262
   simpa using this
  ·have:=Jj w [Value.pointer none,Value.string { data := #[] },Value.bool false,Value.pointer none,Value.int IntKind.i64 0] 262;exact(BE _ _ _ (by simp)).trans this
 case round=>
  obtain⟨k,hk,rfl,d,n,t,u,B,z,f,c,j⟩:=hrel;have b0:=c.cell 0;have b1:=c.cell 1;have b2:=c.cell 2;have b3:=c.cell 3;have b4:=c.cell 4;have g0:=c.frozen 0;have g1:=c.frozen 1;have g2:=c.frozen 2;have g3:=c.frozen 3;have g4:=c.frozen 4;have R:=f.cell 0;have S:=f.cell 1;have T:=f.cell 2;have L:=f.cell 3;have U:=f.cell 4;have f0:=f.frozen 0;have f1:=f.frozen 1;have f2:=f.frozen 2;have f3:=f.frozen 3;have f4:=f.frozen 4;have P:=Db B;have J:=Db z;clear B z;by_cases ac:k<ns.length
  ·obtain⟨y,N⟩:∃y,ns[k]?=some y:=⟨_,Ac ac⟩;obtain⟨g,rfl,q0⟩:=Da af k y N;have aj:g<w.heap.size:=hN.lt rfl;have q1:=(j.cell (p:=⟨g,k,none⟩) aj).trans q0;have Q:Hid (ns.take (k+1)=ns.take k++[y]):=by show _=_;rw[Bg,N];rfl
   have O:Hid (ns=ns.take k++y::ns.drop (k+1)):=by
    show _=_;have ak:=Ad.1 N;have:=(BT k ns).symm;rw[BY ac,ak.2]at this;exact this
   clear q0;rcases Np (Da o) (Da P) with⟨rfl,l,A⟩|⟨rfl,l,A,hu⟩|⟨rfl,b,rfl,q,ad⟩
   ·have m:Hid (F8 G (Ds [] ns)=3):=by show _=_;rw[Da O];exact Wx l (Da J) A
    clear A l;go_wp2;have a:=JN c (.pointer none) (.string ⟨#[]⟩) (.bool false) (.pointer none) (.int .i64 0);have C:=a.cell 0;have D:=a.cell 1;have F:=a.cell 2;have H:=a.cell 3;have I:=a.cell 4;exact Aq (v := .tuple #[DE,.int .i64 3]) (by simp[results,Tryz.results227,go_sem,C,D,F,H,I,DE,Dn]) rfl
     ⟨.inl ⟨by rw[Da m];decide,by rw[Da m]⟩,J0 j (Aa _) _ _ _ _ _⟩
   ·have m:Hid (F8 G (Ds [] ns)=4):=by show _=_;rw[Da O];exact Ww l (Da J) A hu
    rw[hu]at L;clear A l;go_wp2;have a:=JN c (.pointer none) (.string ⟨#[]⟩) (.bool false) (.pointer none) (.int .i64 0);have C:=a.cell 0;have D:=a.cell 1;have F:=a.cell 2;have H:=a.cell 3;have I:=a.cell 4;exact Aq (v := .tuple #[DE,.int .i64 4]) (by simp[results,Tryz.results227,go_sem,C,D,F,H,I,DE,Dn]) rfl
     ⟨.inl ⟨by rw[Da m];decide,by rw[Da m]⟩,J0 j (Aa _) _ _ _ _ _⟩
   ·have ab:=NM wr b 0 (V b) (E b) y (((j.cell (p:=⟨b,0,none⟩) ((Da o).row _ b q).lt)).trans (((Da o).row _ b q).cell 0)) ((((Da o).below j (Aa _))).sl _ b q) (Ae ((Da o).le hG q) ah) ((Da o).srt _ b q);go_wp2_with fail;refine ab.mono ?_;rintro e K ⟨r,x,rfl,aa,M⟩;obtain⟨Y,Z⟩:=GP.at hG ((Da o).en _ b q) aa;have ag:Hid (Gf G s (ns.take (k+1)) (some ⟨b,0,none⟩) y x r):=by
     show Gf _ _ _ _ _ _ _;rw[Da Q];exact .inr ⟨_,b,rfl,q,rfl,Y,Z⟩
    have m:Hid (F8 G (Ds [] (ns.take (k+1)))=0):=by
     show _=_;rw[Da Q];rcases ad with e|ha
     ·rw[e];rfl
     ·by_cases l:ns.take k=[]
      ·rw[l];rfl
      ·exact Rn l (Da J) ha rfl
    have h:FH K _ _ _:=(M.block _ f.lt).trans f;have al:FH K _ _ _:=(M.block _ c.lt).trans c;have ap:w.heap.size+1<K.heap.size:=h.lt;have ai:Bw w K:=j.trans (M.mono j.size);clear ab aa Y Z ad b0 b1 b2 b3 b4 g0 g1 g2 g3 g4 R S T L U f0 f1 f2 f3 f4;have R:=h.cell 0;have S:=h.cell 1;have T:=h.cell 2;have L:=h.cell 3;have U:=h.cell 4;have f0:=h.frozen 0;have f1:=h.frozen 1;have f2:=h.frozen 2;have f3:=h.frozen 3;have f4:=h.frozen 4;go_wp2
    go_roundw
    case rel=>
     refine⟨k+1,by omega,by go_num,some ⟨b,0,none⟩,y,x,r,Da ag,Da m,?_,?_,?_⟩
     ·exact FH.alloc (JN h (.pointer (some ⟨b,0,none⟩)) (.string y) (.bool x) (.pointer r.p) (.int .i64 r.f)) _
     ·exact FH.alloc (Lu al (by omega) (.pointer (some ⟨b,0,none⟩)) (.string y) (.bool x) (.pointer r.p) (.int .i64 r.f)) _
     ·have h5:=J0 ai (EB _) (.pointer (some ⟨b,0,none⟩)) (.string y) (.bool x) (.pointer r.p) (.int .i64 r.f);exact h5.alloc h5.size _
    case measure=>simp[intOf];omega
  ·obtain rfl:k=ns.length:=by omega
   go_wp2;have a:=JN c (.pointer d) (.string n) (.bool t) (.pointer u.p) (.int .i64 u.f);have C:=a.cell 0;have D:=a.cell 1;have F:=a.cell 2;have H:=a.cell 3;have I:=a.cell 4;have z:=Da J;have B:=Da P;rw[BN]at z B;exact Aq (v := .tuple #[Dn d n t u,.int .i64 0]) (by simp[results,Tryz.results227,go_sem,C,D,F,H,I,Dn]) rfl
    ⟨.inr ⟨z,d,n,t,u,B,rfl⟩,J0 j (Aa _) _ _ _ _ _⟩
def Gk(w:World):Prop:=(∃m,w.cell? ⟨0,0,none⟩=some (.int .i64 m))/\∀t R,FH w 0 t R->t=3
def Dd(s:By):LV:=s.data.toList.map (fun b => .int .u8 (b.toNat:Int))
structure TW(w:World)(tb rd:Nat)(V:NV)(E:NS)(vi:Value)(G:Gh)(I:LF)(C:IB):Prop where
 pk:Gk w
 t:FH w tb 214 [.pointer (some ⟨rd,0,none⟩),vi]
 d:F3 w G rd V E
 i:Sl w 293 3 vi I.length (Dm I)
 si:F5 I
 dat:∀x∈I,Sl w 5 1 (.slice x.2.a x.2.l x.2.c) x.2.l (Dd (C x.1))
 lo:tb<=rd+1/\∀g,vi.ownBlock=some g->rd<=g
theorem Gk.fr{X:Nat->Prop}{w w':World}(h:Gk w)(f:Fr X w w')(e:¬X 0):Gk w':=by
 obtain⟨⟨m,c⟩,g⟩:=h;have d:0<w.heap.size:=Al _ _ c;have b:=f.block 0 d e;refine⟨⟨m,?_⟩,fun t R a=>g t R ?_⟩
 ·rw[<-c];unfold World.cell?;rw[b]
 ·unfold FH at a ⊢;rw[<-b];exact a
theorem TW.fr{X:Nat->Prop}{w w':World}{tb i:Nat}{V:NV}{E:NS}{j:Value}{G:Gh}{I:LF}{C:IB}(h:TW w tb i V E j G I C)(c:Fr X w w')(l:¬X 0)
  (b:∀k t R,X k->FH w k t R->t≠214/\t≠229/\t≠310/\t≠293/\t≠5):TW w' tb i V E j G I C:=
 ⟨h.pk.fr c l,h.t.fr c (fun e=>(b _ _ _ e h.t).1 rfl),h.d.fr c (fun k t R e a=>⟨(b k t R e a).2.1,(b k t R e a).2.2.1⟩),
  h.i.fr c (fun g d e=>by obtain⟨R,a⟩:=h.i.type d;exact(b _ _ _ e a).2.2.2.1 rfl),h.si,
  fun x f=>(h.dat x f).fr c (fun g d e=>by obtain⟨R,a⟩:=(h.dat x f).type d;exact(b _ _ _ e a).2.2.2.2 rfl),h.lo⟩
theorem TW.dlo{w:World}{tb a:Nat}{V:NV}{E:NS}{f:Value}{G:Gh}{I:LF}{C:IB}(h:TW w tb a V E f G I C){ns:LY}{b:Nat}(d:FI G a ns b):tb<=b+1/\∀g,(V b).ownBlock=some g->tb<=g+1:=by
 have h1:=h.lo.1;have c:=h.d.lo ns b d;exact⟨by omega,fun g e=>by have:=c.2 g e;omega⟩
theorem TW.below{w w':World}{tb a:Nat}{V:NV}{E:NS}{b:Value}{G:Gh}{I:LF}{C:IB}(h:TW w tb a V E b G I C){B:Nat}(d:Below B w w')(c:w.heap.size<=B):TW w' tb a V E b G I C:=
 h.fr (X:=fun _=>False) (Fr.of_below (d.mono c)) id (fun _ _ _ e=>e.elim)
def D2(G:Gh)(p:By)(fits:Bool):Int:=if Df p=false then 1 else if fits=false then 2 else F8 G (Ds [] (Dc p))
def Ws(G:Gh)(rd:Nat)(p:By)(fits:Bool)(w:World)(e:Ending)(w':World):Prop:=
 ((D2 G p fits≠0/\e = .returned (.tuple #[DE,.int .i64 (D2 G p fits)]))\/
  (D2 G p fits=0/\Df p=true/\∃d n t u,Gf G rd (Dc p) d n t u/\e = .returned (.tuple #[Dn d n t u,.int .i64 0])))/\Bw w w'
theorem QB{p:By}(h:Df p=true):(Dc p).length<=6:=by
 cases hr:(p.toList==[47]) with
 | true=>rw[Q3 hr];exact Aw _
 | false=>exact(Qx h hr).2.2.2
theorem Vs(w:World)(tb P:Nat)(V:NV)(E:NS)(vi:Value)(G:Gh)(I:LF)(C:IB)(h:TW w tb P V E vi G I C)(hG:F0 G)(ae:G.length<=10000)(p:By)(hp:p.size<=2000000)(y:Bool):
  Cl 184 #[.pointer (some ⟨tb,0,none⟩),.string p,.bool y] w (Ws G P p y w):=by
 obtain⟨m,X⟩:=h.pk.1;have h0:0<w.heap.size:=Al _ _ X;have N:∀o,Bw w (w.alloc o):=fun o=>(Ag _ _).alloc (Aa _) o
 have Y:=fun o=>VN p m (w.alloc o) hp (((N o).cell (p:=⟨0,0,none⟩) h0).trans X)
 have Z:=Jj w [.pointer none,.string ⟨#[]⟩,.bool false,.pointer none,.int .i64 0] 262;have ac:=Db Z;clear Z;go_enter Tryz.func184,Tryz.ntmps184;go_wp2_with fail;refine(Y _).mono ?_;rintro e w1 ⟨O,R⟩;have x:Bw w w1:=(N _).trans (R.mono (by simp));have b:FH w1 w.heap.size 262 _:=(R.block _ (by simp)).trans (Da ac);have HH:=Db h;clear Y N h;rcases O with⟨j,rfl⟩|⟨j,a,c,rfl,af⟩
 ·have i:Hid (D2 G p y=1):=by show _=_;unfold D2;rw[if_pos j]
  have H:=b.frozen 0;have J:=b.frozen 1;have K:=b.frozen 2;have L:=b.frozen 3;have M:=b.frozen 4;have z:=b.cell 0;have A:=b.cell 1;have B:=b.cell 2;have D:=b.cell 3;have F:=b.cell 4;clear j;go_wp2;have f:=JN b (.pointer none) (.string ⟨#[]⟩) (.bool false) (.pointer none) (.int .i64 0);have k:=f.cell 0;have l:=f.cell 1;have q:=f.cell 2;have r:=f.cell 3;have s:=f.cell 4;exact Aq (v := .tuple #[DE,.int .i64 1]) (by simp[results,Tryz.results184,go_sem,k,l,q,r,s,DE,Dn]) rfl
   ⟨.inl ⟨by rw[Da i];decide,by rw[Da i]⟩,J0 x (Aa _) _ _ _ _ _⟩
 ·have H:=b.frozen 0;have J:=b.frozen 1;have K:=b.frozen 2;have L:=b.frozen 3;have M:=b.frozen 4;have z:=b.cell 0;have A:=b.cell 1;have B:=b.cell 2;have D:=b.cell 3;have F:=b.cell 4
  cases y with
  | false=>
   have i:Hid (D2 G p false=2):=by show _=_;unfold D2;rw[if_neg (by rw[j];simp),if_pos rfl]
   clear j;go_wp2;have f:=JN b (.pointer none) (.string ⟨#[]⟩) (.bool false) (.pointer none) (.int .i64 0);have k:=f.cell 0;have l:=f.cell 1;have q:=f.cell 2;have r:=f.cell 3;have s:=f.cell 4;exact Aq (v := .tuple #[DE,.int .i64 2]) (by simp[results,Tryz.results184,go_sem,k,l,q,r,s,DE,Dn]) rfl
    ⟨.inl ⟨by rw[Da i];decide,by rw[Da i]⟩,J0 x (Aa _) _ _ _ _ _⟩
  | true=>
   have i:Hid (D2 G p true=F8 G (Ds [] (Dc p))):=by show _=_;unfold D2;rw[if_neg (by rw[j];simp),if_neg (by simp)]
   have Q:=(Da HH).below x (Aa _);have W:=Vo w1 tb P V E vi G hG ae Q.t Q.d (Dc p) (QB j) a c af;have HN:=Db j;clear j;go_wp2_with fail;refine W.mono ?_;rintro e w2 ⟨O,S⟩;have g:FH w2 w.heap.size 262 _:=(S.block _ b.lt).trans b;have T:Bw w w2:=x.trans (S.mono x.size);clear W H J K L M z A B D F;have H:=g.frozen 0;have J:=g.frozen 1;have K:=g.frozen 2;have L:=g.frozen 3;have M:=g.frozen 4;have z:=g.cell 0;have A:=g.cell 1;have B:=g.cell 2;have D:=g.cell 3;have F:=g.cell 4;rcases O with⟨ag,rfl⟩|⟨U,d,n,t,u,aa,rfl⟩
   ·unfold DE Dn;go_wp2;have f:=JN g (.pointer none) (.string ⟨#[]⟩) (.bool false) (.pointer none) (.int .i64 0);have k:=f.cell 0;have l:=f.cell 1;have q:=f.cell 2;have r:=f.cell 3;have s:=f.cell 4;exact Aq (v := .tuple #[DE,.int .i64 (F8 G (Ds [] (Dc p)))]) (by simp[results,Tryz.results184,go_sem,k,l,q,r,s,DE,Dn]) rfl
     ⟨.inl ⟨by rw[Da i];exact ag,by rw[Da i]⟩,J0 T (Aa _) _ _ _ _ _⟩
   ·have ad:=Db aa;have ab:=Db U;clear aa U;unfold Dn;go_wp2;have f:=JN g (.pointer d) (.string n) (.bool t) (.pointer u.p) (.int .i64 u.f);have k:=f.cell 0;have l:=f.cell 1;have q:=f.cell 2;have r:=f.cell 3;have s:=f.cell 4;exact Aq (v := .tuple #[Dn d n t u,.int .i64 0]) (by simp[results,Tryz.results184,go_sem,k,l,q,r,s,Dn]) rfl
     ⟨.inr ⟨(Da i).trans (Da ab),Da HN,d,n,t,u,Da ad,rfl⟩,J0 T (Aa _) _ _ _ _ _⟩
def GB(G:Gh)(p:By):Int:=if D2 G p true≠0 then D2 G p true else if Dc p≠[]/\FQ G (Dc p)=none then 3 else 0
def Yv(G:Gh)(rd:Nat)(p:By)(w:World)(e:Ending)(w':World):Prop:=
 ((GB G p≠0/\e = .returned (.tuple #[DE,.int .i64 (GB G p)]))\/
  (GB G p=0/\Df p=true/\∃d n u,Gf G rd (Dc p) d n true u/\e = .returned (.tuple #[Dn d n true u,.int .i64 0])))/\Bw w w'
theorem VC{G:Gh}{b:Nat}{ns:LY}{d:OA}{n:By}{t:Bool}{u:VS}(h:Gf G b ns d n t u):(t=false↔ns≠[]/\FQ G ns=none):=by
 rcases h with⟨rfl,_,_,rfl,_⟩|⟨a,db,rfl,_,_,rfl,_⟩
 ·simp
 ·cases FQ G (a++[n])<;>simp
theorem De(w1:World)(L:LV)(t:TypeId):∃W,w1.alloc (.cells L.toArray t)=W/\FH W w1.heap.size t L/\(∀b t' R,FH w1 b t' R->FH W b t' R)/\W.heap.size=w1.heap.size+1/\Bw w1 W:=
 ⟨_,rfl,Jj w1 L t,fun _ _ _ h=>h.alloc _,by simp,(Ag _ _).alloc (Aa _) _⟩
abbrev Qs:LV:=[.pointer none,.string ⟨#[]⟩,.bool false,.pointer none,.int .i64 0]
abbrev Ji(d:OA)(n:By)(t:Bool)(u:VS):LV:=[.pointer d,.string n,.bool t,.pointer u.p,.int .i64 u.f]
theorem PD(w:World)(tb J:Nat)(V:NV)(E:NS)(N:Value)(G:Gh)(I:LF)(C:IB)(h:TW w tb J V E N G I C)(hG:F0 G)(aa:G.length<=10000)(p:By)(hp:p.size<=2000000):
  Cl 177 #[.pointer (some ⟨tb,0,none⟩),.string p] w (Yv G J p w):=by
 have D:∀o,Bw w (w.alloc o):=fun o=>(Ag _ _).alloc (Aa _) o
 have L:=fun o=>Vs (w.alloc o) tb J V E N G I C (h.below (D o) (Aa _)) hG aa p hp true
 have K:=Db (Jj w Qs 262);go_enter Tryz.func177,Tryz.ntmps177;go_wp2_with fail;refine(L _).mono ?_;rintro e w1 ⟨ac,F⟩;have g:Bw w w1:=(D _).trans (F.mono (by simp));have l:FH w1 w.heap.size 262 Qs:=(F.block _ (by simp)).trans (Da K);have ae:w.heap.size<w1.heap.size:=l.lt;clear L D h F K;rcases ac with⟨A,rfl⟩|⟨z,M,d,n,t,u,H,rfl⟩
 ·have f:Hid (GB G p=D2 G p true):=by show _=_;unfold GB;rw[if_pos A]
  have O:=Db A;have ab:(D2 G p true==0)=false:=by simpa using A
  clear A;unfold DE Dn;go_upto_if 20 with fail;obtain⟨W,i,c,k,ad,j⟩:=De w1 Qs 262;have a:=k _ _ _ l;have y:Bw w W:=g.trans (j.mono g.size);rw[i];clear i l g ab k j;have R:=c.cell 0;have S:=c.cell 1;have T:=c.cell 2;have U:=c.cell 3;have X:=c.cell 4;have Y:=a.cell 0;have Z:=a.cell 1;have b2:=a.cell 2;have b3:=a.cell 3;have b4:=a.cell 4;have g0:=a.frozen 0;have g1:=a.frozen 1;have g2:=a.frozen 2;have g3:=a.frozen 3;have g4:=a.frozen 4;go_wp2;have b:=JN a (.pointer none) (.string ⟨#[]⟩) (.bool false) (.pointer none) (.int .i64 0);have m:=b.cell 0;have q:=b.cell 1;have r:=b.cell 2;have s:=b.cell 3;have x:=b.cell 4;exact Aq (v := .tuple #[DE,.int .i64 (D2 G p true)]) (by simp[results,Tryz.results177,go_sem,m,q,r,s,x,DE,Dn]) rfl
   ⟨.inl ⟨by rw[Da f];exact Da O,by rw[Da f]⟩,J0 y (Aa _) _ _ _ _ _⟩
 ·have Q:=Db H;have P:=Db M;have B:=VC H;unfold Dn;go_upto_if 20 with fail;obtain⟨W,i,c,k,ad,j⟩:=De w1 (Ji d n t u) 262;have a:=k _ _ _ l;have y:Bw w W:=g.trans (j.mono g.size);rw[i];clear i l g k j H M;have R:=c.cell 0;have S:=c.cell 1;have T:=c.cell 2;have U:=c.cell 3;have X:=c.cell 4;have Y:=a.cell 0;have Z:=a.cell 1;have b2:=a.cell 2;have b3:=a.cell 3;have b4:=a.cell 4;have g0:=a.frozen 0;have g1:=a.frozen 1;have g2:=a.frozen 2;have g3:=a.frozen 3;have g4:=a.frozen 4
  cases t with
  | false=>
   have f:Hid (GB G p=3):=by show _=_;unfold GB;rw[if_neg (by simpa using z),if_pos (B.1 rfl)]
   clear z B;go_wp2;have b:=JN a (.pointer none) (.string ⟨#[]⟩) (.bool false) (.pointer none) (.int .i64 0);have m:=b.cell 0;have q:=b.cell 1;have r:=b.cell 2;have s:=b.cell 3;have x:=b.cell 4;exact Aq (v := .tuple #[DE,.int .i64 3]) (by simp[results,Tryz.results177,go_sem,m,q,r,s,x,DE,Dn]) rfl
    ⟨.inl ⟨by rw[Da f];decide,by rw[Da f]⟩,J0 y (Aa _) _ _ _ _ _⟩
  | true=>
   have f:Hid (GB G p=0):=by show _=_;unfold GB;rw[if_neg (by simpa using z),if_neg (fun h=>by have:=B.2 h;cases this)]
   clear z B;go_wp2;have b:=JN a (.pointer d) (.string n) (.bool true) (.pointer u.p) (.int .i64 u.f);have m:=b.cell 0;have q:=b.cell 1;have r:=b.cell 2;have s:=b.cell 3;have x:=b.cell 4;exact Aq (v := .tuple #[Dn d n true u,.int .i64 0]) (by simp[results,Tryz.results177,go_sem,m,q,r,s,x,Dn]) rfl
    ⟨.inr ⟨Da f,Da P,d,n,u,Da Q,rfl⟩,J0 y (Aa _) _ _ _ _ _⟩
def DU(G:Gh)(ns:LY):Int:=if F8 G (Ds [] ns)≠0 then F8 G (Ds [] ns) else if ns=[]\/(FQ G ns).isSome=true then 6 else 0
def Wr(G:Gh)(rd:Nat)(ns:LY)(w:World)(e:Ending)(w':World):Prop:=
 ((DU G ns≠0/\e = .returned (.tuple #[DE,.int .i64 (DU G ns)]))\/
  (DU G ns=0/\∃ds n db,ns=ds++[n]/\FI G rd ds db/\FQ G ns=none/\e = .returned (.tuple #[Dn (some ⟨db,0,none⟩) n false ⟨none,0⟩,.int .i64 0])))/\Bw w w'
theorem XW(w:World)(tb K:Nat)(V:NV)(E:NS)(Y:Value)(G:Gh)(I:LF)(C:IB)(h:TW w tb K V E Y G I C)(hG:F0 G)(ac:G.length<=10000)
  (ns:LY) (ad:ns.length<=6) (L:OA) (M:Nat) (U:Sl w 9 1 (.slice L ns.length M) ns.length (ns.map .string)):
  Cl 191 #[.pointer (some ⟨tb,0,none⟩),.slice L ns.length M] w (Wr G K ns w):=by
 have q:∀o,Bw w (w.alloc o):=fun o=>(Ag _ _).alloc (Aa _) o
 have X:=fun o=>Vo (w.alloc o) tb K V E Y G hG ac (h.below (q o) (Aa _)).t (h.below (q o) (Aa _)).d ns ad L M (U.kept (fun k g _=>(q o).block k g))
 have S:=Db (Jj w Qs 262);go_enter Tryz.func191,Tryz.ntmps191;go_wp2_with fail;refine(X _).mono ?_;rintro e w1 ⟨ae,Q⟩;have l:Bw w w1:=(q _).trans (Q.mono (by simp));have s:FH w1 w.heap.size 262 Qs:=(Q.block _ (by simp)).trans (Da S);have ag:w.heap.size<w1.heap.size:=s.lt;clear X q h Q S U;rcases ae with⟨c,rfl⟩|⟨H,d,n,t,u,R,rfl⟩
 ·have f:Hid (DU G ns=F8 G (Ds [] ns)):=by show _=_;unfold DU;rw[if_pos c]
  have aa:=Db c;have ah:(F8 G (Ds [] ns) != 0)=true:=by simpa using c
  clear c;unfold DE Dn;go_upto_if 15 with fail;obtain⟨W,p,m,g,af,r⟩:=De w1 Qs 262;have a:=g _ _ _ s;have F:Bw w W:=l.trans (r.mono l.size);rw[p];clear p s l g r;have b0:=a.cell 0;have b1:=a.cell 1;have b2:=a.cell 2;have b3:=a.cell 3;have b4:=a.cell 4;have g0:=a.frozen 0;have g1:=a.frozen 1;have g2:=a.frozen 2;have g3:=a.frozen 3;have g4:=a.frozen 4;go_wp2;have b:=JN a (.pointer none) (.string ⟨#[]⟩) (.bool false) (.pointer none) (.int .i64 0);have x:=b.cell 0;have y:=b.cell 1;have z:=b.cell 2;have A:=b.cell 3;have B:=b.cell 4;exact Aq (v := .tuple #[DE,.int .i64 (F8 G (Ds [] ns))]) (by simp[results,Tryz.results191,go_sem,x,y,z,A,B,DE,Dn]) rfl
   ⟨.inl ⟨by rw[Da f];exact Da aa,by rw[Da f]⟩,J0 F (Aa _) _ _ _ _ _⟩
 ·have ab:=Db R;have J:=VC R;unfold Dn;go_upto_if 15 with fail;obtain⟨W,p,m,g,af,r⟩:=De w1 (Ji d n t u) 262;have a:=g _ _ _ s;have F:Bw w W:=l.trans (r.mono l.size);rw[p];clear p s l g r R;have a0:=m.cell 0;have a1:=m.cell 1;have a2:=m.cell 2;have a3:=m.cell 3;have a4:=m.cell 4;have b0:=a.cell 0;have b1:=a.cell 1;have b2:=a.cell 2;have b3:=a.cell 3;have b4:=a.cell 4;have g0:=a.frozen 0;have g1:=a.frozen 1;have g2:=a.frozen 2;have g3:=a.frozen 3;have g4:=a.frozen 4
  cases t with
  | true=>
   have f:Hid (DU G ns=6):=by
    show _=_;unfold DU;rw[if_neg (by simpa using H),if_pos];by_cases T:ns=[]
    ·exact .inl T
    ·refine .inr ?_
     cases ha:FQ G ns with
     | none=>have:=J.2 ⟨T,ha⟩;cases this
     | some u=>rfl
   clear H J;go_wp2;have b:=JN a (.pointer none) (.string ⟨#[]⟩) (.bool false) (.pointer none) (.int .i64 0);have x:=b.cell 0;have y:=b.cell 1;have z:=b.cell 2;have A:=b.cell 3;have B:=b.cell 4;exact Aq (v := .tuple #[DE,.int .i64 6]) (by simp[results,Tryz.results191,go_sem,x,y,z,A,B,DE,Dn]) rfl
    ⟨.inl ⟨by rw[Da f];decide,by rw[Da f]⟩,J0 F (Aa _) _ _ _ _ _⟩
  | false=>
   obtain⟨c,D⟩:=J.1 rfl;have f:Hid (DU G ns=0):=by show _=_;unfold DU;rw[if_neg (by simpa using H),if_neg (fun h=>by rcases h with h|h;exact c h;rw[D]at h;cases h)]
   have Z:=Db D;have HX:Hid (∃j i,ns=j++[n]/\FI G K j i/\d=some ⟨i,0,none⟩/\u=⟨none,0⟩):=by
    rcases Da ab with⟨rfl,_⟩|⟨j,i,N,O,P,_,h5⟩
    ·exact absurd rfl c
    ·exact⟨j,i,N,O,P,by rw[h5,D];rfl⟩
   clear H J c D;go_wp2;have b:=JN a (.pointer d) (.string n) (.bool false) (.pointer u.p) (.int .i64 u.f);have x:=b.cell 0;have y:=b.cell 1;have z:=b.cell 2;have A:=b.cell 3;have B:=b.cell 4;obtain⟨j,i,N,O,P,h4⟩:=Da HX;exact Aq (v := .tuple #[Dn d n false u,.int .i64 0]) (by simp[results,Tryz.results191,go_sem,x,y,z,A,B,Dn]) rfl
    ⟨.inr ⟨Da f,j,n,i,N,O,Da Z,by rw[P,h4]⟩,J0 F (Aa _) _ _ _ _ _⟩
theorem Zb(d:OA)(n:By)(t:Bool)(u:VS)(w:World):Cl 188 #[Dn d n t u] w fun e w'=>e = .returned (if t=false then .tuple #[.int .i64 0,.int .i64 3] else if u.p.isSome=true then .tuple #[.int .i64 0,.int .i64 5] else .tuple #[.int .i64 u.f,.int .i64 0])/\Bw w w':=by
 obtain⟨p,f⟩:=u;unfold Dn;have b:∀o,Bw w (w.alloc o):=fun o=>(Ag _ _).alloc (Aa _) o
 cases t with
 | false=>
  go_enter Tryz.func188,Tryz.ntmps188;go_wp2
  go_ret2
  exact⟨rfl,b _⟩
 | true=>
  cases p with
  | none=>
   go_enter Tryz.func188,Tryz.ntmps188;go_wp2
   go_ret2
   exact⟨rfl,b _⟩
  | some a=>
   go_enter Tryz.func188,Tryz.ntmps188;go_wp2
   go_ret2
   exact⟨rfl,b _⟩
def FR(G:Gh)(p:By)(fits:Bool):Int:=if D2 G p fits≠0 then D2 G p fits else if Dc p=[] then 5 else match FQ G (Dc p) with|none=>3|some u=>if u.p.isSome=true then 5 else 0
def S7(G:Gh)(p:By)(fits:Bool)(w:World)(e:Ending)(w':World):Prop:=
 ((FR G p fits≠0/\e = .returned (.tuple #[.int .i64 0,.int .i64 (FR G p fits)]))\/
  (FR G p fits=0/\Df p=true/\∃u,FQ G (Dc p)=some u/\u.p=none/\e = .returned (.tuple #[.int .i64 u.f,.int .i64 0])))/\Bw w w'
theorem ZL{G:Gh}{c:Nat}{ns:LY}{d:OA}{n:By}{t:Bool}{u:VS}(h:Gf G c ns d n t u):
  (t=false/\ns≠[]/\FQ G ns=none)\/(t=true/\u.p.isSome=true/\(ns=[]\/(ns≠[]/\FQ G ns=some u)))\/(t=true/\u.p=none/\ns≠[]/\FQ G ns=some u):=by
 rcases h with⟨rfl,_,_,rfl,rfl⟩|⟨b,db,rfl,_,_,rfl,rfl⟩
 ·exact .inr (.inl ⟨rfl,rfl,.inl rfl⟩)
 ·cases ha:FQ G (b++[n]) with
  | none=>exact .inl ⟨rfl,by simp,rfl⟩
  | some u=>
   cases hu:u.p with
   | none=>exact .inr (.inr ⟨rfl,by simpa using hu,by simp,rfl⟩)
   | some a=>exact .inr (.inl ⟨rfl,by simp[hu],.inr ⟨by simp,rfl⟩⟩)
theorem ZhN(w:World)(tb B:Nat)(V:NV)(E:NS)(D:Value)(G:Gh)(I:LF)(C:IB)(h:TW w tb B V E D G I C)(L:F0 G)(M:G.length<=10000)(p:By)(Q:p.size<=2000000)(a:Bool):
  Cl 174 #[.pointer (some ⟨tb,0,none⟩),.string p,.bool a] w (S7 G p a w):=by
 have r:=Vs w tb B V E D G I C h L M p Q a;go_enter Tryz.func174,Tryz.ntmps174;go_wp2_with fail;refine r.mono ?_;rintro e w1 ⟨R,f⟩;clear r h;rcases R with⟨j,rfl⟩|⟨i,s,d,n,t,u,z,rfl⟩
 ·have l:Hid (FR G p a=D2 G p a):=by show _=_;unfold FR;rw[if_pos j]
  have H:=Db j;have aa:(D2 G p a != 0)=true:=by simpa using j
  clear j;unfold DE Dn;go_wp2
  go_ret2
  exact⟨.inl ⟨by rw[Da l];exact Da H,by rw[Da l];rfl⟩,f.alloc f.size _⟩
 ·have J:=Db s;have v:=ZL z;have q:=fun W=>Zb d n t u W
  have m:=Db q;have o:Hid (∀W,Bw w W->S7 G p a w (.returned (if t=false then .tuple #[.int .i64 0,.int .i64 3] else if u.p.isSome=true then .tuple #[.int .i64 0,.int .i64 5] else .tuple #[.int .i64 u.f,.int .i64 0])) W):=by
   intro W N;refine⟨?_,N⟩;rcases v with⟨rfl,c,b⟩|⟨rfl,c,b⟩|⟨rfl,c,b,g⟩
   ·have:FR G p a=3:=by unfold FR;rw[if_neg (by simpa using i),if_neg c,b]
    exact .inl ⟨by rw[this];decide,by rw[this];rfl⟩
   ·have:FR G p a=5:=by
     unfold FR;rw[if_neg (by simpa using i)];rcases b with b|⟨b,g⟩
     ·rw[if_pos b]
     ·rw[if_neg b,g];simp[c]
    exact .inl ⟨by rw[this];decide,by rw[this,if_neg (by simp),if_pos c]⟩
   ·have:FR G p a=0:=by unfold FR;rw[if_neg (by simpa using i),if_neg b,g];simp[c]
    exact .inr ⟨this,Da J,u,g,c,by rw[if_neg (by simp),if_neg (by simp[c])]⟩
  clear z i s v q;unfold Dn;go_wp2_with fail;refine(Da m _).mono ?_;rintro e F ⟨rfl,O⟩;have P:Bw w F:=(f.alloc f.size _).trans (O.mono (by have:=f.size;simp;omega));have k:=Da o F P;obtain⟨x,y,A⟩:∃x y,(if t=false then Value.tuple #[.int .i64 0,.int .i64 3] else if u.p.isSome=true then .tuple #[.int .i64 0,.int .i64 5] else .tuple #[.int .i64 u.f,.int .i64 0]) = .tuple #[.int .i64 x,.int .i64 y]:=by
   split
   ·exact⟨_,_,rfl⟩
   ·split<;>exact⟨_,_,rfl⟩
  rw[A]at k ⊢;have K:=Db k;clear k A o m;go_wp2
  go_ret2
  exact Da K
end Go.Proofs.YtaieidcohdhgpaaGreatDoor
