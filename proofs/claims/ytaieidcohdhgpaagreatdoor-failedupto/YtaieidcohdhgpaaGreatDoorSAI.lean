/- Failed. -/
import Derived.Test.YtaieidcohdhgpaaGreatDoorSAH
namespace Go.Proofs.YtaieidcohdhgpaaGreatDoor
set_option maxHeartbeats 40000000
set_option maxRecDepth 100000
open Go.RowKit
theorem ZdO:∀(d xs:LY) (y:By) (ys:LY),xs≠[]->D8 d (xs++y::ys)=D8 d xs++(d++xs)::D8 (d++xs) (y::ys)
 | d,[],y,ys,h=>absurd rfl h
 | d,[x],y,ys,_=>by simp[D8]
 | d,x::x'::xs,y,ys,_=>by
  have:=ZdO (d++[x]) (x'::xs) y ys (by simp);rw[List.cons_append,List.cons_append,D8,D8,<-List.cons_append,this];simp
theorem UJ(G:Gh):∀(A B:List (LY)),ahG G A=0->ahG G (A++B)=ahG G B
 | [],B,_=>rfl
 | q::A,B,h=>by
  rw[List.cons_append,ahG];rw[ahG]at h
  cases hq:atG G q with
  | none=>rw[hq]at h;simp at h
  | some u=>
   rw[hq]at h;by_cases a:u.p.isSome=true
   ·simp only[a,if_true]at h ⊢;exact UJ G A B h
   ·simp[a]at h
theorem ZoR{G:Gh}{xs:LY}{y:By}{a:LY}(c:xs≠[])(b:ahG G (D8 [] xs)=0)(h:atG G xs=none):ahG G (D8 [] (xs++y::a))=3:=by
 rw[ZdO [] xs y a c,UJ G _ _ b,ahG,List.nil_append,h]
theorem ZoS{G:Gh}{xs:LY}{y:By}{a:LY}{u:VS}(c:xs≠[])(b:ahG G (D8 [] xs)=0)(h:atG G xs=some u)(d:u.p=none):ahG G (D8 [] (xs++y::a))=4:=by
 rw[ZdO [] xs y a c,UJ G _ _ b,ahG,List.nil_append,h];simp[d]
theorem ah_dir{G:Gh}{xs:LY}{y:By}{u:VS}(b:xs≠[])(a:ahG G (D8 [] xs)=0)(h:atG G xs=some u)(c:u.p.isSome=true):ahG G (D8 [] (xs++[y]))=0:=by
 rw[ZdO [] xs y [] b,UJ G _ _ a,ahG,List.nil_append,h];simp[c,D8,ahG]
def Dl(d:OA)(name:By)(there:Bool)(u:VS):Value := .agg #[.pointer d,.string name,.bool there,.pointer u.p,.int .i64 u.f]
def DD:Value:=Dl none ⟨#[]⟩ false ⟨none,0⟩
def SpotIs(G:Gh)(rd:Nat)(ns:LY)(d:OA)(name:By)(there:Bool)(u:VS):Prop:=
 (ns=[]/\d=none/\name=⟨#[]⟩/\there=true/\u=⟨some ⟨rd,0,none⟩,0⟩)\/
 ∃ds db,ns=ds++[name]/\IsDir G rd ds db/\d=some ⟨db,0,none⟩/\there=(atG G ns).isSome/\u=(atG G ns).getD ⟨none,0⟩
def ZoY(G:Gh)(rd:Nat)(ns:LY)(w:World)(e:Ending)(w':World):Prop:=
 ((ahG G (D8 [] ns)≠0/\e = .returned (.tuple #[DD,.int .i64 (ahG G (D8 [] ns))]))\/
  (ahG G (D8 [] ns)=0/\∃d n t u,SpotIs G rd ns d n t u/\e = .returned (.tuple #[Dl d n t u,.int .i64 0])))/\Below w.heap.size w w'
theorem EnOk.at{G:Gh}(d:GOk G){a:LY}{es:LS}(c:EnOk G a es){n:By}{r:VS}{b:Bool}(e:ZnQ es n r b):b=(atG G (a++[n])).isSome/\r=(atG G (a++[n])).getD ⟨none,0⟩:=by
 rcases e with⟨rfl,f⟩|⟨rfl,rfl,g⟩
 ·rw[KX d.nd ((c n r).1 f)];exact⟨rfl,rfl⟩
 ·cases ha:atG G (a++[n]) with
  | none=>exact⟨rfl,rfl⟩
  | some u=>exact absurd rfl (g (n,u) ((c n u).2 (KT ha)))
theorem ZcW{w:World}{G:Gh}{a:Nat}{V:NV}{E:NS}(g:DirW w G a V E){xs:LY}{d:OA}{n:By}{t:Bool}{u:VS}(h:SpotIs G a xs d n t u):
  (t=false/\xs≠[]/\atG G xs=none)\/(t=true/\xs≠[]/\atG G xs=some u/\u.p=none)\/(t=true/\∃b,u=⟨some ⟨b,0,none⟩,0⟩/\IsDir G a xs b/\(xs=[]\/atG G xs=some u)):=by
 rcases h with⟨rfl,_,_,rfl,rfl⟩|⟨c,db,rfl,hd,rfl,rfl,rfl⟩
 ·exact .inr (.inr ⟨rfl,a,rfl,.inl ⟨rfl,rfl⟩,.inl rfl⟩)
 ·cases ha:atG G (c++[n]) with
  | none=>exact .inl ⟨rfl,by simp,rfl⟩
  | some u=>
   rcases g.shp _ (KT ha) with f|⟨b,e⟩
   ·exact .inr (.inl ⟨rfl,by simp,rfl,f⟩)
   ·simp only at e;exact .inr (.inr ⟨rfl,b,by simpa using e,.inr (by rw[<-e];exact KT ha),.inr rfl⟩)
theorem RowIs.alloc{w:World}{b:Nat}{t:TypeId}{L:LVa}(h:RowIs w b t L)(o:Obj):RowIs (w.alloc o) b t L:=(Below.heap_alloc _ _ _ h.lt).trans h
theorem Jq{w:World}{b:Nat}{t:TypeId}{g i j k l:Value}(h:RowIs w b t [g,i,j,k,l])(a c d e f:Value):
  RowIs (((((w.setCell ⟨b,0,none⟩ a).setCell ⟨b,1,none⟩ c).setCell ⟨b,2,none⟩ d).setCell ⟨b,3,none⟩ e).setCell ⟨b,4,none⟩ f) b t [a,c,d,e,f]:=by
 have:=((((h.set 0 a).set 1 c).set 2 d).set 3 e).set 4 f
 simpa using this
theorem Jy{w w1:World}{B b:Nat}(h:Below B w w1)(a:B<=b)(c d e f g:Value):Below B w (((((w1.setCell ⟨b,0,none⟩ c).setCell ⟨b,1,none⟩ d).setCell ⟨b,2,none⟩ e).setCell ⟨b,3,none⟩ f).setCell ⟨b,4,none⟩ g):=
 ((((h.setCell (p:=⟨b,0,none⟩) a _).setCell (p:=⟨b,1,none⟩) a _).setCell (p:=⟨b,2,none⟩) a _).setCell (p:=⟨b,3,none⟩) a _).setCell (p:=⟨b,4,none⟩) a _
theorem RowIs.setOther{w:World}{b:Nat}{t:TypeId}{L:LVa}(h:RowIs w b t L)(a:Addr)(u:Value)(c:a.block≠b):RowIs (w.setCell a u) b t L:=by
 unfold RowIs at h ⊢;rw[Below.heap_setCell _ _ _ _ c.symm];exact h
theorem other5{w:World}{b a:Nat}{t:TypeId}{L:LVa}(h:RowIs w b t L)(c:a≠b)(d e f g i:Value):RowIs (((((w.setCell ⟨a,0,none⟩ d).setCell ⟨a,1,none⟩ e).setCell ⟨a,2,none⟩ f).setCell ⟨a,3,none⟩ g).setCell ⟨a,4,none⟩ i) b t L:=
 ((((h.setOther ⟨a,0,none⟩ d c).setOther ⟨a,1,none⟩ e c).setOther ⟨a,2,none⟩ f c).setOther ⟨a,3,none⟩ g c).setOther ⟨a,4,none⟩ i c
def FolMid(G:Gh)(rd:Nat)(ns:LY)(w:World)(i:Value)(wr:World):Prop:=
 ∃k:Nat,k<=ns.length/\i = .int .i64 k/\∃d n t u,SpotIs G rd (ns.take k) d n t u/\ahG G (D8 [] (ns.take k))=0/\RowIs wr (w.heap.size+1) 262 [.pointer d,.string n,.bool t,.pointer u.p,.int .i64 u.f]/\
  RowIs wr w.heap.size 262 [.pointer none,.string ⟨#[]⟩,.bool false,.pointer none,.int .i64 0]/\Below w.heap.size w wr
theorem ZfC(w:World)(tb s:Nat)(V:NV)(E:NS)(vi:Value)(G:Gh)(hG:GOk G)(ah:G.length<=10000)(hT:RowIs w tb 214 [.pointer (some ⟨s,0,none⟩),vi])(hD:DirW w G s V E)
  (ns:LY) (aq:ns.length<=6) (U:OA) (W:Nat) (hN:Sl w 9 1 (.slice U ns.length W) ns.length (ns.map .string)):
  Calls Tryz.prog 227 #[.pointer (some ⟨tb,0,none⟩),.slice U ns.length W] w (ZoY G s ns w):=by
 have ao:=hT.cell 0;have ar:=hT.lt;obtain⟨am,an,e,ae⟩:=hN.rdF
 cases e
 have af:=Db ae;have o:=Db hD;clear ae hD;go_enter Tryz.func227,Tryz.ntmps227;go_wp2
 go_loopw [8,9,10,11,20] (fun _ _ _ _ i wr=>FolMid G s ns w i wr) (fun _ _ _ _ i _=>ns.length-(intOf i).toNat)
 case atStart=>
  refine⟨0,Nat.zero_le _,rfl,none,⟨#[]⟩,true,⟨some ⟨s,0,none⟩,0⟩,.inl ⟨rfl,rfl,rfl,rfl,rfl⟩,rfl,?_,?_,((Below.refl _ w).alloc (Nat.le_refl _) _).alloc (by simp) _⟩
  ·have:=Jd (w.alloc (Obj.cells #[Value.pointer none,Value.string { data := #[] },Value.bool false,Value.pointer none,Value.int IntKind.i64 0] 262)) [Value.pointer none,Value.string { data := #[] },Value.bool true,Value.pointer (some { block:=s,off:=0 }),Value.int IntKind.i64 0] 262
   simpa using this
  ·have:=Jd w [Value.pointer none,Value.string { data := #[] },Value.bool false,Value.pointer none,Value.int IntKind.i64 0] 262;exact(Below.heap_alloc _ _ _ (by simp)).trans this
 case round=>
  obtain⟨k,hk,rfl,d,n,t,u,B,z,f,c,j⟩:=hrel;have b0:=c.cell 0;have b1:=c.cell 1;have b2:=c.cell 2;have b3:=c.cell 3;have b4:=c.cell 4;have g0:=c.frozen 0;have g1:=c.frozen 1;have g2:=c.frozen 2;have g3:=c.frozen 3;have g4:=c.frozen 4;have Q:=f.cell 0;have R:=f.cell 1;have S:=f.cell 2;have K:=f.cell 3;have T:=f.cell 4;have Z:=f.frozen 0;have f1:=f.frozen 1;have f2:=f.frozen 2;have f3:=f.frozen 3;have f4:=f.frozen 4;have O:=Db B;have J:=Db z;clear B z;by_cases ac:k<ns.length
  ·obtain⟨y,M⟩:∃y,ns[k]?=some y:=⟨_,List.getElem?_eq_getElem ac⟩;obtain⟨g,rfl,q0⟩:=Da af k y M;have aj:g<w.heap.size:=hN.lt rfl;have q1:=(j.cell (p:=⟨g,k,none⟩) aj).trans q0;have P:Hid (ns.take (k+1)=ns.take k++[y]):=by show _=_;rw[List.take_add_one,M];rfl
   have N:Hid (ns=ns.take k++y::ns.drop (k+1)):=by
    show _=_;have ak:=List.getElem?_eq_some_iff.1 M;have:=(List.take_append_drop k ns).symm;rw[List.drop_eq_getElem_cons ac,ak.2]at this;exact this
   clear q0;rcases ZcW (Da o) (Da O) with⟨rfl,l,A⟩|⟨rfl,l,A,hu⟩|⟨rfl,b,rfl,q,ad⟩
   ·have m:Hid (ahG G (D8 [] ns)=3):=by show _=_;rw[Da N];exact ZoR l (Da J) A
    clear A l;go_wp2;have a:=Jq c (.pointer none) (.string ⟨#[]⟩) (.bool false) (.pointer none) (.int .i64 0);have C:=a.cell 0;have D:=a.cell 1;have F:=a.cell 2;have H:=a.cell 3;have I:=a.cell 4;exact bodyPost_ret (v := .tuple #[DD,.int .i64 3]) (by simp[results,Tryz.results227,go_sem,C,D,F,H,I,DD,Dl]) rfl
     ⟨.inl ⟨by rw[Da m];decide,by rw[Da m]⟩,Jy j (Nat.le_refl _) _ _ _ _ _⟩
   ·have m:Hid (ahG G (D8 [] ns)=4):=by show _=_;rw[Da N];exact ZoS l (Da J) A hu
    rw[hu]at K;clear A l;go_wp2;have a:=Jq c (.pointer none) (.string ⟨#[]⟩) (.bool false) (.pointer none) (.int .i64 0);have C:=a.cell 0;have D:=a.cell 1;have F:=a.cell 2;have H:=a.cell 3;have I:=a.cell 4;exact bodyPost_ret (v := .tuple #[DD,.int .i64 4]) (by simp[results,Tryz.results227,go_sem,C,D,F,H,I,DD,Dl]) rfl
     ⟨.inl ⟨by rw[Da m];decide,by rw[Da m]⟩,Jy j (Nat.le_refl _) _ _ _ _ _⟩
   ·have ab:=getS wr b 0 (V b) (E b) y (((j.cell (p:=⟨b,0,none⟩) ((Da o).row _ b q).lt)).trans (((Da o).row _ b q).cell 0)) ((((Da o).below j (Nat.le_refl _))).sl _ b q) (Nat.le_trans ((Da o).le hG q) ah) ((Da o).srt _ b q);go_wp2_with fail;refine ab.mono ?_;rintro e w2 ⟨r,x,rfl,aa,L⟩;obtain⟨X,Y⟩:=EnOk.at hG ((Da o).en _ b q) aa;have ag:Hid (SpotIs G s (ns.take (k+1)) (some ⟨b,0,none⟩) y x r):=by
     show SpotIs _ _ _ _ _ _ _;rw[Da P];exact .inr ⟨_,b,rfl,q,rfl,X,Y⟩
    have m:Hid (ahG G (D8 [] (ns.take (k+1)))=0):=by
     show _=_;rw[Da P];rcases ad with e|ha
     ·rw[e];rfl
     ·by_cases l:ns.take k=[]
      ·rw[l];rfl
      ·exact ah_dir l (Da J) ha rfl
    have h:RowIs w2 _ _ _:=(L.block _ f.lt).trans f;have al:RowIs w2 _ _ _:=(L.block _ c.lt).trans c;have ap:w.heap.size+1<w2.heap.size:=h.lt;have ai:Below w.heap.size w w2:=j.trans (L.mono j.size);clear ab aa X Y ad b0 b1 b2 b3 b4 g0 g1 g2 g3 g4 Q R S K T Z f1 f2 f3 f4;have Q:=h.cell 0;have R:=h.cell 1;have S:=h.cell 2;have K:=h.cell 3;have T:=h.cell 4;have Z:=h.frozen 0;have f1:=h.frozen 1;have f2:=h.frozen 2;have f3:=h.frozen 3;have f4:=h.frozen 4;go_wp2
    go_roundw
    case rel=>
     refine⟨k+1,by omega,by go_num,some ⟨b,0,none⟩,y,x,r,Da ag,Da m,?_,?_,?_⟩
     ·exact RowIs.alloc (Jq h (.pointer (some ⟨b,0,none⟩)) (.string y) (.bool x) (.pointer r.p) (.int .i64 r.f)) _
     ·exact RowIs.alloc (other5 al (by omega) (.pointer (some ⟨b,0,none⟩)) (.string y) (.bool x) (.pointer r.p) (.int .i64 r.f)) _
     ·have h5:=Jy ai (Nat.le_succ _) (.pointer (some ⟨b,0,none⟩)) (.string y) (.bool x) (.pointer r.p) (.int .i64 r.f);exact h5.alloc h5.size _
    case measure=>simp[intOf];omega
  ·obtain rfl:k=ns.length:=by omega
   go_wp2;have a:=Jq c (.pointer d) (.string n) (.bool t) (.pointer u.p) (.int .i64 u.f);have C:=a.cell 0;have D:=a.cell 1;have F:=a.cell 2;have H:=a.cell 3;have I:=a.cell 4;have z:=Da J;have B:=Da O;rw[List.take_length]at z B;exact bodyPost_ret (v := .tuple #[Dl d n t u,.int .i64 0]) (by simp[results,Tryz.results227,go_sem,C,D,F,H,I,Dl]) rfl
    ⟨.inr ⟨z,d,n,t,u,B,rfl⟩,Jy j (Nat.le_refl _) _ _ _ _ _⟩
def PkgOk(w:World):Prop:=(∃m,w.cell? ⟨0,0,none⟩=some (.int .i64 m))/\∀t R,RowIs w 0 t R->t=3
def Dc(s:By):LVa:=s.data.toList.map (fun b => .int .u8 (b.toNat:Int))
structure TW(w:World)(tb rd:Nat)(V:NV)(E:NS)(vi:Value)(G:Gh)(I:LF)(C:IB):Prop where
 pk:PkgOk w
 t:RowIs w tb 214 [.pointer (some ⟨rd,0,none⟩),vi]
 d:DirW w G rd V E
 i:Sl w 293 3 vi I.length (Dr I)
 si:SrtI I
 dat:∀x∈I,Sl w 5 1 (.slice x.2.a x.2.l x.2.c) x.2.l (Dc (C x.1))
 lo:tb<=rd+1/\∀g,vi.ownBlock=some g->rd<=g
theorem PkgOk.fr{X:Nat->Prop}{w w':World}(h:PkgOk w)(f:Fr X w w')(e:¬X 0):PkgOk w':=by
 obtain⟨⟨m,c⟩,g⟩:=h;have d:0<w.heap.size:=World.block_lt_of_cell? _ _ c;have b:=f.block 0 d e;refine⟨⟨m,?_⟩,fun t R a=>g t R ?_⟩
 ·rw[<-c];unfold World.cell?;rw[b]
 ·unfold RowIs at a ⊢;rw[<-b];exact a
theorem TW.fr{X:Nat->Prop}{w w':World}{tb i:Nat}{V:NV}{E:NS}{j:Value}{G:Gh}{I:LF}{C:IB}(h:TW w tb i V E j G I C)(c:Fr X w w')(l:¬X 0)
  (b:∀k t R,X k->RowIs w k t R->t≠214/\t≠229/\t≠310/\t≠293/\t≠5):TW w' tb i V E j G I C:=
 ⟨h.pk.fr c l,h.t.fr c (fun e=>(b _ _ _ e h.t).1 rfl),h.d.fr c (fun k t R e a=>⟨(b k t R e a).2.1,(b k t R e a).2.2.1⟩),
  h.i.fr c (fun g d e=>by obtain⟨R,a⟩:=h.i.type d;exact(b _ _ _ e a).2.2.2.1 rfl),h.si,
  fun x f=>(h.dat x f).fr c (fun g d e=>by obtain⟨R,a⟩:=(h.dat x f).type d;exact(b _ _ _ e a).2.2.2.2 rfl),h.lo⟩
theorem TW.dlo{w:World}{tb a:Nat}{V:NV}{E:NS}{f:Value}{G:Gh}{I:LF}{C:IB}(h:TW w tb a V E f G I C){ns:LY}{b:Nat}(d:IsDir G a ns b):tb<=b+1/\∀g,(V b).ownBlock=some g->tb<=g+1:=by
 have h1:=h.lo.1;have c:=h.d.lo ns b d;exact⟨by omega,fun g e=>by have:=c.2 g e;omega⟩
theorem TW.below{w w':World}{tb a:Nat}{V:NV}{E:NS}{b:Value}{G:Gh}{I:LF}{C:IB}(h:TW w tb a V E b G I C){B:Nat}(d:Below B w w')(c:w.heap.size<=B):TW w' tb a V E b G I C:=
 h.fr (X:=fun _=>False) (Fr.of_below (d.mono c)) id (fun _ _ _ e=>e.elim)
def DJ(G:Gh)(p:By)(fits:Bool):Int:=if DQ p=false then 1 else if fits=false then 2 else ahG G (D8 [] (Df p))
def ZoV(G:Gh)(rd:Nat)(p:By)(fits:Bool)(w:World)(e:Ending)(w':World):Prop:=
 ((DJ G p fits≠0/\e = .returned (.tuple #[DD,.int .i64 (DJ G p fits)]))\/
  (DJ G p fits=0/\DQ p=true/\∃d n t u,SpotIs G rd (Df p) d n t u/\e = .returned (.tuple #[Dl d n t u,.int .i64 0])))/\Below w.heap.size w w'
theorem ZdK{p:By}(h:DQ p=true):(Df p).length<=6:=by
 cases hr:(p.toList==[47]) with
 | true=>rw[Ui hr];exact Nat.zero_le _
 | false=>exact(Uq h hr).2.2.2
theorem Zcr(w:World)(tb P:Nat)(V:NV)(E:NS)(vi:Value)(G:Gh)(I:LF)(C:IB)(h:TW w tb P V E vi G I C)(hG:GOk G)(ae:G.length<=10000)(p:By)(hp:p.size<=2000000)(y:Bool):
  Calls Tryz.prog 184 #[.pointer (some ⟨tb,0,none⟩),.string p,.bool y] w (ZoV G P p y w):=by
 obtain⟨m,X⟩:=h.pk.1;have h0:0<w.heap.size:=World.block_lt_of_cell? _ _ X;have N:∀o,Below w.heap.size w (w.alloc o):=fun o=>(Below.refl _ _).alloc (Nat.le_refl _) o
 have Y:=fun o=>Zeh p m (w.alloc o) hp (((N o).cell (p:=⟨0,0,none⟩) h0).trans X)
 have Z:=Jd w [.pointer none,.string ⟨#[]⟩,.bool false,.pointer none,.int .i64 0] 262;have ac:=Db Z;clear Z;go_enter Tryz.func184,Tryz.ntmps184;go_wp2_with fail;refine(Y _).mono ?_;rintro e w1 ⟨O,R⟩;have x:Below w.heap.size w w1:=(N _).trans (R.mono (by simp));have b:RowIs w1 w.heap.size 262 _:=(R.block _ (by simp)).trans (Da ac);have HH:=Db h;clear Y N h;rcases O with⟨j,rfl⟩|⟨j,a,c,rfl,af⟩
 ·have i:Hid (DJ G p y=1):=by show _=_;unfold DJ;rw[if_pos j]
  have H:=b.frozen 0;have J:=b.frozen 1;have K:=b.frozen 2;have L:=b.frozen 3;have M:=b.frozen 4;have z:=b.cell 0;have A:=b.cell 1;have B:=b.cell 2;have D:=b.cell 3;have F:=b.cell 4;clear j;go_wp2;have f:=Jq b (.pointer none) (.string ⟨#[]⟩) (.bool false) (.pointer none) (.int .i64 0);have k:=f.cell 0;have l:=f.cell 1;have q:=f.cell 2;have r:=f.cell 3;have s:=f.cell 4;exact bodyPost_ret (v := .tuple #[DD,.int .i64 1]) (by simp[results,Tryz.results184,go_sem,k,l,q,r,s,DD,Dl]) rfl
   ⟨.inl ⟨by rw[Da i];decide,by rw[Da i]⟩,Jy x (Nat.le_refl _) _ _ _ _ _⟩
 ·have H:=b.frozen 0;have J:=b.frozen 1;have K:=b.frozen 2;have L:=b.frozen 3;have M:=b.frozen 4;have z:=b.cell 0;have A:=b.cell 1;have B:=b.cell 2;have D:=b.cell 3;have F:=b.cell 4
  cases y with
  | false=>
   have i:Hid (DJ G p false=2):=by show _=_;unfold DJ;rw[if_neg (by rw[j];simp),if_pos rfl]
   clear j;go_wp2;have f:=Jq b (.pointer none) (.string ⟨#[]⟩) (.bool false) (.pointer none) (.int .i64 0);have k:=f.cell 0;have l:=f.cell 1;have q:=f.cell 2;have r:=f.cell 3;have s:=f.cell 4;exact bodyPost_ret (v := .tuple #[DD,.int .i64 2]) (by simp[results,Tryz.results184,go_sem,k,l,q,r,s,DD,Dl]) rfl
    ⟨.inl ⟨by rw[Da i];decide,by rw[Da i]⟩,Jy x (Nat.le_refl _) _ _ _ _ _⟩
  | true=>
   have i:Hid (DJ G p true=ahG G (D8 [] (Df p))):=by show _=_;unfold DJ;rw[if_neg (by rw[j];simp),if_neg (by simp)]
   have Q:=(Da HH).below x (Nat.le_refl _);have W:=ZfC w1 tb P V E vi G hG ae Q.t Q.d (Df p) (ZdK j) a c af;have HN:=Db j;clear j;go_wp2_with fail;refine W.mono ?_;rintro e w2 ⟨O,S⟩;have g:RowIs w2 w.heap.size 262 _:=(S.block _ b.lt).trans b;have T:Below w.heap.size w w2:=x.trans (S.mono x.size);clear W H J K L M z A B D F;have H:=g.frozen 0;have J:=g.frozen 1;have K:=g.frozen 2;have L:=g.frozen 3;have M:=g.frozen 4;have z:=g.cell 0;have A:=g.cell 1;have B:=g.cell 2;have D:=g.cell 3;have F:=g.cell 4;rcases O with⟨ag,rfl⟩|⟨U,d,n,t,u,aa,rfl⟩
   ·unfold DD Dl;go_wp2;have f:=Jq g (.pointer none) (.string ⟨#[]⟩) (.bool false) (.pointer none) (.int .i64 0);have k:=f.cell 0;have l:=f.cell 1;have q:=f.cell 2;have r:=f.cell 3;have s:=f.cell 4;exact bodyPost_ret (v := .tuple #[DD,.int .i64 (ahG G (D8 [] (Df p)))]) (by simp[results,Tryz.results184,go_sem,k,l,q,r,s,DD,Dl]) rfl
     ⟨.inl ⟨by rw[Da i];exact ag,by rw[Da i]⟩,Jy T (Nat.le_refl _) _ _ _ _ _⟩
   ·have ad:=Db aa;have ab:=Db U;clear aa U;unfold Dl;go_wp2;have f:=Jq g (.pointer d) (.string n) (.bool t) (.pointer u.p) (.int .i64 u.f);have k:=f.cell 0;have l:=f.cell 1;have q:=f.cell 2;have r:=f.cell 3;have s:=f.cell 4;exact bodyPost_ret (v := .tuple #[Dl d n t u,.int .i64 0]) (by simp[results,Tryz.results184,go_sem,k,l,q,r,s,Dl]) rfl
     ⟨.inr ⟨(Da i).trans (Da ab),Da HN,d,n,t,u,Da ad,rfl⟩,Jy T (Nat.le_refl _) _ _ _ _ _⟩
def thE(G:Gh)(p:By):Int:=if DJ G p true≠0 then DJ G p true else if Df p≠[]/\atG G (Df p)=none then 3 else 0
def Zml(G:Gh)(rd:Nat)(p:By)(w:World)(e:Ending)(w':World):Prop:=
 ((thE G p≠0/\e = .returned (.tuple #[DD,.int .i64 (thE G p)]))\/
  (thE G p=0/\DQ p=true/\∃d n u,SpotIs G rd (Df p) d n true u/\e = .returned (.tuple #[Dl d n true u,.int .i64 0])))/\Below w.heap.size w w'
theorem Zf6{G:Gh}{b:Nat}{ns:LY}{d:OA}{n:By}{t:Bool}{u:VS}(h:SpotIs G b ns d n t u):(t=false↔ns≠[]/\atG G ns=none):=by
 rcases h with⟨rfl,_,_,rfl,_⟩|⟨a,db,rfl,_,_,rfl,_⟩
 ·simp
 ·cases atG G (a++[n])<;>simp
theorem De(w1:World)(L:LVa)(t:TypeId):∃W,w1.alloc (.cells L.toArray t)=W/\RowIs W w1.heap.size t L/\(∀b t' R,RowIs w1 b t' R->RowIs W b t' R)/\W.heap.size=w1.heap.size+1/\Below w1.heap.size w1 W:=
 ⟨_,rfl,Jd w1 L t,fun _ _ _ h=>h.alloc _,by simp,(Below.refl _ _).alloc (Nat.le_refl _) _⟩
abbrev Kn:LVa:=[.pointer none,.string ⟨#[]⟩,.bool false,.pointer none,.int .i64 0]
abbrev DT(d:OA)(n:By)(t:Bool)(u:VS):LVa:=[.pointer d,.string n,.bool t,.pointer u.p,.int .i64 u.f]
theorem Zeb(w:World)(tb J:Nat)(V:NV)(E:NS)(N:Value)(G:Gh)(I:LF)(C:IB)(h:TW w tb J V E N G I C)(hG:GOk G)(aa:G.length<=10000)(p:By)(hp:p.size<=2000000):
  Calls Tryz.prog 177 #[.pointer (some ⟨tb,0,none⟩),.string p] w (Zml G J p w):=by
 have D:∀o,Below w.heap.size w (w.alloc o):=fun o=>(Below.refl _ _).alloc (Nat.le_refl _) o
 have L:=fun o=>Zcr (w.alloc o) tb J V E N G I C (h.below (D o) (Nat.le_refl _)) hG aa p hp true
 have K:=Db (Jd w Kn 262);go_enter Tryz.func177,Tryz.ntmps177;go_wp2_with fail;refine(L _).mono ?_;rintro e w1 ⟨ac,F⟩;have g:Below w.heap.size w w1:=(D _).trans (F.mono (by simp));have l:RowIs w1 w.heap.size 262 Kn:=(F.block _ (by simp)).trans (Da K);have ae:w.heap.size<w1.heap.size:=l.lt;clear L D h F K;rcases ac with⟨A,rfl⟩|⟨z,M,d,n,t,u,H,rfl⟩
 ·have f:Hid (thE G p=DJ G p true):=by show _=_;unfold thE;rw[if_pos A]
  have O:=Db A;have ab:(DJ G p true==0)=false:=by simpa using A
  clear A;unfold DD Dl;go_upto_if 20 with fail;obtain⟨W,i,c,k,ad,j⟩:=De w1 Kn 262;have a:=k _ _ _ l;have y:Below w.heap.size w W:=g.trans (j.mono g.size);rw[i];clear i l g ab k j;have R:=c.cell 0;have S:=c.cell 1;have T:=c.cell 2;have U:=c.cell 3;have X:=c.cell 4;have Y:=a.cell 0;have Z:=a.cell 1;have b2:=a.cell 2;have b3:=a.cell 3;have b4:=a.cell 4;have g0:=a.frozen 0;have g1:=a.frozen 1;have g2:=a.frozen 2;have g3:=a.frozen 3;have g4:=a.frozen 4;go_wp2;have b:=Jq a (.pointer none) (.string ⟨#[]⟩) (.bool false) (.pointer none) (.int .i64 0);have m:=b.cell 0;have q:=b.cell 1;have r:=b.cell 2;have s:=b.cell 3;have x:=b.cell 4;exact bodyPost_ret (v := .tuple #[DD,.int .i64 (DJ G p true)]) (by simp[results,Tryz.results177,go_sem,m,q,r,s,x,DD,Dl]) rfl
   ⟨.inl ⟨by rw[Da f];exact Da O,by rw[Da f]⟩,Jy y (Nat.le_refl _) _ _ _ _ _⟩
 ·have Q:=Db H;have P:=Db M;have B:=Zf6 H;unfold Dl;go_upto_if 20 with fail;obtain⟨W,i,c,k,ad,j⟩:=De w1 (DT d n t u) 262;have a:=k _ _ _ l;have y:Below w.heap.size w W:=g.trans (j.mono g.size);rw[i];clear i l g k j H M;have R:=c.cell 0;have S:=c.cell 1;have T:=c.cell 2;have U:=c.cell 3;have X:=c.cell 4;have Y:=a.cell 0;have Z:=a.cell 1;have b2:=a.cell 2;have b3:=a.cell 3;have b4:=a.cell 4;have g0:=a.frozen 0;have g1:=a.frozen 1;have g2:=a.frozen 2;have g3:=a.frozen 3;have g4:=a.frozen 4
  cases t with
  | false=>
   have f:Hid (thE G p=3):=by show _=_;unfold thE;rw[if_neg (by simpa using z),if_pos (B.1 rfl)]
   clear z B;go_wp2;have b:=Jq a (.pointer none) (.string ⟨#[]⟩) (.bool false) (.pointer none) (.int .i64 0);have m:=b.cell 0;have q:=b.cell 1;have r:=b.cell 2;have s:=b.cell 3;have x:=b.cell 4;exact bodyPost_ret (v := .tuple #[DD,.int .i64 3]) (by simp[results,Tryz.results177,go_sem,m,q,r,s,x,DD,Dl]) rfl
    ⟨.inl ⟨by rw[Da f];decide,by rw[Da f]⟩,Jy y (Nat.le_refl _) _ _ _ _ _⟩
  | true=>
   have f:Hid (thE G p=0):=by show _=_;unfold thE;rw[if_neg (by simpa using z),if_neg (fun h=>by have:=B.2 h;cases this)]
   clear z B;go_wp2;have b:=Jq a (.pointer d) (.string n) (.bool true) (.pointer u.p) (.int .i64 u.f);have m:=b.cell 0;have q:=b.cell 1;have r:=b.cell 2;have s:=b.cell 3;have x:=b.cell 4;exact bodyPost_ret (v := .tuple #[Dl d n true u,.int .i64 0]) (by simp[results,Tryz.results177,go_sem,m,q,r,s,x,Dl]) rfl
    ⟨.inr ⟨Da f,Da P,d,n,u,Da Q,rfl⟩,Jy y (Nat.le_refl _) _ _ _ _ _⟩
def Jj(G:Gh)(ns:LY):Int:=if ahG G (D8 [] ns)≠0 then ahG G (D8 [] ns) else if ns=[]\/(atG G ns).isSome=true then 6 else 0
def ZoX(G:Gh)(rd:Nat)(ns:LY)(w:World)(e:Ending)(w':World):Prop:=
 ((Jj G ns≠0/\e = .returned (.tuple #[DD,.int .i64 (Jj G ns)]))\/
  (Jj G ns=0/\∃ds n db,ns=ds++[n]/\IsDir G rd ds db/\atG G ns=none/\e = .returned (.tuple #[Dl (some ⟨db,0,none⟩) n false ⟨none,0⟩,.int .i64 0])))/\Below w.heap.size w w'
theorem ZjF(w:World)(tb K:Nat)(V:NV)(E:NS)(Y:Value)(G:Gh)(I:LF)(C:IB)(h:TW w tb K V E Y G I C)(hG:GOk G)(ac:G.length<=10000)
  (ns:LY) (ad:ns.length<=6) (L:OA) (M:Nat) (U:Sl w 9 1 (.slice L ns.length M) ns.length (ns.map .string)):
  Calls Tryz.prog 191 #[.pointer (some ⟨tb,0,none⟩),.slice L ns.length M] w (ZoX G K ns w):=by
 have q:∀o,Below w.heap.size w (w.alloc o):=fun o=>(Below.refl _ _).alloc (Nat.le_refl _) o
 have X:=fun o=>ZfC (w.alloc o) tb K V E Y G hG ac (h.below (q o) (Nat.le_refl _)).t (h.below (q o) (Nat.le_refl _)).d ns ad L M (U.kept (fun k g _=>(q o).block k g))
 have S:=Db (Jd w Kn 262);go_enter Tryz.func191,Tryz.ntmps191;go_wp2_with fail;refine(X _).mono ?_;rintro e w1 ⟨ae,Q⟩;have l:Below w.heap.size w w1:=(q _).trans (Q.mono (by simp));have s:RowIs w1 w.heap.size 262 Kn:=(Q.block _ (by simp)).trans (Da S);have ag:w.heap.size<w1.heap.size:=s.lt;clear X q h Q S U;rcases ae with⟨c,rfl⟩|⟨H,d,n,t,u,R,rfl⟩
 ·have f:Hid (Jj G ns=ahG G (D8 [] ns)):=by show _=_;unfold Jj;rw[if_pos c]
  have aa:=Db c;have ah:(ahG G (D8 [] ns) != 0)=true:=by simpa using c
  clear c;unfold DD Dl;go_upto_if 15 with fail;obtain⟨W,p,m,g,af,r⟩:=De w1 Kn 262;have a:=g _ _ _ s;have F:Below w.heap.size w W:=l.trans (r.mono l.size);rw[p];clear p s l g r;have b0:=a.cell 0;have b1:=a.cell 1;have b2:=a.cell 2;have b3:=a.cell 3;have b4:=a.cell 4;have g0:=a.frozen 0;have g1:=a.frozen 1;have g2:=a.frozen 2;have g3:=a.frozen 3;have g4:=a.frozen 4;go_wp2;have b:=Jq a (.pointer none) (.string ⟨#[]⟩) (.bool false) (.pointer none) (.int .i64 0);have x:=b.cell 0;have y:=b.cell 1;have z:=b.cell 2;have A:=b.cell 3;have B:=b.cell 4;exact bodyPost_ret (v := .tuple #[DD,.int .i64 (ahG G (D8 [] ns))]) (by simp[results,Tryz.results191,go_sem,x,y,z,A,B,DD,Dl]) rfl
   ⟨.inl ⟨by rw[Da f];exact Da aa,by rw[Da f]⟩,Jy F (Nat.le_refl _) _ _ _ _ _⟩
 ·have ab:=Db R;have J:=Zf6 R;unfold Dl;go_upto_if 15 with fail;obtain⟨W,p,m,g,af,r⟩:=De w1 (DT d n t u) 262;have a:=g _ _ _ s;have F:Below w.heap.size w W:=l.trans (r.mono l.size);rw[p];clear p s l g r R;have a0:=m.cell 0;have a1:=m.cell 1;have a2:=m.cell 2;have a3:=m.cell 3;have a4:=m.cell 4;have b0:=a.cell 0;have b1:=a.cell 1;have b2:=a.cell 2;have b3:=a.cell 3;have b4:=a.cell 4;have g0:=a.frozen 0;have g1:=a.frozen 1;have g2:=a.frozen 2;have g3:=a.frozen 3;have g4:=a.frozen 4
  cases t with
  | true=>
   have f:Hid (Jj G ns=6):=by
    show _=_;unfold Jj;rw[if_neg (by simpa using H),if_pos];by_cases T:ns=[]
    ·exact .inl T
    ·refine .inr ?_
     cases ha:atG G ns with
     | none=>have:=J.2 ⟨T,ha⟩;cases this
     | some u=>rfl
   clear H J;go_wp2;have b:=Jq a (.pointer none) (.string ⟨#[]⟩) (.bool false) (.pointer none) (.int .i64 0);have x:=b.cell 0;have y:=b.cell 1;have z:=b.cell 2;have A:=b.cell 3;have B:=b.cell 4;exact bodyPost_ret (v := .tuple #[DD,.int .i64 6]) (by simp[results,Tryz.results191,go_sem,x,y,z,A,B,DD,Dl]) rfl
    ⟨.inl ⟨by rw[Da f];decide,by rw[Da f]⟩,Jy F (Nat.le_refl _) _ _ _ _ _⟩
  | false=>
   obtain⟨c,D⟩:=J.1 rfl;have f:Hid (Jj G ns=0):=by show _=_;unfold Jj;rw[if_neg (by simpa using H),if_neg (fun h=>by rcases h with h|h;exact c h;rw[D]at h;cases h)]
   have Z:=Db D;have HX:Hid (∃j i,ns=j++[n]/\IsDir G K j i/\d=some ⟨i,0,none⟩/\u=⟨none,0⟩):=by
    rcases Da ab with⟨rfl,_⟩|⟨j,i,N,O,P,_,h5⟩
    ·exact absurd rfl c
    ·exact⟨j,i,N,O,P,by rw[h5,D];rfl⟩
   clear H J c D;go_wp2;have b:=Jq a (.pointer d) (.string n) (.bool false) (.pointer u.p) (.int .i64 u.f);have x:=b.cell 0;have y:=b.cell 1;have z:=b.cell 2;have A:=b.cell 3;have B:=b.cell 4;obtain⟨j,i,N,O,P,h4⟩:=Da HX;exact bodyPost_ret (v := .tuple #[Dl d n false u,.int .i64 0]) (by simp[results,Tryz.results191,go_sem,x,y,z,A,B,Dl]) rfl
    ⟨.inr ⟨Da f,j,n,i,N,O,Da Z,by rw[P,h4]⟩,Jy F (Nat.le_refl _) _ _ _ _ _⟩
theorem ZdP(d:OA)(n:By)(t:Bool)(u:VS)(w:World):Calls Tryz.prog 188 #[Dl d n t u] w fun e w'=>e = .returned (if t=false then .tuple #[.int .i64 0,.int .i64 3] else if u.p.isSome=true then .tuple #[.int .i64 0,.int .i64 5] else .tuple #[.int .i64 u.f,.int .i64 0])/\Below w.heap.size w w':=by
 obtain⟨p,f⟩:=u;unfold Dl;have b:∀o,Below w.heap.size w (w.alloc o):=fun o=>(Below.refl _ _).alloc (Nat.le_refl _) o
 cases t with
 | false=>
  go_enter Tryz.func188,Tryz.ntmps188;go_wp2
  go_ret2
  exact⟨rfl,b _⟩
 | true=>
  cases p with
  | none=>
   go_enter Tryz.func188,Tryz.ntmps188;go_wp2
   go_ret2
   exact⟨rfl,b _⟩
  | some a=>
   go_enter Tryz.func188,Tryz.ntmps188;go_wp2
   go_ret2
   exact⟨rfl,b _⟩
def DH(G:Gh)(p:By)(fits:Bool):Int:=if DJ G p fits≠0 then DJ G p fits else if Df p=[] then 5 else match atG G (Df p) with|none=>3|some u=>if u.p.isSome=true then 5 else 0
def ZjT(G:Gh)(p:By)(fits:Bool)(w:World)(e:Ending)(w':World):Prop:=
 ((DH G p fits≠0/\e = .returned (.tuple #[.int .i64 0,.int .i64 (DH G p fits)]))\/
  (DH G p fits=0/\DQ p=true/\∃u,atG G (Df p)=some u/\u.p=none/\e = .returned (.tuple #[.int .i64 u.f,.int .i64 0])))/\Below w.heap.size w w'
theorem ZhE{G:Gh}{c:Nat}{ns:LY}{d:OA}{n:By}{t:Bool}{u:VS}(h:SpotIs G c ns d n t u):
  (t=false/\ns≠[]/\atG G ns=none)\/(t=true/\u.p.isSome=true/\(ns=[]\/(ns≠[]/\atG G ns=some u)))\/(t=true/\u.p=none/\ns≠[]/\atG G ns=some u):=by
 rcases h with⟨rfl,_,_,rfl,rfl⟩|⟨b,db,rfl,_,_,rfl,rfl⟩
 ·exact .inr (.inl ⟨rfl,rfl,.inl rfl⟩)
 ·cases ha:atG G (b++[n]) with
  | none=>exact .inl ⟨rfl,by simp,rfl⟩
  | some u=>
   cases hu:u.p with
   | none=>exact .inr (.inr ⟨rfl,by simpa using hu,by simp,rfl⟩)
   | some a=>exact .inr (.inl ⟨rfl,by simp[hu],.inr ⟨by simp,rfl⟩⟩)
theorem ZeG(w:World)(tb B:Nat)(V:NV)(E:NS)(D:Value)(G:Gh)(I:LF)(C:IB)(h:TW w tb B V E D G I C)(K:GOk G)(L:G.length<=10000)(p:By)(P:p.size<=2000000)(a:Bool):
  Calls Tryz.prog 174 #[.pointer (some ⟨tb,0,none⟩),.string p,.bool a] w (ZjT G p a w):=by
 have r:=Zcr w tb B V E D G I C h K L p P a;go_enter Tryz.func174,Tryz.ntmps174;go_wp2_with fail;refine r.mono ?_;rintro e w1 ⟨Q,f⟩;clear r h;rcases Q with⟨j,rfl⟩|⟨i,s,d,n,t,u,z,rfl⟩
 ·have l:Hid (DH G p a=DJ G p a):=by show _=_;unfold DH;rw[if_pos j]
  have F:=Db j;have aa:(DJ G p a != 0)=true:=by simpa using j
  clear j;unfold DD Dl;go_wp2
  go_ret2
  exact⟨.inl ⟨by rw[Da l];exact Da F,by rw[Da l];rfl⟩,f.alloc f.size _⟩
 ·have H:=Db s;have v:=ZhE z;have q:=fun W=>ZdP d n t u W
  have m:=Db q;have o:Hid (∀W,Below w.heap.size w W->ZjT G p a w (.returned (if t=false then .tuple #[.int .i64 0,.int .i64 3] else if u.p.isSome=true then .tuple #[.int .i64 0,.int .i64 5] else .tuple #[.int .i64 u.f,.int .i64 0])) W):=by
   intro W M;refine⟨?_,M⟩;rcases v with⟨rfl,c,b⟩|⟨rfl,c,b⟩|⟨rfl,c,b,g⟩
   ·have:DH G p a=3:=by unfold DH;rw[if_neg (by simpa using i),if_neg c,b]
    exact .inl ⟨by rw[this];decide,by rw[this];rfl⟩
   ·have:DH G p a=5:=by
     unfold DH;rw[if_neg (by simpa using i)];rcases b with b|⟨b,g⟩
     ·rw[if_pos b]
     ·rw[if_neg b,g];simp[c]
    exact .inl ⟨by rw[this];decide,by rw[this,if_neg (by simp),if_pos c]⟩
   ·have:DH G p a=0:=by unfold DH;rw[if_neg (by simpa using i),if_neg b,g];simp[c]
    exact .inr ⟨this,Da H,u,g,c,by rw[if_neg (by simp),if_neg (by simp[c])]⟩
  clear z i s v q;unfold Dl;go_wp2_with fail;refine(Da m _).mono ?_;rintro e w2 ⟨rfl,N⟩;have O:Below w.heap.size w w2:=(f.alloc f.size _).trans (N.mono (by have:=f.size;simp;omega));have k:=Da o w2 O;obtain⟨x,y,A⟩:∃x y,(if t=false then Value.tuple #[.int .i64 0,.int .i64 3] else if u.p.isSome=true then .tuple #[.int .i64 0,.int .i64 5] else .tuple #[.int .i64 u.f,.int .i64 0]) = .tuple #[.int .i64 x,.int .i64 y]:=by
   split
   ·exact⟨_,_,rfl⟩
   ·split<;>exact⟨_,_,rfl⟩
  rw[A]at k ⊢;have J:=Db k;clear k A o m;go_wp2
  go_ret2
  exact Da J
theorem ZkR{w:World}{e:TypeId}{c:Nat}{v:Value}{n:Nat}{xs:LVa}{b:Nat}{t:TypeId}{L:LVa}(h:Sl w e c v n xs)(m:RowIs w b t L)(d f g i j:Value)(o:e≠t:=by decide):
  Sl (((((w.setCell ⟨b,0,none⟩ d).setCell ⟨b,1,none⟩ f).setCell ⟨b,2,none⟩ g).setCell ⟨b,3,none⟩ i).setCell ⟨b,4,none⟩ j) e c v n xs:=by
 have a:v.ownBlock≠some b:=fun k=>by
  obtain⟨R,l⟩:=h.type k;exact o (l.type m)
 exact((((h.setCell ⟨b,0,none⟩ d a).setCell ⟨b,1,none⟩ f a).setCell ⟨b,2,none⟩ g a).setCell ⟨b,3,none⟩ i a).setCell ⟨b,4,none⟩ j a
def Zmu(G:Gh)(rd:Nat)(p q:By)(w:World)(e:Ending)(w':World):Prop:=
 ((DQ q=false/\e = .returned (.tuple #[DD,.slice none 0 0,.int .i64 1]))\/
  (DQ q=true/\∃a c,Sl w' 9 1 (.slice a (Df q).length c) (Df q).length ((Df q).map .string)/\
   ((DJ G p true≠0/\e = .returned (.tuple #[DD,.slice a (Df q).length c,.int .i64 (DJ G p true)]))\/
   (DJ G p true=0/\DQ p=true/\∃d n t u,SpotIs G rd (Df p) d n t u/\e = .returned (.tuple #[Dl d n t u,.slice a (Df q).length c,.int .i64 0])))))/\Below w.heap.size w w'
theorem Zki(w:World)(tb S:Nat)(V:NV)(E:NS)(vi:Value)(G:Gh)(I:LF)(C:IB)(h:TW w tb S V E vi G I C)(hG:GOk G)(al:G.length<=10000)(p q:By)(hp:p.size<=2000000)(hq:q.size<=2000000):
  Calls Tryz.prog 190 #[.pointer (some ⟨tb,0,none⟩),.string p,.string q] w (Zmu G S p q w):=by
 obtain⟨m,hm⟩:=h.pk.1;have h0:0<w.heap.size:=World.block_lt_of_cell? _ _ hm;have L:∀o,Below w.heap.size w (w.alloc o):=fun o=>(Below.refl _ _).alloc (Nat.le_refl _) o
 have af:=fun o=>Zeh q m (w.alloc o) hq (((L o).cell (p:=⟨0,0,none⟩) h0).trans hm)
 have U:=Db (Jd w Kn 262);go_enter Tryz.func190,Tryz.ntmps190;go_wp2_with fail;refine(af _).mono ?_;rintro e w1 ⟨Q,M⟩;have l:Below w.heap.size w w1:=(L _).trans (M.mono (by simp));have g:RowIs w1 w.heap.size 262 Kn:=(M.block _ (by simp)).trans (Da U);have am:w.heap.size<w1.heap.size:=g.lt;have HH:=Db h;clear af L h M U;rcases Q with⟨s,rfl⟩|⟨s,a,c,rfl,aa⟩
 ·have F:=Db s;have Y:=g.cell 0;have Z:=g.cell 1;have b2:=g.cell 2;have b3:=g.cell 3;have b4:=g.cell 4;have g0:=g.frozen 0;have g1:=g.frozen 1;have g2:=g.frozen 2;have g3:=g.frozen 3;have g4:=g.frozen 4;clear s;go_wp2;have f:=Jq g (.pointer none) (.string ⟨#[]⟩) (.bool false) (.pointer none) (.int .i64 0);have x:=f.cell 0;have y:=f.cell 1;have z:=f.cell 2;have A:=f.cell 3;have B:=f.cell 4;exact bodyPost_ret (v := .tuple #[DD,.slice none 0 0,.int .i64 1]) (by simp[results,Tryz.results190,go_sem,x,y,z,A,B,DD,Dl]) rfl
   ⟨.inl ⟨Da F,rfl⟩,Jy l (Nat.le_refl _) _ _ _ _ _⟩
 ·have F:=Db s;have h1:=(Da HH).below l (Nat.le_refl _);have ad:=Zcr w1 tb S V E vi G I C h1 hG al p hp true;obtain⟨J,P⟩:∃J,J=(Df q).length:=⟨_,rfl⟩;have T:=Db P;rw[<-P];clear s h1 P;go_wp2_with fail;refine ad.mono ?_;rintro e w2 ⟨Q,H⟩;have R:RowIs w2 w.heap.size 262 Kn:=(H.block _ g.lt).trans g;have N:Below w.heap.size w w2:=l.trans (H.mono l.size);have ab:Sl w2 9 1 (.slice a (Df q).length c) (Df q).length ((Df q).map .string):=aa.kept (fun k r _=>H.block k r);have X:=Db ab;have an:w.heap.size<w2.heap.size:=R.lt;clear ad aa ab g l H;have ac:∀(d:OA) (n:By) (t:Bool) (u:VS) (W:World),w2.alloc (.cells (DT d n t u).toArray 262)=W->RowIs W w2.heap.size 262 (DT d n t u)/\RowIs W w.heap.size 262 Kn/\Below w.heap.size w W/\Hid (Below w2.heap.size w2 W):=by
   intro d n t u W j;rw[<-j];exact⟨Jd w2 _ _,R.alloc _,N.alloc N.size _,(Below.refl _ _).alloc (Nat.le_refl _) _⟩
  have D:=Db ac;clear ac R N;rcases Q with⟨ae,rfl⟩|⟨he,ag,d,n,t,u,ah,rfl⟩
  ·have ai:=Db ae;clear ae;unfold DD Dl;go_upto_region 5 with fail;obtain⟨W,j⟩:∃W,w2.alloc (.cells (DT none ⟨#[]⟩ false ⟨none,0⟩).toArray 262)=W:=⟨_,rfl⟩;obtain⟨i,b,O,K⟩:=Da D _ _ _ _ W j;rw[j];clear j D;have a0:=i.cell 0;have a1:=i.cell 1;have a2:=i.cell 2;have a3:=i.cell 3;have a4:=i.cell 4;have Y:=b.cell 0;have Z:=b.cell 1;have b2:=b.cell 2;have b3:=b.cell 3;have b4:=b.cell 4;have g0:=b.frozen 0;have g1:=b.frozen 1;have g2:=b.frozen 2;have g3:=b.frozen 3;have g4:=b.frozen 4;go_wp2;have f:=Jq b (.pointer none) (.string ⟨#[]⟩) (.bool false) (.pointer none) (.int .i64 0);have x:=f.cell 0;have y:=f.cell 1;have z:=f.cell 2;have A:=f.cell 3;have B:=f.cell 4;exact bodyPost_ret (v := .tuple #[DD,.slice a J c,.int .i64 (DJ G p true)]) (by simp[results,Tryz.results190,go_sem,x,y,z,A,B,DD,Dl]) rfl
    ⟨.inr ⟨Da F,a,c,ZkR ((Da X).kept (fun k r _=>(Da K).block k r)) b _ _ _ _ _,.inl ⟨Da ai,by rw[Da T]⟩⟩,Jy O (Nat.le_refl _) _ _ _ _ _⟩
  ·have ak:=Db ah;have aj:=Db ag;have HE:=Db he;clear ah ag he;unfold Dl;go_upto_region 5 with fail;obtain⟨W,j⟩:∃W,w2.alloc (.cells (DT d n t u).toArray 262)=W:=⟨_,rfl⟩;obtain⟨i,b,O,K⟩:=Da D _ _ _ _ W j;rw[j];clear j D;have a0:=i.cell 0;have a1:=i.cell 1;have a2:=i.cell 2;have a3:=i.cell 3;have a4:=i.cell 4;have Y:=b.cell 0;have Z:=b.cell 1;have b2:=b.cell 2;have b3:=b.cell 3;have b4:=b.cell 4;have g0:=b.frozen 0;have g1:=b.frozen 1;have g2:=b.frozen 2;have g3:=b.frozen 3;have g4:=b.frozen 4;go_wp2;have f:=Jq b (.pointer d) (.string n) (.bool t) (.pointer u.p) (.int .i64 u.f);have x:=f.cell 0;have y:=f.cell 1;have z:=f.cell 2;have A:=f.cell 3;have B:=f.cell 4;exact bodyPost_ret (v := .tuple #[Dl d n t u,.slice a J c,.int .i64 0]) (by simp[results,Tryz.results190,go_sem,x,y,z,A,B,Dl]) rfl
    ⟨.inr ⟨Da F,a,c,ZkR ((Da X).kept (fun k r _=>(Da K).block k r)) b _ _ _ _ _,.inr ⟨Da HE,Da aj,d,n,t,u,Da ak,by rw[Da T]⟩⟩,Jy O (Nat.le_refl _) _ _ _ _ _⟩
end Go.Proofs.YtaieidcohdhgpaaGreatDoor
