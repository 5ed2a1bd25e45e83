/- Spoilt. -/
import Derived.Test.YtaieidcohdhgpaaGreatDoorXAF
namespace Go.Proofs.YtaieidcohdhgpaaGreatDoor
set_option maxHeartbeats 40000000
set_option maxRecDepth 100000
open Go.RowKit
theorem De(w1:World)(L:F6)(t:TypeId):∃W,w1.alloc (.cells L.toArray t)=W/\F0 W w1.heap.size t L/\(∀b t' R,F0 w1 b t' R->F0 W b t' R)/\W.heap.size=w1.heap.size+1/\Bw w1 W:=
 ⟨_,rfl,Jh w1 L t,fun _ _ _ h=>h.alloc _,by simp,(Al _ _).alloc (Aa _) _⟩
abbrev Ku:F6:=[.pointer none,.string ⟨#[]⟩,.bool false,.pointer none,.int .i64 0]
abbrev DQ(d:OA)(n:By)(t:Bool)(u:VS):F6:=[.pointer d,.string n,.bool t,.pointer u.p,.int .i64 u.f]
theorem Ru(w:World)(tb J:Nat)(V:NV)(E:NS)(N:Value)(G:Gh)(I:LF)(C:IB)(h:TW w tb J V E N G I C)(hG:Gt G)(aa:G.length<=10000)(p:By)(hp:p.size<=2000000):
  Cl 177 #[.pointer (some ⟨tb,0,none⟩),.string p] w (ZmT G J p w):=by
 have D:∀o,Bw w (w.alloc o):=fun o=>(Al _ _).alloc (Aa _) o
 have L:=fun o=>Ol (w.alloc o) tb J V E N G I C (h.below (D o) (Aa _)) hG aa p hp true
 have K:=Db (Jh w Ku 262);go_enter Tryz.func177,Tryz.ntmps177;go_wp2_with fail;refine(L _).mono ?_;rintro e w1 ⟨ac,F⟩;have g:Bw w w1:=(D _).trans (F.mono (by simp));have l:F0 w1 w.heap.size 262 Ku:=(F.block _ (by simp)).trans (Da K);have ae:w.heap.size<w1.heap.size:=l.lt;clear L D h F K;rcases ac with⟨A,rfl⟩|⟨z,M,d,n,t,u,H,rfl⟩
 ·have f:Hid (H3 G p=DM G p true):=by show _=_;unfold H3;rw[if_pos A]
  have O:=Db A;have ab:(DM G p true==0)=false:=by simpa using A
  clear A;unfold DF Dn;go_upto_if 20 with fail;obtain⟨W,i,c,k,ad,j⟩:=De w1 Ku 262;have a:=k _ _ _ l;have y:Bw w W:=g.trans (j.mono g.size);rw[i];clear i l g ab k j;have R:=c.cell 0;have S:=c.cell 1;have T:=c.cell 2;have U:=c.cell 3;have X:=c.cell 4;have b0:=a.cell 0;have Y:=a.cell 1;have Z:=a.cell 2;have b3:=a.cell 3;have b4:=a.cell 4;have g0:=a.frozen 0;have g1:=a.frozen 1;have g2:=a.frozen 2;have g3:=a.frozen 3;have g4:=a.frozen 4;go_wp2;have b:=Jw a (.pointer none) (.string ⟨#[]⟩) (.bool false) (.pointer none) (.int .i64 0);have m:=b.cell 0;have q:=b.cell 1;have r:=b.cell 2;have s:=b.cell 3;have x:=b.cell 4;exact Ax (v := .tuple #[DF,.int .i64 (DM G p true)]) (by simp[results,Tryz.results177,go_sem,m,q,r,s,x,DF,Dn]) rfl
   ⟨.inl ⟨by rw[Da f];exact Da O,by rw[Da f]⟩,JH y (Aa _) _ _ _ _ _⟩
 ·have Q:=Db H;have P:=Db M;have B:=Wf H;unfold Dn;go_upto_if 20 with fail;obtain⟨W,i,c,k,ad,j⟩:=De w1 (DQ d n t u) 262;have a:=k _ _ _ l;have y:Bw w W:=g.trans (j.mono g.size);rw[i];clear i l g k j H M;have R:=c.cell 0;have S:=c.cell 1;have T:=c.cell 2;have U:=c.cell 3;have X:=c.cell 4;have b0:=a.cell 0;have Y:=a.cell 1;have Z:=a.cell 2;have b3:=a.cell 3;have b4:=a.cell 4;have g0:=a.frozen 0;have g1:=a.frozen 1;have g2:=a.frozen 2;have g3:=a.frozen 3;have g4:=a.frozen 4
  cases t with
  | false=>
   have f:Hid (H3 G p=3):=by show _=_;unfold H3;rw[if_neg (by simpa using z),if_pos (B.1 rfl)]
   clear z B;go_wp2;have b:=Jw a (.pointer none) (.string ⟨#[]⟩) (.bool false) (.pointer none) (.int .i64 0);have m:=b.cell 0;have q:=b.cell 1;have r:=b.cell 2;have s:=b.cell 3;have x:=b.cell 4;exact Ax (v := .tuple #[DF,.int .i64 3]) (by simp[results,Tryz.results177,go_sem,m,q,r,s,x,DF,Dn]) rfl
    ⟨.inl ⟨by rw[Da f];decide,by rw[Da f]⟩,JH y (Aa _) _ _ _ _ _⟩
  | true=>
   have f:Hid (H3 G p=0):=by show _=_;unfold H3;rw[if_neg (by simpa using z),if_neg (fun h=>by have:=B.2 h;cases this)]
   clear z B;go_wp2;have b:=Jw a (.pointer d) (.string n) (.bool true) (.pointer u.p) (.int .i64 u.f);have m:=b.cell 0;have q:=b.cell 1;have r:=b.cell 2;have s:=b.cell 3;have x:=b.cell 4;exact Ax (v := .tuple #[Dn d n true u,.int .i64 0]) (by simp[results,Tryz.results177,go_sem,m,q,r,s,x,Dn]) rfl
    ⟨.inr ⟨Da f,Da P,d,n,u,Da Q,rfl⟩,JH y (Aa _) _ _ _ _ _⟩
def Jo(G:Gh)(ns:LY):Int:=if GV G (D5 [] ns)≠0 then GV G (D5 [] ns) else if ns=[]\/(Gr G ns).isSome=true then 6 else 0
def YH(G:Gh)(rd:Nat)(ns:LY)(w:World)(e:Ending)(w':World):Prop:=
 ((Jo G ns≠0/\e = .returned (.tuple #[DF,.int .i64 (Jo G ns)]))\/
  (Jo G ns=0/\∃ds n db,ns=ds++[n]/\F4 G rd ds db/\Gr G ns=none/\e = .returned (.tuple #[Dn (some ⟨db,0,none⟩) n false ⟨none,0⟩,.int .i64 0])))/\Bw w w'
theorem TM(w:World)(tb K:Nat)(V:NV)(E:NS)(Y:Value)(G:Gh)(I:LF)(C:IB)(h:TW w tb K V E Y G I C)(hG:Gt G)(ac:G.length<=10000)
  (ns:LY) (ad:ns.length<=6) (L:OA) (M:Nat) (U:Sl w 9 1 (.slice L ns.length M) ns.length (ns.map .string)):
  Cl 191 #[.pointer (some ⟨tb,0,none⟩),.slice L ns.length M] w (YH G K ns w):=by
 have q:∀o,Bw w (w.alloc o):=fun o=>(Al _ _).alloc (Aa _) o
 have X:=fun o=>WN (w.alloc o) tb K V E Y G hG ac (h.below (q o) (Aa _)).t (h.below (q o) (Aa _)).d ns ad L M (U.kept (fun k g _=>(q o).block k g))
 have S:=Db (Jh w Ku 262);go_enter Tryz.func191,Tryz.ntmps191;go_wp2_with fail;refine(X _).mono ?_;rintro e w1 ⟨ae,Q⟩;have l:Bw w w1:=(q _).trans (Q.mono (by simp));have s:F0 w1 w.heap.size 262 Ku:=(Q.block _ (by simp)).trans (Da S);have ag:w.heap.size<w1.heap.size:=s.lt;clear X q h Q S U;rcases ae with⟨c,rfl⟩|⟨H,d,n,t,u,R,rfl⟩
 ·have f:Hid (Jo G ns=GV G (D5 [] ns)):=by show _=_;unfold Jo;rw[if_pos c]
  have aa:=Db c;have ah:(GV G (D5 [] ns) != 0)=true:=by simpa using c
  clear c;unfold DF Dn;go_upto_if 15 with fail;obtain⟨W,p,m,g,af,r⟩:=De w1 Ku 262;have a:=g _ _ _ s;have F:Bw w W:=l.trans (r.mono l.size);rw[p];clear p s l g r;have b0:=a.cell 0;have b1:=a.cell 1;have b2:=a.cell 2;have b3:=a.cell 3;have b4:=a.cell 4;have g0:=a.frozen 0;have g1:=a.frozen 1;have g2:=a.frozen 2;have g3:=a.frozen 3;have g4:=a.frozen 4;go_wp2;have b:=Jw a (.pointer none) (.string ⟨#[]⟩) (.bool false) (.pointer none) (.int .i64 0);have x:=b.cell 0;have y:=b.cell 1;have z:=b.cell 2;have A:=b.cell 3;have B:=b.cell 4;exact Ax (v := .tuple #[DF,.int .i64 (GV G (D5 [] ns))]) (by simp[results,Tryz.results191,go_sem,x,y,z,A,B,DF,Dn]) rfl
   ⟨.inl ⟨by rw[Da f];exact Da aa,by rw[Da f]⟩,JH F (Aa _) _ _ _ _ _⟩
 ·have ab:=Db R;have J:=Wf R;unfold Dn;go_upto_if 15 with fail;obtain⟨W,p,m,g,af,r⟩:=De w1 (DQ d n t u) 262;have a:=g _ _ _ s;have F:Bw w W:=l.trans (r.mono l.size);rw[p];clear p s l g r R;have a0:=m.cell 0;have a1:=m.cell 1;have a2:=m.cell 2;have a3:=m.cell 3;have a4:=m.cell 4;have b0:=a.cell 0;have b1:=a.cell 1;have b2:=a.cell 2;have b3:=a.cell 3;have b4:=a.cell 4;have g0:=a.frozen 0;have g1:=a.frozen 1;have g2:=a.frozen 2;have g3:=a.frozen 3;have g4:=a.frozen 4
  cases t with
  | true=>
   have f:Hid (Jo G ns=6):=by
    show _=_;unfold Jo;rw[if_neg (by simpa using H),if_pos];by_cases T:ns=[]
    ·exact .inl T
    ·refine .inr ?_
     cases ha:Gr G ns with
     | none=>have:=J.2 ⟨T,ha⟩;cases this
     | some u=>rfl
   clear H J;go_wp2;have b:=Jw a (.pointer none) (.string ⟨#[]⟩) (.bool false) (.pointer none) (.int .i64 0);have x:=b.cell 0;have y:=b.cell 1;have z:=b.cell 2;have A:=b.cell 3;have B:=b.cell 4;exact Ax (v := .tuple #[DF,.int .i64 6]) (by simp[results,Tryz.results191,go_sem,x,y,z,A,B,DF,Dn]) rfl
    ⟨.inl ⟨by rw[Da f];decide,by rw[Da f]⟩,JH F (Aa _) _ _ _ _ _⟩
  | false=>
   obtain⟨c,D⟩:=J.1 rfl;have f:Hid (Jo G ns=0):=by show _=_;unfold Jo;rw[if_neg (by simpa using H),if_neg (fun h=>by rcases h with h|h;exact c h;rw[D]at h;cases h)]
   have Z:=Db D;have HX:Hid (∃j i,ns=j++[n]/\F4 G K j i/\d=some ⟨i,0,none⟩/\u=⟨none,0⟩):=by
    rcases Da ab with⟨rfl,_⟩|⟨j,i,N,O,P,_,h5⟩
    ·exact absurd rfl c
    ·exact⟨j,i,N,O,P,by rw[h5,D];rfl⟩
   clear H J c D;go_wp2;have b:=Jw a (.pointer d) (.string n) (.bool false) (.pointer u.p) (.int .i64 u.f);have x:=b.cell 0;have y:=b.cell 1;have z:=b.cell 2;have A:=b.cell 3;have B:=b.cell 4;obtain⟨j,i,N,O,P,h4⟩:=Da HX;exact Ax (v := .tuple #[Dn d n false u,.int .i64 0]) (by simp[results,Tryz.results191,go_sem,x,y,z,A,B,Dn]) rfl
    ⟨.inr ⟨Da f,j,n,i,N,O,Da Z,by rw[P,h4]⟩,JH F (Aa _) _ _ _ _ _⟩
theorem Og(d:OA)(n:By)(t:Bool)(u:VS)(w:World):Cl 188 #[Dn d n t u] w fun e w'=>e = .returned (if t=false then .tuple #[.int .i64 0,.int .i64 3] else if u.p.isSome=true then .tuple #[.int .i64 0,.int .i64 5] else .tuple #[.int .i64 u.f,.int .i64 0])/\Bw w w':=by
 obtain⟨p,f⟩:=u;unfold Dn;have b:∀o,Bw w (w.alloc o):=fun o=>(Al _ _).alloc (Aa _) o
 cases t with
 | false=>
  go_enter Tryz.func188,Tryz.ntmps188;go_wp2
  go_ret2
  exact⟨rfl,b _⟩
 | true=>
  cases p with
  | none=>
   go_enter Tryz.func188,Tryz.ntmps188;go_wp2
   go_ret2
   exact⟨rfl,b _⟩
  | some a=>
   go_enter Tryz.func188,Tryz.ntmps188;go_wp2
   go_ret2
   exact⟨rfl,b _⟩
def DL(G:Gh)(p:By)(fits:Bool):Int:=if DM G p fits≠0 then DM G p fits else if Df p=[] then 5 else match Gr G (Df p) with|none=>3|some u=>if u.p.isSome=true then 5 else 0
def T3(G:Gh)(p:By)(fits:Bool)(w:World)(e:Ending)(w':World):Prop:=
 ((DL G p fits≠0/\e = .returned (.tuple #[.int .i64 0,.int .i64 (DL G p fits)]))\/
  (DL G p fits=0/\DU p=true/\∃u,Gr G (Df p)=some u/\u.p=none/\e = .returned (.tuple #[.int .i64 u.f,.int .i64 0])))/\Bw w w'
theorem VA{G:Gh}{c:Nat}{ns:LY}{d:OA}{n:By}{t:Bool}{u:VS}(h:GG G c ns d n t u):
  (t=false/\ns≠[]/\Gr G ns=none)\/(t=true/\u.p.isSome=true/\(ns=[]\/(ns≠[]/\Gr G ns=some u)))\/(t=true/\u.p=none/\ns≠[]/\Gr G ns=some u):=by
 rcases h with⟨rfl,_,_,rfl,rfl⟩|⟨b,db,rfl,_,_,rfl,rfl⟩
 ·exact .inr (.inl ⟨rfl,rfl,.inl rfl⟩)
 ·cases ha:Gr G (b++[n]) with
  | none=>exact .inl ⟨rfl,by simp,rfl⟩
  | some u=>
   cases hu:u.p with
   | none=>exact .inr (.inr ⟨rfl,by simpa using hu,by simp,rfl⟩)
   | some a=>exact .inr (.inl ⟨rfl,by simp[hu],.inr ⟨by simp,rfl⟩⟩)
theorem WZ(w:World)(tb B:Nat)(V:NV)(E:NS)(D:Value)(G:Gh)(I:LF)(C:IB)(h:TW w tb B V E D G I C)(K:Gt G)(L:G.length<=10000)(p:By)(P:p.size<=2000000)(a:Bool):
  Cl 174 #[.pointer (some ⟨tb,0,none⟩),.string p,.bool a] w (T3 G p a w):=by
 have r:=Ol w tb B V E D G I C h K L p P a;go_enter Tryz.func174,Tryz.ntmps174;go_wp2_with fail;refine r.mono ?_;rintro e w1 ⟨Q,f⟩;clear r h;rcases Q with⟨j,rfl⟩|⟨i,s,d,n,t,u,z,rfl⟩
 ·have l:Hid (DL G p a=DM G p a):=by show _=_;unfold DL;rw[if_pos j]
  have F:=Db j;have aa:(DM G p a != 0)=true:=by simpa using j
  clear j;unfold DF Dn;go_wp2
  go_ret2
  exact⟨.inl ⟨by rw[Da l];exact Da F,by rw[Da l];rfl⟩,f.alloc f.size _⟩
 ·have H:=Db s;have v:=VA z;have q:=fun W=>Og d n t u W
  have m:=Db q;have o:Hid (∀W,Bw w W->T3 G p a w (.returned (if t=false then .tuple #[.int .i64 0,.int .i64 3] else if u.p.isSome=true then .tuple #[.int .i64 0,.int .i64 5] else .tuple #[.int .i64 u.f,.int .i64 0])) W):=by
   intro W M;refine⟨?_,M⟩;rcases v with⟨rfl,c,b⟩|⟨rfl,c,b⟩|⟨rfl,c,b,g⟩
   ·have:DL G p a=3:=by unfold DL;rw[if_neg (by simpa using i),if_neg c,b]
    exact .inl ⟨by rw[this];decide,by rw[this];rfl⟩
   ·have:DL G p a=5:=by
     unfold DL;rw[if_neg (by simpa using i)];rcases b with b|⟨b,g⟩
     ·rw[if_pos b]
     ·rw[if_neg b,g];simp[c]
    exact .inl ⟨by rw[this];decide,by rw[this,if_neg (by simp),if_pos c]⟩
   ·have:DL G p a=0:=by unfold DL;rw[if_neg (by simpa using i),if_neg b,g];simp[c]
    exact .inr ⟨this,Da H,u,g,c,by rw[if_neg (by simp),if_neg (by simp[c])]⟩
  clear z i s v q;unfold Dn;go_wp2_with fail;refine(Da m _).mono ?_;rintro e w2 ⟨rfl,N⟩;have O:Bw w w2:=(f.alloc f.size _).trans (N.mono (by have:=f.size;simp;omega));have k:=Da o w2 O;obtain⟨x,y,A⟩:∃x y,(if t=false then Value.tuple #[.int .i64 0,.int .i64 3] else if u.p.isSome=true then .tuple #[.int .i64 0,.int .i64 5] else .tuple #[.int .i64 u.f,.int .i64 0]) = .tuple #[.int .i64 x,.int .i64 y]:=by
   split
   ·exact⟨_,_,rfl⟩
   ·split<;>exact⟨_,_,rfl⟩
  rw[A]at k ⊢;have J:=Db k;clear k A o m;go_wp2
  go_ret2
  exact Da J
theorem S7{w:World}{e:TypeId}{c:Nat}{v:Value}{n:Nat}{xs:F6}{b:Nat}{t:TypeId}{L:F6}(h:Sl w e c v n xs)(m:F0 w b t L)(d f g i j:Value)(o:e≠t:=by decide):
  Sl (((((w.setCell ⟨b,0,none⟩ d).setCell ⟨b,1,none⟩ f).setCell ⟨b,2,none⟩ g).setCell ⟨b,3,none⟩ i).setCell ⟨b,4,none⟩ j) e c v n xs:=by
 have a:v.ownBlock≠some b:=fun k=>by
  obtain⟨R,l⟩:=h.type k;exact o (l.type m)
 exact((((h.setCell ⟨b,0,none⟩ d a).setCell ⟨b,1,none⟩ f a).setCell ⟨b,2,none⟩ g a).setCell ⟨b,3,none⟩ i a).setCell ⟨b,4,none⟩ j a
def Zm2(G:Gh)(rd:Nat)(p q:By)(w:World)(e:Ending)(w':World):Prop:=
 ((DU q=false/\e = .returned (.tuple #[DF,.slice none 0 0,.int .i64 1]))\/
  (DU q=true/\∃a c,Sl w' 9 1 (.slice a (Df q).length c) (Df q).length ((Df q).map .string)/\
   ((DM G p true≠0/\e = .returned (.tuple #[DF,.slice a (Df q).length c,.int .i64 (DM G p true)]))\/
   (DM G p true=0/\DU p=true/\∃d n t u,GG G rd (Df p) d n t u/\e = .returned (.tuple #[Dn d n t u,.slice a (Df q).length c,.int .i64 0])))))/\Bw w w'
theorem Zkx(w:World)(tb S:Nat)(V:NV)(E:NS)(vi:Value)(G:Gh)(I:LF)(C:IB)(h:TW w tb S V E vi G I C)(hG:Gt G)(al:G.length<=10000)(p q:By)(hp:p.size<=2000000)(hq:q.size<=2000000):
  Cl 190 #[.pointer (some ⟨tb,0,none⟩),.string p,.string q] w (Zm2 G S p q w):=by
 obtain⟨m,hm⟩:=h.pk.1;have h0:0<w.heap.size:=Aj _ _ hm;have L:∀o,Bw w (w.alloc o):=fun o=>(Al _ _).alloc (Aa _) o
 have af:=fun o=>Rp q m (w.alloc o) hq (((L o).cell (p:=⟨0,0,none⟩) h0).trans hm)
 have U:=Db (Jh w Ku 262);go_enter Tryz.func190,Tryz.ntmps190;go_wp2_with fail;refine(af _).mono ?_;rintro e w1 ⟨Q,M⟩;have l:Bw w w1:=(L _).trans (M.mono (by simp));have g:F0 w1 w.heap.size 262 Ku:=(M.block _ (by simp)).trans (Da U);have am:w.heap.size<w1.heap.size:=g.lt;have HH:=Db h;clear af L h M U;rcases Q with⟨s,rfl⟩|⟨s,a,c,rfl,aa⟩
 ·have F:=Db s;have b0:=g.cell 0;have Y:=g.cell 1;have Z:=g.cell 2;have b3:=g.cell 3;have b4:=g.cell 4;have g0:=g.frozen 0;have g1:=g.frozen 1;have g2:=g.frozen 2;have g3:=g.frozen 3;have g4:=g.frozen 4;clear s;go_wp2;have f:=Jw g (.pointer none) (.string ⟨#[]⟩) (.bool false) (.pointer none) (.int .i64 0);have x:=f.cell 0;have y:=f.cell 1;have z:=f.cell 2;have A:=f.cell 3;have B:=f.cell 4;exact Ax (v := .tuple #[DF,.slice none 0 0,.int .i64 1]) (by simp[results,Tryz.results190,go_sem,x,y,z,A,B,DF,Dn]) rfl
   ⟨.inl ⟨Da F,rfl⟩,JH l (Aa _) _ _ _ _ _⟩
 ·have F:=Db s;have h1:=(Da HH).below l (Aa _);have ad:=Ol w1 tb S V E vi G I C h1 hG al p hp true;obtain⟨J,P⟩:=ex ((Df q).length);have T:=Db P;rw[<-P];clear s h1 P;go_wp2_with fail;refine ad.mono ?_;rintro e w2 ⟨Q,H⟩;have R:F0 w2 w.heap.size 262 Ku:=(H.block _ g.lt).trans g;have N:Bw w w2:=l.trans (H.mono l.size);have ab:Sl w2 9 1 (.slice a (Df q).length c) (Df q).length ((Df q).map .string):=aa.kept (fun k r _=>H.block k r);have X:=Db ab;have an:w.heap.size<w2.heap.size:=R.lt;clear ad aa ab g l H;have ac:∀(d:OA) (n:By) (t:Bool) (u:VS) (W:World),w2.alloc (.cells (DQ d n t u).toArray 262)=W->F0 W w2.heap.size 262 (DQ d n t u)/\F0 W w.heap.size 262 Ku/\Bw w W/\Hid (Bw w2 W):=by
   intro d n t u W j;rw[<-j];exact⟨Jh w2 _ _,R.alloc _,N.alloc N.size _,(Al _ _).alloc (Aa _) _⟩
  have D:=Db ac;clear ac R N;rcases Q with⟨ae,rfl⟩|⟨he,ag,d,n,t,u,ah,rfl⟩
  ·have ai:=Db ae;clear ae;unfold DF Dn;go_upto_region 5 with fail;obtain⟨W,j⟩:∃W,w2.alloc (.cells (DQ none ⟨#[]⟩ false ⟨none,0⟩).toArray 262)=W:=⟨_,rfl⟩;obtain⟨i,b,O,K⟩:=Da D _ _ _ _ W j;rw[j];clear j D;have a0:=i.cell 0;have a1:=i.cell 1;have a2:=i.cell 2;have a3:=i.cell 3;have a4:=i.cell 4;have b0:=b.cell 0;have Y:=b.cell 1;have Z:=b.cell 2;have b3:=b.cell 3;have b4:=b.cell 4;have g0:=b.frozen 0;have g1:=b.frozen 1;have g2:=b.frozen 2;have g3:=b.frozen 3;have g4:=b.frozen 4;go_wp2;have f:=Jw b (.pointer none) (.string ⟨#[]⟩) (.bool false) (.pointer none) (.int .i64 0);have x:=f.cell 0;have y:=f.cell 1;have z:=f.cell 2;have A:=f.cell 3;have B:=f.cell 4;exact Ax (v := .tuple #[DF,.slice a J c,.int .i64 (DM G p true)]) (by simp[results,Tryz.results190,go_sem,x,y,z,A,B,DF,Dn]) rfl
    ⟨.inr ⟨Da F,a,c,S7 ((Da X).kept (fun k r _=>(Da K).block k r)) b _ _ _ _ _,.inl ⟨Da ai,by rw[Da T]⟩⟩,JH O (Aa _) _ _ _ _ _⟩
  ·have ak:=Db ah;have aj:=Db ag;have HE:=Db he;clear ah ag he;unfold Dn;go_upto_region 5 with fail;obtain⟨W,j⟩:∃W,w2.alloc (.cells (DQ d n t u).toArray 262)=W:=⟨_,rfl⟩;obtain⟨i,b,O,K⟩:=Da D _ _ _ _ W j;rw[j];clear j D;have a0:=i.cell 0;have a1:=i.cell 1;have a2:=i.cell 2;have a3:=i.cell 3;have a4:=i.cell 4;have b0:=b.cell 0;have Y:=b.cell 1;have Z:=b.cell 2;have b3:=b.cell 3;have b4:=b.cell 4;have g0:=b.frozen 0;have g1:=b.frozen 1;have g2:=b.frozen 2;have g3:=b.frozen 3;have g4:=b.frozen 4;go_wp2;have f:=Jw b (.pointer d) (.string n) (.bool t) (.pointer u.p) (.int .i64 u.f);have x:=f.cell 0;have y:=f.cell 1;have z:=f.cell 2;have A:=f.cell 3;have B:=f.cell 4;exact Ax (v := .tuple #[Dn d n t u,.slice a J c,.int .i64 0]) (by simp[results,Tryz.results190,go_sem,x,y,z,A,B,Dn]) rfl
    ⟨.inr ⟨Da F,a,c,S7 ((Da X).kept (fun k r _=>(Da K).block k r)) b _ _ _ _ _,.inr ⟨Da HE,Da aj,d,n,t,u,Da ak,by rw[Da T]⟩⟩,JH O (Aa _) _ _ _ _ _⟩
theorem RA(s:By)(w:World)(hs:s.size<=2000000):Cl 223 #[.string s] w fun e w'=>e = .returned (.string s)/\Bw w w':=by
 have b:=Tryz.stringslite_Clone s w (by omega);go_enter Tryz.func223,Tryz.ntmps223;go_wp2_with fail;refine b.mono ?_;rintro e w' ⟨rfl,a⟩;go_wp2;go_ret;exact⟨rfl,a⟩
theorem Zi2(d:OA)(n:By)(t:Bool)(u:VS)(w:World):Cl 193 #[Dn d n t u] w fun e w'=>e = .returned (.bool d.isNone)/\Bw w w':=by
 unfold Dn
 cases d with
 | none=>
  go_enter Tryz.func193,Tryz.ntmps193;go_wp2;go_ret;exact⟨rfl,(Al _ _).alloc (Aa _) _⟩
 | some a=>
  go_enter Tryz.func193,Tryz.ntmps193;go_wp2;go_ret;exact⟨rfl,(Al _ _).alloc (Aa _) _⟩
theorem Zi3(w:World)(b:Nat)(v:Value)(n:Nat)(xs:F6)(g:F0 w b 229 [v])(f:Sl w 310 3 v n xs):Cl 231 #[.pointer (some ⟨b,0,none⟩)] w fun e w'=>e = .returned (.bool (decide (20<=n)))/\w'=w:=by
 have c:=I9 w b 0 v n xs (g.cell 0) f;go_enter Tryz.func231,Tryz.ntmps231;go_wp2_with fail;refine c.mono ?_;rintro e w' ⟨rfl,rfl⟩;have a:decide ((20:Int)<=(n:Int))=decide (20<=n):=by rw[decide_eq_decide];omega
 have d:=Db a;clear a c;go_wp2;go_ret;exact⟨by rw[<-Da d];rfl,rfl⟩
theorem Vk(w:World)(c:Nat)(n:By)(hn:n.size<=2000000)(t:Bool)(Y u:VS)(v:Value)(es:LS)(o:F0 w c 229 [v])(q:Sl w 310 3 v es.length (Dq es))(N:es.length<=10000)(P:Gm es)(O:∀x∈es,x.1≠n):
  Cl 183 #[Dn (some ⟨c,0,none⟩) n t Y,.agg #[.pointer u.p,.int .i64 u.f]] w fun e w'=>e = .returned (.tuple #[])/\∃d b,F0 w' c 229 [d]/\Sl w' 310 3 d b.length (Dq b)/\
   Gm b/\b.length=es.length+1/\(∀x,x∈b↔x=(n,u)\/x∈es)/\Dm w v d/\Fr (fun k=>k=c\/v.ownBlock=some k) w w':=by
 unfold Dn;go_enter Tryz.func183,Tryz.ntmps183;go_wp2;obtain⟨W1,G,Q,ab,ad,K⟩:=De w (DQ (some ⟨c,0,none⟩) n t Y) 262;obtain⟨W2,H,r,M,ag,L⟩:=De W1 [.pointer u.p,.int .i64 u.f] 260;have z:=M _ _ _ Q;rw[ad]at r;have J:Bw w W2:=K.trans (L.mono (by omega));rw[G,H];have a0:=z.cell 0;have a1:=z.cell 1;have c0:=r.cell 0;have c1:=r.cell 1;have Z:Hid (∀j,Bw w j->Cl 226 #[.pointer (some ⟨c,0,none⟩),.string n,.agg #[.pointer u.p,.int .i64 u.f]] j fun e w'=>e = .returned (.tuple #[])/\∃d b,F0 w' c 229 [d]/\Sl w' 310 3 d b.length (Dq b)/\
   Gm b/\b.length=es.length+1/\(∀x,x∈b↔x=(n,u)\/x∈es)/\Dm w v d/\Fr (fun k=>k=c\/v.ownBlock=some k) w w'/\∀k,k<j.heap.size->w.heap.size<=k->w'.heap[k]?=j.heap[k]?):=by
  intro j f;have y:F0 j c 229 [v]:=(f.block _ o.lt).trans o;have aa:Sl j 310 3 v es.length (Dq es):=q.kept (fun k m _=>f.block k m);have ac:v.ownBlock≠some c:=fun e=>by obtain⟨R,hR⟩:=q.type e;have:=hR.type o;revert this;decide
  refine(Yi j c 0 v es n u (y.cell 0) (y.frozen 0) ac aa N P O).mono ?_;rintro e w' ⟨rfl,d,b,X,A,B,C,D,E,i⟩;refine⟨rfl,d,b,?_,A,B,C,D,fun g hg=>?_,?_,fun k m af=>i.block k m (fun e=>by have:=o.lt;omega) (fun e=>by have:=q.lt e;omega)⟩
  ·have h1:=i.head;have F:=y.set 0 d;unfold F0 at F ⊢;rw[h1];simpa using F
  ·rcases E g hg with h|h
   ·exact .inl h
   ·exact .inr (Ag f.size h)
  ·exact⟨i.os.trans f.os,i.tape.trans f.tape,i.output.trans f.output,Ag f.size i.size,fun k m I=>(i.block k (Be m f.size) (fun e=>I (.inl e)) (fun e=>I (.inr e))).trans (f.block k m)⟩
 clear G H Q ab M K L o q N P O z r
 go_region_held3 (fun W=>W.cell? ⟨w.heap.size,0,none⟩=some (.pointer (some ⟨c,0,none⟩))/\W.cell? ⟨w.heap.size,1,none⟩=some (.string n)/\W.cell? ⟨w.heap.size+1,0,none⟩=some (.pointer u.p)/\W.cell? ⟨w.heap.size+1,1,none⟩=some (.int .i64 u.f)) (go_keep)
  (first|(go_at_call 223;refine(RA _ _ hn).mono ?_;rintro e w' ⟨rfl,l⟩;have ae:Bw w w':=(J.drew).trans (l.mono (by have:=J.size;simp;omega));have S:=(l.cell (p:=⟨w.heap.size,0,none⟩) (by simp;omega)).trans a0;have T:=(l.cell (p:=⟨w.heap.size,1,none⟩) (by simp;omega)).trans a1;have U:=(l.cell (p:=⟨w.heap.size+1,0,none⟩) (by simp;omega)).trans c0;have V:=(l.cell (p:=⟨w.heap.size+1,1,none⟩) (by simp;omega)).trans c1;clear l)|(go_at_call 226;refine(Da Z _ (by assumption)).mono ?_;rintro e ah ⟨rfl,d,b,X,A,B,C,D,E,i,s⟩;have m0:=(AC (a:=⟨w.heap.size,0,none⟩) (s _ (Aj _ _ S) (Aa _))).trans S;have m1:=(AC (a:=⟨w.heap.size,1,none⟩) (s _ (Aj _ _ T) (Aa _))).trans T;have m2:=(AC (a:=⟨w.heap.size+1,0,none⟩) (s _ (Aj _ _ U) (EI _))).trans U;have m3:=(AC (a:=⟨w.heap.size+1,1,none⟩) (s _ (Aj _ _ V) (EI _))).trans V))
 all_goals
  go_wp2
  go_end0
  exact⟨rfl,d,b,X,A,B,C,D,E,i⟩
theorem Vu(w:World)(c:Nat)(n:By)(t:Bool)(L u:VS)(v:Value)(es:LS)(m:F0 w c 229 [v])(o:Sl w 310 3 v es.length (Dq es))(H:es.length<=10000)(I:Gm es)(G:(n,u)∈es):
  Cl 196 #[Dn (some ⟨c,0,none⟩) n t L] w fun e w'=>e = .returned (.tuple #[])/\∃d b,F0 w' c 229 [d]/\Sl w' 310 3 d b.length (Dq b)/\
   Gm b/\b.length+1=es.length/\(∀x,x∈b↔x∈es/\x.1≠n)/\Dm w v d/\Fr (fun k=>k=c\/v.ownBlock=some k) w w':=by
 unfold Dn;go_enter Tryz.func196,Tryz.ntmps196;go_wp2;obtain⟨W2,E,q,T,ab,Q⟩:=De w (DQ (some ⟨c,0,none⟩) n t L) 262;rw[E];have B:=q.cell 0;have C:=q.cell 1;have M:Hid (∀j,Bw w j->Cl 233 #[.pointer (some ⟨c,0,none⟩),.string n] j fun e w'=>e = .returned (.tuple #[])/\∃d b,F0 w' c 229 [d]/\Sl w' 310 3 d b.length (Dq b)/\
   Gm b/\b.length+1=es.length/\(∀x,x∈b↔x∈es/\x.1≠n)/\Dm w v d/\Fr (fun k=>k=c\/v.ownBlock=some k) w w'/\∀k,k<j.heap.size->w.heap.size<=k->w'.heap[k]?=j.heap[k]?):=by
  intro j f;have p:F0 j c 229 [v]:=(f.block _ m.lt).trans m;have P:Sl j 310 3 v es.length (Dq es):=o.kept (fun k l _=>f.block k l);have U:v.ownBlock≠some c:=fun e=>by obtain⟨R,O⟩:=o.type e;have:=O.type m;revert this;decide
  refine(M8 j c 0 v es n u (p.cell 0) (p.frozen 0) U P H I G).mono ?_;rintro e w' ⟨rfl,d,b,J,r,s,y,z,A,i⟩;refine⟨rfl,d,b,?_,r,s,y,z,fun g S=>?_,?_,fun k l aa=>i.block k l (fun e=>by have:=m.lt;omega) (fun e=>by have:=o.lt e;omega)⟩
  ·have N:=i.head;have D:=p.set 0 d;unfold F0 at D ⊢;rw[N];simpa using D
  ·rcases A g S with h|h
   ·exact .inl h
   ·exact .inr (Ag f.size h)
  ·exact⟨i.os.trans f.os,i.tape.trans f.tape,i.output.trans f.output,Ag f.size i.size,fun k l F=>(i.block k (Be l f.size) (fun e=>F (.inl e)) (fun e=>F (.inr e))).trans (f.block k l)⟩
 clear E T m o H I G q
 go_region_held3 (fun W=>W.cell? ⟨w.heap.size,0,none⟩=some (.pointer (some ⟨c,0,none⟩))/\W.cell? ⟨w.heap.size,1,none⟩=some (.string n)) (go_keep)
  (first|(go_at_call 233;refine(Da M _ Q.drew).mono ?_;rintro e ac ⟨rfl,d,b,J,r,s,y,z,A,i,K⟩;have m0:=(AC (a:=⟨w.heap.size,0,none⟩) (K _ (Aj _ _ B) (Aa _))).trans B;have m1:=(AC (a:=⟨w.heap.size,1,none⟩) (K _ (Aj _ _ C) (Aa _))).trans C))
 all_goals
  go_wp2
  go_end0
  exact⟨rfl,d,b,J,r,s,y,z,A,i⟩
theorem W7(w:World)(tb i:Nat)(V:NV)(E:NS)(t:Value)(G:Gh)(I:LF)(C:IB)(h:TW w tb i V E t G I C)(k:Gt G)(r:G.length<=10000)(d:LY)(a:Nat)(n:F4 G i d a):
  Cl 225 #[.pointer (some ⟨tb,0,none⟩),.pointer (some ⟨a,0,none⟩)] w fun e w'=>e = .returned (.bool (decide (G.countP (Hk d)<20/\G.length<100)))/\Bw w w':=by
 have m:=Wt G k r i V E 6 [] i w (by simp) (.inl ⟨rfl,rfl⟩) h.d;rw[Yw k]at m;have g:=fun (W:World) (b:Bw w W)=>Zi3 W a (V a) (E a).length (Dq (E a)) ((h.d.below b (Aa _)).row d a n) ((h.d.below b (Aa _)).sl d a n)
 rw[h.d.len k n]at g;have s:=h.t.cell 0;obtain⟨c,l⟩:=ex (G.countP (Hk d));have aa:c<=10000:=by rw[l];exact Ag BT r
 rw[<-l]at g ⊢;have p:=Db g;clear g l;go_enter Tryz.func225,Tryz.ntmps225;go_wp2_with fail;refine m.mono ?_;rintro e w1 ⟨rfl,b⟩;clear m s;by_cases q:20<=c
 ·have j:Hid (decide (c<20/\G.length<100)=false):=B2 (fun h=>by omega);have o:decide (20<=c)=true:=Cs q;go_wp2_with (first|(go_at_call 231;refine(Da p _ b).mono ?_;rintro e w' ⟨rfl,f⟩;rw[f];clear f;rw[o]));go_ret;exact⟨by rw[Da j];rfl,b⟩
 ·have o:decide (20<=c)=false:=B2 q;have j:Hid (decide (c<20/\G.length<100)=decide ((G.length:Int)<100)):=by show _=_;rw[decide_eq_decide];omega
  go_wp2_with (first|(go_at_call 231;refine(Da p _ b).mono ?_;rintro e w' ⟨rfl,f⟩;rw[f];clear f;rw[o]));go_ret;exact⟨by rw[Da j];rfl,b⟩
theorem V3(w:World)(tb d:Nat)(V:NV)(E:NS)(j:Value)(G:Gh)(I:LF)(C:IB)(h:TW w tb d V E j G I C)(l:Gt G)(m:G.length<=10000)(aa:I.length<=10000):
  Cl 81 #[.pointer (some ⟨tb,0,none⟩)] w fun e w'=>e = .returned (.int .i64 ((cD G []+I.length:Nat):Int))/\Bw w w':=by
 have b:=Wt G l m d V E 6 [] d w (by simp) (.inl ⟨rfl,rfl⟩) h.d;have g:=fun (W:World) (a:Bw w W)=>OG W tb 1 j I.length (Du I) ((h.below a (Aa _)).t.cell 1) (h.below a (Aa _)).i
 have n:=h.t.cell 0;have o:=OZ G [];obtain⟨cd,f⟩:∃c,c=cD G []:=⟨_,rfl⟩;rw[<-f]at b o ⊢;have k:=Db g;clear g f;go_enter Tryz.func81,Tryz.ntmps81;go_wp2_with fail;refine b.mono ?_;rintro e w1 ⟨rfl,a⟩;clear b n;go_wp2_with (first|(go_at_call 144;refine(Da k _ a).mono ?_;rintro e w' ⟨rfl,i⟩;rw[i];clear i));go_ret;exact⟨rfl,a⟩
theorem W8(w:World)(tb f:Nat)(V:NV)(E:NS)(m:Value)(G:Gh)(I:LF)(C:IB)(h:TW w tb f V E m G I C)(n:Gt G)(o:G.length<=10000)(s:I.length<=10000)(a:LY)(i:Nat)(u:F4 G f a i):
  Cl 182 #[.pointer (some ⟨tb,0,none⟩),.pointer (some ⟨i,0,none⟩)] w fun e w'=>e = .returned (.bool (decide ((G.countP (Hk a)<20/\G.length<100)/\cD G []+I.length<60)))/\Bw w w':=by
 have p:=W7 w tb f V E m G I C h n o a i u;have k:=fun (W:World) (b:Bw w W)=>V3 W tb f V E m G I C (h.below b (Aa _)) n o s
 obtain⟨l,q⟩:∃c,c=cD G []+I.length:=⟨_,rfl⟩;rw[<-q]at k ⊢;have r:=Db k;clear k q h;go_enter Tryz.func182,Tryz.ntmps182;go_wp2_with fail;refine p.mono ?_;rintro e w2 ⟨rfl,b⟩;clear p;by_cases j:G.countP (Hk a)<20/\G.length<100
 ·have d:decide (G.countP (Hk a)<20/\G.length<100)=true:=Cs j;rw[d];have g:Hid (decide ((G.countP (Hk a)<20/\G.length<100)/\l<60)=decide ((l:Int)<60)):=by show _=_;rw[decide_eq_decide];omega
  clear d;go_wp2_with (first|(go_at_call 81;refine(Da r _ b).mono ?_;rintro e w3 ⟨rfl,t⟩));go_ret;exact⟨by rw[Da g];rfl,b.trans (t.mono b.size)⟩
 ·have d:decide (G.countP (Hk a)<20/\G.length<100)=false:=B2 j;rw[d];have g:Hid (decide ((G.countP (Hk a)<20/\G.length<100)/\l<60)=false):=B2 (fun h=>j h.1);clear d;go_wp2;go_ret;exact⟨by rw[Da g];rfl,b⟩
def Iu{α : Type}(f:Nat -> α)(b:Nat)(v : α):Nat -> α := fun k=>if k=b then v else f k
theorem JL{α : Type}(f:Nat -> α)(b:Nat)(v : α):Iu f b v b=v:=by simp[Iu]
theorem JG{α : Type}(f:Nat -> α){b k:Nat}(v : α)(h:k≠b):Iu f b v k=f k:=by simp[Iu,h]
structure Is(w:World)(rd:Nat)(B:Nat->Prop)(V:NV)(E:NS):Prop where
 row:∀b,B b->F0 w b 229 [V b]
 sl:∀b,B b->Sl w 310 3 (V b) (E b).length (Dq (E b))
 srt:∀b,B b->Gm (E b)
 own:∀b b' g,B b->B b'->(V b).ownBlock=some g->(V b').ownBlock=some g->b=b'
 lo:∀b,B b->rd<=b/\∀g,(V b).ownBlock=some g->rd<=g
theorem GC.h{w:World}{G:Gh}{c:Nat}{V:NV}{E:NS}(h:GC w G c V E):Is w c (fun b=>∃ns,F4 G c ns b) V E:=
 ⟨fun b ⟨ns,a⟩=>h.row ns b a,fun b ⟨ns,a⟩=>h.sl ns b a,fun b ⟨ns,a⟩=>h.srt ns b a,fun b d g ⟨ns,a⟩ ⟨f,e⟩=>h.own ns f b d g a e,fun b ⟨ns,a⟩=>h.lo ns b a⟩
theorem Is.w{w:World}{d:Nat}{B:Nat->Prop}{V:NV}{E:NS}(h:Is w d B V E){G:Gh}(c:∀ns b,F4 G d ns b->B b)(l:∀x∈G,x.2.p=none\/∃b,x.2=⟨some ⟨b,0,none⟩,0⟩)
  (j:∀ns b,F4 G d ns b->Ie G ns (E b)) (k:∀ns e b,F4 G d ns b->F4 G d e b->ns=e):GC w G d V E:=
 ⟨l,fun ns b a=>h.row b (c ns b a),fun ns b a=>h.sl b (c ns b a),fun ns b a=>h.srt b (c ns b a),j,k,fun ns e b f g a i=>h.own b f g (c ns b a) (c e f i),fun ns b a=>h.lo b (c ns b a)⟩
theorem Is.upd{w w':World}{x:Nat}{B:Nat->Prop}{V:NV}{E:NS}(h:Is w x B V E){a:Nat}(j:B a){p:Value}{o:LS}(z:F0 w' a 229 [p])(y:Sl w' 310 3 p o.length (Dq o))(A:Gm o)(s:Dm w (V a) p)
  (u:Fr (fun k=>k=a\/(V a).ownBlock=some k) w w'):Is w' x B (Iu V a p) (Iu E a o):=by
 have v:=h.lo a j;have aa:=(h.row a j).lt;refine⟨fun b c=>?_,fun b c=>?_,fun b c=>?_,fun b n g c r d i=>?_,fun b c=>⟨(h.lo b c).1,fun g l=>?_⟩⟩
 ·by_cases e:b=a
  ·subst e;rw[JL];exact z
  ·rw[JG _ _ e];exact(h.row b c).fr u (fun t=>t.elim e (fun d=>by obtain⟨R,q⟩:=(h.sl a j).type d;have:=q.type (h.row b c);revert this;decide))
 ·by_cases e:b=a
  ·subst e;rw[JL,JL];exact y
  ·rw[JG _ _ e,JG _ _ e];refine(h.sl b c).fr u (fun g l t=>?_);rcases t with rfl|d
   ·obtain⟨R,q⟩:=(h.sl b c).type l;have:=q.type (h.row g j);revert this;decide
   ·exact e (h.own b a g c j l d)
 ·by_cases e:b=a
  ·subst e;rw[JL];exact A
  ·rw[JG _ _ e];exact h.srt b c
 ·by_cases e:b=a
  ·by_cases m:n=a
   ·rw[e,m]
   ·rw[e,JL]at d;rw[JG _ _ m]at i;rcases s g d with f|f
    ·rw[e];exact h.own a n g j r f i
    ·have:=(h.sl n r).lt i;omega
  ·by_cases m:n=a
   ·rw[m,JL]at i;rw[JG _ _ e]at d;rcases s g i with f|f
    ·rw[m];exact h.own b a g c j d f
    ·have:=(h.sl b c).lt d;omega
   ·rw[JG _ _ e]at d;rw[JG _ _ m]at i;exact h.own b n g c r d i
 ·by_cases e:b=a
  ·subst e;rw[JL]at l;rcases s g l with f|f
   ·exact v.2 g f
   ·have:=v.1;omega
  ·rw[JG _ _ e]at l;exact(h.lo b c).2 g l
theorem Is.new{w:World}{i:Nat}{B:Nat->Prop}{V:NV}{E:NS}(h:Is w i B V E){nb:Nat}(n:i<=nb)(c:∀b,B b->b≠nb)(o:F0 w nb 229 [.slice none 0 0]):Is w i (fun b=>B b\/b=nb) (Go.Proofs.YtaieidcohdhgpaaGreatDoor.Iu V nb (.slice none 0 0)) (Go.Proofs.YtaieidcohdhgpaaGreatDoor.Iu E nb []):=by
 refine⟨fun b a=>?_,fun b a=>?_,fun b a=>?_,fun b l g a f d e=>?_,fun b a=>?_⟩
 ·rcases a with a|rfl
  ·rw[JG _ _ (c b a)];exact h.row b a
  ·rw[JL];exact o
 ·rcases a with a|rfl
  ·rw[JG _ _ (c b a),JG _ _ (c b a)];exact h.sl b a
  ·rw[JL,JL];exact⟨rfl,.inl ⟨rfl,rfl⟩⟩
 ·rcases a with a|rfl
  ·rw[JG _ _ (c b a)];exact h.srt b a
  ·rw[JL];intro j k x y _ p;simp at p
 ·rcases a with a|rfl
  ·rcases f with f|rfl
   ·rw[JG _ _ (c b a)]at d;rw[JG _ _ (c l f)]at e;exact h.own b l g a f d e
   ·rw[JL]at e;simp[Value.ownBlock]at e
  ·rw[JL]at d;simp[Value.ownBlock]at d
 ·rcases a with a|rfl
  ·rw[JG _ _ (c b a)];exact h.lo b a
  ·rw[JL];exact⟨n,fun g m=>by simp[Value.ownBlock]at m⟩
theorem F4.func{G:Gh}(c:Gt G){e:Nat}{ns:LY}{b d:Nat}(h:F4 G e ns b)(a:F4 G e ns d):b=d:=by
 rcases h with⟨rfl,rfl⟩|h
 ·rcases a with⟨_,rfl⟩|a
  ·rfl
  ·exact absurd rfl (c.ne _ a)
 ·rcases a with⟨rfl,rfl⟩|a
  ·exact absurd rfl (c.ne _ h)
  ·have:=QN c.nd h a
   simpa using this
theorem Qh{α : Type}{a b:List α}{x y : α}(h:a++[x]=b++[y]):a=b/\x=y:=by
 have:=List.append_inj' h rfl;exact⟨this.1,by simpa using this.2⟩
theorem GC.addFile{w w':World}{G:Gh}{l:Nat}{V:NV}{E:NS}(h:GC w G l V E)(y:Gt G){d:LY}{c:Nat}(s:F4 G l d c){n:By}{f:Int}
  {p:Value} {i:LS} (D:F0 w' c 229 [p]) (z:Sl w' 310 3 p i.length (Dq i)) (F:Gm i) (B:∀x,x∈i↔x=(n,⟨none,f⟩)\/x∈E c) (C:Dm w (V c) p)
  (A:Fr (fun k=>k=c\/(V c).ownBlock=some k) w w'):GC w' (G++[(d++[n],⟨none,f⟩)]) l (Iu V c p) (Iu E c i):=by
 have o:∀ns b,F4 (G++[(d++[n],(⟨none,f⟩:VS))]) l ns b↔F4 G l ns b:=by
  intro ns b;constructor
  ·rintro(e|a)
   ·exact .inl e
   ·rcases Ap.1 a with a|a
    ·exact .inr a
    ·simp at a
  ·rintro(e|a)
   ·exact .inl e
   ·exact .inr (A0 _ a)
 refine(h.h.upd ⟨d,s⟩ D z F C A).w (fun ns b r=>⟨ns,(o ns b).1 r⟩) (fun x a=>?_) (fun ns b r=>?_) (fun ns H b t v=>h.inj ns H b ((o _ _).1 t) ((o _ _).1 v))
 ·rcases Ap.1 a with a|a
  ·exact h.shp x a
  ·obtain rfl:x=_:=by simpa using a
   exact .inl rfl
 ·have j:=(o ns b).1 r;intro m u;by_cases e:b=c
  ·subst e;obtain rfl:=h.inj ns d b j s;rw[JL,B,Ap,h.en ns b j m u,Ab];constructor
   ·rintro(e|e)
    ·right;obtain⟨rfl,rfl⟩:=Ev e;rfl
    ·exact .inl e
   ·rintro(e|e)
    ·exact .inr e
    ·left;obtain⟨g,q⟩:=Ev e;rw[(Qh g).2,q]
  ·rw[JG _ _ e,h.en ns b j m u,Ap,Ab];constructor
   ·exact .inl
   ·rintro(g|g)
    ·exact g
    ·obtain⟨q,_⟩:=Ev g;rw[(Qh q).1]at j;exact absurd (j.func y s) e
theorem GC.addDir{w w':World}{G:Gh}{g:Nat}{V:NV}{E:NS}(h:GC w G g V E)(C:Gt G){d:LY}{c:Nat}(y:F4 G g d c){n:By}(H:Gr G (d++[n])=none){nb:Nat}(L:g<=nb)(r:∀ns b,F4 G g ns b->b≠nb)(M:F0 w' nb 229 [.slice none 0 0])
  {s:Value} {l:LS} (N:F0 w' c 229 [s]) (F:Sl w' 310 3 s l.length (Dq l)) (O:Gm l) (J:∀x,x∈l↔x=(n,⟨some ⟨nb,0,none⟩,0⟩)\/x∈E c) (K:Dm w (V c) s)
  (I:Fr (fun k=>k=c\/(V c).ownBlock=some k) w w'):GC w' (G++[(d++[n],⟨some ⟨nb,0,none⟩,0⟩)]) g (Iu (Iu V c s) nb (.slice none 0 0)) (Iu (Iu E c l) nb []):=by
 have q:∀ns b,F4 (G++[(d++[n],(⟨some ⟨nb,0,none⟩,0⟩:VS))]) g ns b->F4 G g ns b\/(ns=d++[n]/\b=nb):=by
  intro ns b;rintro(e|a)
  ·exact .inl (.inl e)
  ·rcases Ap.1 a with a|a
   ·exact .inl (.inr a)
   ·simp at a;exact .inr a
 refine((h.h.upd ⟨d,y⟩ N F O K I).new L (fun b ⟨ns,p⟩=>r ns b p) M).w (fun ns b p=>?_) (fun x a=>?_) (fun ns b p=>?_) (fun ns A b o B=>?_)
 ·rcases q ns b p with o|⟨_,o⟩
  ·exact .inl ⟨ns,o⟩
  ·exact .inr o
 ·rcases Ap.1 a with a|a
  ·exact h.shp x a
  ·obtain rfl:x=_:=by simpa using a
   exact .inr ⟨nb,rfl⟩
 ·intro m u;rcases q ns b p with i|⟨rfl,rfl⟩
  ·rw[JG _ _ (r ns b i)];by_cases e:b=c
   ·subst e;obtain rfl:=h.inj ns d b i y;rw[JL,J,Ap,h.en ns b i m u,Ab];constructor
    ·rintro(e|e)
     ·right;obtain⟨rfl,rfl⟩:=Ev e;rfl
     ·exact .inl e
    ·rintro(e|e)
     ·exact .inr e
     ·left;obtain⟨f,j⟩:=Ev e;rw[(Qh f).2,j]
   ·rw[JG _ _ e,h.en ns b i m u,Ap,Ab];constructor
    ·exact .inl
    ·rintro(f|f)
     ·exact f
     ·obtain⟨j,_⟩:=Ev f;rw[(Qh j).1]at i;exact absurd (i.func C y) e
  ·rw[JL];constructor
   ·intro a;cases a
   ·intro a;exfalso;rcases Ap.1 a with a|a
    ·rcases C.up _ _ _ a with e|⟨v,P,_⟩
     ·simp at e
     ·exact Uj H v P
    ·have e:=(Ev (Ab.1 a)).1;have:=Ca List.length e;simp at this
 ·rcases q ns b o with D|⟨f,j⟩
  ·rcases q A b B with z|⟨_,t⟩
   ·exact h.inj ns A b D z
   ·exact absurd t (r _ _ D)
  ·rcases q A b B with z|⟨t,_⟩
   ·exact absurd j (r _ _ z)
   ·rw[f,t]
theorem GC.del{w w':World}{G G':Gh}{i:Nat}{V:NV}{E:NS}(h:GC w G i V E)(v:Gt G){j:LY}{a:Nat}(r:F4 G i j a){n:By}(l:∀x,x∈G'↔x∈G/\x.1≠j++[n])
  {p:Value} {d:LS} (C:F0 w' a 229 [p]) (y:Sl w' 310 3 p d.length (Dq d)) (D:Gm d) (A:∀x,x∈d↔x∈E a/\x.1≠n) (B:Dm w (V a) p)
  (z:Fr (fun k=>k=a\/(V a).ownBlock=some k) w w'):GC w' G' i (Iu V a p) (Iu E a d):=by
 have o:∀ns b,F4 G' i ns b->F4 G i ns b:=by
  intro ns b;rintro(e|s)
  ·exact .inl e
  ·exact .inr ((l _).1 s).1
 refine(h.h.upd ⟨j,r⟩ C y D B z).w (fun ns b q=>⟨ns,o ns b q⟩) (fun x s=>h.shp x ((l x).1 s).1) (fun ns b q=>?_) (fun ns F b c f=>h.inj ns F b (o _ _ c) (o _ _ f));have g:=o ns b q;intro m u;by_cases e:b=a
 ·subst e;obtain rfl:=h.inj ns j b g r;rw[JL,A,l,h.en ns b g m u];constructor
  ·rintro⟨c,f⟩;exact⟨c,fun e=>f (Qh e).2⟩
  ·rintro⟨c,f⟩;exact⟨c,fun e=>f (by rw[show m=n from e])⟩
 ·rw[JG _ _ e,h.en ns b g m u,l];constructor
  ·intro c;refine⟨c,fun t=>?_⟩;rw[(Qh t).1]at g;exact e (g.func v r)
  ·exact fun c=>c.1
def DP(tb:Nat)(w:World)(k:Nat):Prop:=(∃t R,F0 w k t R/\(t=214\/t=229\/t=310\/t=293))/\tb<=k+1
def PS(w:World)(tb:Nat)(G:Gh)(I:LF)(C:IB):Prop:=∃rd V E vi,TW w tb rd V E vi G I C
theorem F0.back{B:Nat}{w w':World}(b:Below B w w'){k:Nat}(_hk:k<w.heap.size)(a:k<B){t:TypeId}{R:F6}(h:F0 w' k t R):F0 w k t R:=(b.block k a).symm.trans h
theorem Fr.prog{tb:Nat}{w w1 w2:World}(a:Bw w w1)(b:Fr (DP tb w1) w1 w2):Fr (DP tb w) w w2:=
 ⟨b.os.trans a.os,b.tape.trans a.tape,b.output.trans a.output,Ag a.size b.size,fun k c e=>(b.block k (Be c a.size) (fun ⟨⟨t,R,d,g⟩,f⟩=>e ⟨⟨t,R,d.back a c c,g⟩,f⟩)).trans (a.block k c)⟩
theorem Fr.progTrans{tb:Nat}{w w1 w2:World}(a:Fr (DP tb w) w w1)(b:Fr (DP tb w1) w1 w2):Fr (DP tb w) w w2:=
 ⟨b.os.trans a.os,b.tape.trans a.tape,b.output.trans a.output,Ag a.size b.size,fun k f e=>by
  have c:=a.block k f e;refine(b.block k (Be f a.size) (fun ⟨⟨t,R,d,h⟩,g⟩=>e ⟨⟨t,R,?_,h⟩,g⟩)).trans c;unfold F0 at d ⊢;rw[<-c];exact d⟩
theorem Fr.progOne{tb:Nat}{w w':World}{b:Nat}{v:Value}(c:tb<=b+1/\∀g,v.ownBlock=some g->tb<=g+1)(h:F0 w b 229 [v]){n:Nat}{xs:F6}(e:Sl w 310 3 v n xs)(f:Fr (fun k=>k=b\/v.ownBlock=some k) w w'):Fr (DP tb w) w w':=
 f.mono (fun k _ a=>by
  rcases a with rfl|a
  ·exact⟨⟨229,_,h,.inr (.inl rfl)⟩,c.1⟩
  ·obtain⟨R,d⟩:=e.type a;exact⟨⟨310,R,d,.inr (.inr (.inl rfl))⟩,c.2 k a⟩)
theorem TW.dirs{w w':World}{tb m:Nat}{V:NV}{E:NS}{y:Value}{G:Gh}{I:LF}{C:IB}(h:TW w tb m V E y G I C){f:Nat}{v:Value}(r:F0 w f 229 [v]){n:Nat}{xs:F6}(q:Sl w 310 3 v n xs)(d:Fr (fun k=>k=f\/v.ownBlock=some k) w w')
  {G':Gh} {p:NV} {o:NS} (A:GC w' G' m p o):TW w' tb m p o y G' I C:=by
 have j:∀k t R,(k=f\/v.ownBlock=some k)->F0 w k t R->t=229\/t=310:=fun k t R c b=>by
  rcases c with rfl|c
  ·exact .inl (b.type r)
  ·obtain⟨z,i⟩:=q.type c;exact .inr (b.type i)
 refine⟨h.pk.fr d (fun e=>?_),h.t.fr d (fun e=>?_),A,h.i.fr d (fun g l e=>?_),h.si,fun x u=>(h.dat x u).fr d (fun g l e=>?_),h.lo⟩
 ·obtain⟨_,s⟩:=h.pk;rcases e with rfl|c
  ·have:=s _ _ r;revert this;decide
  ·obtain⟨z,i⟩:=q.type c;have:=s _ _ i;revert this;decide
 ·rcases j _ _ _ e h.t with a|a<;>(revert a;decide)
 ·obtain⟨R,b⟩:=h.i.type l;rcases j _ _ _ e b with a|a<;>(revert a;decide)
 ·obtain⟨R,b⟩:=(h.dat x u).type l;rcases j _ _ _ e b with a|a<;>(revert a;decide)
def Jp(G:Gh)(I:LF)(ds:LY):Bool:=decide ((G.countP (Hk ds)<20/\G.length<100)/\cD G []+I.length<60)
def IC(G:Gh)(I:LF)(p:By):Int:=if DU p=false then 1 else if Jo G (Df p)≠0 then Jo G (Df p) else if Jp G I (Df p).dropLast=false then 8 else 0
def Q7(w:World)(tb:Nat)(G:Gh)(I:LF)(C:IB)(p:By)(e:Ending)(w':World):Prop:=
 e = .returned (.int .i64 (IC G I p))/\Fr (DP tb w) w w'/\((IC G I p≠0/\PS w' tb G I C)\/(IC G I p=0/\∃nb,PS w' tb (G++[(Df p,⟨some ⟨nb,0,none⟩,0⟩)]) I C))
def Hz(G:Gh)(p:By):Int:=if DU p=false then 1 else Jo G (Df p)
def SA(G:Gh)(rd:Nat)(p:By)(w:World)(e:Ending)(w':World):Prop:=
 ((Hz G p≠0/\e = .returned (.tuple #[DF,.int .i64 (Hz G p)]))\/
  (Hz G p=0/\DU p=true/\∃ds n db,Df p=ds++[n]/\F4 G rd ds db/\Gr G (Df p)=none/\e = .returned (.tuple #[Dn (some ⟨db,0,none⟩) n false ⟨none,0⟩,.int .i64 0])))/\Bw w w'
theorem Ok(w:World)(tb u:Nat)(V:NV)(E:NS)(Q:Value)(G:Gh)(I:LF)(C:IB)(h:TW w tb u V E Q G I C)(hG:Gt G)(aa:G.length<=10000)(p:By)(hp:p.size<=2000000):
  Cl 181 #[.pointer (some ⟨tb,0,none⟩),.string p] w (SA G u p w):=by
 obtain⟨m,M⟩:=h.pk.1;have h0:0<w.heap.size:=Aj _ _ M;have x:∀o,Bw w (w.alloc o):=fun o=>(Al _ _).alloc (Aa _) o
 have N:=fun o=>Rp p m (w.alloc o) hp (((x o).cell (p:=⟨0,0,none⟩) h0).trans M)
 have P:=Jh w [.pointer none,.string ⟨#[]⟩,.bool false,.pointer none,.int .i64 0] 262;have U:=Db P;clear P;go_enter Tryz.func181,Tryz.ntmps181;go_wp2_with fail;refine(N _).mono ?_;rintro e w1 ⟨A,y⟩;have k:Bw w w1:=(x _).trans (y.mono (by simp));have d:F0 w1 w.heap.size 262 _:=(y.block _ (by simp)).trans (Da U);have R:=Db h;clear N x h;rcases A with⟨g,rfl⟩|⟨g,a,c,rfl,D⟩
 ·have i:Hid (Hz G p=1):=by show _=_;unfold Hz;rw[if_pos g]
  have g0:=d.frozen 0;have g1:=d.frozen 1;have g2:=d.frozen 2;have g3:=d.frozen 3;have g4:=d.frozen 4;have W:=d.cell 0;have X:=d.cell 1;have Y:=d.cell 2;have Z:=d.cell 3;have a4:=d.cell 4;clear g;go_wp2;have b:=Jw d (.pointer none) (.string ⟨#[]⟩) (.bool false) (.pointer none) (.int .i64 0);have l:=b.cell 0;have q:=b.cell 1;have r:=b.cell 2;have s:=b.cell 3;have t:=b.cell 4;exact Ax (v := .tuple #[DF,.int .i64 1]) (by simp[results,Tryz.results181,go_sem,l,q,r,s,t,DF,Dn]) rfl
   ⟨.inl ⟨by rw[Da i];decide,by rw[Da i]⟩,JH k (Aa _) _ _ _ _ _⟩
 ·have i:Hid (Hz G p=Jo G (Df p)):=by show _=_;unfold Hz;rw[if_neg (by rw[g];simp)]
  have B:=(Da R).below k (Aa _);have L:=TM w1 tb u V E Q G I C B hG aa (Df p) (UG g) a c D;have S:=Db g;clear g B;go_wp2_with fail;refine L.mono ?_;rintro e w2 ⟨A,z⟩;have f:F0 w2 w.heap.size 262 _:=(z.block _ d.lt).trans d;have H:Bw w w2:=k.trans (z.mono k.size);clear L d k z y D;have g0:=f.frozen 0;have g1:=f.frozen 1;have g2:=f.frozen 2;have g3:=f.frozen 3;have g4:=f.frozen 4;have W:=f.cell 0;have X:=f.cell 1;have Y:=f.cell 2;have Z:=f.cell 3;have a4:=f.cell 4;rcases A with⟨ab,rfl⟩|⟨K,ds,n,j,O,J,F,rfl⟩
  ·unfold DF Dn;go_wp2;have b:=Jw f (.pointer none) (.string ⟨#[]⟩) (.bool false) (.pointer none) (.int .i64 0);have l:=b.cell 0;have q:=b.cell 1;have r:=b.cell 2;have s:=b.cell 3;have t:=b.cell 4;exact Ax (v := .tuple #[DF,.int .i64 (Jo G (Df p))]) (by simp[results,Tryz.results181,go_sem,l,q,r,s,t,DF,Dn]) rfl
    ⟨.inl ⟨by rw[Da i];exact ab,by rw[Da i]⟩,JH H (Aa _) _ _ _ _ _⟩
  ·have T:Hid (SA G u p w (.returned (.tuple #[Dn (some ⟨j,0,none⟩) n false ⟨none,0⟩,.int .i64 0])) (((((w2.setCell ⟨w.heap.size,0,none⟩ (.pointer (some ⟨j,0,none⟩))).setCell ⟨w.heap.size,1,none⟩ (.string n)).setCell ⟨w.heap.size,2,none⟩ (.bool false)).setCell ⟨w.heap.size,3,none⟩ (.pointer none)).setCell ⟨w.heap.size,4,none⟩ (.int .i64 0))):=
    ⟨.inr ⟨(Da i).trans K,Da S,ds,n,j,O,J,F,rfl⟩,JH H (Aa _) _ _ _ _ _⟩
   clear K O J F;unfold Dn;go_wp2;have b:=Jw f (.pointer (some ⟨j,0,none⟩)) (.string n) (.bool false) (.pointer none) (.int .i64 0);have l:=b.cell 0;have q:=b.cell 1;have r:=b.cell 2;have s:=b.cell 3;have t:=b.cell 4;exact Ax (v := .tuple #[Dn (some ⟨j,0,none⟩) n false ⟨none,0⟩,.int .i64 0]) (by simp[results,Tryz.results181,go_sem,l,q,r,s,t,Dn]) rfl (Da T)
theorem VY(w:World)(tb:Nat)(G:Gh)(I:LF)(C:IB)(h:PS w tb G I C)(y:Gt G)(D:G.length<=10000)(an:I.length<=10000)(p:By)(hp:p.size<=2000000):
  Cl 122 #[.pointer (some ⟨tb,0,none⟩),.string p] w (Q7 w tb G I C p):=by
 obtain⟨u,V,E,z,h⟩:=h;have N:Hid (∀W,Bw w W->IC G I p≠0->Q7 w tb G I C p (.returned (.int .i64 (IC G I p))) W):=fun W g m=>⟨rfl,Fr.of_below g,.inl ⟨m,u,V,E,z,h.below g (Aa _)⟩⟩
 have af:=Ok w tb u V E z G I C h y D p hp;have v:=Db h;clear h;go_enter Tryz.func122,Tryz.ntmps122;go_wp2_with fail;refine af.mono ?_;rintro e w2 ⟨aq,g⟩;clear af;rcases aq with⟨m,rfl⟩|⟨o,k,c,n,f,J,a,ab,rfl⟩
 ·have j:Hid (IC G I p=Hz G p):=by
   show _=_;unfold IC Hz at *;by_cases k:DU p=false
   ·rw[if_pos k,if_pos k]
   ·rw[if_neg k]at m;rw[if_neg k,if_neg k,if_pos m]
  have al:=Db m;have aw:(Hz G p != 0)=true:=by simpa using m
  clear m;unfold DF Dn;go_wp2;go_ret;have:=Da N _ (g.alloc g.size (.cells (DQ none ⟨#[]⟩ false ⟨none,0⟩).toArray 262)) (by rw[Da j];exact Da al);rw[Da j]at this;exact this
 ·have o:Jo G (Df p)=0:=by unfold Hz at o;rw[if_neg (by rw[k];simp)]at o;exact o
  have B:=Db k;obtain⟨W,hW,i,hk,ax,ap⟩:=De w2 (DQ (some ⟨f,0,none⟩) n false ⟨none,0⟩) 262;have F:Bw w W:=g.trans (ap.mono g.size);have ag:=W8 W tb u V E z G I C ((Da v).below F (Aa _)) y D an c f a;have A:Hid (IC G I p=if Jp G I c=false then 8 else 0):=by
   show _=_;unfold IC;rw[if_neg (by rw[Da B];simp),if_neg (by rw[o];simp),J,CX]
  have q:=Db J;have L:=Db ab;have aj:=Db a;have O:=Db hW;clear o J ab a hk hW;unfold Dn;go_upto_if 20 with fail;rw[Da O];clear O;have Q:=i.cell 0;have S:=i.cell 1;have T:=i.cell 2;have U:=i.cell 3;have X:=i.cell 4;go_wp2_with fail;refine ag.mono ?_;rintro e l ⟨rfl,ac⟩;have s:F0 l w2.heap.size 262 _:=(ac.block _ i.lt).trans i;have r:Bw w l:=F.trans (ac.mono F.size);clear ag Q S T U X;change Hid (IC G I p=if Jp G I c=false then 8 else 0) at A;rw[show decide ((G.countP (Hk c)<20/\G.length<100)/\cD G []+I.length<60)=Jp G I c from rfl]
  cases hmb:Jp G I c with
  | false=>
   have j:Hid (IC G I p=8):=by show _=_;rw[Da A,hmb];rfl
   go_wp2;go_ret;have:=Da N l r (by rw[Da j];decide);rw[Da j]at this;exact this
  | true=>
   have j:Hid (IC G I p=0):=by show _=_;rw[Da A,hmb];rfl
   have Q:=s.cell 0;have S:=s.cell 1;have T:=s.cell 2;have U:=s.cell 3;have X:=s.cell 4;obtain⟨P,aa,ai,av,ay,ao⟩:=De l [.slice none 0 0] 229;have ad:Bw w P:=r.trans (ao.mono r.size);have d:=(Da v).below ad (Aa _);have a:=Da aj;have H:=Vk P f n (by
    have:=UG (Da B)
    cases hr:(p.toList==[47]) with
    | true=>have Y:=Uw hr;rw[Da q]at Y;simp at Y
    | false=>
     have Z:=(QX (Da B) hr).2.1 n (by rw[Da q];simp);simp only[DX,Bu,AJ]at Z;have:=Z.1.2;omega) false ⟨none,0⟩ ⟨some ⟨l.heap.size,0,none⟩,0⟩ (V f) (E f) (d.d.row c f a) (d.d.sl c f a) (Ag (d.d.le y a) D) (d.d.srt c f a) (fun x i e=>by
     have:=(d.d.en c f a x.1 x.2).1 i;rw[e]at this;exact Uj (by rw[<-Da q];exact Da L) _ this)
   unfold Dn at H;have M:=Db H;have H4:=Db d;have am:=Db aa;clear H d aa;go_wp2_with fail;rw[Da am];refine(Da M).mono ?_;rintro e w5 ⟨rfl,v',au,q1,q2,q3,q4,q5,q6,t⟩;have ak:Hid (Q7 w tb G I C p (.returned (.int .i64 0)) w5):=by
    have d:=Da H4;have ah:=d.d.row c f a;have K:=d.d.sl c f a;have ae:∀ns b,F4 G u ns b->b≠l.heap.size:=fun ns b g e=>by
     have:=((Da v).d.row ns b g).lt;have:=r.size;omega
    have ar:F0 w5 l.heap.size 229 [.slice none 0 0]:=by
     refine ai.fr t (fun e=>?_);rcases e with e|e
     ·exact ae c f a e.symm
     ·obtain⟨R,hR⟩:=K.type e;have:=hR.type ai;revert this;decide
    have hD:=d.d.addDir y a (by rw[<-Da q];exact Da L) (Ag (Nat.le_of_lt ((Da v).d.row _ _ (.inl ⟨rfl,rfl⟩)).lt) r.size) ae ar q1 q2 q3 q5 q6 t;have hT:=TW.dirs d ah K t hD;rw[<-Da q]at hT;exact⟨by rw[Da j],Fr.prog ad (Fr.progOne (d.dlo a) ah K t),.inr ⟨Da j,l.heap.size,u,_,_,z,hT⟩⟩
   clear M q1 q2 q3 q4 q5 q6 t;go_wp2;go_ret;exact Da ak
end Go.Proofs.YtaieidcohdhgpaaGreatDoor
