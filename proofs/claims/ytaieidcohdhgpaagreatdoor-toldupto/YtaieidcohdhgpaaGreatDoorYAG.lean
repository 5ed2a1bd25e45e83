/- Told. -/
import Derived.Test.YtaieidcohdhgpaaGreatDoorYAF
namespace Go.Proofs.YtaieidcohdhgpaaGreatDoor
set_option maxHeartbeats 40000000
set_option maxRecDepth 100000
open Tryz
open Go.RowKit
def Lt(name:By)(n:Nat):Value:=.agg #[.string name,.bool true,.int .i64 (n:Int),.int .i64 1]
def Lq(name:By)(n:Nat)(l:Int):Value:=.agg #[.string name,.bool false,.int .i64 (n:Int),.int .i64 l]
theorem JL{w:World}{b:Nat}{t:TypeId}{f g i j:Value}(h:FX w b t [f,g,i,j])(a c d e:Value):FX ((((w.setCell ⟨b,0,none⟩ a).setCell ⟨b,1,none⟩ c).setCell ⟨b,2,none⟩ d).setCell ⟨b,3,none⟩ e) b t [a,c,d,e]:=by
 have:=(((h.set 0 a).set 1 c).set 2 d).set 3 e
 simpa using this
theorem Qu{w w1:World}{B b:Nat}(h:Below B w w1)(a:B<=b)(c d e f:Value):Below B w ((((w1.setCell ⟨b,0,none⟩ c).setCell ⟨b,1,none⟩ d).setCell ⟨b,2,none⟩ e).setCell ⟨b,3,none⟩ f):=
 (((h.setCell (p:=⟨b,0,none⟩) a _).setCell (p:=⟨b,1,none⟩) a _).setCell (p:=⟨b,2,none⟩) a _).setCell (p:=⟨b,3,none⟩) a _
theorem Zkj(w:World)(tb B:Nat)(V:NV)(E:NS)(U:Value)(G:Gh)(I:LF)(C:IB)(h:TW w tb B V E U G I C)(K:Gk G)(L:G.length<=10000)(d:By)(O:d.size<=2000000)(ns:LY)(b:Nat)(l:FY G B ns b):
  Cl 180 #[.pointer (some ⟨tb,0,none⟩),.string d,.agg #[.pointer (some ⟨b,0,none⟩),.int .i64 0]] w λe w'=>e=.returned (Lt d (G.countP (He ns)))/\Bw w w':=by
 have HH:=Db h;have u:=h.d.len K l;have i:=λ(W:World) (hb:Bw w W)=>Lp W b 0 (V b) (E b).length (Dm (E b)) ((h.d.below hb (Aa _)).row ns b l |>.cell 0) ((h.d.below hb (Aa _)).sl ns b l)
 rw[u]at i;have M:G.countP (He ns)<=10000:=Af B2 L;obtain⟨c,t⟩:=ex (G.countP (He ns));rw[<-t]at i M ⊢;have F:=Db i;clear i t u h;go_enter func180,ntmps180;go_wp2_with fail;obtain⟨H,o,A,N,y,q⟩:=De w [.pointer (some ⟨b,0,none⟩),.int .i64 0] 260;obtain⟨J,p,j,x,P,r⟩:=De H [.string ⟨#[]⟩,.bool false,.int .i64 0,.int .i64 0] 112;have k:Bw w J:=q.trans (r.mono (by omega));have n:=x _ _ _ A;rw[y]at j;rw[o,p];clear o p N x q r A;refine(RA _ _ O).mono ?_;rintro e m⟨rfl,g⟩;have D:FX m w.heap.size 260 _:=(g.block _ n.lt).trans n;have a:FX m (w.heap.size+1) 112 _:=(g.block _ j.lt).trans j;have s:Bw w m:=k.trans (g.mono k.size);have a0:=D.cell 0;have a1:=D.cell 1;have b0:=a.cell 0;have b1:=a.cell 1;have b2:=a.cell 2;have b3:=a.cell 3;have f0:=a.frozen 0;have f1:=a.frozen 1;have f2:=a.frozen 2;have f3:=a.frozen 3;clear n j k g y P;go_wp2_with(first|(go_at_call 178;refine(Da F _ s).mono ?_;rintro e w'⟨rfl,z⟩;rw[z];clear z));have f:=JL a (.string d) (.bool true) (.int .i64 (c:Int)) (.int .i64 1);have Q:=f.cell 0;have R:=f.cell 1;have S:=f.cell 2;have T:=f.cell 3;exact Ap (v:=Lt d c) (by simp[results,results180,go_sem,Q,R,S,T,Lt]) rfl ⟨rfl,Qu s (EL _) _ _ _ _⟩
theorem Zki(w:World)(tb Q:Nat)(V:NV)(E:NS)(R:Value)(G:Gh)(I:LF)(C:IB)(h:TW w tb Q V E R G I C)(Y:I.length<=10000)(m:By)(hn:m.size<=2000000)(n:Int)(r:VF)(M:(n,r)∈I):
  Cl 180 #[.pointer (some ⟨tb,0,none⟩),.string m,.agg #[.pointer none,.int .i64 n]] w λe w'=>e=.returned (Lq m r.l r.f)/\Bw w w':=by
 have B:Hid (∀W,Bw w W->_):=λW Z=>Qd W tb Q V E R G I C (h.below Z (Aa _)) Y n r M
 clear h M;go_enter func180,ntmps180;go_wp2_with fail;obtain⟨T,F,P,ab,O,J⟩:=De w [.pointer none,.int .i64 n] 260;obtain⟨U,H,s,N,ag,K⟩:=De T [.string ⟨#[]⟩,.bool false,.int .i64 0,.int .i64 0] 112;have x:Bw w U:=J.trans (K.mono (by omega));have y:=N _ _ _ P;rw[O]at s;rw[F,H];clear F H ab N J K P;refine(RA _ _ hn).mono ?_;rintro e a⟨rfl,c⟩;have A:FX a w.heap.size 260 _:=(c.block _ y.lt).trans y;have S:FX a (w.heap.size+1) 112 _:=(c.block _ s.lt).trans s;have j:Bw w a:=x.trans (c.mono x.size);have a0:=A.cell 0;have X:=A.cell 1;have ad:w.heap.size+1<a.heap.size:=S.lt;have ae:¬a.heap.size=w.heap.size:=by omega
 have af:¬w.heap.size=a.heap.size:=by omega
 have u:=j.drew;clear y s x c O ag;go_upto_region 4 with fail
 go_region_held3 (λW=>W.cell? ⟨w.heap.size,1,none⟩=some (.int .i64 n)) (go_keep)
  (first|(go_at_call 175;refine(Da B _ (by first|exact j.drew|exact u.alloc u.size _|exact(j.alloc j.size _).drew)).mono ?_;rintro e w'⟨rfl,q⟩;have c:Bw a w':=(by first|exact((Ak _ a).drew).trans (q.mono (by simp))|exact(((Ak _ a).alloc (Aa _) _).drew).trans (q.mono (by simp)));have m0:=(c.cell (p:=⟨w.heap.size,1,none⟩) (by show w.heap.size<a.heap.size;omega)).trans X;(try(have z:FX w' a.heap.size 217 [.slice none 0 0,.int .i64 0]:=(q.block a.heap.size (by simp)).trans (Je a [.slice none 0 0,.int .i64 0] 217);have z0:=z.cell 0;have A:=z.cell 1;have ai:=z.frozen 0;have aj:=z.frozen 1))))
 case' refine_2.refine_3.refine_3.refine_3.refine_3.refine_3.refine_1.refine_2.refine_3.refine_3.refine_3.refine_1.refine_2.refine_1.refine_2.refine_3=>
  obtain⟨g,l,f,ac,ah,L⟩:=De w' [.slice r.a r.l r.c,.int .i64 r.f] 217;rw[l];have k:Bw a g:=c.trans (L.mono c.size);have D:a.heap.size<=w'.heap.size:=c.size;obtain⟨t,i⟩:∃b,b=w'.heap.size:=⟨_,rfl⟩;rw[<-i]at f D ⊢;clear l ac ah L i
 case' refine_2.refine_3.refine_3.refine_3.refine_3.refine_3.refine_2.refine_1.refine_2.refine_1.refine_2.refine_3.refine_3.refine_3.refine_1.refine_2.refine_3=>
  have f:FX ((w'.setCell ⟨a.heap.size,0,none⟩ (.slice r.a r.l r.c)).setCell ⟨a.heap.size,1,none⟩ (.int .i64 r.f)) a.heap.size 217 [.slice r.a r.l r.c,.int .i64 r.f]:=by
   have:=(z.set 0 (.slice r.a r.l r.c)).set 1 (.int .i64 r.f)
   simpa using this
  have k:Bw a ((w'.setCell ⟨a.heap.size,0,none⟩ (.slice r.a r.l r.c)).setCell ⟨a.heap.size,1,none⟩ (.int .i64 r.f)):=(c.setCell (p:=⟨a.heap.size,0,none⟩) (Aa _) _).setCell (p:=⟨a.heap.size,1,none⟩) (Aa _) _;obtain⟨g,l⟩:∃g,(w'.setCell ⟨a.heap.size,0,none⟩ (.slice r.a r.l r.c)).setCell ⟨a.heap.size,1,none⟩ (.int .i64 r.f)=g:=⟨_,rfl⟩;rw[l]at f k ⊢;obtain⟨t,i⟩:∃b,b=a.heap.size:=⟨_,rfl⟩;have D:a.heap.size<=t:=by omega
  rw[<-i]at f;rw[show(Value.pointer (some { block:=a.heap.size,off:=0 }))=Value.pointer (some { block:=t,off:=0 }) by rw[i]];clear l i
 all_goals
  have d:FX g (w.heap.size+1) 112 _:=(k.block _ ad).trans S;have aa:Bw w g:=j.trans (k.mono j.size);have b0:=d.cell 0;have b1:=d.cell 1;have b2:=d.cell 2;have b3:=d.cell 3;have f0:=d.frozen 0;have f1:=d.frozen 1;have f2:=d.frozen 2;have f3:=d.frozen 3;have c0:=f.cell 0;have c1:=f.cell 1;clear ae af u q c m0 k B f;go_wp2;have o:=JL d (.string m) (.bool false) (.int .i64 (r.l:Int)) (.int .i64 r.f);have r0:=o.cell 0;have r1:=o.cell 1;have r2:=o.cell 2;have r3:=o.cell 3;exact Ap (v:=Lq m r.l r.f) (by simp[results,results180,go_sem,r0,r1,r2,r3,Lq]) rfl ⟨rfl,Qu aa (EL _) _ _ _ _⟩
def Qm(G:Gh)(I:LF)(ns:LY)(name:By)(u:VS)(v:Value):Prop:=
 (u.p.isSome=true/\v=Lt name (G.countP (He ns)))\/(u.p=none/\∃r,(u.f,r)∈I/\v=Lq name r.l r.f)
theorem Wa(w:World)(tb c:Nat)(V:NV)(E:NS)(g:Value)(G:Gh)(I:LF)(C:IB)(h:TW w tb c V E g G I C)(l:Gk G)(m:G.length<=10000)(n:I.length<=10000)(k:GQ G I)(a:By)(j:a.size<=2000000)(ns:LY)(u:VS)(p:(∃b,u=⟨some ⟨b,0,none⟩,0⟩/\FY G c ns b)\/(u.p=none/\∃x∈G,x.2=u)):
  Cl 180 #[.pointer (some ⟨tb,0,none⟩),.string a,.agg #[.pointer u.p,.int .i64 u.f]] w λe w'=>∃v,e=.returned v/\Qm G I ns a u v/\Bw w w':=by
 rcases p with⟨b,rfl,o⟩|⟨f,x,q,rfl⟩
 ·refine(Zkj w tb c V E g G I C h l m a j ns b o).mono ?_;rintro e w'⟨rfl,d⟩;exact⟨_,rfl,.inl ⟨rfl,rfl⟩,d⟩
 ·obtain⟨r,i,_,_⟩:=k x q f;rw[f];refine(Zki w tb c V E g G I C h n a j x.2.f r i).mono ?_;rintro e w'⟨rfl,d⟩;exact⟨_,rfl,.inr ⟨f,r,i,rfl⟩,d⟩
theorem WR{G:Gh}{I:LF}{ns:LY}{a:By}{u:VS}{v:Value}(h:Qm G I ns a u v):∃b c d,v=.agg #[.string a,.bool b,.int .i64 c,.int .i64 d]:=by
 rcases h with⟨_,rfl⟩|⟨_,r,_,rfl⟩
 ·exact⟨_,_,_,rfl⟩
 ·exact⟨_,_,_,rfl⟩
def MD(w:World)(G:Gh)(I:LF)(p:By)(e:Ending)(w':World):Prop:=
 ((Hx G p≠0/\e=.returned (.tuple #[PV,.int .i64 (Hx G p)]))\/
  (Hx G p=0/\∃v,((Df p=[]/\v=Lt ⟨#[]⟩ (G.countP (He [])))\/∃ds n u,Df p=ds++[n]/\Gl G (Df p)=some u/\Qm G I (Df p) n u v)/\e=.returned (.tuple #[v,.int .i64 0])))/\Bw w w'
theorem Zkl(w:World)(tb L:Nat)(V:NV)(E:NS)(M:Value)(G:Gh)(I:LF)(C:IB)(h:TW w tb L V E M G I C)(T:Gk G)(U:G.length<=10000)(ah:I.length<=10000)(S:GQ G I)(p:By)(x:p.size<=2000000):
  Cl 121 #[.pointer (some ⟨tb,0,none⟩),.string p] w (MD w G I p):=by
 have A:∀o,Bw w (w.alloc o):=λo=>(Ak _ _).alloc (Aa _) o
 have ac:=λo=>RM (w.alloc o) tb L V E M G I C (h.below (A o) (Aa _)) T U p x
 have O:=Db (Je w [.string ⟨#[]⟩,.bool false,.int .i64 0,.int .i64 0] 112);have N:=Db h;have ad:=Db S;clear h S;go_enter func121,ntmps121;go_wp2_with fail;refine(ac _).mono ?_;rintro e w1⟨ak,B⟩;have j:Bw w w1:=(A _).trans (B.mono (by simp));have t:FX w1 w.heap.size 112 _:=(B.block _ (by simp)).trans (Da O);have an:w.heap.size<w1.heap.size:=t.lt;clear ac A B O;rcases ak with⟨s,rfl⟩|⟨Z,aa,d,n,u,y,rfl⟩
 ·have ae:=Db s;have ao:(Hx G p != 0)=true:=by simpa using s
  clear s;unfold DB Dj;go_upto_if 15 with fail;obtain⟨W,l,i,r,al,q⟩:=De w1 Ks 262;have a:=r _ _ _ t;have m:Bw w W:=j.trans (q.mono j.size);rw[l];clear l t j r q;have b0:=a.cell 0;have b1:=a.cell 1;have b2:=a.cell 2;have b3:=a.cell 3;have g0:=a.frozen 0;have g1:=a.frozen 1;have g2:=a.frozen 2;have g3:=a.frozen 3;go_wp2;have c:=JL a (.string ⟨#[]⟩) (.bool false) (.int .i64 0) (.int .i64 0);have F:=c.cell 0;have H:=c.cell 1;have J:=c.cell 2;have K:=c.cell 3;exact Ap (v:=.tuple #[PV,.int .i64 (Hx G p)]) (by simp[results,results121,go_sem,F,H,J,K,PV]) rfl
   ⟨.inl ⟨Da ae,rfl⟩,Qu m (Aa _) _ _ _ _⟩
 ·have P:=Db y;have HE:=Db Z;have Y:=Ot (Da N).d y;have aj:n.size<=2000000:=by
   rcases y with⟨_,_,rfl,_⟩|⟨ds,db,g,_⟩
   ·exact Au _
   ·exact Of aa g
  clear y Z aa;unfold Dj;go_upto_if 15 with fail;obtain⟨W,l,i,r,al,q⟩:=De w1 (DG d n true u) 262;have a:=r _ _ _ t;have m:Bw w W:=j.trans (q.mono j.size);rw[l];clear l t j r q;have a0:=i.cell 0;have a1:=i.cell 1;have a2:=i.cell 2;have a3:=i.cell 3;have a4:=i.cell 4;have ab:=Wa W tb L V E M G I C ((Da N).below m (Aa _)) T U ah (Da ad) n aj (Df p) u (by
   rcases Y with⟨g,_⟩|⟨_,_,z,k⟩|⟨_,b,z,k,_⟩
   ·cases g
   ·exact .inr ⟨k,_,KI z,rfl⟩
   ·exact .inl ⟨b,z,k⟩)
  have Q:=Db ab;clear ab Y;go_wp2_with fail;refine(Da Q).mono ?_;rintro e w3⟨v,rfl,D,X⟩;obtain⟨vb,vc,vd,rfl⟩:=WR D;have f:FX w3 w.heap.size 112 _:=(X.block _ a.lt).trans a;have ai:Bw w w3:=m.trans (X.mono m.size);have b0:=f.cell 0;have b1:=f.cell 1;have b2:=f.cell 2;have b3:=f.cell 3;have g0:=f.frozen 0;have g1:=f.frozen 1;have g2:=f.frozen 2;have g3:=f.frozen 3;have R:=Db D;clear D Q a i;go_wp2;have c:=JL f (.string n) (.bool vb) (.int .i64 vc) (.int .i64 vd);have F:=c.cell 0;have H:=c.cell 1;have J:=c.cell 2;have K:=c.cell 3;refine Ap (v:=.tuple #[.agg #[.string n,.bool vb,.int .i64 vc,.int .i64 vd],.int .i64 0]) (by simp[results,results121,go_sem,F,H,J,K]) rfl
   ⟨.inr ⟨Da HE,_,?_,rfl⟩,Qu ai (Aa _) _ _ _ _⟩
  rcases Da P with⟨g,_,k,_,h5⟩|⟨ds,db,g,_⟩
  ·refine .inl ⟨g,?_⟩;rcases Da R with⟨_,e⟩|⟨x,_⟩
   ·rw[e,g,k]
   ·rw[h5]at x;cases x
  ·have s:Df p≠[]:=by rw[g];simp
   obtain⟨af,am,ag,_,_,h4⟩:=(Da P).in s;exact .inr ⟨af,n,u,ag,h4,Da R⟩
theorem FX.prog{tb:Nat}{w w':World}{k:Nat}{t:TypeId}{R:F0}(h:FX w k t R)(b:Fr (DM tb w) w w')(c:¬(t=214\/t=229\/t=310\/t=293)):FX w' k t R:=
 h.fr b (λ⟨⟨t',R',a,d⟩,_⟩=>c (by rw[h.type a];exact d))
theorem WU(A J L K:Nat)(u:FrameMode)(w:World)(tb z:Nat)(V:NV)(E:NS)(Z:Value)(G:Gh)(I:LF)(C:IB)(h:TW w tb z V E Z G I C)(Q:Gk G)(ac:G.length<=10000)(ad:I.length<=10000)(b:LY)(a:Nat)(c:FY G z b a)(n:By)(t:Bool)(Y:VS)(f:Int)(ah:(b++[n],(⟨none,f⟩:VS))∈G)(r:VF)(ag:(f,r)∈I)(hr:r.f=1)(d:Int)(q:FX w A 26 [.int .i64 d])(j:FX w J 262 (DG (some ⟨a,0,none⟩) n t Y))(P:FX w L 37 [.pointer (some ⟨tb,0,none⟩)])(O:FX w K 3 [.int .i64 f]):
  CallsD prog 229 #[.pointer (some ⟨A,0,none⟩),.pointer (some ⟨J,0,none⟩),.pointer (some ⟨L,0,none⟩),.pointer (some ⟨K,0,none⟩)] u w λe u' w'=>u'=u/\(e=.returned (.tuple #[])/\FX w' A 26 [.int .i64 d]/\Fr (DM tb w) w w'/\((d=0/\w'=w)\/(d≠0/\∃V' E' H p,TW w' tb z V' E' H (J4 G (b++[n])) p C/\UF I p f))):=by
 have a0:=q.cell 0;by_cases l:d=0
 ·have af:(d != 0)=false:=by simpa using l
  go_enter_d func229,ntmps229
  go_wp2
  go_end0
  exact⟨rfl,q,Fr.refl _ _,.inl ⟨l,rfl⟩⟩
 ·have af:(d != 0)=true:=by simpa using l
  have T:(n,(⟨none,f⟩:VS))∈E a:=(h.d.en b a c n _).2 ah;have F:=Wg w a n t Y ⟨none,f⟩ (V a) (E a) (h.d.row b a c) (h.d.sl b a c) (Af (h.d.le Q c) ac) (h.d.srt b a c) T;unfold Dj at F;have M:=Db F;have HH:=Db h;have HA:=Db l;have c0:=j.cell 0;have c1:=j.cell 1;have c2:=j.cell 2;have c3:=j.cell 3;have c4:=j.cell 4;have H8:=Db q;have H4:=Db P;have aa:=Db O;clear F h T l q P O
  go_enter_d func229,ntmps229
  go_wp2_with fail;refine(Da M).mono ?_;rintro e w2⟨rfl,v',ak,y,i,m,q4,W,X,o⟩;have g:=Da HH;have v:=g.d.row b a c;have x:=g.d.sl b a c;have s:∀k t R,FX w k t R->t≠229->t≠310->FX w2 k t R:=λk t R D B h2=>D.fr o (λe=>by
   rcases e with rfl|e
   ·exact B (D.type v)
   ·obtain⟨R',ae⟩:=x.type e;exact h2 (D.type ae))
  have S:=TW.dirs g v x o (g.d.del Q c (G':=J4 G (b++[n])) (n:=n) (QT G _) y i m W X o);have U:=WS w2 tb z _ _ Z (J4 G (b++[n])) I C S ad f r ag (by omega) (by omega);have N:=Db U;have ab:Hid (Fr (DM tb w) w w2):=Fr.progOne (g.dlo c) v x o;have k8:=s _ _ _ (Da H8) (by decide) (by decide);have k4:=s _ _ _ (Da H4) (by decide) (by decide);have ai:=s _ _ _ (Da aa) (by decide) (by decide);have d4:=k4.cell 0;have aj:=ai.cell 0;clear g v x s S U y i m q4 W X o M c0 c1 c2 c3 c4;go_wp2_with fail;refine(Da N).mono ?_;rintro e w3⟨rfl,⟨H,p,y,i⟩,m⟩;clear N;go_wp2
  go_end0
  refine⟨rfl,k8.prog m (by decide),(Da ab).progTrans m,.inr ⟨Da HA,_,_,H,p,y,?_⟩⟩;rcases i with⟨_,i⟩|⟨B,_⟩
  ·exact i
  ·exact absurd hr B
def Qn(i:Int)(d:By):Bool:=decide (0<=i/\i<=1280-(d.size:Int))
def Ik(G:Gh)(I:LF)(p:By)(i:Int)(d:By):Int:=if DN G p (Qn i d)≠0 then DN G p (Qn i d) else if Df p=[] then 5 else match Gl G (Df p) with|some u=>if u.p.isSome=true then 5 else 0|none=>if Jh G I (Df p).dropLast=false then 8 else 0
def Hu(s:By)(i:Int)(d:By):By:=if d.size=0 then s else I4 s i.toNat d
def Na(w:World)(a0 a:OA):Prop:=a=a0\/∀g,a=some g->w.heap.size<=g.block
theorem Na.mono{w w':World}{b a:OA}(h:Na w' b a)(d:w.heap.size<=w'.heap.size):Na w b a:=h.elim .inl (λh => .inr (λg c=>Af d (h g c)))
def NG(w:World)(tb:Nat)(G:Gh)(I:LF)(C:IB)(ns:LY)(f:Int)(r:VF)(s:By)(e:Ending)(w':World):Prop:=
 Fr (DM tb w) w w'/\∃(I1 I2:LF),I1.length=I.length+1/\(∀x,x∈I1↔x=(f,⟨none,0,0,1⟩)\/x∈I)/\F7 I1 I2 f r/\
  ((e=.returned (.int .i64 9)/\160<DO (I2.map (·.2.l))/\∃I3 C3,PS w' tb G I3 C3/\I3.length=I.length/\(∀x,x∈I3↔x∈I)/\∀x∈I,C3 x.1=C x.1)\/
   (e=.returned (.int .i64 0)/\DO (I2.map (·.2.l))<=160/\∃C2,PS w' tb (G++[(ns,⟨none,f⟩)]) I2 C2/\C2 f=s/\∀x∈I,C2 x.1=C x.1))
def Zh(w:World)(tb:Nat)(G:Gh)(I:LF)(C:IB)(ns:LY)(s:By)(e:Ending)(w':World):Prop:=
 Fr (DM tb w) w w'/\∃(f:Nat) (I1 I2:LF) (a:OA) (c:Nat),Na w none a/\f<=I.length/\(∀x∈I,x.1≠f)/\I1.length=I.length+1/\(∀x,x∈I1↔x=((f:Int),⟨none,0,0,1⟩)\/x∈I)/\F7 I1 I2 f ⟨a,s.size,c,1⟩/\
  ((e=.returned (.int .i64 9)/\160<DO (I2.map (·.2.l))/\∃I3 C3,PS w' tb G I3 C3/\I3.length=I.length/\(∀x,x∈I3↔x∈I)/\∀x∈I,C3 x.1=C x.1)\/
   (e=.returned (.int .i64 0)/\DO (I2.map (·.2.l))<=160/\∃C2,PS w' tb (G++[(ns,⟨none,(f:Int)⟩)]) I2 C2/\C2 f=s/\∀x∈I,C2 x.1=C x.1))
def KU(w:World)(tb:Nat)(G:Gh)(I:LF)(C:IB)(p:By)(i:Int)(d:By)(e:Ending)(w':World):Prop:=
 (Ik G I p i d≠0/\e=.returned (.int .i64 (Ik G I p i d))/\Fr (DM tb w) w w'/\PS w' tb G I C)\/
 (Ik G I p i d=0/\((∃u r a c,Gl G (Df p)=some u/\u.p=none/\(u.f,r)∈I/\Na w r.a a/\Ru w tb G I C u.f ⟨a,(Hu (C u.f) i d).size,c,r.f⟩ (Hu (C u.f) i d) e w')\/
  (Gl G (Df p)=none/\Zh w tb G I C (Df p) (Hu ⟨#[]⟩ i d) e w')))
theorem ZkG(w:World)(tb d:Nat)(V:NV)(E:NS)(f:Value)(G:Gh)(I:LF)(C:IB)(h:TW w tb d V E f G I C)(g:I.length<=10000)(l:∀x∈I,x.2.l<=2000000)(n:Int)(c:VF)(k:(n,c)∈I)(da:OA)(a dc:Nat)(j:a<=2000000)(s:By)(i:Sl w 5 1 (.slice da a dc) a (Dc s)):
  Cl 189 #[.pointer (some ⟨tb,0,none⟩),.int .i64 n,.slice da a dc] w λe w'=>∃x:Int,e=.returned (.int .i64 x)/\Hj w tb d V E f G I C n ⟨da,a,dc,c.f⟩ s (.returned (.int .i64 x)) w':=by
 refine(Rt w tb d V E f G I C h g l n c k da a dc j s i).mono ?_;intro e w' b;have m:=b;obtain⟨_,I',_,⟨rfl,_⟩|⟨rfl,_⟩⟩:=m
 ·exact⟨_,rfl,b⟩
 ·exact⟨_,rfl,b⟩
theorem Gk.add{G:Gh}(h:Gk G){ns:LY}(o:Iw ns)(p:ns≠[])(m:ns.length<=6)(k:Gl G ns=none)(q:∀d n,ns=d++[n]->d=[]\/∃v,(d,v)∈G/\v.p.isSome=true)(u:VS):Gk (G++[(ns,u)]):=by
 refine⟨λx c=>?_,λx c=>?_,λx c=>?_,?_,λd n v c=>?_⟩
 ·rcases Aq.1 c with c|c
  ·exact h.nms x c
  ·rw[Ad.1 c];exact o
 ·rcases Aq.1 c with c|c
  ·exact h.ne x c
  ·rw[Ad.1 c];exact p
 ·rcases Aq.1 c with c|c
  ·exact h.le x c
  ·rw[Ad.1 c];exact m
 ·rw[Bq,Ch];refine⟨h.nd,by simp,λa j b l=>?_⟩;obtain⟨x,c,rfl⟩:=As.1 j;obtain rfl:b=ns:=by simpa using l
  intro e;exact Uh k x.2 (by rw[<-e];exact c)
 ·rcases Aq.1 c with c|c
  ·rcases h.up d n v c with e|⟨i,g,f⟩
   ·exact .inl e
   ·exact .inr ⟨i,Bn _ g,f⟩
  ·have e:=(Ev (Ad.1 c)).1;rcases q d n e.symm with e|⟨i,g,f⟩
   ·exact .inl e
   ·exact .inr ⟨i,Bn _ g,f⟩
theorem FY.up{G:Gh}{c:Nat}{a:LY}{b:Nat}(h:FY G c a b):a=[]\/∃v,(a,v)∈G/\v.p.isSome=true:=by
 rcases h with⟨rfl,_⟩|h
 ·exact .inl rfl
 ·exact .inr ⟨_,h,rfl⟩
theorem Zhh{P:Program}{fn:Func}{R:Ending->World->Prop}{tmps:Array Value}{w:World}(h:Leaves P fn tmps R [] .returning w):bodyPostD P fn R Exit.ret { tmps:=tmps,defers:=[] } w:=h
theorem VR(w:World)(a:OA)(l c:Nat)(s:By)(h:Sl w 5 1 (.slice a l c) l (Dc s))(A:s.size<=1280)(i:Nat)(b:OA)(n f:Nat)(d:By)(q:Gp w b n f d)(t:i+d.size<=1280):
  Cl 187 #[.slice a l c,.int .i64 i,.slice b n f] w λe w'=>∃oa oc,e=.returned (.slice oa (Hu s i d).size oc)/\Sl w' 5 1 (.slice oa (Hu s i d).size oc) (Hu s i d).size (Dc (Hu s i d))/\Bw w w'/\Na w a oa:=by
 refine(ZgQ w a l c s h.rdB A i b n f d q t).mono ?_;rintro e w'⟨z,j⟩;rcases z with⟨o,rfl⟩|⟨o,x,m,rfl,B,p⟩
 ·have:Hu s i d=s:=by unfold Hu;rw[if_pos o]
  rw[this];have v:l=s.size:=h.rdB.1;subst v;exact⟨a,c,rfl,h.kept (λk u _=>j.block k u),j,.inl rfl⟩
 ·have:Hu s i d=I4 s i d:=by unfold Hu;rw[if_neg (by omega)];rfl
  rw[this];have y:m=(I4 s i d).size:=p.rdB.1;subst y;exact⟨_,_,rfl,p,j,.inr (λg r=>by cases r;exact B)⟩
theorem RV(w:World)(tb d:Nat)(V:NV)(E:NS)(vi:Value)(G:Gh)(I:LF)(C:IB)(h:TW w tb d V E vi G I C)(hG:Gk G)(bl:G.length<=9000)(bm:I.length<=9000)(aO:∀x∈I,x.2.l<=2000000)(a:LY)(g:Nat)(af:FY G d a g)(n:By)(hn:n.size<=2000000)(D:Iw (a++[n])/\(a++[n]).length<=6)(aA:Gl G (a++[n])=none)(f:Int)(hf:∀x∈I,x.1≠f)(da:OA)(i dc:Nat)(a8:i<=2000000)(s:By)(aH:Sl w 5 1 (.slice da i dc) i (Dc s)):
  Cl 185 #[.pointer (some ⟨tb,0,none⟩),Dj (some ⟨g,0,none⟩) n false ⟨none,0⟩,.int .i64 f,.slice da i dc] w λe w'=>(Jh G I a=false/\e=.returned (.int .i64 8)/\Bw w w')\/(Jh G I a=true/\(∃x:Int,e=.returned (.int .i64 x))/\NG w tb G I C (a++[n]) f ⟨da,i,dc,1⟩ s e w'):=by
 have bn:∀(fn:Fn) (first cap:Array Value) (w:World),(Instr.makeFunc fn first cap).run prog w=.ok (.func fn first cap) w:=λ_ _ _ _=>rfl
 unfold Dj;obtain⟨W1,aw,aT,bc,R,aB⟩:=De w [.pointer (some ⟨tb,0,none⟩)] 37;obtain⟨W2,ax,aU,aN,ak,aC⟩:=De W1 (DG (some ⟨g,0,none⟩) n false ⟨none,0⟩) 262;obtain⟨W3,ay,aV,ah,aS,aD⟩:=De W2 [.int .i64 f] 3;obtain⟨W4,az,aW,Q,bf,aE⟩:=De W3 [.int .i64 0] 26;have P:Bw w W4:=((aB.trans (aC.mono (by omega))).trans (aD.mono (by omega))).trans (aE.mono (by omega));have Y:=Q _ _ _ (ah _ _ _ (aN _ _ _ aT));have H:=Q _ _ _ (ah _ _ _ aU);have Z:=Q _ _ _ aV;have y8:=aW;rw[R]at H;rw[ak,R]at Z;rw[aS,ak,R]at y8;have aP:=Xp W4 tb d V E vi G I C (h.below P (Aa _)) hG (by omega) (by omega) a g af;have ap:=Db aP;have HH:=Db h;have HD:=Db aH;have a1:=Db aO;have HF:=Db hf;have ab:=Db af;have aa:=Db aA;have a2:=Db D;have HW:Hid ((((w.alloc (.cells #[.pointer (some ⟨tb,0,none⟩)] 37)).alloc (.cells #[.pointer (some ⟨g,0,none⟩),.string n,.bool false,.pointer none,.int .i64 0] 262)).alloc (.cells #[.int .i64 f] 3)).alloc (.cells #[.int .i64 0] 26)=W4):=by
  show _=_;rw[<-az,<-ay,<-ax,<-aw]
 clear h aH aO hf af aA D aP aw ax ay az aT aU aV aW bc aN ah Q aB aC aD aE R ak aS bf
 go_enter_defers func185,ntmps185
 go_upto_region 1 with fail;rw[Da HW];clear HW;have a4:=Y.cell 0;have a5:=H.cell 0;go_wp2_with fail;refine(Da ap).mono ?_;rintro e b⟨rfl,q⟩;have x4:FX b w.heap.size 37 _:=(q.block _ Y.lt).trans Y;have x5:FX b (w.heap.size+1) 262 _:=(q.block _ H.lt).trans H;have x6:FX b (w.heap.size+1+1) 3 _:=(q.block _ Z.lt).trans Z;have F:FX b (w.heap.size+1+1+1) 26 _:=(q.block _ y8.lt).trans y8;have B:Bw w b:=P.trans (q.mono P.size);rw[show decide ((G.countP (He a)<20/\G.length<100)/\cD G []+I.length<60)=Jh G I a from rfl];clear ap a4 a5 Y H Z y8 q P
 cases hmb:Jh G I a with
 |false=>
  have c8:=F.cell 0;have f8:=F.frozen 0;go_wp2;have A:=(F.set 0 (.int .i64 8)).cell 0;refine Zhh ?_;exact⟨.int .i64 8,by simp[results,results185,go_sem]at A ⊢;simp[A],.inl ⟨hmb,rfl,B.setCell (p:=⟨w.heap.size+1+1+1,0,none⟩) (by show w.heap.size<=w.heap.size+1+1+1;omega) _⟩⟩
 |true=>
  have aq:Hid (∀X,Bw b X->Cl 228 #[.pointer (some ⟨tb,1,none⟩),.int .i64 f,.agg #[.slice none 0 0,.int .i64 1]] X λe w'=>e=.returned (.tuple #[])/\(∃u z,TW w' tb d V E u G z (λk=>if k=f then⟨#[]⟩ else C k)/\z.length=I.length+1/\∀x,x∈z↔x=(f,⟨none,0,0,1⟩)\/x∈I)/\Fr (DM tb b) b w'):=λX hb=>by
   have hX:=(Da HH).below (B.trans (hb.mono B.size)) (Aa _);refine(ZiY X tb d V E vi G I C hX (by omega) f ⟨none,0,0,1⟩ (Da HF) ⟨#[]⟩ ⟨rfl,.inl ⟨rfl,rfl⟩⟩).mono ?_;rintro e w'⟨rfl,⟨u,z,S,T,U⟩,q4⟩;exact⟨rfl,⟨u,z,S,T,U⟩,Fr.prog hb (Fr.progI hX q4)⟩
  have a4:=x4.cell 0;have a6:=x6.cell 0;have X4:=Db x4;have X5:=Db x5;have X6:=Db x6;have X8:=Db F;have aG:Bw b b:=Ak _ _;have aF:Bw b b.drew:=aG.drew;clear x4 x5 x6 F;go_upto_region 3 with fail
  go_region_held3 (λW=>W.cell? ⟨w.heap.size,0,none⟩=some (.pointer (some ⟨tb,0,none⟩))/\W.cell? ⟨w.heap.size+1+1,0,none⟩=some (.int .i64 f)) (go_keep)
   (first|(go_at_call 228;refine(Da aq _ aF).mono ?_;rintro e w6⟨rfl,⟨u,I1,S,T,U⟩,l⟩;have m4:=((Da X4).prog l (by decide)).cell 0;have m6:=((Da X6).prog l (by decide)).cell 0))
  all_goals
   have z4:=(Da X4).prog l (by decide);have o:=(Da X5).prog l (by decide);have z6:=(Da X6).prog l (by decide);have z8:=(Da X8).prog l (by decide);have ag:=TK w6 tb d V E u G I1 _ S hG (by omega) (by omega) a g (Da ab) n hn (Da aa) f;unfold Dj at ag;have al:=Db ag;have v:=Db U;have J:=Db T;have an:=Db l;have b0:=o.cell 0;have b1:=o.cell 1;have b2:=o.cell 2;have b3:=o.cell 3;have b4:=o.cell 4;clear ag S T U l aq X4 X5 X6 X8 a4 a6 m4 m6 aG aF;have a6:=z6.cell 0;go_wp2_with fail;refine(Da al).mono ?_;rintro e w7⟨rfl,V',E',h7,m⟩;have s4:=z4.prog m (by decide);have s5:=o.prog m (by decide);have s6:=z6.prog m (by decide);have s8:=z8.prog m (by decide);have aZ:Hid (Fr (DM tb w) w w7):=(Fr.prog B (Da an)).progTrans m;have aY:Hid (Sl w7 5 1 (.slice da i dc) i (Dc s)):=(((Da HD).kept (λk hk _=>B.block k hk)).prog (Da an)).prog m;have HT:=Db h7;have ao:Hid ((f,(⟨none,0,0,1⟩:VF))∈I1):=(Da v _).2 (.inl rfl);have ae:I1.length<=10000:=by have:=Da J;omega
   have aJ:=ZkG w7 tb d V' E' u _ I1 _ h7 ae (λx hx=>by
    rcases(Da v x).1 hx with rfl|hx
    ·exact Au _
    ·exact Da a1 x hx) f ⟨none,0,0,1⟩ (Da ao) da i dc a8 s (Da aY)
   have am:=Db aJ;have c4:=s4.cell 0;have c6:=s6.cell 0;have S4:=Db s4;have S5:=Db s5;have S6:=Db s6;have S8:=Db s8;clear aJ h7 m al b0 b1 b2 b3 b4 a6 z4 o z6 z8 s4 s5 s6 s8;go_wp2_with fail;refine(Da am).mono ?_;rintro e w8⟨x,rfl,hq⟩;obtain⟨t,I2,aM,r⟩:=hq;have L:=(Da S4).prog t (by decide);have M:=(Da S5).prog t (by decide);have N:=(Da S6).prog t (by decide);have j:=(Da S8).prog t (by decide);have k8:=j.cell 0;have f8:=j.frozen 0;have a0:=Db t;have aX:=Db r;have K:=Db aM;have G4:=Db L;have G5:=Db M;have G6:=Db N;have G8:=Db j;clear t r aM am c4 c6 S4 S5 S6 S8 L M N j;go_wp2;have L:=Da G4;have M:=Da G5;have N:=Da G6;have j:=Da G8;have ar:Fr (DM tb w) w (w8.setCell ⟨w.heap.size+1+1+1,0,none⟩ (.int .i64 x)):=((Da aZ).progTrans (Da a0)).ext ((Ak _ _).setCell (p:=⟨w.heap.size+1+1+1,0,none⟩) (by show w.heap.size<=w.heap.size+1+1+1;omega) _);have A:=j.set 0 (.int .i64 x);have d4:=L.setOther ⟨w.heap.size+1+1+1,0,none⟩ (.int .i64 x) (by show w.heap.size+1+1+1≠w.heap.size;omega);have d5:=M.setOther ⟨w.heap.size+1+1+1,0,none⟩ (.int .i64 x) (by show w.heap.size+1+1+1≠w.heap.size+1;omega);have d6:=N.setOther ⟨w.heap.size+1+1+1,0,none⟩ (.int .i64 x) (by show w.heap.size+1+1+1≠w.heap.size+1+1;omega);have D:=Da a2;have au:Gk (G++[(a++[n],(⟨none,f⟩:VS))]):=hG.add D.1 (by simp) D.2 (Da aa) (λbk n' e=>by obtain⟨rfl,rfl⟩:=Qs e;exact(Da ab).up) _;have av:(G++[(a++[n],(⟨none,f⟩:VS))]).length<=10000:=by simp;omega
   have aI:FY (G++[(a++[n],(⟨none,f⟩:VS))]) d a g:=(Da ab).elim .inl (λh => .inr (Bn _ h));have aR:(a++[n],(⟨none,f⟩:VS))∈G++[(a++[n],(⟨none,f⟩:VS))]:=by simp
   have a9:∀y,y∈G↔y∈J4 (G++[(a++[n],(⟨none,f⟩:VS))]) (a++[n]):=λy=>by
    rw[QT,Aq,Ad];constructor
    ·intro c;exact⟨.inl c,λe=>Uh (G:=G) (ns:=a++[n]) (Da aa) y.2 (by rw[<-e];exact c)⟩
    ·rintro⟨c|rfl,ai⟩
     ·exact c
     ·exact absurd rfl ai
   have ac:w.heap.size+1+1+1≠0:=by omega
   have ad:=Da HF;refine leaves_cons (f:=229) (args:=#[.pointer (some ⟨w.heap.size+1+1+1,0,none⟩),.pointer (some ⟨w.heap.size+1,0,none⟩),.pointer (some ⟨w.heap.size,0,none⟩),.pointer (some ⟨w.heap.size+1+1,0,none⟩)]) (by simp) (by simp[go_sem]) ?_;rcases Da aX with⟨e9,bb,a3,O,bd,aQ⟩|⟨e0,be,O⟩
   ·have bi:x=9:=by simpa using e9
    subst bi;refine(WU _ _ _ _ .returning _ tb d _ _ _ _ a3 _ (O.setOther j ac (by decide) 0 (.int .i64 9)) au av (by rw[bd];exact ae) a g aI n false ⟨none,0⟩ f aR ⟨none,0,0,1⟩ ((aQ _).2 (Da ao)) rfl 9 (by simpa using A) d5 d4 d6).mono ?_;rintro e u' w9⟨rfl,rfl,aj,aK,r⟩;have hc:=aj.cell 0;refine⟨.int .i64 9,by simp[results,results185,go_sem,hc],?_⟩;rcases r with⟨h0,_⟩|⟨_,V7,E7,bj,I7,a7,aL⟩
    ·exact absurd h0 (by decide)
    ·refine .inr ⟨hmb,⟨_,rfl⟩,ar.progTrans aK,I1,I2,Da J,Da v,Da K,.inl ⟨rfl,bb,I7,_,⟨d,V7,E7,bj,a7.congrG a9⟩,?_,λy=>?_,λy c=>if_neg (ad y c)⟩⟩
     ·have h1:=aL.1;have h2:=Da J;omega
     ·rw[aL.2 y,aQ y,Da v y];constructor
      ·rintro⟨rfl|c,ai⟩
       ·exact absurd rfl ai
       ·exact c
      ·intro c;exact⟨.inr c,ad y c⟩
   ·have bh:x=0:=by simpa using e0
    subst bh;refine(WU _ _ _ _ .returning _ tb d _ _ _ _ I2 _ (O.setOther j ac (by decide) 0 (.int .i64 0)) au av (by rw[(Da K).1];exact ae) a g aI n false ⟨none,0⟩ f aR ⟨da,i,dc,1⟩ (((Da K).2 _).2 (.inl rfl)) rfl 0 (by simpa using A) d5 d4 d6).mono ?_;rintro e u' w9⟨rfl,rfl,aj,aK,r⟩;have hc:=aj.cell 0;refine⟨.int .i64 0,by simp[results,results185,go_sem,hc],?_⟩;rcases r with⟨_,bg⟩|⟨h0,_⟩
    ·rw[bg];refine .inr ⟨hmb,⟨_,rfl⟩,ar,I1,I2,Da J,Da v,Da K,.inr ⟨rfl,be,_,⟨d,_,_,_,O.setOther j ac (by decide) 0 (.int .i64 0)⟩,by simp,λy c=>?_⟩⟩;simp[ad y c]
    ·exact absurd rfl h0
theorem VG(w:World)(tb:Nat)(G:Gh)(I:LF)(C:IB)(h:PS w tb G I C)(hG:Gk G)(bk:G.length<=9000)(bl:I.length<=9000)(aK:∀x∈I,0<=x.1)(aJ:GQ G I)(aP:∀x∈I,x.2.l<=2000000)(hC:∀x∈I,(C x.1).size<=1280)(p:By)(hp:p.size<=2000000)(i:Int)(d:By)(bm:d.size<=2000000)(ad:OA)(cd:Nat)(hd:Gp w ad d.size cd d):
  Cl 123 #[.pointer (some ⟨tb,0,none⟩),.string p,.int .i64 i,.slice ad d.size cd] w (KU w tb G I C p i d):=by
 obtain⟨Z,V,E,vi,h⟩:=h;have ag:Hid (∀W,Bw w W->Ik G I p i d≠0->KU w tb G I C p i d (.returned (.int .i64 (Ik G I p i d))) W):=λW o a => .inl ⟨a,rfl,Fr.of_below o,Z,V,E,vi,h.below o (Aa _)⟩
 have HH:=Db h;have aX:=Db aJ;have HC:=Db hC;have aE:=Db aP;have aZ:=Db aK;have HD:=Db hd;have P:=Db (On w tb Z V E vi G I C h hG (by omega) p hp (Qn i d));clear h aJ hC aP hd aK;obtain⟨ax,U⟩:∃b,b=Qn i d:=⟨_,rfl⟩;have am:=Db U;rw[<-U]at P;have a8:(ax=true/\0<=i/\i<=1280-(d.size:Int))\/(ax=false/\0<=i/\¬i<=1280-(d.size:Int))\/(ax=false/\¬0<=i):=by
  unfold Qn at U;by_cases B:0<=i
  ·by_cases g:i<=1280-(d.size:Int)
   ·exact .inl ⟨by rw[U];exact Cr ⟨B,g⟩,B,g⟩
   ·exact .inr (.inl ⟨by rw[U];exact Cm (λh=>g h.2),B,g⟩)
  ·exact .inr (.inr ⟨by rw[U];exact Cm (λh=>B h.1),B⟩)
 clear U;rcases a8 with⟨rfl,aH,a5⟩|⟨rfl,aH,a5⟩|⟨rfl,aH⟩
 ·go_enter func123,ntmps123;go_wp2_with fail;refine(Da P).mono ?_;rintro e w1⟨N,o⟩;clear P;rcases N with⟨a,rfl⟩|⟨he,ai,sd,n,t,u,aA,rfl⟩
  ·have q:Hid (Ik G I p i d=DN G p true):=by show _=_;unfold Ik;rw[<-Da am,if_pos a]
   have Q:=Db a;have aR:(DN G p true != 0)=true:=by simpa using a
   clear a;unfold DB Dj;go_wp2;go_ret;have:=Da ag _ (o.alloc o.size (.cells (DG none ⟨#[]⟩ false ⟨none,0⟩).toArray 262)) (by rw[Da q];exact Da Q);rw[Da q]at this;exact this
  ·have a9:=Ot (Da HH).d aA;have a4:=Db aA;have aW:=Db he;have a3:=Db ai;clear aA he ai;unfold Dj;go_upto_if 32 with fail;obtain⟨W,hW,s,hk,aj,aM⟩:=De w1 (DG sd n t u) 262;have y:Bw w W:=o.trans (aM.mono o.size);rw[hW];have aU:Hid (w.heap.size<=w1.heap.size):=o.size;obtain⟨l,aI⟩:∃b,b=w1.heap.size:=⟨_,rfl⟩;rw[<-aI]at s aU ⊢;clear hW hk aM o aj aI;have c0:=s.cell 0;have c1:=s.cell 1;have c2:=s.cell 2;have c3:=s.cell 3;have c4:=s.cell 4;have HX:=Db s;clear s;have av:Hid (Ik G I p i d=if Df p=[] then 5 else match Gl G (Df p) with|some u=>if u.p.isSome=true then 5 else 0|none=>if Jh G I (Df p).dropLast=false then 8 else 0):=by show _=_;unfold Ik;rw[<-Da am,if_neg (by rw[Da aW];simp)]<;>rfl
   obtain⟨k,hk⟩:∃k:Nat,i=(k:Int):=⟨i.toNat,by omega⟩;subst hk;rcases a9 with⟨rfl,a,L⟩|⟨rfl,a,L,hu⟩|⟨rfl,b,rfl,au,aS⟩
   ·obtain⟨H,A,M,au,bh,bj⟩:∃H A,Df p=H++[n]/\FY G Z H A/\sd=some ⟨A,0,none⟩/\u=⟨none,0⟩:=by
     rcases Da a4 with⟨g,_⟩|⟨H,A,g,m,J,_,h5⟩
     ·exact absurd g a
     ·exact⟨H,A,g,m,J,by rw[h5,L];rfl⟩
    subst bh bj;have a2:=Db M;have aV:=Db au;have al:=Db L;have aw:Hid (Ik G I p (k:Int) d=if Jh G I H=false then 8 else 0):=by show _=_;rw[Da av,if_neg a,L];simp only;rw[M,CV]
    obtain⟨S,v⟩:=ex (Hu ⟨#[]⟩ (k:Int) d);have aq:S.size<=2000000:=by
     rw[v];unfold Hu
     split
     ·decide
     ·rw[Ug];have B:(⟨#[]⟩:By).size=0:=rfl;rw[B];omega
    have an:Hid (∀X,Bw W X->Cl 187 #[.slice none 0 0,.int .i64 (k:Int),.slice ad d.size cd] X λe w'=>∃c j,e=.returned (.slice c S.size j)/\Hid (Sl w' 5 1 (.slice c S.size j) S.size (Dc S))/\Bw X w'/\Hid (Na X none c)):=λX K=>by
     have z:=y.trans (K.mono y.size);have g:Sl X 5 1 (.slice none 0 0) 0 (Dc ⟨#[]⟩):=⟨rfl,.inl ⟨rfl,rfl⟩⟩;have m:=(Da HD).below z;exact(VR X none 0 0 ⟨#[]⟩ g (by decide) k ad d.size cd d m (by omega)).mono (λe w' ⟨c,j,g,m,J,D⟩=>⟨c,j,by rw[v];exact g,by rw[v];exact m,J,D⟩)
    have aY:Hid (∀X,Bw W X->Cl 186 #[.pointer (some ⟨tb,0,none⟩)] X λe w'=>∃f:Nat,e=.returned (.int .i64 f)/\Hid (f<=I.length/\∀x∈I,x.1≠f)/\Bw X w'):=λX K=>by
     have z:=y.trans (K.mono y.size);have hT:=(Da HH).below z (Aa _);exact(Zmo X tb _ vi I hT.t hT.i (by omega) hT.si (Da aZ)).mono (λe w' ⟨f,g,m,J,D⟩=>⟨f,g,⟨m,J⟩,D⟩)
    have aF:Hid (∀X (f:Nat) c j,Bw W X->Hid (f<=I.length/\∀x∈I,x.1≠f)->Hid (Sl X 5 1 (.slice c S.size j) S.size (Dc S))->Hid (Na W none c)->Cl 185 #[.pointer (some ⟨tb,0,none⟩),Dj (some ⟨A,0,none⟩) n false ⟨none,0⟩,.int .i64 f,.slice c S.size j] X λe w'=>∃x:Int,e=.returned (.int .i64 x)/\KU w tb G I C p (k:Int) d (.returned (.int .i64 x)) w'/\FX w' l 262 (DG (some ⟨A,0,none⟩) n false ⟨none,0⟩)):=λX f c j K hf ao aa=>by
     have z:=y.trans (K.mono y.size);have aB:FX X l 262 (DG (some ⟨A,0,none⟩) n false ⟨none,0⟩):=(K.block _ (Da HX).lt).trans (Da HX);have M:=Da a2;have ai:=Da a3;have be:Iw (H++[n])/\(H++[n]).length<=6:=by
      cases hr:(p.toList==[47]) with
      |true=>have B:=Us hr;rw[M]at B;simp at B
      |false=>obtain⟨_,m,_,D⟩:=Qt ai hr;rw[M]at m D;exact⟨m,D⟩
     refine(RV X tb Z V E vi G I C ((Da HH).below z (Aa _)) hG (by omega) (by omega) (Da aE) H A (Da aV) n (Of ai M) be (by rw[<-M];exact Da al) f (Da hf).2 c S.size j aq S (Da ao)).mono ?_;rintro e w' (⟨hm,rfl,T⟩|⟨hm,⟨x,rfl⟩,aO,I1,I2,g,m,J,D⟩)
     ·have:=Da ag w' (z.trans (T.mono z.size)) (by rw[Da aw,hm];decide);rw[Da aw,hm]at this;exact⟨8,rfl,this,(T.block _ aB.lt).trans aB⟩
     ·refine⟨x,rfl,.inr ⟨by rw[Da aw,hm];rfl,.inr ⟨Da al,Fr.prog z aO,f,I1,I2,c,j,(Da aa).mono y.size,(Da hf).1,(Da hf).2,g,m,by rw[<-v];exact J,?_⟩⟩,aB.prog aO (by decide)⟩;rw[<-v,M];exact D
    unfold Dj at aF;clear M au L a aq v;have a7:Bw W W:=Ak _ _;have aN:Bw W W.drew:=a7.drew;have F:=(Da HX).lt;go_upto_region 6 with fail
    go_region_held3 (λW=>W.cell? ⟨l,0,none⟩=some (.pointer (some ⟨A,0,none⟩))/\W.cell? ⟨l,1,none⟩=some (.string n)/\W.cell? ⟨l,2,none⟩=some (.bool false)/\W.cell? ⟨l,3,none⟩=some (.pointer none)/\W.cell? ⟨l,4,none⟩=some (.int .i64 0)) (go_keep)
     (first|(go_at_call 186;refine(Da aY _ (by assumption)).mono ?_;rintro e w3⟨f,rfl,hf,R⟩;have O:=aN.trans (R.mono aN.size);have m0:=(O.cell (p:=⟨l,0,none⟩) F).trans c0;have m1:=(O.cell (p:=⟨l,1,none⟩) F).trans c1;have m2:=(O.cell (p:=⟨l,2,none⟩) F).trans c2;have m3:=(O.cell (p:=⟨l,3,none⟩) F).trans c3;have m4:=(O.cell (p:=⟨l,4,none⟩) F).trans c4)|(go_at_call 187;refine(Da an _ (by assumption)).mono ?_;rintro e w4⟨c,j,rfl,ap,ar,aa⟩;have ab:=O.trans (ar.mono O.size);have n0:=(ab.cell (p:=⟨l,0,none⟩) F).trans c0;have n1:=(ab.cell (p:=⟨l,1,none⟩) F).trans c1;have n2:=(ab.cell (p:=⟨l,2,none⟩) F).trans c2;have n3:=(ab.cell (p:=⟨l,3,none⟩) F).trans c3;have n4:=(ab.cell (p:=⟨l,4,none⟩) F).trans c4)|(go_at_call 185;refine(Da aF _ f c j ab hf ap ((Da aa).mono O.size)).mono ?_;rintro e w5⟨x,rfl,hq,ak⟩;have HQ:=Db hq;have o0:=ak.cell 0;have o1:=ak.cell 1;have o2:=ak.cell 2;have o3:=ak.cell 3;have o4:=ak.cell 4;clear hq))
    all_goals
     go_wp2;go_ret;exact Da HQ
   ·obtain⟨up,uf⟩:=u;simp only at hu;subst hu;have q:Hid (Ik G I p (k:Int) d=0):=by show _=_;rw[Da av,if_neg a,L];rfl
    obtain⟨r,az,bf,bg⟩:=GQ.mono (Da aX) L rfl;simp only at az;have al:=Db L;have af:=Db az;have Y:Cl 188 #[Dj sd n true ⟨none,uf⟩] W λe w'=>e=.returned (.tuple #[.int .i64 uf,.int .i64 0])/\Bw W w':=Oc sd n true ⟨none,uf⟩ W
    unfold Dj at Y;have ae:=Db Y;clear a L bf bg az Y;go_wp2_with fail;refine(Da ae).mono ?_;rintro e w2⟨rfl,R⟩;have T:Bw w w2:=y.trans (R.mono y.size);have aD:=Db (Qd w2 tb Z V E vi G I C ((Da HH).below T (Aa _)) (by omega) uf r (Da af));clear ae c0 c1 c2 c3 c4 R;go_wp2_with fail;refine(Da aD).mono ?_;rintro e w3⟨rfl,ar⟩;have ay:Bw w w3:=T.trans (ar.mono T.size);clear aD ar;go_upto_region 11 with fail;obtain⟨X,K,s,bc,bi,z⟩:=De w3 [.slice r.a r.l r.c,.int .i64 r.f] 217;have ah:Bw w X:=ay.trans (z.mono ay.size);rw[K];have a0:=s.cell 0;have a1:=s.cell 1;have aG:Hid (TW X tb Z V E vi G I C):=(Da HH).below ah (Aa _);have aj:=Da HC _ (Da af);simp only at aj;obtain⟨S,v⟩:=ex (Hu (C uf) (k:Int) d);have aq:S.size<=2000000:=by
     rw[v];unfold Hu
     split
     ·omega
     ·rw[Ug];omega
    have an:Hid (Cl 187 #[.slice r.a r.l r.c,.int .i64 (k:Int),.slice ad d.size cd] X λe w'=>∃c ol j,e=.returned (.slice c ol j)/\Hid (ol=S.size/\Sl w' 5 1 (.slice c ol j) ol (Dc S))/\Bw X w'/\Hid (Na X r.a c)):=by
     have g:=(Da aG).dat _ (Da af);have m:=(Da HD).below ah;exact(VR X r.a r.l r.c (C uf) g aj k ad d.size cd d m (by omega)).mono (λe w' ⟨c,j,g,m,J,D⟩=>⟨c,_,j,g,by rw[v];exact⟨rfl,m⟩,J,D⟩)
    have HS:=Db v;clear K bc bi z s T ay aj v;go_wp2_with fail;refine(Da an).mono ?_;rintro e w5⟨c,ol,j,rfl,ap,aL,aa⟩;obtain⟨bd,ao⟩:=Da ap;subst bd;have a6:Bw w w5:=ah.trans (aL.mono ah.size);have aC:=Db (Rt w5 tb Z V E vi G I C ((Da aG).below aL (Aa _)) (by omega) (Da aE) uf r (Da af) c S.size j aq S ao);clear an ao ap a0 a1;go_wp2_with fail;refine(Da aC).mono ?_;rintro e w6 N;have aT:=N.ps a6;have aQ:=(Da aa).mono ah.size;have ac:Hid (KU w tb G I C p (k:Int) d e w6):=.inr ⟨Da q,.inl ⟨_,r,c,j,Da al,rfl,Da af,aQ,by rw[<-Da HS];exact aT⟩⟩;have bb:e=.returned (.int .i64 9)\/e=.returned (.int .i64 0):=by
     obtain⟨_,I',_,⟨e1,_⟩|⟨e1,_⟩⟩:=N
     ·exact .inl e1
     ·exact .inr e1
    clear N aT aC aQ aa;rcases bb with rfl|rfl
    ·go_wp2;go_ret;exact Da ac
    ·go_wp2;go_ret;exact Da ac
   ·have q:Hid (Ik G I p (k:Int) d=5):=by
     show _=_;rw[Da av];rcases aS with h|h
     ·rw[if_pos h]
     ·by_cases a:Df p=[]
      ·rw[if_pos a]
      ·rw[if_neg a,h];rfl
    have Y:Cl 188 #[Dj sd n true ⟨some ⟨b,0,none⟩,0⟩] W λe w'=>e=.returned (.tuple #[.int .i64 0,.int .i64 5])/\Bw W w':=Oc sd n true ⟨some ⟨b,0,none⟩,0⟩ W
    unfold Dj at Y;have ae:=Db Y;clear aS au Y;go_wp2_with fail;refine(Da ae).mono ?_;rintro e w2⟨rfl,R⟩;have ac:=Db (Da ag w2 (y.trans (R.mono y.size)) (by rw[Da q];decide));rw[Da q]at ac;clear ae c0 c1 c2 c3 c4 R;go_wp2;go_ret;exact Da ac
 ·have a:DN G p false≠0:=λe=>by unfold DN at e;split at e<;>simp at e
  have aR:(DN G p false != 0)=true:=by simpa using a
  have q:Hid (Ik G I p i d=DN G p false):=by show _=_;unfold Ik;rw[<-Da am,if_pos a]
  have Q:=Db a;clear a;go_enter func123,ntmps123;go_wp2_with fail;refine(Da P).mono ?_;rintro e w1⟨N,o⟩;clear P;rcases N with⟨_,rfl⟩|⟨he,_⟩
  ·unfold DB Dj;go_wp2;go_ret;have:=Da ag _ (o.alloc o.size (.cells (DG none ⟨#[]⟩ false ⟨none,0⟩).toArray 262)) (by rw[Da q];exact Da Q);rw[Da q]at this;exact this
  ·exact absurd he (Da Q)
 ·have a:DN G p false≠0:=λe=>by unfold DN at e;split at e<;>simp at e
  have aR:(DN G p false != 0)=true:=by simpa using a
  have q:Hid (Ik G I p i d=DN G p false):=by show _=_;unfold Ik;rw[<-Da am,if_pos a]
  have Q:=Db a;clear a;go_enter func123,ntmps123;go_wp2_with fail;refine(Da P).mono ?_;rintro e w1⟨N,o⟩;clear P;rcases N with⟨_,rfl⟩|⟨he,_⟩
  ·unfold DB Dj;go_wp2;go_ret;have:=Da ag _ (o.alloc o.size (.cells (DG none ⟨#[]⟩ false ⟨none,0⟩).toArray 262)) (by rw[Da q];exact Da Q);rw[Da q]at this;exact this
  ·exact absurd he (Da Q)
theorem ZiL(w:World)(tb:Nat)(G:Gh)(I:LF)(C:IB)(h:PS w tb G I C)(f:Gk G)(g:G.length<=9000)(k:I.length<=9000)(j:∀x∈I,0<=x.1)(e:GQ G I)(n:∀x∈I,x.2.l<=2000000)(c:∀x∈I,(C x.1).size<=1280)(p:By)(o:p.size<=2000000)(i:Int)(d:By)(m:d.size<=2000000)(a:OA)(b:Nat)(l:Sl w 5 1 (.slice a d.size b) d.size (Dc d)):
  Cl 123 #[.pointer (some ⟨tb,0,none⟩),.string p,.int .i64 i,.slice a d.size b] w (KU w tb G I C p i d):=VG w tb G I C h f g k j e n c p o i d m a b l.rdB


structure Rl(G:Gh)(I:LF)(C:IB)(ρ : Int->Nat)(L:List (By×Int))(F:LY):Prop where
 eqL:L=G.map (vw ρ)
 ok:Gk G
 num:NF I ρ L F
 fl:∀x∈G,x.2.p=none->∃r,(x.2.f,r)∈I
 con:∀x∈I,F[ρ x.1]?=some (C x.1)
 pos:∀x∈I,0<=x.1
 lG:G.length<=100
 lI:I.length<=60
 sz:∀s∈F,s.size<=1280
section
variable{G:Gh}{I:LF}{C:IB}{ρ : Int->Nat}{L:List (By×Int)}{F:LY}
end
theorem Y8{G:Gh}{b:LY}{n:By}(h:GO G (DZ [] (b++[n]))=0):b=[]\/∃v,(b,v)∈G/\v.p.isSome=true:=by
 by_cases d:b=[]
 ·exact .inl d
 ·right;have i:∀(A:List (LY)) (q:LY),GO G (A++[q])=0->∃v,Gl G q=some v/\v.p.isSome=true:=by
   intro A q
   induction A with
   |nil=>
    intro h;rw[AD,GO]at h
    cases ha:Gl G q with
    |none=>rw[ha]at h;simp at h
    |some u=>
     rw[ha]at h;by_cases c:u.p.isSome=true
     ·exact⟨u,rfl,c⟩
     ·simp[c]at h
   |cons a A ih=>
    intro h;rw[AN,GO]at h
    cases ha:Gl G a with
    |none=>rw[ha]at h;simp at h
    |some u=>
     rw[ha]at h;by_cases c:u.p.isSome=true
     ·simp only[c,if_true]at h;exact ih h
     ·simp[c]at h
  rw[Uu [] b n [] d]at h;have e:DZ ([]++b) [n]=[]:=rfl;rw[e,AD]at h;obtain⟨v,g,f⟩:=i _ _ h;exact⟨v,KI g,f⟩
section
variable{G:Gh}{I:LF}{C:IB}{ρ : Int->Nat}{L:List (By×Int)}{F:LY}
end
section
variable{G:Gh}{I:LF}{C:IB}{ρ : Int->Nat}{L:List (By×Int)}{F:LY}
end
section
variable{G:Gh}{I:LF}{C:IB}{ρ : Int->Nat}{L:List (By×Int)}{F:LY}
end
section
variable{G:Gh}{I:LF}{C:IB}{ρ : Int->Nat}{L:List (By×Int)}{F:LY}
end
section
variable{G:Gh}{I:LF}{C:IB}{ρ : Int->Nat}{L:List (By×Int)}{F:LY}
end
theorem L8:(prog.info? 350).map (λi=>(i.zero,i.size,i.bytes))=some (some (.agg #[.int .u64 0,.int .i64 0]),2,16):=by kernel_rfl
theorem UI:(prog.info? 350).map (λi=>i.size)=some 2:=by kernel_rfl
theorem YU(w:World)(v:Value)(n:Nat)(xs:F0)(d:Nat)(b:F0)(m:Sl w 350 2 v n xs)(hn:n<=10000)(s:FX w d 350 b)(aa:b.length=2)(q:∀u∈b,u.oneCell'=true):
  Cl 274 #[v,.int .i64 n,.slice (some ⟨d,0,none⟩) 1 1] w λe w'=>∃c,e=.returned c/\Sl w' 350 2 c (n+1) (xs++b)/\w.grownBy w' v.ownBlock/\Dk w v c:=by
 obtain⟨B,r,y,z,A⟩:=BT L8;have p:=λty=>Qa (P:=prog) w 170 ty 350 B _ 2 16 underlying170 r y z A rfl (by decide) v n xs m ⟨d,0,none⟩ 1 1 b (by omega)
  (λj u t=>by rw[AI,Av,s.cell];exact t) q (by unfold maxLen;omega) (by omega)
 obtain⟨c,w',o,f,k,l⟩:=p 170;have x:(v=.slice none 0 0/\n=0)\/∃g a,v=.slice (some ⟨g,0,none⟩) n a/\n<=a:=by
  rcases m.2 with h|⟨g,a,L,h,_,i,_⟩
  ·exact .inl h
  ·exact .inr ⟨g,a,h,i⟩
 clear p;rcases x with⟨rfl,rfl⟩|⟨g,a,rfl,i⟩
 ·go_enter func274,ntmps274;go_wp2_with(at_builtin;refine A0 _ rfl _ _ 170 170 rfl _ _ rfl rfl _ _ o ?_);go_ret;exact⟨_,rfl,f,k,l⟩
 ·go_enter func274,ntmps274;go_wp2_with(at_builtin;refine A0 _ rfl _ _ 170 170 rfl _ _ rfl rfl _ _ o ?_)
  all_goals (go_ret;exact⟨_,rfl,f,k,l⟩)
theorem YV(w:World)(g n a:Nat)(xs L:F0)(i d:Nat)(c:F0)(h:FX w g 350 L)(v:L.length=a*2)(o:L.take (n*2)=xs)(hi:i<n)(ae:n+1<=a)(z:a<=maxLen)(hn:n<=10000)(f:FX w d 350 c)(l:c.length=2)(t:∀u∈xs,u.oneCell'=true)(s:∀u∈c,u.oneCell'=true)(B:d≠g):
  Cl 274 #[.slice (some ⟨g,0,none⟩) n a,.int .i64 i,.slice (some ⟨d,0,none⟩) 1 1] w λe w'=>e=.returned (.slice (some ⟨g,0,none⟩) (n+1) a)/\FX w' g 350 (F2 (F2 L ((i+1)*2) (xs.drop (i*2))) (i*2) c)/\w.grownBy w' (some g):=by
 have D:xs.length=n*2:=by rw[<-o,An];omega
 have k:(xs.drop (i*2)).length=(n-i)*2:=by rw[Az,D];omega
 obtain⟨p,G,x,m⟩:=JS (P:=prog) w.drew 170 170 3 350 2 g ((i+1)*2) (n-i) (a-(i+1)) ⟨g,i*2,none⟩ (n+1-i) (a-i) L 350 (xs.drop (i*2)) underlying170 UI h
  (by rw[k];simp only[C5];split<;>omega)
  (λj u b=>by
   rw[AI,show(w.drew.cell? ⟨g,i*2+j,none⟩)=L[i*2+j]? from h.cell _];rw[Bf,<-o,Ao]at b
   split at b
   ·exact b
   ·cases b) (by rw[k];omega) (λu b=>t u (BG b))
 have C:FX p d 350 c:=(show FX w.drew d 350 c from f).kept m (by simpa using B);obtain⟨q,H,y,A⟩:=JS (P:=prog) p 170 170 3 350 2 g (i*2) (n+1-i) (a-i) ⟨d,0,none⟩ 1 1 _ 350 c underlying170 UI x
  (by rw[l];simp only[C5];split<;>omega)
  (λj u b=>by rw[AI,Av,C.cell];exact b) (by rw[DX (by rw[k];omega),l];omega) s
 have F:∀lb cb,(callFunc 306 #[.slice (some ⟨d,0,none⟩) 1 1,.slice (some ⟨g,(i+1)*2,none⟩) lb cb]).run prog w=.ok (.value (.bool false)) w:=λlb cb=>by
  rw[FC func306 (by kernel_rfl) (by kernel_rfl) (by kernel_rfl) (e:=Extern.SlicesOverlaps.overlaps #[170,170] #[4]) (by kernel_rfl),
   Fj w 170 4 350 underlying170 2 (λ_=>by kernel_rfl) ⟨d,0,none⟩ ⟨g,(i+1)*2,none⟩ 1 1 lb cb B 350 350 2 (a*2) (by unfold World.shape?;rw[f];simp[l]) (by unfold World.shape?;rw[h];simp[v]) (by omega) (f.frozen 0) (f.frozen 2)]
  rfl
 have af:a<=9223372036854775807:=by unfold maxLen at z;omega
 have r:FX q g 350 (F2 (F2 L ((i+1)*2) (xs.drop (i*2))) (i*2) c)/\w.grownBy q (some g):=⟨y,JU (show w.grownBy w.drew (some g) from QW (QX _ _)) (JU m A)⟩;have E:=Db r;clear r x y m A C t s z o k D v l f h;have ai:IntKind.i64.wrap ((i:Int)+1)=(i:Int)+1:=by rw[AV];omega
 have aa:(0:Int)<=(i:Int)+1:=by omega
 have ag:i<=n:=by omega
 have ah:((i:Int)+1).toNat=i+1:=by omega
 have ab:¬(a=i+1):=by omega
 have ac:(i:Int)<=(n:Int)+1:=by omega
 have ad:¬(a=i):=by omega
 go_enter func274,ntmps274;go_wp2_with(simp only[F])
 go_region_law (refine KK rfl _ _ 170 170 rfl _ _ (by simp[Act.eval,Act.put]) (by simp[Act.eval,Act.put]) G ?_)
 go_wp2_with(at_builtin;refine D4 _ rfl _ _ 170 170 rfl _ _ rfl rfl H ?_);go_ret;exact⟨rfl,Da E⟩
theorem ZnO(w:World)(g n b:Nat)(xs L:F0)(i t:Nat)(c:F0)(d:FX w g 350 L)(ae:L.length=b*2)(s:L.take (n*2)=xs)(hi:i<n)(ap:n<=b)(am:b<n+1)(hn:n<=10000)(D:FX w t 350 c)(r:c.length=2)(J:∀u∈xs,u.oneCell'=true)(I:∀u∈c,u.oneCell'=true):
  Cl 274 #[.slice (some ⟨g,0,none⟩) n b,.int .i64 i,.slice (some ⟨t,0,none⟩) 1 1] w λe w'=>∃G Z,e=.returned (.slice (some ⟨w.heap.size,0,none⟩) (n+1) G)/\n+1<=G/\G<=maxLen/\(xs.take (i*2)++Z).length=G*2/\
   FX w' w.heap.size 350 (F2 (F2 (xs.take (i*2)++Z) (i*2) c) ((i+1)*2) (xs.drop (i*2)))/\w.grownBy w' (some w.heap.size):=by
 have X:xs.length=n*2:=by rw[<-s,An];omega
 have A:(xs.drop (i*2)).length=(n-i)*2:=by rw[Az,X];omega
 obtain⟨i0,R,Y,aa,E⟩:=BT L8;have W:∀j u,xs[j]?=some u->w.cell? ⟨g,j,none⟩=some u:=λj u a=>by
  rw[d.cell];rw[<-s,Ao]at a
  split at a
  ·exact a
  ·cases a
 have U:(Builtin.firstCells i0.size i (.slice (some ⟨g,0,none⟩) i b)).run prog w.drew=.ok (xs.take (i*2)).toArray w.drew:=by
  rw[aa];exact EZ w.drew 2 i ⟨g,0,none⟩ i b (xs.take (i*2)) (by rw[An];omega) (λj v q=>by
   rw[AI,Av];rw[Ao]at q
   split at q
   ·exact W j v q
   ·cases q)
 have C:i+(n+1-i)=n+1:=by omega
 have S:(n:Int)+1-(i:Int)=((n+1-i:Nat):Int):=by omega
 obtain⟨G,p⟩:=ex (grownCap w (n+1) b 350);obtain⟨Z,z⟩:∃Z:Array Value,Z=Builtin.zeroCells (Value.agg #[.int .u64 0,.int .i64 0]).cells (n+1-i)++Builtin.zeroCells (Value.agg #[.int .u64 0,.int .i64 0]).cells (G-(n+1)):=⟨_,rfl⟩;have V:∀ty,(Builtin.append_ #[170,3] ty #[.slice (some ⟨g,0,none⟩) i b,.int .i64 ((n:Int)+1-(i:Int))]).run prog w =
   .ok (.slice (some ⟨w.heap.size,0,none⟩) (n+1) G) (w.drew.alloc (.cells (xs.take (i*2)++Z.toList).toArray 350)):=λty=>by
  have h:=ET w 170 3 ty 350 i0 _ .i64 .i64 underlying170 underlying3 R Y (some ⟨g,0,none⟩) i b (xs.take (i*2)) U (n+1-i) (by omega) (by omega) (by omega) (by omega) (by rw[E];omega) (by rw[E,C];exact Fm (by omega) (by omega));rw[C,<-p]at h;rw[S,h,z]
  congr 2
  simp[Array.append_assoc]
 have ad:n+1<=G:=by rw[p];exact grownCap_ge w _ _ _
 have x:G<=maxLen:=by rw[p];exact EJ w _ _ _ (by unfold maxLen;omega)
 have f:(xs.take (i*2)++Z.toList).length=G*2:=by
  have e1:Z.size=(n+1-i)*2+(G-(n+1))*2:=by rw[z,EQ,Eh,Eh];rfl
  have e2:Z.toList.length=Z.size:=AG;rw[Ab,An,e2,e1];omega
 have y:FX (w.drew.alloc (.cells (xs.take (i*2)++Z.toList).toArray 350)) w.heap.size 350 (xs.take (i*2)++Z.toList):=CQ w.drew _;have l:w.grownBy (w.drew.alloc (.cells (xs.take (i*2)++Z.toList).toArray 350)) (some w.heap.size):=⟨rfl,rfl,rfl,by simp,λk hk _=>BH w.drew _ k hk⟩;obtain⟨m,O⟩:=ex (w.drew.alloc (.cells (xs.take (i*2)++Z.toList).toArray 350));rw[<-O]at V y l;have T:FX m t 350 c:=D.kept l (by have:=D.lt;simp;omega);obtain⟨o,af,M,B⟩:=JS (P:=prog) m 170 170 3 350 2 w.heap.size (i*2) (n+1-i) (G-i) ⟨t,0,none⟩ 1 1 _ 350 c underlying170 UI y
  (by rw[r];simp only[C5];split<;>omega)
  (λj u a=>by rw[AI,Av,T.cell];exact a) (by rw[f,r];omega) I
 have K:FX o g 350 L:=(d.kept l (by have:=d.lt;simp;omega)).kept B (by have:=d.lt;simp;omega);obtain⟨F,ag,N,Q⟩:=JS (P:=prog) o.drew 170 170 3 350 2 w.heap.size ((i+1)*2) (n-i) (G-(i+1)) ⟨g,i*2,none⟩ (n-i) (b-i) _ 350 (xs.drop (i*2)) underlying170 UI M
  (by rw[A];simp only[C5];split<;>omega)
  (λj u a=>by
   rw[AI,show(o.drew.cell? ⟨g,i*2+j,none⟩)=L[i*2+j]? from K.cell _];rw[Bf,<-s,Ao]at a
   split at a
   ·exact a
   ·cases a) (by rw[DX (by rw[f,r];omega),f,A];omega) (λu a=>J u (BG a))
 have H:(xs.take (i*2)++Z.toList).length=G*2/\FX F w.heap.size 350 (F2 (F2 (xs.take (i*2)++Z.toList) (i*2) c) ((i+1)*2) (xs.drop (i*2)))/\w.grownBy F (some w.heap.size):=
  ⟨f,N,JU l (JU B (JU (QW (QX o _)) Q))⟩
 have ab:=Db H;have aj:G<=9223372036854775807:=by unfold maxLen at x;omega
 have ah:¬(G=i):=by omega
 have ai:¬(G=i+1):=by omega
 have an:¬(b=i):=by omega
 have ar:IntKind.i64.wrap ((i:Int)+1)=(i:Int)+1:=by rw[AV];omega
 have ak:(0:Int)<=(i:Int)+1:=by omega
 have ao:i<=n:=by omega
 have aq:((i:Int)+1).toNat=i+1:=by omega
 have al:(i:Int)<=(n:Int):=by omega
 clear H f y M N l B Q T K J I s A X ae r D d W U O p z C S R Y aa E;have ac:=Db x;clear x;go_enter func274,ntmps274;go_wp2_with(first
  |(at_builtin;refine A0 _ rfl _ _ _ _ rfl _ _ rfl rfl _ _ (V _) ?_)
  |(at_builtin;refine D4 _ rfl _ _ 170 170 rfl _ _ rfl rfl af ?_))
 go_region_law (refine KK rfl _ _ 170 170 rfl _ _ (by simp[Act.eval,Act.put]) (by simp[Act.eval,Act.put]) ag ?_)
 go_wp2;go_ret;exact⟨G,Z.toList,rfl,ad,Da ac,Da ab⟩
theorem Pu(s:Int)(w:World):Cl 320 #[.int .u64 s] w λe w'=>e=.returned (.bool false)/\w'=w:=by
 go_enter func320,ntmps320;go_wp2;go_ret;exact⟨by simp,rfl⟩
theorem Zn3(a b:Int)(w:World):Cl 305 #[.int .u64 a,.int .u64 b] w λe w'=>e=.returned (.int .i64 (Kg a b))/\w'=w:=by
 have c:Kg a b=if a<b then -1 else if a=b then 0 else 1:=rfl
 have H:=Db c;clear c;by_cases d:a<b
 ·go_enter func305,ntmps305;go_wp2_with(go_at_call 320;refine(Pu _ _).mono ?_;rintro e w'⟨rfl,rfl⟩);go_ret;exact⟨by rw[Da H,if_pos d];rfl,rfl⟩
 ·by_cases h2:b<a
  ·go_enter func305,ntmps305;go_wp2_with(go_at_call 320;refine(Pu _ _).mono ?_;rintro e w'⟨rfl,rfl⟩);go_ret;exact⟨by rw[Da H,if_neg (by omega),if_neg (by omega)];rfl,rfl⟩
  ·go_enter func305,ntmps305;go_wp2_with(go_at_call 320;refine(Pu _ _).mono ?_;rintro e w'⟨rfl,rfl⟩);go_ret;exact⟨by rw[Da H,if_neg (by omega),if_pos (by omega)];rfl,rfl⟩
def Hm(x:Int×Int):F0:=[.int .u64 x.1,.int .i64 x.2]
def Dr(es:LI):F0:=es.flatMap Hm
theorem Zha(es:LI):(Dr es).length=es.length*2:=by
 induction es with
 |nil=>rfl
 |cons a l ih=>simp[Dr,Hm]at ih ⊢;omega
theorem Zhb(a b:LI):Dr (a++b)=Dr a++Dr b:=by simp[Dr]
theorem Zjk(es:LI)(i:Nat):(Dr es).take (i*2)=Dr (es.take i):=by
 induction es generalizing i with
 |nil=>simp[Dr]
 |cons a l ih=>
  cases i with
  |zero=>simp[Dr]
  |succ i=>
   have:=ih i;simp only[Dr,A1,E4]at this ⊢;rw[<-this,show(i+1)*2=(Hm a).length+i*2 by simp[Hm];omega,CJ]
theorem Zjl(es:LI)(i:Nat):(Dr es).drop (i*2)=Dr (es.drop i):=by
 induction es generalizing i with
 |nil=>simp[Dr]
 |cons a l ih=>
  cases i with
  |zero=>simp[Dr]
  |succ i=>
   have:=ih i;simp only[Dr,A1,C6]at this ⊢;rw[<-this,show(i+1)*2=(Hm a).length+i*2 by simp[Hm];omega,CK]
theorem Rz(es:LI):∀u∈Dr es,u.oneCell'=true:=by
 intro u a;simp only[Dr,EC,Hm,AC,Fw,or_false]at a;obtain⟨x,_,rfl|rfl⟩:=a<;>simp[Value.oneCell']
theorem Ob(es:LI)(k:Nat)(x:Int×Int)(h:es[k]?=some x):(Dr es)[k*2]?=some (.int .u64 x.1)/\(Dr es)[k*2+1]?=some (.int .i64 x.2):=by
 induction es generalizing k with
 |nil=>simp at h
 |cons a l ih=>
  cases k with
  |zero=>simp at h;subst h;simp[Dr,Hm]
  |succ k=>
   simp at h;have:=ih k h;simp only[Dr,A1]at this ⊢;have e:∀r,(Hm a++List.flatMap Hm l)[(k+1)*2+r]?=(List.flatMap Hm l)[k*2+r]? := λr=>by
    rw[AS (by simp[Hm];omega)];congr 1;simp[Hm];omega
   have b:=e 0;simp only[Ef]at b;rw[b,e 1];exact this
def Gy(es:LI):Prop:=∀(j k:Nat) (x y:Int×Int),j<k->es[j]?=some x->es[k]?=some y->GK x.1 y.1=true
def LZ(es:LI)(t:Int)(i:Nat)(b:Bool):Prop:=
 i<=es.length/\(∀k x,k<i->es[k]?=some x->GK x.1 t=true)/\(∀k x,i<=k->es[k]?=some x->GK x.1 t=false)/\(b=true↔∃x,es[i]?=some x/\x.1=t)
theorem Sz(x:Int×Int)(a:Int)(w:World):Cl 304 #[.agg #[.int .u64 x.1,.int .i64 x.2],.int .u64 a] w λe w'=>e=.returned (.int .i64 (Kg x.1 a))/\Bw w w':=by
 go_enter func304,ntmps304;go_wp2_with(go_at_call 305;refine(Zn3 _ _ _).mono ?_;rintro e w'⟨rfl,rfl⟩);go_ret;exact⟨rfl,(Ak _ _).alloc (Aa _) _⟩
theorem Nt(g n I:Nat)(c:Nat->Int×Int)(f:Int)(w:World)(hn:n<=10000)(l:∀k,k<n->w.cell? ⟨g,k*2,none⟩=some (.int .u64 (c k).1))(m:∀k,k<n->w.cell? ⟨g,k*2+1,none⟩=some (.int .i64 (c k).2))(F:∀j k,j<k->k<n->GK (c j).1 (c k).1=true):
  Cl 303 #[.slice (some ⟨g,0,none⟩) n I,.int .u64 f,.func (.func 304) #[] #[]] w λe w'=>∃(i:Nat) (b:Bool),e=.returned (.tuple #[.int .i64 i,.bool b])/\
   (i<=n/\(∀k,k<i->GK (c k).1 f=true)/\(∀k,i<=k->k<n->GK (c k).1 f=false)/\(b=true↔i<n/\(c i).1=f))/\Bw w w':=by
 have A:=Db F;clear F;go_enter func303,ntmps303;go_wp2_with fail
 go_loopw [9,10] (λi j wr=>∃a b:Nat,i=.int .i64 a/\j=.int .i64 b/\a<=b/\b<=n/\Hid (∀k,k<a->GK (c k).1 f=true)/\Hid (∀k,b<=k->k<n->GK (c k).1 f=false)/\Bw w wr) (λi j _=>(intOf j-intOf i).toNat)
 case atStart=>exact⟨0,n,rfl,rfl,Au _,Aa _,λ_ h=>absurd h (Eo _),λk J v=>absurd v (by omega),Ak _ _⟩
 case round=>
  obtain⟨a,b,rfl,rfl,aa,x,z,y,d⟩:=hrel;by_cases ab:a<b
  ·have u:(a+b)/2<n:=by omega
   have r:g<w.heap.size:=Am _ _ (l _ u);have K:=(d.cell (p:=⟨g,(a+b)/2*2,none⟩) r).trans (l _ u);have L:=(d.cell (p:=⟨g,(a+b)/2*2+1,none⟩) r).trans (m _ u);have B:=Db l;have C:=Db m;clear l m;go_wp2_with fail;refine(Sz (c ((a+b)/2)) _ _).mono ?_;rintro e w'⟨rfl,t⟩;by_cases D:Kg (c ((a+b)/2)).1 f<0
   ·have s:=(U9 _ _).1 D;have o:=Db s;clear s;go_wp2
    go_roundw
    case rel=>
     refine⟨(a+b)/2+1,b,by go_num,rfl,by omega,x,λk hk=>?_,y,d.trans (t.mono d.size)⟩;rcases Bh k ((a+b)/2) with h|h
     ·exact Od (Da A _ _ h u) (Da o)
     ·obtain rfl:k=(a+b)/2:=by omega
      exact Da o
    case measure=>simp[intOf];omega
   ·have s:GK (c ((a+b)/2)).1 f=false:=by
     cases h:GK (c ((a+b)/2)).1 f with
     |false=>rfl
     |true=>exact absurd ((U9 _ _).2 h) D
    have o:=Db s;clear s;go_wp2
    go_roundw
    case rel=>
     refine⟨a,(a+b)/2,rfl,by go_num,by omega,by omega,z,λk J v=>?_,d.trans (t.mono d.size)⟩;rcases Bh ((a+b)/2) k with h|h
     ·cases E:GK (c k).1 f with
      |false=>rfl
      |true=>exact absurd (Od (Da A _ _ h v) E) (by rw[Da o];simp)
     ·obtain rfl:k=(a+b)/2:=by omega
      exact Da o
    case measure=>simp[intOf];omega
  ·obtain rfl:a=b:=by omega
   by_cases q:a<n
   ·have r:g<w.heap.size:=Am _ _ (l _ q);have K:=(d.cell (p:=⟨g,a*2,none⟩) r).trans (l _ q);have L:=(d.cell (p:=⟨g,a*2+1,none⟩) r).trans (m _ q);have B:=Db l;have C:=Db m;clear l m;go_wp2_with fail;refine(Sz (c a) _ _).mono ?_;rintro e w'⟨rfl,t⟩;have G:=Vn (c a).1 f;have H:=Db G;clear G;go_wp2
    go_ret2
    refine⟨a,_,rfl,⟨x,z,y,?_⟩,d.trans (t.mono d.size)⟩;simp[Da H,q]
   ·have E:decide (((a:Nat):Int)<(n:Int))=false:=by simp;omega
    have B:=Db l;have C:=Db m;clear l m;go_wp2
    go_ret2
    exact⟨a,_,rfl,⟨x,z,y,by simp[q]⟩,d⟩
theorem MY(v:Value)(es:LI)(l:Int)(w:World)(B:Sl w 350 2 v es.length (Dr es))(F:es.length<=10000)(G:Gy es):
  Cl 303 #[v,.int .u64 l,.func (.func 304) #[] #[]] w λe w'=>∃(i:Nat) (b:Bool),e=.returned (.tuple #[.int .i64 i,.bool b])/\LZ es l i b/\Bw w w':=by
 rcases B.2 with⟨rfl,z⟩|⟨g,q,L,rfl,A,hc,aa,hL,C⟩
 ·have:es=[]:=AA z;subst this;go_enter func303,ntmps303;go_wp2_with fail
  go_loopw [9,10] (λi j wr=>i=.int .i64 0/\j=.int .i64 0/\wr=w) (λ_ _ _=>0)
  case atStart=>exact⟨rfl,rfl,rfl⟩
  case round=>
   obtain⟨rfl,rfl,rfl⟩:=hrel;go_wp2
   go_ret2
   exact⟨0,false,rfl,⟨Au _,λk x h _=>absurd h (Eo _),λk x _ h=>by simp at h,by simp⟩,Ak _ _⟩
 ·have y:∀j u,(Dr es)[j]?=some u->w.cell? ⟨g,j,none⟩=some u:=λj u f=>by
   rw[A.cell];rw[<-C,Ao]at f
   split at f
   ·exact f
   ·cases f
  cases hes:es with
  |nil=>
   subst hes;refine(Nt g 0 q (λ_=>(0,0)) l w (by omega) (λk h=>absurd h (by omega)) (λk h=>absurd h (by omega)) (λj k _ h=>absurd h (by omega))).mono ?_;rintro e w'⟨i,b,rfl,⟨r,s,t,m⟩,n⟩;obtain rfl:i=0:=by omega
   exact⟨0,b,rfl,⟨Aa _,λk x h _=>absurd h (by omega),λk x _ h=>by simp at h,by rw[m];simp⟩,n⟩
  |cons x0 l0=>
   rw[<-hes];have d:∀k,k<es.length->es[k]?=some (es.getD k x0):=λk a=>by simp[List.getD,List.getElem?_eq_getElem a]
   refine(Nt g es.length q (λk=>es.getD k x0) l w F (λk a=>y _ _ (Ob es k _ (d k a)).1) (λk a=>y _ _ (Ob es k _ (d k a)).2)
    (λj k E a=>G j k _ _ E (d j (by omega)) (d k a))).mono ?_
   rintro e w'⟨i,b,rfl,⟨r,s,t,m⟩,n⟩;have o:∀k x,es[k]?=some x->k<es.length:=λk x h=>(Ae.1 h).1
   have p:∀k x,es[k]?=some x->x=es.getD k x0:=λk x h=>by have:=d k (o k x h);rw[h]at this;exact BR this
   refine⟨i,b,rfl,⟨r,λk x a c=>?_,λk x a c=>?_,?_⟩,n⟩
   ·rw[p k x c];exact s k a
   ·rw[p k x c];exact t k a (o k x c)
   ·rw[m];constructor
    ·rintro⟨D,e⟩;exact⟨_,d i D,e⟩
    ·rintro⟨x,c,e⟩;exact⟨o i x c,by rw[<-e,p i x c]⟩
end Go.Proofs.YtaieidcohdhgpaaGreatDoor
