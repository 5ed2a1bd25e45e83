/- Spoilt. -/
import Derived.Test.YtaieidcohdhgpaaGreatDoorXBE
namespace Go.Proofs.YtaieidcohdhgpaaGreatDoor
set_option maxHeartbeats 40000000
set_option maxRecDepth 100000
open Go.RowKit
theorem Za{s:KS}(hI:Gf s){C:NB}{L:List It}(hF:F7 C L){t:By}{B:Nat}(f:MH s C L t B){j:Nat}{d:LY}(H:∀p,p≠j->d[p]?=s.D[p]?):∃z,Mx False (fun q x U _ _ _=>RX s C L t B z j d q x U) d s.tp s.tx:=by
 obtain⟨z,T,_⟩:=Ww f.rows;refine⟨z,fun W w0 V Z F w A h vf vw ve a l c u Q h0 ad=>?_⟩;obtain⟨N,ab⟩:=PU f.rows;have hu:=Pp D2;have G:=u.2.1.2;have g:=f.rows;have R:=f.tab;have M:=f.dat;have S:=f.tp;have I:=hI.ok.env false;unfold RX;obtain⟨E,n⟩:=ex (Dk s.es false s.tp s.D);rw[<-n]at I g R M S T N ab ⊢;have ac:∀r,F9 E r<1536:=fun r=>by
  unfold F9
  cases e:E.at r with
  | none=>show 0<_;omega
  | some q=>exact(I.at_some e).2
 refine Tu False _ (D:=d) (fun q x U _ _ _ kd p _ _ _ Y x' _ _ _ J n _ P _=>⟨XW G J.1 n P,fun o=>L6.step hF ac M z (J.2 o) n P⟩) (fun _ _ _ _ _ _ _ _ h=>h) (fun _ _ _ _ _ _ _ _ _ _ _ _ _ _ _ _ _ _ h=>h) W w0 V Z F 0 0 D2 w A h u Q h0 ad s.tp s.tx (Jb d 1537 s.tp D2) (fun X w A hX=>Rm w0 V Z F s.tp s.tx u Q 1537 0 s.tp s.tx D2 X w A GM.start (by omega) hX) (fun b Y e=>⟨⟨⟨b,Y,e,fun y v=>v⟩,fun o=>?_⟩,Vm G e⟩) (fun _ h=>h);have aa:Rows d (GN E t) (nR E t) (fun b k=>F9 E (Dy b k)) (fun b k=>Dl (Dw (G0 b) (GN E t b) (GR b) k)) B:=
  { g with
   d0:=fun i m=>by rw[H _ (o 0 i (Aw _) m)];exact g.d0 i m
   d1:=fun b K i m=>by rw[H _ (o (b+1) i K m)];exact g.d1 b K i m }
 have af:=g.top;have h8:=g.b8;have O:=Rb aa B (Aa _) 1537 0 D2 (by omega) (by omega) (GI.start _ _ _ B (B+1)) (I6.start _ B);rw[<-S,e]at O
 cases O
 refine⟨0,Aw _,Kn ?_,rfl,fun y v=>?_,fun k' ae=>by omega⟩
 ·rw[Q9];refine T.trans ?_;show BL t++_=_;rw[R,DO,Ar]
  rfl
 ·obtain⟨b,k,h1,h2,rfl⟩:=N.g1 y v
  rfl
theorem Tl{s:KS}(g:Gf s){C:NB}{L:List It}(f:F7 C L)(F:Ge s C L){j:Nat}{b:LY}(m:∀p,p≠j->b[p]?=s.D[p]?)(O:∀y y',s.D[j]?=some y->b[j]?=some y'->Dl y'≠Dl y){h i:By}(U:b[0]?=some h)(V:b[1]?=some i)(o:J4 h i=none\/J4 h i=some (s.tn,s.tp,s.tx)/\∃r:Int,(r,(j:Int))∈s.es)
  (w:World) (d:Nat) (u:Value) (a:OA) (l c:Nat) (k:DV w d u (.slice a l c) (.slice none 0 0) (.slice none 0 0) b) (N:¬F2 (.slice a l c) d) (R:Gs w):
  Cl 76 #[.pointer (some ⟨d,0,none⟩)] w fun e w'=>e=LO/\Bw w w':=by
 obtain⟨t,B,n,_⟩:=F.on g.w f.ok f.k2;obtain⟨z,T⟩:=Za g f n m;refine(TZ g.ok.tp T U V (o.imp id (·.1)) w d u a l c k N R).mono ?_;intro e w' Q;rcases Q with⟨rfl,J,_⟩|⟨ac,tb,va,aa,q,G,I,CI,L',rfl,ho,⟨S,K,P,⟨x,ab,W,H⟩,M,_⟩,⟨v,A,D,E⟩,_⟩
 ·exact⟨rfl,J⟩
 ·exact(Zlc g f n k.2.2 m O (o.resolve_left ho).2 H W S K rfl P v A M D E).elim
theorem Zka{P:Program}{e:Array Oper}{f:List Oper}{o:Oper}{a:Act}{w:World}{Q:Exit->Act->World->Prop}(j:o.guard=none)(d:TypeId)(x:Operand)(ho:o.op = .sliceToArrayPointer d x)(n:Nat)(g:TypeId)(k:P.underlying d=some (.array n g))(b:OA)(l c:Nat)(m:a.eval x = .slice b l c)(hn:n<=l)
  (h:wpList P e Q f (a.put o.dst (.pointer b)) w):wpList P e Q (o::f) a w:=by
 refine EE j fun K i=>?_
 unfold Oper.wp execOp;simp only[ho,Instr.arrayAt,Cj,m];simp[underlying,k,go_sem,show ¬l<n by omega];exact i _ _ h
theorem Ze3{P:Program}{c:Array Oper}{d:List Oper}{o:Oper}{a:Act}{w:World}{Q:Exit->Act->World->Prop}(k:o.guard=none)(ty:TypeId)(x y:Operand)(ho:o.op = .store ty x y)
  (g off:Nat) (t:TypeId) (L b:F6) (m:a.eval x = .pointer (some ⟨g,off,none⟩)) (n:a.eval y = .agg b.toArray)
  (j:F0 w g t L) (i:off+b.length<=L.length) (l:(P.info? ty).map (·.size)=some b.length) (e:∀u∈b,u.oneCell'=true)
  (h:wpList P c Q d (a.put o.dst undef) (w.setRow g (F8 L off b).toArray)):wpList P c Q (o::d) a w:=
 EE k fun _K f=>Xc ty x y ho g off t L b m n j i l e (f _ _ h)
theorem RJ(D:LY):Dc (Jk D)=Jg D:=by
 unfold Jk Jg Dc;simp[List.map_flatMap]
theorem take_set{D Z:LY}{k:Nat}{s:By}(a:D[k]?=some s)(hl:Z.length=D.length):(D.take k++Z.drop k).set k s=D.take (k+1)++Z.drop (k+1):=by
 have hk:=(Ae.1 a).1;have e:D.take (k+1)=D.take k++[s]:=by rw[BZ,a];rfl
 have b:Z.drop k=Z[k]::Z.drop (k+1):=CO (by omega);rw[e,b,Em _ _ (by rw[Am];omega),Am,show k-min k D.length=0 by omega,List.set_cons_zero,Ar]
 rfl
def Pb(w:World)(D:LY)(e:Ending)(w':World):Prop:=
 ∃db vf a l c,e = .returned (.tuple #[.pointer (some ⟨db,0,none⟩),.bool true])/\DV w' db vf (.slice a l c) (.slice none 0 0) (.slice none 0 0) D/\¬F2 (.slice a l c) db/\w.heap.size<=db/\(∀k,F2 (.slice a l c) k->w.heap.size<=k)/\Bw w w'
theorem Tk(w:World)(a:OA)(l c:Nat)(D:LY)(h:Sl w 5 1 (.slice a l c) (Jk D).size (Dc (Jk D)))(n:D.length=1536)(d:∀s∈D,s.size=64):
  Cl 75 #[.slice a l c] w (Pb w D):=by
 have Y:(Jk D).size=98304:=by rw[Uu d,n]
 rw[Y,RJ]at h;obtain⟨i0,aj,am,an,ao⟩:=BU U9;rcases h.2 with⟨_,h0⟩|⟨g,aq,L,e,E,K,g2,g3,M⟩
 ·omega
 simp only[Bl]at e;obtain⟨rfl,rfl,rfl⟩:=e;have ai:=E.lt;have af:Hid (∀X k s,Bw w X->D[k]?=some s->X.rangeAt g (k*64) (Dc s)):=fun X k s r V j v Z=>by
  have aw:=d s (An V);have S:j<64:=by have:=(Ae.1 Z).1;rw[Dh]at this;omega
  have:=Qo d k j s V S;rw[Z,<-M,Ao]at this
  split at this
  ·have ag:F0 X g 5 L:=(r.block _ ai).trans E;rw[ag.cell];exact this
  ·cases this
 have I:Hid (∀X,Bw w X->Hp X (.slice (some ⟨w.heap.size,0,none⟩) 1536 1536) D->Cl 134 #[.slice (some ⟨w.heap.size,0,none⟩) 1536 1536] X fun e w'=>∃m,e = .returned (.pointer (some ⟨m,0,none⟩))/\Hid (Pb w D (.returned (.tuple #[.pointer (some ⟨m,0,none⟩),.bool true])) w')):=fun X r N=>by
  refine(W9 X _ D N n).mono ?_;rintro e w' ⟨rfl,ap,x,G,p,q4⟩;have P:=r.size;have ak:=N.1.lt (g:=w.heap.size) rfl;refine⟨X.heap.size,rfl,X.heap.size,ap,_,_,_,rfl,x,fun e=>?_,P,fun k T=>?_,r.trans (p.mono P)⟩
  ·simp[F2,Value.ownBlock]at e;omega
  ·simp[F2,Value.ownBlock]at T;omega
 have aa:=Db d;have H:=Db n;have ac:=Db K;clear h Y E g3 M d n K;go_enter Tryz.func75,Tryz.ntmps75;go_wp2_with (at_make;refine BA _ rfl _ _ 186 rfl 0 188 i0 (DB (Di 64)) 64 Pr aj am an _ _ _ _ 1536 rfl rfl rfl rfl (by rw[ao];decide) (by unfold maxLen;decide) (Aw _) ?_;intro w1 U R;have J:=Db (And.intro (Sl.of_owns U) (KT R));clear U R)
 go_loopw [12] (fun i wr=>∃k:Nat,k<=1536/\i = .int .i64 k/\Hid (Hp wr (.slice (some ⟨w.heap.size,0,none⟩) 1536 1536) (D.take k++J3.drop k)/\Bw w wr)) (fun i _=>1536-(intOf i).toNat)
 case atStart=>
  obtain⟨b,o⟩:=Da J;rw[VX 1536,<-RT]at b;exact⟨0,Aw _,rfl,⟨by rw[Ct,AA,BY,Kx];exact b,by rw[Ct,AA,BY];exact Wh⟩,o⟩
 case round=>
  obtain⟨k,T,rfl,y⟩:=hrel;by_cases ak:k<1536
  ·obtain⟨b,o⟩:=Da y;have n:=Da H;have d:=Da aa;obtain⟨s,t⟩:∃s,D[k]?=some s:=⟨_,Ac (by omega)⟩;have F:s.size=64:=d s (An t);have C:(D.take k++J3.drop k).length=1536:=by rw[Ad,Am,Az,Kx];omega
   obtain⟨g',c',A,B,q,O,x,G,p⟩:=b.row (by omega);rw[C]at B;simp only[Bl,Et,Addr.mk.injEq]at B;obtain⟨⟨e1,_,_⟩,_,e3⟩:=B;subst e1 e3;obtain⟨W,f⟩:∃X,wr.setRow w.heap.size (F8 A (k*64) (Dc s)).toArray=X:=⟨_,rfl⟩;have Q:(Dc s).length=64:=by rw[Dh,F]
   have xW:F0 W w.heap.size 188 (F8 A (k*64) (Dc s)):=by rw[<-f];exact BQ wr _ _ _ 188 _ q
   have ab:Hid (Hp W (.slice (some ⟨w.heap.size,0,none⟩) 1536 1536) (D.take (k+1)++J3.drop (k+1))/\Bw w W):=by
    have:=Hp.set q O x G p b.2 k s (by omega) F W xW;rw[take_set t (by rw[Kx,n]),C]at this;exact⟨this,o.trans ⟨by rw[<-f];rfl,by rw[<-f];rfl,by rw[<-f];rfl,by rw[<-f];simp,fun j S=>by rw[<-f];exact Bn wr _ j _ (by omega)⟩⟩
   have ae:=Db (Da af wr k s o t);have HX:=Db q;have HW:=Db f;have z:=Db Q;have ad:=Db p;have ax:IntKind.i64.wrap ((k:Int)*64)=((k*64:Nat):Int):=by rw[AX];omega
   have au:(k:Int)<1536:=by omega
   have ah:=Da ac;have ar:¬c=k*64:=by omega
   have av:k*64<=98304:=by omega
   clear ah;have al:Hid (∀u∈Dc s,u.oneCell'=true):=Ko s;clear b o xW q O x G p C n d F Q t f y J I;go_wp2_with (first|(refine Zka rfl 188 _ rfl 64 5 Kg _ _ _ rfl (by omega) ?_)|(refine FC rfl 188 _ rfl g (k*64) rfl (Dc s) _ (Da ae) Kg rfl (by rw[D7,Da z]) ?_)|(refine Ze3 rfl 188 _ _ rfl w.heap.size (k*64) 188 A (Dc s) rfl rfl (Da HX) (by rw[Da z,Da ad];omega) (by rw[D7,Da z]) (Da al) ?_;rw[Da HW]))
   go_roundw
   case rel=>exact⟨k+1,by omega,by go_num,Da ab⟩
   case measure=>simp[intOf];omega
  ·obtain rfl:k=1536:=by omega
   have HC:Hid (Cl 134 #[.slice (some ⟨w.heap.size,0,none⟩) 1536 1536] wr fun e w'=>∃m,e = .returned (.pointer (some ⟨m,0,none⟩))/\Hid (Pb w D (.returned (.tuple #[.pointer (some ⟨m,0,none⟩),.bool true])) w')):=by
    obtain⟨b,o⟩:=Da y;rw[Ah (Ej (Da H)),Cq (Ej Kx),CG]at b;exact Da I wr o b
   go_wp2_with (go_at_call 134;refine(Da HC).mono ?_;rintro e w' ⟨m,rfl,HP⟩);exact Ax (v := .tuple #[.pointer (some ⟨m,0,none⟩),.bool true]) (by simp[results,Tryz.results75,go_sem]) rfl (Da HP)

def GL(c:Int):Prop := -9223372036854775808<=c/\c<=9223372036854775807
theorem GL.wrap(c:Int):GL (IntKind.i64.wrap c):=by unfold GL;rw[AX];omega
def J5(c:Int)(n:Nat):Nat:=(if c<0 then -(c+1) else c).toNat%n
theorem QH(c:Int){n:Nat}(h:0<n):J5 c n<n:=FY _ h
theorem QO(w:World)(c:Int)(n:Nat)(l:GL c)(d:0<n)(b:n<=2000000000):
  Cl 24 #[.int .i64 c,.int .i64 n] w fun e w'=>e = .returned (.int .i64 (J5 c n:Nat))/\w'=w:=by
 obtain⟨f,g⟩:=l;have o:¬((n:Int)=0):=by omega
 have aa:((n:Int)==0)=false:=by rw[BK];exact o
 by_cases i:c<0
 ·have e1:IntKind.i64.wrap (c+1)=c+1:=by rw[AX];omega
  have k:IntKind.i64.wrap (-(c+1))=(((-(c+1)).toNat:Nat):Int):=by rw[AX];omega
  have a:(((-(c+1)).toNat:Nat):Int)%(n:Int)=((J5 c n:Nat):Int):=by
   unfold J5;rw[if_pos i,<-Int.natCast_emod]
  generalize (-(c+1)).toNat=m at k a
  generalize J5 c n=r at a ⊢
  have j:=Db b;clear b f g d;go_enter Tryz.func24,Tryz.ntmps24;go_wp2;go_ret;exact⟨Ca (fun z=>Ending.returned (Value.int .i64 z)) a,rfl⟩
 ·have a:c%(n:Int)=((J5 c n:Nat):Int):=by
   unfold J5;rw[if_neg i];have h:c=((c.toNat:Nat):Int):=by omega
   generalize c.toNat=m at h ⊢
   subst h;rw[<-Int.natCast_emod]
  generalize J5 c n=r at a ⊢
  have j:=Db b;clear b f g d;go_enter Tryz.func24,Tryz.ntmps24;go_wp2;go_ret;exact⟨rfl,rfl⟩
theorem U5{W:World}{a:OA}{m c:Nat}{s:By}(h:Sl W 5 1 (.slice a m c) m (Dc s))(d:m=s.size):(convert 59 9 (.slice a m c)).run Tryz.prog W = .ok (.string s) W:=by
 rcases h.2 with⟨e,h0⟩|⟨g,aa,R,e,j,ac,ab,hl,k⟩
 ·simp only[Bl]at e;obtain⟨rfl,rfl,rfl⟩:=e;rw[Go.Lib.run_convert_nil_bytes W 59 9 5 0 Tryz.underlying59 Tryz.underlying5 Tryz.underlying9]
  congr 2
  apply FB;exact(Array.size_eq_zero_iff.1 d.symm).symm
 ·simp only[Bl]at e;obtain⟨rfl,-,rfl⟩:=e;subst d;refine Go.Lib.run_convert_whole W 59 5 9 Tryz.underlying59 Tryz.underlying5 Tryz.underlying9 g 0 s (fun i f=>?_) c;rw[Av,j.cell];have b:(R.take (s.size*1))[i]?=(Dc s)[i]? := by rw[k]
  rw[List.getElem?_take_of_lt (by omega)]at b;rw[b];unfold Dc;rw[Bv,Cm,Es f]
  rfl
def GJ(i:Nat):By:=⟨#[47,102,UInt8.ofNat (48+i)]⟩
theorem N7(w:World)(i:Nat)(hi:i<8):Cl 72 #[.int .i64 i] w fun e w'=>e = .returned (.string (GJ i))/\Bw w w':=by
 have e1:IntKind.i64.wrap (48+(i:Int))=((48+i:Nat):Int):=by rw[AX];omega
 obtain⟨W,f,g,l,n,d⟩:=De w [.int .u8 (48+(i:Int))] 5;have b:Dc ⟨#[UInt8.ofNat (48+i)]⟩=[.int .u8 (48+(i:Int))]:=by
  have:(UInt8.ofNat (48+i)).toNat=48+i:=by simp;omega
  show [Value.int .u8 ((UInt8.ofNat (48+i)).toNat:Int)]=_;rw[this];simp
 have k:=U5 (W:=W) (a:=some ⟨w.heap.size,0,none⟩) (m:=1) (c:=1) (s:=⟨#[UInt8.ofNat (48+i)]⟩) ⟨by rw[b];rfl,.inr ⟨w.heap.size,1,_,rfl,g,Aa _,by decide,rfl,by rw[b];rfl⟩⟩ rfl;have h:=Db d;have j:=Db f;clear g l n d b f;go_enter Tryz.func72,Tryz.ntmps72;go_wp2;rw[show w.alloc (.cells #[.int .u8 (48+(i:Int))] 5)=W from Da j];rw[k];go_wp2;go_ret;refine⟨?_,Da h⟩;show Ending.returned (Value.string _)=_
 congr 2
 apply FB;simp[GJ]
theorem ZmL(s:By)(q:Nat)(x:Nat):(Dc s).set q (.int .u8 ((x%256:Nat):Int))=Dc ⟨s.data.setIfInBounds q (UInt8.ofNat x)⟩:=by
 unfold Dc;rw[Array.toList_setIfInBounds,List.map_set];simp
def YF(w:World)(n:Nat)(e:Ending)(w':World):Prop:=∃s:By,s.size=n/\e = .returned (.slice (some ⟨w.heap.size,0,none⟩) n n)/\F0 w' w.heap.size 5 (Dc s)/\Bw w w'
theorem Zi8(w:World)(c:Int)(n:Nat)(y:GL c)(hn:n<=2000000):
  Cl 73 #[.int .i64 c,.int .i64 n] w (YF w n):=by
 obtain⟨M,I,J,K,L⟩:=BU KB;have C:=Db y;clear y;go_enter Tryz.func73,Tryz.ntmps73;go_wp2_with (at_make;refine BA _ rfl _ _ 59 rfl 0 5 M (.int .u8 0) 1 Tryz.underlying59 I J K _ _ _ _ n rfl rfl rfl rfl (by rw[L];omega) (by unfold maxLen;omega) (Aw _) ?_;intro w1 A z;have o:=Db (And.intro (Sl.of_owns A) (KT z));clear A z)
 go_loopw [0,6] (fun c i wr=>∃(d:Int) (q:Nat),q<=n/\c = .int .i64 d/\i = .int .i64 q/\Hid (GL d)/\Hid (∃s:By,s.size=n/\F0 wr w.heap.size 5 (Dc s))/\Hid (Bw w wr)) (fun _ i _=>n-(intOf i).toNat)
 case atStart=>
  refine⟨c,0,Aw _,rfl,rfl,C,?_,(Da o).2⟩;have x:=(Da o).1;have F:(madeCells (Value.int .u8 0).cells (n*1)).toList=List.replicate n (.int .u8 0):=by rw[BW];exact EQ (.int .u8 0) _
  rw[F,<-QS]at x;rcases x.2 with⟨e,_⟩|⟨g,aa,Q,e,f,H,u,h3,v⟩
  ·cases e
  ·simp only[Bl,Et,Addr.mk.injEq]at e;obtain⟨⟨rfl,-,-⟩,-,rfl⟩:=e;rw[Ah (by omega)]at v;subst v;exact⟨Di n,Jd n,f⟩
 case round=>
  obtain⟨d,q,hq,rfl,rfl,HD,t,m⟩:=hrel;by_cases ae:q<n
  ·obtain⟨h,H⟩:∃h,IntKind.i64.wrap (d*1103515245)=h:=⟨_,rfl⟩;obtain⟨b,u⟩:∃b,IntKind.i64.wrap (h+12345)=b:=⟨_,rfl⟩;have j:GL b:=by rw[<-u];exact GL.wrap _
   obtain⟨r,f⟩:=ex (J5 b 1073741824);have k:=QO wr b 1073741824 j (by omega) (by omega);rw[<-f]at k;have af:r<1073741824:=by rw[f];exact QH _ (by omega)
   have D:=Db k;have B:=Db j;clear k j f;obtain⟨s,l,a⟩:=Da t;have ab:wr.cell? ⟨w.heap.size,q,none⟩=some (Dc s)[q]! := by
    rw[a.cell,List.getElem!_eq_getElem?_getD,Ac (by rw[Dh];omega)];rfl
   have ac:=a.frozen q;have E:=Db a;clear a;have ad:(q:Int)<(n:Int):=by omega
   go_wp2_with (go_at_call 24;refine(Da D).mono ?_;rintro e w' ⟨rfl,rfl⟩);have a:=(Da E).set q (.int .u8 (((r/65536)%256:Nat):Int));rw[ZmL]at a;have G:((r:Int)/65536%256)=(((r/65536)%256:Nat):Int):=by omega
   rw[G];refine⟨⟨b,q+1,by omega,rfl,by go_num,B,⟨_,?_,a⟩,(Da m).setCell (p:=⟨w.heap.size,q,none⟩) (Aa _) _⟩,by simp[intOf];omega⟩;show(s.data.setIfInBounds q _).size=n;rw[Array.size_setIfInBounds];exact l
  ·obtain rfl:q=n:=by omega
   go_wp2;go_ret;obtain⟨s,l,a⟩:=Da t;exact⟨s,l,rfl,a,Da m⟩
def fn(i:Nat):By:=⟨#[102,UInt8.ofNat (48+i)]⟩
theorem fn_all:(List.range 8).all (fun i=>DX (fn i))=true:=by kernel_rfl
theorem fn_ok{i:Nat}(h:i<8):DX (fn i)=true:=Fw.1 fn_all i (BI.2 h)
theorem UT{i j:Nat}(hi:i<8)(hj:j<8)(h:fn i=fn j):i=j:=by
 unfold fn at h;injection h with h;simp only[Array.mk.injEq,FK,and_true,true_and]at h;have:=Ca UInt8.toNat h;simp at this;omega
theorem pth_jn(i:Nat):GJ i=jn [fn i]:=by
 apply FB;simp[GJ,jn,jl,fn]
theorem Kf{i:Nat}(h:i<8):Df (GJ i)=[fn i]/\DU (GJ i)=true/\(GJ i).size<=78:=by
 have a:IX [fn i]:=fun m c=>by rw[Ab.1 c];exact fn_ok h
 have:=Ti a (by simp) (by simp);rw[pth_jn];exact⟨PW a (by simp),this,Ri _ this⟩
def JR(b:Nat->Option By)(i:Nat)(v:Option By):Nat->Option By:=fun j=>if j=i then v else b j
structure Gc(b:Nat->Option By)(G:Gh)(I:LF)(CI:IB):Prop where
 fl:Iw G I CI
 nm:∀x∈G,∃i,i<8/\x.1=[fn i]
 yes:∀i,i<8->∀s,b i=some s->∃f:Nat,([fn i],(⟨none,(f:Int)⟩:VS))∈G/\CI f=s
 no:∀i,i<8->b i=none->∀u,([fn i],u)∉G
section
variable{b:Nat->Option By}{G:Gh}{I:LF}{CI:IB}
theorem Gc.empty:Gc (fun _=>none) [] [] (fun _=>⟨#[]⟩):=
 ⟨⟨fun x a=>(by cases a),CC,fun x a=>(by cases a),Aw _,fun x a=>(by cases a),fun x a=>(by cases a),fun x a=>(by cases a)⟩,fun x a=>(by cases a),fun i _ s h=>(by cases h),fun i _ _ u h=>(by cases h)⟩
theorem Iw.ilen(h:Iw G I CI)(a:Gn I):I.length<=G.length:=by
 have:=K8 (I.map (·.1)) (G.map (fun y=>y.2.f)) a.nd (fun x c=>by
  obtain⟨y,d,rfl⟩:=Au.1 c;obtain⟨_,_,z,f,e⟩:=h.back y d;exact Au.2 ⟨z,f,e⟩)
 rwa [AK,AK]at this
theorem Iw.csz(h:Iw G I CI){x:Int×VF}(c:x∈I):(CI x.1).size<=1280/\x.2.l<=1280/\0<=x.1:=by
 obtain⟨_,h2,y,a,e⟩:=h.back x c;have:=h.sz y a;rw[e]at this;obtain⟨n,f,rfl,_⟩:=h.fil y a;exact⟨this,by omega,by rw[<-e];exact FT f⟩
theorem Iw.flok(h:Iw G I CI):GX G I:=fun x c _=>by
 obtain⟨r,a⟩:=h.num x c;have:=(h.back _ a).1;have h1:r.f=1:=this;exact⟨r,a,by omega,by omega⟩
theorem Gc.at(h:Gc b G I CI){i:Nat}(c:i<8){s:By}(d:b i=some s):∃f:Nat,Gr G (Df (GJ i))=some ⟨none,(f:Int)⟩/\([fn i],(⟨none,(f:Int)⟩:VS))∈G/\CI f=s:=by
 obtain⟨f,a,e⟩:=h.yes i c s d;rw[(Kf c).1];exact⟨f,K2 h.fl.nd a,a,e⟩
theorem Gc.none'(h:Gc b G I CI){i:Nat}(a:i<8)(c:b i=none):Gr G (Df (GJ i))=none:=by
 rw[(Kf a).1]
 cases e:Gr G [fn i] with
 | none=>rfl
 | some u=>exact absurd (KE e) (h.no i a c u)
theorem UU(G:Gh){i:Nat}(d:i<8):DM G (GJ i) true=0:=by
 obtain⟨a,c,_⟩:=Kf d;unfold DM;rw[c,a]
 rfl
theorem Gc.file(h:Gc b G I CI){i:Nat}(a:i<8){s:By}(d:b i=some s):DL G (GJ i) true=0:=by
 obtain⟨f,c,_⟩:=h.at a d;unfold DL;rw[UU G a,c,(Kf a).1];simp
theorem Gc.nofile(h:Gc b G I CI){i:Nat}(a:i<8)(d:b i=none):DL G (GJ i) true=3:=by
 have c:=h.none' a d;unfold DL;rw[UU G a,c,(Kf a).1];simp
theorem Gc.rm(h:Gc b G I CI){i:Nat}(a:i<8){s:By}(d:b i=some s):Ix G (GJ i)=0:=by
 obtain⟨f,c,_⟩:=h.at a d;unfold Ix H3;rw[UU G a,c,(Kf a).1];simp
theorem Gc.lt7(h:Gc b G I CI){i:Nat}(g:i<8)(f:b i=none):G.length<=7:=by
 have:=K8 (G.map (·.1)) (((List.range 8).filter (fun j=>decide (j≠i))).map (fun j=>[fn j])) h.fl.nd (fun x l=>by
  obtain⟨y,c,rfl⟩:=Au.1 l;obtain⟨j,k,e⟩:=h.nm y c;refine Au.2 ⟨j,EJ.2 ⟨BI.2 k,Cs (fun d=>?_)⟩,e.symm⟩;subst d;have a:(y.1,y.2)∈G:=c;rw[e]at a;exact h.no j g f _ a)
 rw[AK,AK]at this;have h7:((List.range 8).filter (fun j=>decide (j≠i))).length=7:=by
  have:i=0\/i=1\/i=2\/i=3\/i=4\/i=5\/i=6\/i=7:=by omega
  rcases this with rfl|rfl|rfl|rfl|rfl|rfl|rfl|rfl<;>decide
 omega
theorem Gc.may(h:Gc b G I CI)(e:Gn I){i:Nat}(d:i<8)(a:b i=none):Jp G I (Df (GJ i)).dropLast=true:=by
 have h7:=h.lt7 d a;have aa:=h.fl.ilen e;unfold Jp;have hc:G.countP (Hk (Df (GJ i)).dropLast)<=G.length:=BT;have c:cD G []=1:=by
  unfold cD;have:G.countP (fun x=>x.2.p.isSome && qB [] x)=0:=by
   rw[C9];intro x g;obtain⟨n,f,rfl,_⟩:=h.fl.fil x g;simp
  rw[this]
 rw[c];exact Cs ⟨⟨by omega,by omega⟩,by omega⟩
theorem Gc.wr(h:Gc b G I CI)(j:Gn I){i:Nat}(a:i<8){p:Int}{d:By}(g:Qc p d=true):Ip G I (GJ i) p d=0:=by
 unfold Ip;rw[g,UU G a];have c:Df (GJ i)≠[]:=by rw[(Kf a).1];simp
 cases hb:b i with
 | none=>
  rw[h.none' a hb,h.may j a hb];simp[c]
 | some s=>
  obtain⟨f,e,_⟩:=h.at a hb;rw[e];simp[c]
theorem Gc.del(h:Gc b G I CI){i:Nat}(B:i<8){f:Nat}(A:([fn i],(⟨none,(f:Int)⟩:VS))∈G){t:LF}(z:UN I t f):Gc (JR b i none) (J1 G (Df (GJ i))) t CI:=by
 rw[(Kf B).1];have n:∀x,x∈J1 G [fn i]↔x∈G/\x.1≠[fn i]:=QC G [fn i];have m:∀x∈J1 G [fn i],x∈G:=fun x a=>((n x).1 a).1
 have F:∀x∈J1 G [fn i],x.2.f≠(f:Int):=fun x a e=>by
  obtain⟨d,k⟩:=(n x).1 a;have:=h.fl.inj _ d _ A e;exact k (by rw[this])
 refine⟨⟨fun x a=>h.fl.fil x (m x a),?_,fun x a y q=>h.fl.inj x (m x a) y (m y q),?_,fun x a=>?_,fun x a=>h.fl.sz x (m x a),fun x a=>?_⟩,fun x a=>h.nm x (m x a),fun j p s c=>?_,fun j p c u J=>?_⟩
 ·have:=h.fl.nd;unfold J1;exact List.Nodup.sublist (List.Sublist.map _ List.filter_sublist) this
 ·have d:=h.fl.le;have k:(J1 G [fn i]).length<=G.length:=List.length_filter_le _ _;omega
 ·obtain⟨r,H⟩:=h.fl.num x (m x a);exact⟨r,(z.2 _).2 ⟨H,F x a⟩⟩
 ·obtain⟨d,k⟩:=(z.2 x).1 a;obtain⟨C,D,y,q,e⟩:=h.fl.back x d;refine⟨C,D,y,(n y).2 ⟨q,fun o=>k ?_⟩,e⟩;have:y=([fn i],(⟨none,(f:Int)⟩:VS)):=by
   have E:=K2 h.fl.nd A;have v:(y.1,y.2)∈G:=q;rw[o]at v;have w:=K2 h.fl.nd v;rw[E]at w;exact FP o (BV w).symm
  rw[<-e,this]
 ·unfold JR at c;by_cases l:j=i
  ·rw[if_pos l]at c;cases c
  ·rw[if_neg l]at c;obtain⟨g,d,k⟩:=h.yes j p s c;refine⟨g,(n _).2 ⟨d,fun e=>l (UT p B ?_)⟩,k⟩;have o:[fn j]=[fn i]:=e;injection o
 ·obtain⟨d,k⟩:=(n _).1 J;unfold JR at c;by_cases l:j=i
  ·exact k (by rw[l])
  ·rw[if_neg l]at c;exact h.no j p c u d
theorem Gc.over(h:Gc b G I CI){i:Nat}(C:i<8){f:Nat}(v:([fn i],(⟨none,(f:Int)⟩:VS))∈G){s:By}(H:s.size<=1280){y:LF}{r:VF}(D:((f:Int),r)∈I){a:OA}{c:Nat}(w:Gq I y f ⟨a,s.size,c,r.f⟩):
  Gc (JR b i (some s)) G y (fun k=>if k=(f:Int) then s else CI k):=by
 have F:r.f=1:=(h.fl.back _ D).1;refine⟨⟨h.fl.fil,h.fl.nd,h.fl.inj,h.fl.le,fun x m=>?_,fun x m=>?_,fun x m=>?_⟩,h.nm,fun j o t d=>?_,fun j o d u J=>?_⟩
 ·obtain⟨K,E⟩:=h.fl.num x m;by_cases e:x.2.f=(f:Int)
  ·exact⟨_,(w.2 _).2 (.inl (by rw[e]))⟩
  ·exact⟨K,(w.2 _).2 (.inr ⟨E,e⟩)⟩
 ·show(if x.2.f=(f:Int) then s else CI x.2.f).size<=1280
  split
  ·exact H
  ·exact h.fl.sz x m
 ·rcases (w.2 x).1 m with rfl|⟨n,q⟩
  ·refine⟨F,?_,_,v,rfl⟩;show s.size=(if (f:Int)=(f:Int) then s else _).size;rw[if_pos rfl]
  ·obtain⟨z,A,B⟩:=h.fl.back x n;refine⟨z,?_,B⟩;show _=(if x.1=(f:Int) then s else CI x.1).size;rw[if_neg q];exact A
 ·unfold JR at d;by_cases l:j=i
  ·rw[if_pos l]at d
   cases d
   exact⟨f,by rw[l];exact v,by rw[if_pos rfl]⟩
  ·rw[if_neg l]at d;obtain⟨g,n,q⟩:=h.yes j o t d;refine⟨g,n,?_⟩;rw[if_neg (fun e=>l ?_)];exact q;have:=h.fl.inj _ n _ v e;rw[AT]at this;have p:=this.1;injection p with p;exact UT o C p
 ·unfold JR at d;by_cases l:j=i
  ·rw[if_pos l]at d;cases d
  ·rw[if_neg l]at d;exact h.no j o d u J
theorem Gc.made(h:Gc b G I CI)(T:Gn I){i:Nat}(p:i<8)(K:b i=none){f:Nat}(aa:f<=I.length)(R:∀x∈I,x.1≠(f:Int)){s:By}(S:s.size<=1280){F H:LF}(J:∀x,x∈F↔x=((f:Int),⟨none,0,0,1⟩)\/x∈I){a:OA}{c:Nat}(E:Gq F H f ⟨a,s.size,c,1⟩)
  {o:IB} (C:o f=s) (L:∀x∈I,o x.1=CI x.1):Gc (JR b i (some s)) (G++[([fn i],⟨none,(f:Int)⟩)]) H o:=by
 have h7:=h.lt7 p K;have ab:=h.fl.ilen T;have D:∀x∈G,x.2.f≠(f:Int):=fun x d e=>by
  obtain⟨r,q⟩:=h.fl.num x d;exact R _ q e
 have M:∀x∈G,o x.2.f=CI x.2.f:=fun x d=>by
  obtain⟨r,q⟩:=h.fl.num x d;exact L _ q
 have O:([fn i],(⟨none,(f:Int)⟩:VS))∈G++[([fn i],⟨none,(f:Int)⟩)]:=Bo _ (Ab.2 rfl);refine⟨⟨fun x d=>?_,?_,fun x d y k e=>?_,by rw[Ad,Ba];omega,fun x d=>?_,fun x d=>?_,fun x d=>?_⟩,fun x d=>?_,fun j w t l=>?_,fun j w l u v=>?_⟩
 ·rcases Ap.1 d with d|d
  ·exact h.fl.fil x d
  ·rw[Ab.1 d];exact⟨fn i,f,rfl,fn_ok p,by omega⟩
 ·rw[Bp,Ci];refine⟨h.fl.nd,by simp,fun x d y k e=>?_⟩;obtain⟨z,U,rfl⟩:=Au.1 d;simp only[Br,CP,Ab]at k;rw[k]at e;have N:(z.1,z.2)∈G:=U;rw[e]at N;exact h.no i p K _ N
 ·rcases Ap.1 d with d|d
  ·rcases Ap.1 k with k|k
   ·exact h.fl.inj x d y k e
   ·rw[Ab.1 k]at e;exact absurd e (D x d)
  ·rcases Ap.1 k with k|k
   ·rw[Ab.1 d]at e;exact absurd e.symm (D y k)
   ·rw[Ab.1 d,Ab.1 k]
 ·rcases Ap.1 d with d|d
  ·obtain⟨r,q⟩:=h.fl.num x d;exact⟨r,(E.2 _).2 (.inr ⟨(J _).2 (.inr q),D x d⟩)⟩
  ·rw[Ab.1 d];exact⟨_,(E.2 _).2 (.inl rfl)⟩
 ·rcases Ap.1 d with d|d
  ·rw[M x d];exact h.fl.sz x d
  ·rw[Ab.1 d];show(o (f:Int)).size<=_;rw[C];exact S
 ·rcases (E.2 x).1 d with rfl|⟨m,B⟩
  ·refine⟨rfl,?_,_,O,rfl⟩;show s.size=(o (f:Int)).size;rw[C]
  ·rcases (J x).1 m with rfl|m
   ·exact absurd rfl B
   ·obtain⟨P,Q,y,k,e⟩:=h.fl.back x m;exact⟨P,by rw[L x m];exact Q,y,A0 _ k,e⟩
 ·rcases Ap.1 d with d|d
  ·exact h.nm x d
  ·rw[Ab.1 d];exact⟨i,p,rfl⟩
 ·unfold JR at l;by_cases n:j=i
  ·rw[if_pos n]at l
   cases l
   exact⟨f,by rw[n];exact O,C⟩
  ·rw[if_neg n]at l;obtain⟨g,m,B⟩:=h.yes j w t l;refine⟨g,A0 _ m,?_⟩;have:=M _ m;rw[<-B];exact this
 ·unfold JR at l;by_cases n:j=i
  ·rw[if_pos n]at l;cases l
  ·rw[if_neg n]at l;rcases Ap.1 v with v|v
   ·exact h.no j w l u v
   ·have:=Ab.1 v;rw[AT]at this;have A:=this.1;injection A with A;exact n (UT w p A)
end
theorem LK(w:World)(a tb f b:Nat)(h:Hs w a tb f b)(Q:World->Prop)(g:∀w',Q w'->Hs w' a tb f b)(i:Cl 74 #[.pointer (some ⟨b,0,none⟩),.pointer (some ⟨tb,0,none⟩)] w.drew fun e w'=>e = .returned (.tuple #[])/\Q w'):
  Cl 26 #[.pointer (some ⟨a,0,none⟩)] w fun e w'=>e = .returned (.int .i64 0)/\Q w':=by
 have l:=Kv w a tb h.vol;have c1:w.cell? ⟨a,1,none⟩=some (.pointer (some ⟨tb,0,none⟩)):=(F0.cell h 1).trans rfl;have c3:w.cell? ⟨a,3,none⟩=some (.pointer (some ⟨b,0,none⟩)):=(F0.cell h 3).trans rfl;have j:=Db i;have d:=Db g;clear h i g;go_enter Tryz.func26,Tryz.ntmps26;go_upto_region 3 with(go_at_call 53;refine l.mono ?_;rintro e w' ⟨rfl,rfl⟩)
 go_region_held3 (fun W=>W.cell? ⟨a,1,none⟩=some (.pointer (some ⟨tb,0,none⟩))/\W.cell? ⟨a,3,none⟩=some (.pointer (some ⟨b,0,none⟩))) (go_keep) (first|(go_at_call 74;refine(Da j).mono ?_;rintro e w2 ⟨rfl,c⟩;have d1:w2.cell? ⟨a,1,none⟩=some (.pointer (some ⟨tb,0,none⟩)):=(F0.cell (Da d w2 c) 1).trans rfl;have d3:w2.cell? ⟨a,3,none⟩=some (.pointer (some ⟨b,0,none⟩)):=(F0.cell (Da d w2 c) 3).trans rfl;have k:=Db c;clear c))
 go_wp2;go_ret;exact⟨rfl,Da k⟩
theorem MV(w:World)(a:OA)(l c:Nat)(Q:World->Nat->Prop)
  (h:Cl 75 #[.slice a l c] w fun e X=>∃b:Nat,e = .returned (.tuple #[.pointer (some ⟨b,0,none⟩),.bool true])/\Hid (Cl 76 #[.pointer (some ⟨b,0,none⟩)] X fun e Y=>∃d tb:Nat,e = .returned (.tuple #[.pointer (some ⟨d,0,none⟩),.pointer (some ⟨tb,0,none⟩),.bool true])/\Hid (∀Z,Hs Z Y.heap.size tb b d->Bw Y Z->Q Z Y.heap.size))):
  Cl 27 #[.slice a l c] w fun e w'=>∃vb,e = .returned (.tuple #[.pointer (some ⟨vb,0,none⟩),.int .i64 0])/\Q w' vb:=by
 have k:=Db h;clear h;go_enter Tryz.func27,Tryz.ntmps27;go_wp2_with (first|(go_at_call 75;refine(Da k).mono ?_;rintro e X ⟨b,rfl,i⟩)|(go_at_call 76;refine(Da i).mono ?_;rintro e Y ⟨d,tb,rfl,j⟩)|(go_at_call 77;refine(Xh Y tb b d).mono ?_;rintro e Z ⟨rfl,f,g,-⟩;have m:=Db (Da j Z f g);clear f g));exact Ax (v := .tuple #[.pointer (some ⟨Y.heap.size,0,none⟩),.int .i64 0]) (by simp[results,Tryz.results27,go_sem]) rfl ⟨_,rfl,Da m⟩
def GA(w w':World):Prop:=∀k t R,F0 w k t R->(t=62\/t=5\/t=75)->F0 w' k t R
theorem GA.trans{a b c:World}(h:GA a b)(k:GA b c):GA a c:=fun i t R e d=>k i t R (h i t R e d) d
theorem GA.below{w w':World}(h:Bw w w'):GA w w':=fun k _ _ a _=>(h.block k a.lt).trans a
theorem GA.fr{X:Nat->Prop}{w w':World}(d:Fr X w w')(c:∀k t R,X k->F0 w k t R->t≠62/\t≠5/\t≠75):GA w w':=fun k t R a f=>a.fr d (fun e=>by
 have:=c k t R e a;rcases f with rfl|rfl|rfl
 ·exact this.1 rfl
 ·exact this.2.1 rfl
 ·exact this.2.2 rfl)
def Hi(w w':World):Prop:=∀k t R,F0 w k t R->¬(t=214\/t=229\/t=310\/t=293)->F0 w' k t R
theorem Hi.trans{a b c:World}(h:Hi a b)(k:Hi b c):Hi a c:=fun i t R e d=>k i t R (h i t R e d) d
theorem Hi.below{w w':World}(h:Bw w w'):Hi w w':=fun k _ _ a _=>(h.block k a.lt).trans a
theorem Hi.k6{w w':World}(h:Hi w w'):GA w w':=fun k t R a c=>h k t R a (by rcases c with rfl|rfl|rfl<;>decide)
theorem Hi.prog{tb:Nat}{w w':World}(d:Fr (DP tb w) w w'):Hi w w':=fun k t R a e=>a.fr d (fun ⟨⟨t',R',c,f⟩,_⟩=>e (by
 have:=c.type a;subst this;exact f))
def R5(sb:Nat)(w w':World):Prop:=∀k t R,F0 w k t R->¬(t=214\/t=229\/t=310\/t=293)->k≠sb->F0 w' k t R
theorem Hi.set{w w':World}(h:Hi w w')(a i:Nat)(v:Value):R5 a w (w'.setCell ⟨a,i,none⟩ v):=fun k t R d e c=>(AB _ _ _ _ c).trans (h k t R d e)
section
variable{w w':World}{stb db:Nat}{vk:Value}{s:KS}{vf vn vw ve:Value}{ps:LB}{ep:List Int}
theorem GZ.fr{X:Nat->Prop}(h:GZ w stb db vk s vf vn vw ve ps ep)(d:Fr X w w')(c:∀k t R,X k->F0 w k t R->t≠179/\t≠204/\t≠188/\t≠207/\t≠3/\t≠350):GZ w' stb db vk s vf vn vw ve ps ep:=by
 have a:∀{e:TypeId} {sz:Nat} {v:Value} {n:Nat} {xs:F6},Sl w e sz v n xs->(e=188\/e=207\/e=3\/e=350)->Sl w' e sz v n xs:=fun f j=>f.fr d (fun g l e=>by
  obtain⟨R,i⟩:=f.type l;have:=c _ _ _ e i;rcases j with rfl|rfl|rfl|rfl
  ·exact this.2.2.1 rfl
  ·exact this.2.2.2.1 rfl
  ·exact this.2.2.2.2.1 rfl
  ·exact this.2.2.2.2.2 rfl)
 refine⟨⟨h.st.row.fr d (fun e=>(c _ _ _ e h.st.row).1 rfl),⟨h.st.disk.1.fr d (fun e=>(c _ _ _ e h.st.disk.1).2.1 rfl),⟨a h.st.disk.2.1.1 (.inl rfl),h.st.disk.2.1.2⟩,h.st.disk.2.2⟩,a h.st.sw (.inr (.inl rfl)),a h.st.se (.inr (.inr (.inl rfl))),h.st.ne,h.st.ns,h.st.nd,h.st.d1,h.st.d2,h.st.d3⟩,a h.sk (.inr (.inr (.inr rfl))),h.ok⟩
theorem GZ.types(h:GZ w stb db vk s vf vn vw ve ps ep){k:Nat}(f:Ha stb db vn vw ve k){t:TypeId}{R:F6}(c:F0 w k t R):t=179\/t=204\/t=188\/t=207\/t=3:=by
 rcases f with rfl|rfl|e|e|e
 ·exact .inl (c.type h.st.row)
 ·exact .inr (.inl (c.type h.st.disk.1))
 ·obtain⟨d,a⟩:=h.st.disk.2.1.1.type e;exact .inr (.inr (.inl (c.type a)))
 ·obtain⟨d,a⟩:=Sl.type h.st.sw e;exact .inr (.inr (.inr (.inl (c.type a))))
 ·obtain⟨d,a⟩:=h.st.se.type e;exact .inr (.inr (.inr (.inr (c.type a))))
end
def LX(N n0:Nat)(w:World)(vb stb db:Nat)(K:KS->Prop):Prop:=
 ∃s vk vf vn vw ve ps ep,GZ w stb db vk s vf vn vw ve ps ep/\K s/\Gf s/\GW s/\s.tn<=N+1/\ps.length<=256*N/\ep.length<=2*N/\(∀k,Ha stb db vn vw ve k->n0<=k/\k≠vb)/\∀k,F2 vk k->n0<=k
theorem LX.fr{N n0:Nat}{w w':World}{vb stb db:Nat}{K:KS->Prop}(h:LX N n0 w vb stb db K){X:Nat->Prop}(e:Fr X w w')(d:∀k t R,X k->F0 w k t R->t≠179/\t≠204/\t≠188/\t≠207/\t≠3/\t≠350):LX N n0 w' vb stb db K:=by
 obtain⟨s,vk,vf,vn,vw,ve,ps,ep,a,c⟩:=h;exact⟨s,vk,vf,vn,vw,ve,ps,ep,a.fr e d,c⟩
theorem LX.mono{N n0:Nat}{w:World}{vb stb db:Nat}{K a:KS->Prop}(h:LX N n0 w vb stb db K)(f:∀s,K s->a s):LX N n0 w vb stb db a:=by
 obtain⟨s,vk,vf,vn,vw,ve,ps,ep,c,d,e⟩:=h;exact⟨s,vk,vf,vn,vw,ve,ps,ep,c,f s d,e⟩
def Vc(s:KS):Prop:=∃C L,F7 C L/\Ge s C L
def GB(b:Nat->Option By)(s:KS):Prop:=
 ∃(C:NB) (es:LS),Gm es/\(∀x∈es,∃f:Nat,x.2=⟨none,(f:Int)⟩)/\F7 C (es.map Io)/\Ge s C (es.map Io)/\(∀x∈es,∃i,i<8/\x.1=fn i)/\(∀i,i<8->∀t,b i=some t->∃f:Nat,(fn i,(⟨none,(f:Int)⟩:VS))∈es/\C f=t)/\∀i,i<8->b i=none->∀u,(fn i,u)∉es
theorem GB.any{b:Nat->Option By}{s:KS}(h:GB b s):Vc s:=by
 obtain⟨C,es,_,_,a,c,_⟩:=h;exact⟨C,_,a,c⟩
structure GK(N n0:Nat)(w0 w:World)(vb tb db stb:Nat)(b:Nat->Option By)(K:KS->Prop):Prop where
 vol:Hs w vb tb db stb
 tr:∃G I CI,PS w tb G I CI/\Gc b G I CI
 st:LX N n0 w vb stb db K
 bel:Below n0 w0 w
 lo:n0<tb/\n0<=vb/\n0<=w0.heap.size/\0<n0
theorem PS.si{w:World}{tb:Nat}{G:Gh}{I:LF}{C:IB}(h:PS w tb G I C):Gn I:=by
 obtain⟨rd,V,E,vi,h⟩:=h;exact h.si
theorem UC{n0:Nat}{w0 w w':World}(h:Below n0 w0 w){X:Nat->Prop}(a:Fr X w w')(c:∀k,X k->n0<=k)(hn:n0<=w0.heap.size):Below n0 w0 w':=
 ⟨a.os.trans h.os,a.tape.trans h.tape,a.output.trans h.output,Ag h.size a.size,fun k d=>(a.block k (by have:=h.size;omega) (fun e=>by have:=c k e;omega)).trans (h.block k d)⟩
section
variable{N n0:Nat}{w0 w w':World}{vb tb db stb:Nat}{b b':Nat->Option By}{K:KS->Prop}
theorem GK.prog(h:GK N n0 w0 w vb tb db stb b K)(c:Fr (DP tb w) w w'){G:Gh}{I:LF}{a:IB}(i:PS w' tb G I a)(j:Gc b' G I a):GK N n0 w0 w' vb tb db stb b' K:=by
 have f:∀k t R,DP tb w k->F0 w k t R->t=214\/t=229\/t=310\/t=293:=fun k t R ⟨⟨t',R',g,l⟩,_⟩ d=>by
  have:=g.type d;subst this;exact l
 obtain⟨l1,l2,m,l4⟩:=h.lo;refine⟨F0.fr h.vol c (fun e=>?_),⟨G,I,a,i,j⟩,h.st.fr c (fun k t R e d=>?_),UC h.bel c (fun k e=>?_) m,h.lo⟩
 ·have:=f _ _ _ e h.vol
  revert this;decide
 ·rcases f k t R e d with rfl|rfl|rfl|rfl<;>decide
 ·have:=e.2;omega
theorem GK.fr62(h:GK N n0 w0 w vb tb db stb b K){X:Nat->Prop}(a:Fr X w w')(c:∀k t R,X k->F0 w k t R->t=62)(f:∀k,X k->n0<=k):GK N n0 w0 w' vb tb db stb b K:=by
 obtain⟨l1,l2,l,l4⟩:=h.lo;obtain⟨G,I,g,⟨m,V,E,n,i⟩,j⟩:=h.tr;refine⟨F0.fr h.vol a (fun e=>?_),⟨G,I,g,⟨m,V,E,n,i.fr a (fun e=>?_) (fun k t R e d=>?_)⟩,j⟩,h.st.fr a (fun k t R e d=>?_),UC h.bel a f l,h.lo⟩
 ·have:=c _ _ _ e h.vol
  revert this;decide
 ·have:=f 0 e;omega
 ·rw[c k t R e d];decide
 ·rw[c k t R e d];decide
theorem GK.below(h:GK N n0 w0 w vb tb db stb b K)(a:Bw w w'):GK N n0 w0 w' vb tb db stb b K:=
 h.fr62 (X:=fun _=>False) (Fr.of_below a) (fun _ _ _ e=>e.elim) (fun _ e=>e.elim)
theorem Zb(h:GK N n0 w0 w vb tb db stb b K){i:Nat}(c:i<8){s:By}(l:b i=some s):
  Cl 63 #[.pointer (some ⟨vb,0,none⟩),.string (GJ i)] w fun e w'=>e = .returned (.int .i64 0)/\GK N n0 w0 w' vb tb db stb (JR b i none) K/\Hi w w':=by
 obtain⟨G,I,j,n,a⟩:=h.tr;have aa:=a.fl.le;have ab:=a.fl.ilen n.si;refine(S1 w vb tb h.vol.vol (GJ i) (Q3 w tb G I j (GJ i)) (fun e w' z=>⟨_,z.1⟩) (WC w tb G I j n a.fl.gok (by omega) (by omega) a.fl.flok (GJ i) (by have:=(Kf c).2.2;omega))).mono ?_;rintro e w' ⟨rfl,m,d⟩;have o:=a.rm c l;refine⟨by rw[o],?_,Hi.prog m⟩;rcases d with⟨g,_⟩|⟨_,u,k,d⟩
 ·exact absurd o g
 ·obtain⟨f,p,q,_⟩:=a.at c l;rw[p]at k
  cases k
  rcases d with⟨B,_⟩|⟨_,r,I',x,t,y⟩
  ·cases B
  ·have A:r.f=1:=(a.fl.back _ x).1;rcases t with⟨_,v⟩|⟨g,_⟩
   ·exact h.prog m (y _ (QC G _)) (a.del c q v)
   ·exact absurd A g
theorem OP(h:GK N n0 w0 w vb tb db stb b K){i:Nat}(o:i<8){s:By}(q:b i=some s)(n:Nat)(P:n<=1280):
  Cl 60 #[.pointer (some ⟨vb,0,none⟩),.string (GJ i),.int .i64 n] w fun e w'=>e = .returned (.int .i64 0)/\GK N n0 w0 w' vb tb db stb (JR b i (some (Dg s n))) K/\Hi w w':=by
 obtain⟨G,I,g,B,d⟩:=h.tr;have aa:=d.fl.le;have ab:=d.fl.ilen B.si;have T:MG G (GJ i) n=0:=by
  unfold MG;rw[show decide ((0:Int)<=(n:Int)/\(n:Int)<=1280)=true from Cs ⟨by omega,by omega⟩];exact d.file o q
 have A:∀e w',Q5 w tb G I g (GJ i) n e w'->e = .returned (.int .i64 0)/\GK N n0 w0 w' vb tb db stb (JR b i (some (Dg s n))) K/\Hi w w':=by
  rintro e w' (⟨Q,_⟩|⟨_,u,r,a,c,p,_,L,t,l,v,H⟩)
  ·exact absurd T Q
  ·obtain⟨f,C,D,F⟩:=d.at o q;rw[C]at p
   cases p
   have y:(Dg s n).size=n:=Jc s n;have M:Gq I l f ⟨a,(Dg s n).size,c,r.f⟩:=by rw[y];exact v
   have J:g (f:Int)=s:=F;have z:=d.over o D (s:=Dg s n) (by rw[y];exact P) L M;rcases H with⟨_,hu,_⟩|⟨rfl,_,R⟩
   ·have ac:DN (l.map (·.2.l))<=160:=by
     have E:=Oe (l.map (·.2.l)) (fun m O=>by
      obtain⟨x,j,rfl⟩:=Au.1 O;exact(z.fl.csz j).2.1)
     rw[AK,v.1]at E;omega
    omega
   ·refine⟨rfl,h.prog t R ?_,Hi.prog t⟩;show Gc _ G l (fun k=>if k=(f:Int) then Dg (g (f:Int)) (n:Int).toNat else g k);rw[J,Bz];exact z
 exact(OO w vb tb h.vol.vol (GJ i) n (Q5 w tb G I g (GJ i) n) (fun e w' S=>⟨0,(A e w' S).1⟩) (Zmy w tb G I g B d.fl.gok (by omega) (by omega) d.fl.flok (fun x j=>by have:=(d.fl.csz j).2.1;omega) (fun x j=>(d.fl.csz j).1) (GJ i) (by have:=(Kf o).2.2;omega) n)).mono A
def MF(o:Option By)(p:Nat)(d:By):By:=Hy (o.getD ⟨#[]⟩) p d
theorem T0(s:By)(p:Nat)(d:By)(a:s.size<=1280)(hp:p+d.size<=1280):(Hy s p d).size<=1280:=by
 unfold Hy
 split
 ·exact a
 ·rw[Bz,Ur];omega
theorem L9(h:GK N n0 w0 w vb tb db stb b K){i:Nat}(l:i<8)(p:Nat)(d:By)(P:p+d.size<=1280)(B:OA)(C:Nat)(U:Sl w 5 1 (.slice B d.size C) d.size (Dc d)):
  Cl 59 #[.pointer (some ⟨vb,0,none⟩),.string (GJ i),.int .i64 p,.slice B d.size C] w fun e w'=>e = .returned (.int .i64 0)/\GK N n0 w0 w' vb tb db stb (JR b i (some (MF (b i) p d))) K/\Hi w w':=by
 obtain⟨G,I,o,z,g⟩:=h.tr;have af:=g.fl.le;have ag:=g.fl.ilen z.si;have X:Qc (p:Int) d=true:=Cs ⟨by omega,by omega⟩;have hz:=g.wr z.si l X;have Q:∀e w',KO w tb G I o (GJ i) p d e w'->e = .returned (.int .i64 0)/\GK N n0 w0 w' vb tb db stb (JR b i (some (MF (b i) p d))) K/\Hi w w':=by
  rintro e w' (⟨ab,_⟩|⟨_,⟨u,r,a,c,n,_,Y,_,v,y,t,E⟩|⟨n,v,f,I1,L,a,c,_,V,W,aa,q,t,E⟩⟩)
  ·exact absurd hz ab
  ·cases hb:b i with
   | none=>rw[g.none' l hb]at n;cases n
   | some s=>
    obtain⟨f,q,M,R⟩:=g.at l hb;rw[q]at n
    cases n
    have F:o (f:Int)=s:=R;have Z:Gq I y f ⟨a,(Hy s p d).size,c,r.f⟩:=by
     have:=t;dsimp only at this;rw[F]at this;exact this
    have A:s.size<=1280:=by have:=g.fl.sz _ M;rw[<-F];exact this
    have O:=g.over l M (s:=Hy s p d) (T0 s p d A P) Y Z;rcases E with⟨_,hu,_⟩|⟨rfl,_,J⟩
    ·have ac:DN (y.map (·.2.l))<=160:=by
      have D:=Oe (y.map (·.2.l)) (fun m H=>by
       obtain⟨x,j,rfl⟩:=Au.1 H;exact(O.fl.csz j).2.1)
      rw[AK,t.1]at D;omega
     omega
    ·refine⟨rfl,h.prog v J ?_,Hi.prog v⟩;show Gc (JR b i (some (Hy s p d))) G y (fun k=>if k=(f:Int) then Hy (o (f:Int)) p d else o k);rw[F];exact O
  ·cases hb:b i with
   | some s=>
    obtain⟨f,q,_⟩:=g.at l hb;rw[q]at n;cases n
   | none=>
    have A:=T0 ⟨#[]⟩ p d (by show 0<=1280;omega) P;rcases E with⟨_,hu,_⟩|⟨rfl,_,C2,J,S,T⟩
    ·have h7:=g.lt7 l hb;have ac:DN (L.map (·.2.l))<=160:=by
      have D:=Oe (L.map (·.2.l)) (fun m H=>by
       obtain⟨x,j,rfl⟩:=Au.1 H;rcases (t.2 x).1 j with rfl|⟨j,ae⟩
       ·exact A
       ·rcases (q x).1 j with rfl|j
        ·exact absurd rfl ae
        ·exact(g.fl.csz j).2.1)
      rw[AK,t.1,aa]at D;omega
     omega
    ·refine⟨rfl,h.prog v (G:=G++[([fn i],⟨none,(f:Int)⟩)]) (by rw[<-(Kf l).1];exact J) ?_,Hi.prog v⟩;exact g.made z.si l hb V W A q t S T
 exact(Sv w vb tb h.vol.vol (GJ i) p _ (KO w tb G I o (GJ i) p d) (fun e w' hq=>⟨0,(Q e w' hq).1⟩) (ZiI w tb G I o z g.fl.gok (by omega) (by omega) (fun x j=>(g.fl.csz j).2.2) g.fl.flok (fun x j=>by have:=(g.fl.csz j).2.1;omega) (fun x j=>(g.fl.csz j).1) (GJ i) (by have:=(Kf l).2.2;omega) p d (by omega) B C U)).mono Q
end
theorem Gc.kept{b:Nat->Option By}{G:Gh}{I:LF}{g:IB}(h:Gc b G I g){w:World}{tb a:Nat}{V:NV}{E:NS}{y:Value}(c:TW w tb a V E y G I g){s:KS}(r:Ge s (fun n=>g (n:Int)) ((E a).map Io)):GB b s:=by
 have p:F4 G a [] a := .inl ⟨rfl,rfl⟩;have o:=c.d.en [] a p;refine⟨fun n=>g (n:Int),E a,c.d.srt [] a p,fun x m=>?_,(h.fl.keep c).1,r,fun x m=>?_,fun i d t l=>?_,fun i d l u v=>?_⟩
 ·obtain⟨_,_,_,f,e,_⟩:=h.fl.root c m;exact⟨f,e⟩
 ·obtain⟨k,_⟩:=h.fl.root c m;obtain⟨i,d,e⟩:=h.nm _ k;have j:[x.1]=[fn i]:=e;injection j with j;exact⟨i,d,j⟩
 ·obtain⟨f,k,q⟩:=h.yes i d t l;exact⟨f,(o (fn i) _).2 k,q⟩
 ·exact h.no i d l u ((o (fn i) u).1 v)
section
variable{N n0:Nat}{w0 w w':World}{vb tb db stb:Nat}{b b':Nat->Option By}{K:KS->Prop}
theorem GK.drew(h:GK N n0 w0 w vb tb db stb b K):GK N n0 w0 w.drew vb tb db stb b K:=h.below (Al _ _).drew
theorem GK.to{a:KS->Prop}(h:GK N n0 w0 w vb tb db stb b K)(c:∀s,K s->a s):GK N n0 w0 w vb tb db stb b a:=⟨h.vol,h.tr,h.st.mono c,h.bel,h.lo⟩
theorem GK.after{u:Nat}(W:512<=u)(d:GK N n0 w0 w vb tb db stb b K){s:KS}{y v i vw m:Value}{ps:LB}{o:List Int}(X:GZ w stb db y s v i vw m ps o)(Q:Vc s)(A:Gf s)(S:GW s)(h1:s.tn<=N+1)(h2:ps.length<=256*N)(h3:o.length<=2*N)(a:∀k,Ha stb db i vw m k->n0<=k/\k≠vb)(P:∀k,F2 y k->n0<=k)
  {h:Nat} {V:NV} {E:NS} {x:Value} {G:Gh} {I:LF} {c:IB} (B:TW w tb h V E x G I c) (r:Gc b G I c) {e:Ending} (f:QZ u w stb db y s v i vw m ps o (fun n=>c (n:Int)) ((E h).map Io) e w'):
  e = .returned (.tuple #[])/\GK (N+1) n0 w0 w' vb tb db stb b (fun l=>GB b l/\Hd u (fun n=>c (n:Int)) ((E h).map Io) s l)/\GA w w':=by
 obtain⟨rfl,l,vk',ac,ab,aa,H,J,p,g3,g4,L,M,O,j,_⟩:=f;obtain⟨C0,L0,T,U⟩:=Q;obtain⟨z,_⟩:=r.fl.keep B;obtain⟨l1,l2,F,l4⟩:=d.lo;obtain⟨Y,Z,i3,i4⟩:=p.ok W A z U T;have D:∀k t R,Ha stb db i vw m k->F0 w k t R->t=179\/t=204\/t=188\/t=207\/t=3:=fun k t R e g=>X.types e g
 have C:TW w' tb h V E x G I c:=B.fr j (fun e=>by have:=(a 0 e).1;omega) (fun k t R e g=>by
  rcases D k t R e g with rfl|rfl|rfl|rfl|rfl<;>decide)
 have ae:vb<w.heap.size:=F0.lt d.vol;have ad:n0<=w.heap.size:=Ag F d.bel.size;refine⟨rfl,⟨F0.fr d.vol j (fun e=>(a _ e).2 rfl),⟨G,I,c,⟨h,V,E,x,C⟩,r⟩,⟨l,vk',v,i,ac,ab,aa,H,J,⟨r.kept C Z,p⟩,Y,p.ck A z S,by omega,by omega,by omega,fun k f=>?_,fun k f=>?_⟩,UC d.bel j (fun k e=>(a k e).1) F,d.lo⟩,GA.fr j (fun k t R e g=>?_)⟩
 ·rcases f with e|e|e|e|e
  ·exact a k (.inl e)
  ·exact a k (.inr (.inl e))
  ·exact a k (.inr (.inr (.inl e)))
  ·rcases L k e with q|q
   ·exact a k (.inr (.inr (.inr (.inl q))))
   ·exact⟨by omega,by omega⟩
  ·rcases M k e with q|q
   ·exact a k (.inr (.inr (.inr (.inr q))))
   ·exact⟨by omega,by omega⟩
 ·rcases O k f with q|q
  ·exact P k q
  ·omega
 ·rcases D k t R e g with rfl|rfl|rfl|rfl|rfl<;>decide
theorem M2(h:GK N n0 w0 w vb tb db stb b K)(n:∀s,K s->Vc s)(hN:N<=2000000):
  Cl 74 #[.pointer (some ⟨stb,0,none⟩),.pointer (some ⟨tb,0,none⟩)] w fun e w'=>e = .returned (.tuple #[])/\GK (N+1) n0 w0 w' vb tb db stb b (GB b)/\GA w w':=by
 obtain⟨G,I,CI,⟨rd,V,E,vi,c⟩,d⟩:=h.tr;obtain⟨s,vk,vf,vn,vw,ve,ps,ep,f,o,a,m,g,i,j,k,l⟩:=h.st;refine(RV f a.ok a.part (d.fl.keep c).2 (by omega) (by omega) (by omega)).mono fun e w' q=>?_
 rw[d.fl.its c]at q;obtain⟨p,r,t⟩:=h.after (Aa _) f (n s o) a m g i j k l c d q;exact⟨p,r.to (fun _ h=>h.1),t⟩
theorem ML(h:GK N n0 w0 w vb tb db stb b K)(a:∀s,K s->Vc s)(c:N<=2000000):
  Cl 26 #[.pointer (some ⟨vb,0,none⟩)] w fun e w'=>e = .returned (.int .i64 0)/\GK (N+1) n0 w0 w' vb tb db stb b (GB b)/\GA w w':=
 LK w vb tb db stb h.vol (fun w'=>GK (N+1) n0 w0 w' vb tb db stb b (GB b)/\GA w w') (fun _ q=>q.1.vol) ((M2 h.drew a c).mono fun _ _ q=>⟨q.1,q.2.1,(GA.below (Al _ _).drew).trans q.2.2⟩)
end
def Le(w:World)(vb:Nat)(b:Nat->Option By):Prop:=∃tb G I CI,Gw w vb tb/\PS w tb G I CI/\Gc b G I CI
theorem Le.below{w w':World}{e:Nat}{b:Nat->Option By}(h:Le w e b)(a:Bw w w'):Le w' e b:=by
 obtain⟨tb,G,I,f,⟨d,s,c⟩,⟨j,V,E,k,g⟩,i⟩:=h;exact⟨tb,G,I,f,⟨d,s,(a.block _ (F0.lt c)).trans c⟩,⟨j,V,E,k,g.below a (Aa _)⟩,i⟩
theorem GK.vl{N g:Nat}{j w:World}{a tb d i:Nat}{b:Nat->Option By}{K:KS->Prop}(h:GK N g j w a tb d i b K):Le w a b:=by
 obtain⟨G,I,c,e,f⟩:=h.tr;exact⟨tb,G,I,c,h.vol.vol,e,f⟩
theorem GB.set{b:Nat->Option By}{C:NB}{es:LS}(o:∀x∈es,∃f:Nat,x.2=⟨none,(f:Int)⟩)(p:F7 C (es.map Io))(q:∀x∈es,∃i,i<8/\x.1=fn i)(r:∀i,i<8->∀t,b i=some t->∃f:Nat,(fn i,(⟨none,(f:Int)⟩:VS))∈es/\C f=t)(s:∀i,i<8->b i=none->∀u,(fn i,u)∉es)
  {G:Gh} {I:LF} {l:IB} (h:Gx C (es.map Io) G I l):Gc b G I l:=by
 have k:=h.g;rw[Ce]at k;have m:∀x∈G,∃y∈es,x=([y.1],y.2):=fun x d=>by
  rw[k]at d;obtain⟨y,a,rfl⟩:=Au.1 d;obtain⟨f,v⟩:=o y a;refine⟨y,a,?_⟩;show([y.1],(⟨none,((y.2.f.toNat:Nat):Int)⟩:VS))=([y.1],y.2);rw[v];simp
 refine⟨h.flt p,fun x d=>?_,fun i c t j=>?_,fun i c j u w=>?_⟩
 ·obtain⟨y,a,rfl⟩:=m x d;obtain⟨i,c,e⟩:=q y a;exact⟨i,c,by show [y.1]=_;rw[e]⟩
 ·obtain⟨f,n,z⟩:=r i c t j;refine⟨f,?_,?_⟩
  ·rw[k];exact Au.2 ⟨_,n,rfl⟩
  ·have:=h.c (Io (fn i,⟨none,(f:Int)⟩)) (Au.2 ⟨_,n,rfl⟩);rw[<-z];exact this
 ·obtain⟨y,a,e⟩:=m _ w;rw[AT]at e;have g:=e.1;injection g with g;refine s i c j y.2 ?_;rw[g];exact a
def LW(w:World)(vb:Nat)(b:Nat->Option By)(s:KS):Prop:=∃tb db stb G I CI C L va vf vn,Hs w vb tb db stb/\PS w tb G I CI/\Gc b G I CI/\Gx C L G I CI/\F7 C L/\Ge s C L/\GZ w stb db va s vf vn (.slice none 0 0) (.slice none 0 0) [] []
theorem LW.vl{w:World}{a:Nat}{b:Nat->Option By}{s:KS}(h:LW w a b s):Le w a b:=by
 obtain⟨tb,db,aa,G,I,c,C,L,va,vf,vn,d,e,f,_⟩:=h;exact⟨tb,G,I,c,d.vol,e,f⟩
def Xv(w w':World)(vb:Nat)(b:Nat->Option By)(s:KS):Prop:=∀n0 w0 N,Below n0 w0 w->n0<=w0.heap.size->0<n0->s.tn<=N+1->∃tb db stb,GK N n0 w0 w' vb tb db stb b (GB b)
theorem LN{s:KS}(n:Gf s)(z:GW s)(ai:s.tn+1<18446744073709551616){b:Nat->Option By}(A:GB b s)(w:World)(a:OA)(l c:Nat)(h:Sl w 5 1 (.slice a l c) (Jk s.D).size (Dc (Jk s.D)))(aa:∀x∈s.D,x.size=64)(ah:Gs w):
  Cl 27 #[.slice a l c] w fun e w'=>∃f,e = .returned (.tuple #[.pointer (some ⟨f,0,none⟩),.int .i64 0])/\LW w' f b s/\Bw w w'/\Xv w w' f b s:=by
 have ab:=A;obtain⟨C,es,k1,r,m,J,K,L,M⟩:=A;refine MV w a l c (fun w' f=>LW w' f b s/\Bw w w'/\Xv w w' f b s) ?_;refine(Tk w a l c s.D h n.ok.dl aa).mono ?_;rintro e X ⟨g,u,R,l1,W,rfl,hD,ag,ak,ae,i⟩;refine⟨g,rfl,?_⟩;refine(Zh3 n z ai k1 r m J X g u R l1 W hD ag (ah.fr (Fr.of_below i) (X:=fun _=>False) (fun e=>e))).mono ?_;rintro e Y ⟨t,tb,P,rfl,q,⟨G,I,v,ac,o⟩,p,y1,y2,y3⟩;refine⟨t,tb,rfl,fun Z D d=>?_⟩;have F:=i.size;have aj:=p.size;obtain⟨O,V,E,Q,B⟩:=ac;refine⟨⟨tb,g,t,G,I,v,C,_,P,u,_,D,⟨O,V,E,Q,B.below d (Aa _)⟩,GB.set r m K L M o,o,m,J,q.below d⟩,i.trans ((p.mono F).trans (d.mono (by omega))),fun n0 w0 N y S T U=>?_⟩;have al:=y.size;have ad:Bw w Z:=i.trans ((p.mono F).trans (d.mono (by omega)));have H:∀k,¬F2 (.slice none 0 0) k:=fun k e=>by simp[F2,Value.ownBlock]at e
 have af:=q.lo;refine⟨tb,g,t,D,⟨G,I,v,⟨O,V,E,Q,B.below d (Aa _)⟩,GB.set r m K L M o⟩,⟨s,P,u,_,_,_,[],[],q.below d,ab,n,z,U,Aw _,Aw _,fun k j=>⟨?_,fun e=>by have:=af k j;omega⟩,fun k j=>by have:=y3 k j;omega⟩,y.trans (ad.mono (by omega)),by omega,by omega,S,T⟩;rcases j with e|e|e|e|e
 ·omega
 ·omega
 ·have:=ae k e;omega
 ·exact absurd e (H k)
 ·exact absurd e (H k)
def M1(s:KS)(D:LY):KS:=⟨s.es,s.tp,s.tx,s.tn,D⟩
theorem Ge.disk{s:KS}{C:NB}{L:List It}(c:Gf s)(b:F7 C L)(h:Ge s C L){D:LY}(e:∀r q:Nat,((r:Int),(q:Int))∈s.es->D[q]?=s.D[q]?):Ge (M1 s D) C L:=by
 have i:=PI.all c false b.ok (by have:=b.puts s false;omega);have f:Hg (Dk s.es false s.tp s.D) (Dk s.es false s.tp D) (Do s false C L).2:=
  ⟨fun y k=>h.es.at i.rol false _ _ k,fun x d=>(by rw[h.ps]at d;cases d),fun r q j=>e r q ((c.ok.env false).at_some j).1,rfl⟩
 have g:=f.keep C (s.tp+1) ⟨s.tp+1,[],[]⟩ L ⟨fun _ h=>h,fun _ h=>h⟩;have a:Do (M1 s D) false C L=((Do s false C L).1,lk (s.tp+1) (Do s false C L).2):=g;exact⟨by rw[a];rfl,by rw[a];exact h.es,by rw[a];exact h.tp,by rw[a];exact h.tx⟩
theorem Gf.disk{s:KS}(h:Gf s){D:LY}(a:D.length=1536):Gf (M1 s D):=
 ⟨⟨h.ok.srt,h.ok.len,h.ok.tp,a,h.ok.pl⟩,h.cur,h.inj,h.tpc,h.fr,h.lo,h.tp⟩
theorem GW.disk{s:KS}(h:GW s){D:LY}(a:∀i,i<2->D[i]?=s.D[i]?):GW (M1 s D):=by
 obtain⟨p,x,b,c,ho⟩:=h.old;exact⟨h.tx,h.tn,(a _ (by have:=FY s.tn (y:=2) (by omega);exact this)).trans h.own,p,x,b,c,(a _ (by have:=FY (s.tn+1) (y:=2) (by omega);exact this)).trans ho⟩
def L7(T:Nat)(b:Nat->Option By)(D:LY):Prop:=∃s:KS,s.D=D/\Gf s/\GW s/\GB b s/\s.tn<=T
theorem GB.disk{b:Nat->Option By}{s:KS}{T:Nat}(h:GB b s)(a:Gf s)(e:GW s)(g:s.tn<=T){D:LY}(j:D.length=1536)(d:∀i,i<2->D[i]?=s.D[i]?)(f:∀r q:Nat,((r:Int),(q:Int))∈s.es->D[q]?=s.D[q]?):L7 T b D:=by
 obtain⟨C,es,k,l,c,m,n⟩:=h;exact⟨M1 s D,rfl,a.disk j,e.disk d,⟨C,es,k,l,c,m.disk a c f,n⟩,g⟩
section
variable{F:LY}{ps:LB}{st:Nat}{lost:List Bool}
end
structure At(en:List Nat)(e j:Nat):Prop where
 lt:j<en.length
 lo:∀i x,i+1=j->en[i]?=some x->x<=e
 hi:∀i x,j<=i->i+1<en.length->en[i]?=some x->e<x
end Go.Proofs.YtaieidcohdhgpaaGreatDoor
