/- Spoilt. -/
import Derived.Test.YtaieidcohdhgpaaGreatDoorXBH
namespace Go.Proofs.YtaieidcohdhgpaaGreatDoor
set_option maxHeartbeats 40000000
set_option maxRecDepth 100000
open Go.RowKit
structure LZ(M n0:Nat)(w wr:World)(vb tb db stb sb:Nat)(b:Nat->Option By)(vs:NV)(vK:Value)(kb:List (Nat->Option By))(kv:List (NV)):Prop where
 lg:GK M n0 w wr vb tb db stb b (GB b)
 se:Hl n0 wr sb b vs
 kp:Hm wr vK kb kv
 ks:¬F2 vK sb
 lo:∀k,F2 vK k->n0<=k
 le:kb.length<=M+1
 la:∃j:Nat,kb[j]?=some b
section
variable{M n0:Nat}{w wr:World}{vb tb db stb sb:Nat}{b:Nat->Option By}{vs:NV}{vK:Value}{kb:List (Nat->Option By)}{kv:List (NV)}
theorem LZ.step(h:LZ M n0 w wr vb tb db stb sb b vs vK kb kv)(hM:M<=900)(c:Int)(K:GL c):
  Cl 25 #[.pointer (some ⟨sb,0,none⟩),.pointer (some ⟨vb,0,none⟩),.int .i64 c] wr fun e Y=>e = .returned (.bool true)/\Below n0 w Y/\Hid (Cl 26 #[.pointer (some ⟨vb,0,none⟩)] Y fun e Z=>e = .returned (.int .i64 0)/\Below n0 w Z/\∃j:NV,(∀i,i<8->Z.cell? ⟨sb,i,none⟩=some (j i))/\
   ∀d,Bw Z d->F0 d Z.heap.size 62 (J0 j)->∃r x u p,(Builtin.append_ #[70,70] 70 #[vK,.slice (some ⟨Z.heap.size,0,none⟩) 1 1]).run Tryz.prog d = .ok (.slice r x u) p/\Hid (∃l kb' kv',LZ (M+1) n0 w p vb tb db stb sb l j (.slice r x u) kb' kv')):=by
 refine(Zk6 h.lg h.se c K).mono ?_;rintro e Y ⟨rfl,l,j,y,F,z⟩;have L:=h.kp.turn z h.ks h.se.row;refine⟨rfl,y.bel,?_⟩;refine(ML y (fun _ e=>e.any) (by omega)).mono ?_;rintro e Z ⟨rfl,n,H⟩;have E:=F.kp H;have D:=L.kp H;refine⟨rfl,n.bel,j,fun i a=>E.cell a,fun d m N=>?_⟩;have O:∀i,i<8->((l i).getD ⟨#[]⟩).size<=1280:=fun i a=>n.vl.sizes a
 have I:∀k R,F2 vK k->F0 d k 5 R->False:=fun k R ho B=>by
  obtain⟨A,o⟩:=D.sl.type ho;have C:F0 d k 62 A:=(m.block _ o.lt).trans o;exact absurd (C.type B) (by decide)
 have v:=E.kp (GA.below m);obtain⟨v',p,P,r,x,u,rfl,Q,G,J⟩:=OR (D.kp (GA.below m)) (by have:=h.le;omega) (b:=l) (f:=j) (fun i a=>⟨v.at' i a,O i a⟩) I Z.heap.size N;have ab:n0<=Z.heap.size:=Ag n.lo.2.2.1 n.bel.size;have aa:=m.size;refine⟨r,x,u,p,P,l,kb++[l],kv++[j],(n.below m).fr62 G (fun k t R ho B=>?_) (fun k ho=>h.lo k ho),⟨v.row.fr G h.ks,fun i a=>?_,v.lo⟩,Q,fun e=>?_,fun k e=>?_,?_,kb.length,?_⟩
 ·obtain⟨A,o⟩:=D.sl.type ho;have C:F0 d k 62 A:=(m.block _ o.lt).trans o;exact(C.type B).symm
 ·rcases v.at' i a with q|⟨s,g,y,F,z⟩
  ·exact .inl q
  ·exact .inr ⟨s,g,y,F,z.fr G (fun e=>I g _ e z)⟩
 ·rcases J sb e with e|e
  ·exact h.ks e
  ·have:=E.row.lt;omega
 ·rcases J k e with e|e
  ·exact h.lo k e
  ·omega
 ·rw[Ad,Ba];have:=h.le;omega
 ·rw[AH (Aa _),Fk];rfl
end
theorem WU{D:LY}(c:∀s∈D,s.size=64){k:Nat}(hk:k<D.length*64)(v:UInt8):∃y,D[k/64]?=some y/\∃u,(BL y)[k%64]?=some u/\(Jg D)[k]?=some (.int .u8 (u.toNat:Nat))/\
  ∀a,a=(⟨((BL y).set (k%64) v).toArray⟩:By)->(u≠v->IF y a)/\a.size=64/\(Jg D).set k (.int .u8 (v.toNat:Nat))=Jg (D.set (k/64) a):=by
 obtain⟨y,j⟩:∃y,D[k/64]?=some y:=⟨_,Ac (by omega)⟩;have C:=c y (An j);have t:(BL y).length=64:=by rw[DZ,C]
 have h:k%64<(BL y).length:=by omega
 have g:∀(s:By) (i:Nat),(Dc s)[i]?=((BL s)[i]?).map (fun u=>Value.int .u8 (u.toNat:Nat)):=fun s i=>by unfold Dc BL;rw[Bv]
 have o:=Qo c (k/64) (k%64) y j (by omega);rw[show k/64*64+k%64=k by omega,g,Ac h]at o;refine⟨y,j,(BL y)[k%64],Ac h,o,fun a B=>?_⟩;have l:BL a=(BL y).set (k%64) v:=by rw[B];exact Kt _
 have p:a.size=64:=by rw[<-DZ,l,Bq,t]
 refine⟨fun A=>⟨(BL y).take (k%64),(BL y)[k%64],v,(BL y).drop (k%64+1),?_,?_,A⟩,p,EN (fun i=>?_)⟩
 ·rw[List.getElem_cons_drop,B8]
 ·rw[l,List.set_eq_take_append_cons_drop,if_pos h]
 ·have aa:=Qk c;have n:=Ob c (k/64) a p;have x:=Qk n;rw[Bq]at x;rcases AO i (D.length*64) with r|r
  ·obtain⟨z,f⟩:∃z,(D.set (k/64) a)[i/64]?=some z:=⟨_,Ac (by rw[Bq];omega)⟩;have m:=Qo n (i/64) (i%64) z f (by omega);rw[show i/64*64+i%64=i by omega]at m;rw[m,g];by_cases e:i/64=k/64
   ·rw[e,Bf (by omega)]at f
    cases f
    rw[l];by_cases q:i=k
    ·subst q;rw[Bf (by omega),Bf h];rfl
    ·rw[As (by omega),As (by omega),<-g];have d:=Qo c (i/64) (i%64) y (by rw[e];exact j) (by omega);rw[show i/64*64+i%64=i by omega]at d;exact d
   ·rw[As (by omega)]at f;rw[As (by omega),<-g];have d:=Qo c (i/64) (i%64) z f (by omega);rw[show i/64*64+i%64=i by omega]at d;exact d
  ·rw[BS (by rw[Bq];omega),BS (by omega)]
def Sb:Option Value->Nat
 | some (.int _ n)=>n.toNat
 | _=>0
def RY(w V:World)(v:Value)(aK:OA)(lK:Nat):Prop:=
 ∃gK,aK=some ⟨gK,0,none⟩/\lK<=1000/\(Hid (Cl 27 #[v] V fun e X=>e = .returned (.tuple #[.pointer none,.int .i64 10])/\Hid (Cl 32 #[v] X fun e Y=>e = .returned (.tuple #[.agg #[.int .i64 0,.int .i64 0,.int .i64 0,.int .i64 0],.int .i64 10])/\Hid (Bw w Y)))\/
  ∃j0,j0<lK/\Hid (Cl 27 #[v] V fun e X=>∃xb:Nat,e = .returned (.tuple #[.pointer (some ⟨xb,0,none⟩),.int .i64 0])/\Hid (Cl 32 #[v] X fun e Y=>∃n1 n2 n3 n4:Nat,e = .returned (.tuple #[.agg #[.int .i64 (n1:Nat),.int .i64 (n2:Nat),.int .i64 (n3:Nat),.int .i64 (n4:Nat)],.int .i64 0])/\∃Y2,Y.alloc (.cells #[.int .i64 (n1:Nat),.int .i64 (n2:Nat),.int .i64 (n3:Nat),.int .i64 (n4:Nat)] 75)=Y2/\Hid (Bw w Y2)/\
   Hid (∀W,Bw Y2 W->∀j,j<lK->Cl 29 #[.pointer (some ⟨gK,j*8,none⟩),.pointer (some ⟨xb,0,none⟩)] W fun e U=>∃r:Bool,e = .returned (.bool r)/\Hid (j=j0->r=true)/\Hid (Bw W U)))))
theorem LZ.end{M:Nat}{w wr:World}{vb tb db stb sb:Nat}{b:Nat->Option By}{vs:NV}{aK:OA}{lK cK:Nat}{kb:List (Nat->Option By)}{kv:List (NV)}(h:LZ M w.heap.size w wr vb tb db stb sb b vs (.slice aK lK cK) kb kv)(hM:M<=400):
  Cl 28 #[.pointer (some ⟨vb,0,none⟩)] wr fun e Z=>∃(g c:Nat) (n:Nat->Nat),e = .returned (.slice (some ⟨g,0,none⟩) 98304 c)/\Hid (∀i,i<98304->Z.cell? ⟨g,i,none⟩=some (.int .u8 (n i:Nat))/\Z.frozen? ⟨g,i,none⟩=false/\n i<256)/\
   Hid (∀v,Bw Z v->∀k m,k<98304->m<256->m≠n k->RY w (v.setCell ⟨g,k,none⟩ (.int .u8 (m:Nat))) (.slice (some ⟨g,0,none⟩) 98304 c) aK lK):=by
 obtain⟨s,vk,vf,vn,vw,ve,ps,ep,ai,hK,hI,hC,h1,_⟩:=h.lg.st;have z:=ai.st.disk.2.1.2;have S:=hI.ok.dl;refine(Mh wr vb tb db stb h.lg.vol vf vn vw ve s.D ai.st.disk).mono ?_;rintro e Z ⟨a,l,c,rfl,ad,hZ⟩;have aw:(Jk s.D).size=98304:=by rw[Uu z,S]
 have hS:=ad.1;rw[aw,RJ]at hS;have ay:=Qk z;rw[S]at ay;rcases hS.2 with⟨_,h0⟩|⟨g,aC,R,e,C,g1,g2,g3,g4⟩
 ·omega
 simp only[Bl]at e;obtain⟨rfl,rfl,rfl⟩:=e;have av:wr.heap.size<=g:=ad.2 g (by simp[Value.ownBlock]);have aD:=C.lt;have au:∀i,i<98304->R[i]?=(Jg s.D)[i]? := fun i hi=>by rw[<-g4,Ao,if_pos (by omega)]
 obtain⟨n,P⟩:∃n:Nat->Nat,∀(i u:Nat),(Jg s.D)[i]?=some (.int .u8 (u:Nat))->n i=u:=⟨fun i=>Sb (Jg s.D)[i]?,fun i u h=>by show Sb _=_;rw[h];rfl⟩;refine⟨g,_,n,rfl,fun i hi=>?_,fun v ae k m G hv az=>?_⟩
 ·obtain⟨y,hy,u,hu,E,_⟩:=WU z (k:=i) (by omega) 0;refine⟨?_,C.frozen i,?_⟩
  ·rw[C.cell,au i hi,E,P i _ E]
  ·rw[P i _ E];exact u.toNat_lt
 obtain⟨y,hy,u,hu,E,aA⟩:=WU z (k:=k) (by omega) (UInt8.ofNat m);have aj:(UInt8.ofNat m).toNat=m:=KF hv;obtain⟨ag,al,Q⟩:=aA _ rfl;obtain⟨I,aB⟩:∃I:By,I=⟨((BL y).set (k%64) (UInt8.ofNat m)).toArray⟩:=⟨_,rfl⟩;rw[<-aB]at ag al Q;rw[aj]at Q;have ao:IF y I:=ag (fun e=>by
  exact az (by rw[P k _ E,e,aj]))
 obtain⟨V,L⟩:=ex (v.setCell ⟨g,k,none⟩ (.int .u8 (m:Nat)));rw[<-L];have aq:F0 v g 5 R:=(ae.block _ C.lt).trans C;have ap:F0 V g 5 (R.set k (.int .u8 (m:Nat))):=by rw[L];exact aq.set k _
 have ak:Bw wr V:=by rw[L];exact(hZ.trans (ae.mono hZ.size)).setCell (p:=⟨g,k,none⟩) av _
 obtain⟨q,A⟩:=ex (s.D.set (k/64) I);have H:q.length=1536:=by rw[A,Bq,S]
 have o:∀x∈q,x.size=64:=by rw[A];exact Ob z _ _ al
 have D:Sl V 5 1 (.slice (some ⟨g,0,none⟩) 98304 c) (Jk q).size (Dc (Jk q)):=by
  rw[Uu o,H,RJ];refine⟨?_,.inr ⟨g,c,_,rfl,ap,g1,g2,by rw[Bq];exact g3,?_⟩⟩
  ·rw[Qk o,H]
  ·rw[List.take_set,g4,Q,A]
 have B:=h.lg.below ak;have af:=h.kp.kp (GA.below ak);obtain⟨jl,T⟩:=h.la;obtain⟨gK,f,rfl,aG,_,_⟩:=af.set T;have aF:=h.le;have aE:=(Ae.1 T).1;have t:Bw w V:=B.bel;refine⟨gK,rfl,by omega,?_⟩;rcases ZiO hI hC (by omega) hK hy ao with⟨s',ah,ab,aa,ac,aH⟩|K
 ·refine .inr ⟨jl,by omega,?_⟩;rw[<-A]at ah;rw[<-ah]at D o;refine(LN ab aa (by omega) ac V _ _ _ D o B.pk).mono ?_;rintro e X ⟨xb,rfl,hX,d,_⟩;refine⟨xb,rfl,?_⟩;have J:=B.below d;refine(Mp ab aa (by omega) ac X _ _ _ (D.kept (fun k G _=>d.block k G)) o J.pk).mono ?_;rintro e Y ⟨rfl,F,_⟩;obtain⟨Y2,an,aL,aI,aJ,am⟩:=De Y [.int .i64 ((1+Ji b 8:Nat):Int),.int .i64 (D8 b 8:Nat),.int .i64 ((2+s'.es.length:Nat):Int),.int .i64 (DS (Dj s'.es) 96:Nat)] 75;have N:Bw X Y2:=F.trans (am.mono F.size);refine⟨_,_,_,_,rfl,Y2,an,t.trans ((d.mono t.size).trans (N.mono (Ag t.size d.size))),fun W hW j hj=>?_⟩;obtain⟨bj,O⟩:∃x,kb[j]?=some x:=⟨_,Ac (by omega)⟩;have ax:=((af.kp (GA.below d)).kp (GA.below N)).kp (GA.below hW);obtain⟨g',f',e',_,_,ar⟩:=ax.set O
  cases e'
  refine(Zme ((hX.vl.below N).below hW) ar).mono ?_;rintro e U ⟨r,rfl,hr,hU⟩;refine⟨r,rfl,fun ej=>?_,hU⟩;subst ej;rw[T]at O
  cases O
  exact hr.2 (fun i _=>rfl)
 ·rw[<-A]at K;refine .inl ?_;refine(TY K H o V _ _ _ D B.pk).mono ?_;rintro e X ⟨rfl,d⟩;refine⟨rfl,?_⟩;have J:=B.below d;refine(ZmI K H o X _ _ _ (D.kept (fun k G _=>d.block k G)) J.pk).mono ?_;rintro e Y ⟨rfl,F⟩;exact⟨rfl,t.trans ((d.mono t.size).trans (F.mono (Ag t.size d.size)))⟩
theorem TD(n:Int):IntKind.u8.wrap n=n%256:=by simp[IntKind.wrap,IntKind.bits,IntKind.signed]
theorem xor_u8(B P:Nat)(a:B<256)(b:P<256)(c:P≠0):bits BinOp.xor IntKind.u8 (B:Int) (P:Int)=((B ^^^ P:Nat):Int)/\B ^^^ P<256/\B ^^^ P≠B:=by
 refine⟨?_,E9 (n:=8) a b,fun e=>c ?_⟩
 ·have hx:B ^^^ P<2 ^ 8:=E9 a b;have d:(BitVec.ofInt 8 (B:Int)).toNat=B:=by rw[Fx,FV];exact Eg (by omega)
  have f:(BitVec.ofInt 8 (P:Int)).toNat=P:=by rw[Fx,FV];exact Eg (by omega)
  show IntKind.u8.wrap ((BitVec.ofInt 8 (B:Int) ^^^ BitVec.ofInt 8 (P:Int)).toNat:Int)=_;rw[BitVec.toNat_xor,d,f,TD];omega
 ·have:B ^^^ P=B ^^^ 0:=by rw[e,Nat.xor_zero]
  exact TE this
theorem ZiP(w:World)(hp:Gs w)(a:OA)(xs:List Int)(aV:Nat)(hx:Xs w a xs)(aR:∀x∈xs,GL x)(hl:xs.length<=1048576)(pl ab:Int)(aO:GL pl)(aG:GL ab):
  Cl 11 #[.slice a xs.length aV,.int .i64 pl,.int .i64 ab] w (YK w):=by
 obtain⟨N,ap⟩:∃n,n=xs.length:=⟨_,rfl⟩;obtain⟨k0,an⟩:∃n,n=J5 pl 98304:=⟨_,rfl⟩;obtain⟨p0,au⟩:∃n,n=J5 ab 255:=⟨_,rfl⟩
 obtain⟨u,aN⟩:∃n,n=p0+1:=⟨_,rfl⟩;have aZ:k0<98304:=by rw[an];exact QH _ (by omega)
 have bk:p0<255:=by rw[au];exact QH _ (by omega)
 have HO:=Db (ZiW w hp);rw[<-ap];have ak:Hid (∀W,Cl 24 #[.int .i64 pl,.int .i64 98304] W fun e W'=>e = .returned (.int .i64 (k0:Nat))/\W'=W):=fun W=>by
  have:=QO W pl 98304 aO (by omega) (by omega);rw[<-an]at this;exact this
 have af:Hid (∀W,Cl 24 #[.int .i64 ab,.int .i64 255] W fun e W'=>e = .returned (.int .i64 (p0:Nat))/\W'=W):=fun W=>by
  have:=QO W ab 255 aG (by omega) (by omega)
  rw[<-au]at this;exact this
 have HX:=Db hx;have az:=Db aR;have HL:=Db ap;have a1:N<=1048576:=by omega
 have R:=Db aN;have ah:IntKind.i64.wrap (1+(p0:Int))=(u:Int):=by rw[AX];omega
 have ai:IntKind.u8.wrap (u:Int)=(u:Int):=by rw[TD];omega
 clear hx aR ap aO aG hp an au hl aN;go_enter Tryz.func11,Tryz.ntmps11;go_upto_region 2 with(go_at_call 23;refine(Da HO).mono ?_;rintro e X ⟨O,tb,db,aw,rfl,aE,_⟩;have aj:=Db aE;clear aE);clear HO;go_upto_region 4 with fail;go_upto_region 5 with fail;obtain⟨Y,eY,m,kY,sY,bY⟩:=De X [.slice none 0 0,.slice none 0 0,.slice none 0 0,.slice none 0 0,.slice none 0 0,.slice none 0 0,.slice none 0 0,.slice none 0 0] 62;rw[show X.alloc (.cells #[.slice none 0 0,.slice none 0 0,.slice none 0 0,.slice none 0 0,.slice none 0 0,.slice none 0 0,.slice none 0 0,.slice none 0 0] 62)=Y from eY];obtain⟨d,ag⟩:∃s,s=X.heap.size:=⟨_,rfl⟩;rw[<-ag]at m ⊢;have q0:Y.cell? ⟨d,0,none⟩=some (.slice none 0 0):=(m.cell 0).trans rfl;have q1:Y.cell? ⟨d,1,none⟩=some (.slice none 0 0):=(m.cell 1).trans rfl;have q2:Y.cell? ⟨d,2,none⟩=some (.slice none 0 0):=(m.cell 2).trans rfl;have q3:Y.cell? ⟨d,3,none⟩=some (.slice none 0 0):=(m.cell 3).trans rfl;have q4:Y.cell? ⟨d,4,none⟩=some (.slice none 0 0):=(m.cell 4).trans rfl;have q5:Y.cell? ⟨d,5,none⟩=some (.slice none 0 0):=(m.cell 5).trans rfl;have q6:Y.cell? ⟨d,6,none⟩=some (.slice none 0 0):=(m.cell 6).trans rfl;have q7:Y.cell? ⟨d,7,none⟩=some (.slice none 0 0):=(m.cell 7).trans rfl;have HY:=Db (And.intro ag (And.intro m (And.intro sY bY)));clear eY m kY sY bY ag;go_upto_region 6 with fail;clear q0 q1 q2 q3 q4 q5 q6 q7;obtain⟨y,aC,aT,aS,a9,aB⟩:=De Y [.slice none 0 0,.slice none 0 0,.slice none 0 0,.slice none 0 0,.slice none 0 0,.slice none 0 0,.slice none 0 0,.slice none 0 0] 62;rw[show Y.alloc (.cells #[.slice none 0 0,.slice none 0 0,.slice none 0 0,.slice none 0 0,.slice none 0 0,.slice none 0 0,.slice none 0 0,.slice none 0 0] 62)=y from aC];have ax:Hid (∃M b vs D E,LZ M w.heap.size w y O tb db aw d b vs (.slice (some ⟨Y.heap.size,0,none⟩) 1 1) D E/\M<=0):=by
  obtain⟨ag,m,sY,bY⟩:=Da HY;have bn:=(Da aj).bel.size;refine⟨0,fun _=>none,fun _ => .slice none 0 0,[fun _=>none],[fun _ => .slice none 0 0],⟨((Da aj).below bY).below aB,⟨aS _ _ _ m,fun i _ => .inl ⟨rfl,rfl⟩,by omega⟩,⟨rfl,⟨rfl,.inr ⟨Y.heap.size,1,_,rfl,aT,Aa _,by unfold maxLen;omega,rfl,rfl⟩⟩,fun j b f hb hf i hi=>?_⟩,fun e=>?_,fun k e=>?_,Aa _,0,rfl⟩,Aa _⟩
  ·cases j with
   | zero=>cases hb;cases hf;exact⟨.inl ⟨rfl,rfl⟩,Aw _⟩
   | succ j=>simp at hb
  ·simp[F2,Value.ownBlock]at e;omega
  ·simp[F2,Value.ownBlock]at e;omega
 clear aC aT aS a9 aB aj HY;go_wp2
 go_loopw [9,10] (fun k i wr=>∃(q:Nat) (I:OA) (F cK:Nat),q<=N/\q<=25/\k = .slice I F cK/\i = .int .i64 q/\Hid (∃M b vs D E,LZ M w.heap.size w wr O tb db aw d b vs (.slice I F cK) D E/\M<=q)) (fun _ i _=>25-(intOf i).toNat)
 case atStart=>exact⟨0,_,_,_,Aw _,Aw _,rfl,rfl,ax⟩
 case round=>
  obtain⟨q,I,F,cK,hq,a5,rfl,rfl,Q⟩:=hrel;clear ax;by_cases aL:q<N/\q<25
  ·obtain⟨bm,bl⟩:=aL;obtain⟨v,hv⟩:∃v,xs[q]?=some v:=⟨_,Ac (by have:=Da HL;omega)⟩;have aQ:GL v:=Da az v (An hv);obtain⟨g,f,ha,am⟩:=Da HX q v hv;subst ha;have aX:wr.cell? ⟨g,f+q,none⟩=some (.int .i64 v):=by
    obtain⟨M,b,vs,D,E,J,h2⟩:=Da Q;exact(J.lg.bel.cell (p:=⟨g,f+q,none⟩) (Aj _ _ am)).trans am
   have HT:Hid (Cl 25 #[.pointer (some ⟨d,0,none⟩),.pointer (some ⟨O,0,none⟩),.int .i64 v] wr fun e Y=>e = .returned (.bool true)/\
     Hid (Cl 26 #[.pointer (some ⟨O,0,none⟩)] Y fun e Z=>e = .returned (.int .i64 0)/\∃(vs:NV),(Z.cell? ⟨d,0,none⟩=some (vs 0)/\Z.cell? ⟨d,1,none⟩=some (vs 1)/\Z.cell? ⟨d,2,none⟩=some (vs 2)/\Z.cell? ⟨d,3,none⟩=some (vs 3)/\Z.cell? ⟨d,4,none⟩=some (vs 4)/\Z.cell? ⟨d,5,none⟩=some (vs 5)/\Z.cell? ⟨d,6,none⟩=some (vs 6)/\Z.cell? ⟨d,7,none⟩=some (vs 7))/\
      ∃G aa ad ac V,Z.alloc (.cells #[vs 0,vs 1,vs 2,vs 3,vs 4,vs 5,vs 6,vs 7] 62)=G/\(Builtin.append_ #[70,70] 70 #[.slice I F cK,.slice (some ⟨Z.heap.size,0,none⟩) 1 1]).run Tryz.prog G = .ok (.slice aa ad ac) V/\Hid (∃M b vs D E,LZ M w.heap.size w V O tb db aw d b vs (.slice aa ad ac) D E/\M<=q+1))):=by
    obtain⟨M,b,vs,D,E,J,h2⟩:=Da Q;refine(J.step (by omega) v aQ).mono ?_;rintro e Y ⟨rfl,_,hY⟩;refine⟨rfl,Calls.mono (Da hY) ?_⟩;rintro e Z ⟨rfl,_,o,z,hZ⟩;obtain⟨G,e1,x1,k1,s1,b1⟩:=De Z [o 0,o 1,o 2,o 3,o 4,o 5,o 6,o 7] 62;obtain⟨aa,ad,ac,V,r1,b',a7,a8,r2⟩:=hZ G b1 x1;exact⟨rfl,o,⟨z 0 (by omega),z 1 (by omega),z 2 (by omega),z 3 (by omega),z 4 (by omega),z 5 (by omega),z 6 (by omega),z 7 (by omega)⟩,G,aa,ad,ac,V,e1,r1,M+1,b',o,a7,a8,r2,by omega⟩
   have aP:(q:Int)<(N:Int):=by omega
   have a6:(q:Int)<25:=by omega
   clear Q am hv aQ HX ak af R ah ai;go_upto_region 12 with(first|(go_at_call 25;refine(Da HT).mono ?_;rintro e Y1 ⟨rfl,HS⟩)|(go_at_call 26;refine(Da HS).mono ?_;rintro e Z ⟨rfl,vs,⟨q0,q1,q2,q3,q4,q5,q6,q7⟩,G,aa,ad,ac,V,e1,r1,HN⟩;have H1:=Db e1;have aU:=Db r1;clear e1 r1));clear HT HS aX;go_wp2_with (at_builtin;rw[show Z.alloc _=G from Da H1];refine AZ _ rfl _ _ 70 70 rfl _ _ rfl rfl _ _ (Da aU) ?_)
   go_roundw
   case rel=>exact⟨q+1,_,_,_,by omega,by omega,rfl,by go_num,HN⟩
   case measure=>simp[intOf];omega
  ·have HE:Hid (Cl 28 #[.pointer (some ⟨O,0,none⟩)] wr fun e Z=>∃(g c:Nat) (bt:Nat->Nat),e = .returned (.slice (some ⟨g,0,none⟩) 98304 c)/\Hid (∀i,i<98304->Z.cell? ⟨g,i,none⟩=some (.int .u8 (bt i:Nat))/\Z.frozen? ⟨g,i,none⟩=false/\bt i<256)/\Hid (∀Z',Bw Z Z'->∀k v',k<98304->v'<256->v'≠bt k->RY w (Z'.setCell ⟨g,k,none⟩ (.int .u8 (v':Nat))) (.slice (some ⟨g,0,none⟩) 98304 c) I F)):=by
    obtain⟨M,b,vs,D,E,J,h2⟩:=Da Q;exact J.end (by omega)
   clear Q HX az HL;have a2:¬(q:Int)<(N:Int)\/(q:Int)<(N:Int)/\¬(q:Int)<25:=by omega
   clear aL hq a5 a1;rcases a2 with aP|⟨aP,a6⟩
   all_goals
    go_upto_region 17 with(first|(go_at_call 28;refine(Da HE).mono ?_;rintro e Z ⟨g,c,bt,rfl,HB,HF⟩)|(go_at_call 24;refine(Da ak _).mono ?_;rintro e w' ⟨rfl,A⟩;rw[A];clear A));clear HE ak;go_wp2
    go_loopw [13,14] (fun k i W=>∃kk C:Nat,kk<98304/\C<=98304/\k = .int .i64 kk/\i = .int .i64 C/\Hid (W=Z)) (fun _ i _=>98304-(intOf i).toNat)
    case atStart=>exact⟨k0,0,aZ,by omega,rfl,rfl,rfl⟩
    case round=>
     obtain⟨kk,C,aJ,aY,rfl,rfl,HW⟩:=hrel;have hW:=Da HW;subst hW;clear HW;obtain⟨c0,c1,c2⟩:=Da HB kk aJ;obtain⟨B,hB⟩:=ex (bt kk);rw[<-hB]at c0 c2;have bf:(kk:Int)<98304:=by omega
     by_cases aH:C<98304/\B=0
     ·obtain⟨J,rfl⟩:=aH;have aI:(C:Int)<98304:=by omega
      obtain⟨L,ao⟩:=ex ((kk+1)%98304);have a0:L<98304:=by omega
      have bh:((kk:Int)+1).tmod 98304=(L:Int):=by rw[Co (by omega),ao];omega
      have bi:((kk:Int)+1)%98304=(L:Int):=by rw[ao];omega
      clear hB ao c2 HF HB af R ah ai;go_wp2
      go_roundw
      case rel=>exact⟨L,C+1,a0,by omega,rfl,by go_num,AQ⟩
      case measure=>simp[intOf];omega
     obtain⟨av,aq,ar⟩:=xor_u8 B u c2 (by have:=Da R;omega) (by have:=Da R;omega);obtain⟨nv,aM⟩:∃n,n=B ^^^ u:=⟨_,rfl⟩;rw[<-aM]at av aq ar;have al:Hid (RY w (wr.drew.setCell ⟨g,kk,none⟩ (.int .u8 (nv:Nat))) (.slice (some ⟨g,0,none⟩) 98304 c) I F):=Da HF wr.drew (Al _ _).drew kk nv aJ aq (by rw[<-hB];exact ar);have a3:¬(C:Int)<98304\/(C:Int)<98304/\¬(B:Int)=0:=by omega
     have T:=Db (And.intro ah (And.intro ai av));have aD:¬(B:Int)=0->((B:Int)==0)=false:=fun e=>by simpa using e
     clear hB HF HB aH aM aq ar R aY ah ai av c2;rcases a3 with aI|⟨aI,aW⟩
     rotate_left
     have ba:=aD aW
     rotate_left
     all_goals clear aD
     all_goals go_upto_region 21 with fail
     all_goals
      refine AD (S:=fun _=>True) (by kernel_rfl) AQ (fun bb=>?_);refine tk 0 ?_;try simp only[pE];refine tk 1 ?_;try simp only[pE];refine tk 2 ?_;try simp only[pE];refine tk 3 ?_;try simp only[pE];refine tk 4 ?_;try simp only[pE];refine tk 6 ?_;try simp only[pE];refine Bh (rs:=[5,7]) (by kernel_rfl) (by simp) ?_;refine AN (i:=5) rfl ?_ (AN (i:=7) rfl ?_ A8)
      rotate_left
      case' _=>
       intro K l;go_simp;go_at_call 24;refine(Da af _).mono ?_;rintro e w' ⟨rfl,A⟩;rw[A];clear A;go_wp2_with fail;refine l.out _ _ AQ (fun hH=>?_);clear l K
       (try simp only[pE])
       refine A6 (i:=8) (v := .int .i64 (u:Nat)) rfl (by kernel_rfl) (by kernel_rfl) (by kernel_rfl) (fun _ _ _ h=>h) (Or.inl ⟨by rfl,?_⟩) (by assumption) ?_
       ·intro w t;(try dsimp only at t);go_simp<;>rw[(Da T).1]
       (try simp only[pE])
       refine A6 (i:=9) (v := .int .u8 (u:Nat)) rfl (by kernel_rfl) (by kernel_rfl) (by kernel_rfl) (fun _ _ _ h=>h) (Or.inl ⟨by rfl,?_⟩) (by assumption) ?_
       ·intro w t;(try dsimp only at t);go_simp<;>rw[(Da T).2.1]
       (try simp only[pE])
       refine rk 5 (fun K l=>?_);go_simp;refine l.out _ _ AQ (fun hH=>?_);clear l K
       (try simp only[pE])
      rotate_left
      case' _=>
       intro K l;go_simp;refine l.out _ _ AQ (fun hH=>?_);clear l K
       (try simp only[pE])
       refine rk 7 (fun K l=>?_);go_simp;go_at_call 24;refine(Da af _).mono ?_;rintro e w' ⟨rfl,A⟩;rw[A];clear A;go_wp2_with fail;refine l.out _ _ AQ (fun hH=>?_);clear l K
       (try simp only[pE])
       refine A6 (i:=8) (v := .int .i64 (u:Nat)) rfl (by kernel_rfl) (by kernel_rfl) (by kernel_rfl) (fun _ _ _ h=>h) (Or.inl ⟨by rfl,?_⟩) (by assumption) ?_
       ·intro w t;(try dsimp only at t);go_simp<;>rw[(Da T).1]
       (try simp only[pE])
       refine A6 (i:=9) (v := .int .u8 (u:Nat)) rfl (by kernel_rfl) (by kernel_rfl) (by kernel_rfl) (fun _ _ _ h=>h) (Or.inl ⟨by rfl,?_⟩) (by assumption) ?_
       ·intro w t;(try dsimp only at t);go_simp<;>rw[(Da T).2.1]
       (try simp only[pE])
      all_goals
       refine A6 (i:=10) (v := .int .u8 (nv:Nat)) rfl (by kernel_rfl) (by kernel_rfl) (by kernel_rfl) (fun _ _ _ h=>h) (Or.inl ⟨by rfl,?_⟩) (by assumption) ?_
       ·intro w t;(try dsimp only at t);go_simp<;>rw[(Da T).2.2]
       (try simp only[pE])
       refine tk 11 ?_;try simp only[pE];refine rk 12 (fun K l=>?_);go_simp;refine l.out _ _ AQ (fun hH=>?_);clear l K
       (try simp only[pE])
       refine AW (by kernel_rfl) ?_ _;obtain⟨gK,rfl,bg,a4⟩:=Da al;rcases a4 with HA|⟨j0,bc,HA⟩
       ·clear al;go_wp2_with (first|(go_at_call 27;refine(Da HA).mono ?_;rintro e X ⟨rfl,H2⟩)|(go_at_call 32;refine(Da H2).mono ?_;rintro e Y ⟨rfl,P⟩));go_ret;exact⟨rfl,(Da P).alloc (Da P).size _⟩
       ·clear al;go_upto_region 26 with(first|(go_at_call 27;refine(Da HA).mono ?_;rintro e X ⟨xb,rfl,H2⟩)|(go_at_call 32;refine(Da H2).mono ?_;rintro e Y ⟨n1,n2,n3,n4,rfl,y,aF,P,HH⟩;have aA:=Db aF;clear aF));rw[show Y.alloc _=y from Da aA];clear HA aA;go_wp2
        go_loopw [19] (fun i W=>∃H:Nat,H<=j0/\i = .int .i64 H/\Hid (Bw y W)) (fun i _=>F-(intOf i).toNat)
        case atStart=>exact⟨0,Aw _,rfl,Al _ _⟩
        case round=>
         obtain⟨H,be,rfl,ae⟩:=hrel;have HC:=Db (Da HH _ (Da ae) H (by omega));have bd:(H:Int)<(F:Int):=by omega
         go_upto_region 30 with(go_at_call 29;refine(Da HC).mono ?_;rintro e U ⟨r,rfl,HJ,HU⟩);have ay:Hid (Bw y U):=(Da ae).trans ((Da HU).mono (Da ae).size);clear HC ae HU HH
         cases r
         ·have bj:H≠j0:=fun e=>by have:=Da HJ e;cases this
          clear HJ;go_wp2
          go_roundw
          case rel=>exact⟨H+1,by omega,by go_num,ay⟩
          case measure=>simp[intOf];omega
         ·clear HJ;go_wp2;go_ret;exact⟨rfl,(Da P).trans ((Da ay).mono (Da P).size)⟩
end Go.Proofs.YtaieidcohdhgpaaGreatDoor
