/- Dumps. -/
import Derived.Test.YtaieidcohdhgpaaGreatDoorZAX
import Derived.Sort.CutIn
namespace Go.Proofs.YtaieidcohdhgpaaGreatDoor
set_option maxHeartbeats 40000000
set_option maxRecDepth 100000
open Go.RowKit
def M2(es:List En)(k:Int)(w:World)(e:Ending)(w':World):Prop:=
 (∃a n c,e = .returned (.tuple #[.slice a n c,.int .i64 k])/\Sl w' 112 4 (.slice a n c) es.length (D8 es))/\Bw w w'
def Ta:Prop:=∀(vb tb rb:Nat) (L:List (By×Int)) (F:LY) (s:By),Jf L F->s.size<=2000000->∃(es:List En) (k:Int),es.length<=2000000/\∀W,Md W vb tb rb L F L F->
 Cl 56 #[.pointer (some ⟨vb,0,none⟩),.string s] W (M2 es k W)/\Cl 109 #[.pointer (some ⟨rb,0,none⟩),.string s] W (M2 es k W)
theorem YX(a:Ta):Rs:=by
 intro w vb tb g q kp ep fs L F f c s E;obtain⟨h,k,C,d⟩:=a vb tb g L F s c.jf E;have H:w.cell? ⟨q,0,none⟩=some (.pointer (some ⟨vb,0,none⟩)):=(FH.cell f 0).trans rfl;have i:=(d w c).1;have u:Hid (∀W,Bw w W->W.cell? ⟨q,1,none⟩=some (.pointer (some ⟨g,0,none⟩))):=fun W a=>((FH.fr f (X:=fun _=>False) (Fr.of_below a) id).cell 1).trans rfl
 have r:Hid (∀W,Bw w W->Cl 109 #[.pointer (some ⟨g,0,none⟩),.string s] W (M2 h k W)):=fun W a=>(d W (c.below a)).2
 clear d c f a;go_enter Tryz.func49,Tryz.ntmps49;go_wp2_with fail;refine i.mono ?_;rintro e w1 ⟨⟨v,n1,y,rfl,l⟩,b⟩;have I:=Da u w1 b;have j:=Da r w1 b;have t:=Db l;clear i l H;go_wp2_with fail;refine j.mono ?_;rintro e p ⟨⟨x,G,z,rfl,m⟩,n⟩;have o:Bw w p:=b.trans (n.mono b.size);have A:=ZJ p (.slice v n1 y) (.slice x G z) h C ((Da t).kept (fun k D _=>n.block k D)) m;clear j m I;go_wp2_with (first|(go_at_call 110;refine A.mono ?_;rintro e w3 ⟨rfl,B⟩)|(go_at_call 16;refine(QU _ _).mono ?_;rintro e w4 ⟨rfl,rfl⟩))
 go_ret2
 exact⟨⟨_,_,_,rfl⟩,o.trans (B.mono o.size)⟩

theorem O7{l:List (By×Int)}{x y:By×Int}:y∈JF l x↔y=x\/y∈l:=by
 unfold JF;have h:=BT (JU x l) l;constructor
 ·intro a;rcases As.1 a with a|a
  ·exact .inr (Bm a)
  ·rcases AG.1 a with a|a
   ·exact .inl a
   ·exact .inr (BH a)
 ·rintro(rfl|a)
  ·exact Cb _ (Bp ..)
  ·rw[<-h]at a;rcases As.1 a with a|a
   ·exact BM _ a
   ·exact Cb _ (AA _ a)
theorem UH{L:List (By×Int)}{d:By}{y:By×Int}:∀k,k<=L.length->(y∈Dv L d k↔y∈L.take k/\Dx d y=true)
 | 0,_=>by simp[Dv]
 | k+1,hk=>by
  have ih:=UH (L:=L) (d:=d) (y:=y) k (by omega);have e:k<L.length:=by omega
  rw[Bg,Ac e];simp only[Dv,Ac e,Cj];by_cases c:Dx d L[k]=true
  ·rw[if_pos c,O7,ih,As,Av];constructor
   ·rintro(rfl|⟨b,a⟩)
    ·exact⟨.inr rfl,c⟩
    ·exact⟨.inl b,a⟩
   ·rintro⟨b|rfl,a⟩
    ·exact .inr ⟨b,a⟩
    ·exact .inl rfl
  ·rw[if_neg c,ih,As,Av];constructor
   ·rintro⟨b,a⟩;exact⟨.inl b,a⟩
   ·rintro⟨b|rfl,a⟩
    ·exact⟨b,a⟩
    ·exact absurd a c
def DW(L:List (By×Int))(F:LY)(x:By×Int):En:=
 if x.2<0 then ⟨KZ x.1,true,(L.countP (Dx x.1):Nat),1⟩ else ⟨KZ x.1,false,((F[x.2.toNat]?.getD ⟨#[]⟩).size:Nat),(L.countP (Dz x.2):Nat)⟩
theorem R7(L:List (By×Int))(F:LY)(x:By×Int):KA L F x = .agg #[.string (DW L F x).n,.bool (DW L F x).d,.int .i64 (DW L F x).s,.int .i64 (DW L F x).l]:=by
 unfold KA DW
 split<;>rfl
def Jo(L:List (By×Int))(F:LY)(p:By):List En×Int:=
 if J1 L p≠0 then ([],J1 L p) else
 if (p.toList==[47])=true then ((Dv L ⟨#[]⟩ L.length).map (DW L F),0) else
 match FT L p with
 | none=>([],3)
 | some f=>if 0<=f then ([],4) else ((Dv L p L.length).map (DW L F),0)
theorem P9:(Tryz.prog.info? 112).map (fun i=>(i.zero,i.size,i.bytes))=some (some (.agg #[.string ⟨#[]⟩,.bool false,.int .i64 0,.int .i64 0]),4,40):=by kernel_rfl
theorem Lh:Tryz.prog.underlying 99=some (.slice 112):=by kernel_rfl
theorem LD(w:World)(v:Value)(b:List En)(i:Sl w 112 4 v b.length (D8 b))(hl:b.length+1<=2000000)(x:En)(f:Nat)(l:FH w f 112 (IC x)):
  ∃g d,(Builtin.append_ #[99,99] 99 #[v,.slice (some ⟨f,0,none⟩) 1 1]).run Tryz.prog w = .ok g d/\∃a n c,g = .slice a n c/\Sl d 112 4 (.slice a n c) (b++[x]).length (D8 (b++[x]))/\w.grownBy d v.ownBlock/\Dh w v (.slice a n c):=by
 obtain⟨q,k,m,o,p⟩:=Bn P9;obtain⟨g,d,r,h,s,t⟩:=JZ (P:=Tryz.prog) w 99 99 112 q _ 4 40 Lh k m o p rfl (by decide) v b.length (D8 b) i ⟨f,0,none⟩ 1 1 (IC x) rfl
  (fun j u e=>by rw[AF,Au,l.cell];exact e) (fun u e=>ZkL [x] u (by simpa [D8] using e)) (by unfold maxLen;omega) (by omega)
 obtain⟨a,n,c,rfl⟩:=h.shape;refine⟨_,d,r,a,n,c,rfl,?_,s,t⟩;rw[Ab,Zg0]
 simpa [D8] using h
def UM(w wr:World)(L:List (By×Int))(F:LY)(T:List (By×Int))(o i:Value):Prop:=
 ∃k:Nat,k<=T.length/\i = .int .i64 k/\Sl wr 112 4 o ((T.take k).map (DW L F)).length (D8 ((T.take k).map (DW L F)))/\Bw w wr/\∀j,o.ownBlock=some j->w.heap.size<=j
theorem YY(w:World)(J:Nat)(vl vf:Value)(L:List (By×Int))(F:LY)(h:FN w J vl vf L F)(aB:∀x∈L,x.2<F.length)(hL:L.length+1<=2000000)(p:By)(hp:p.size<=2000000):
  Cl 109 #[.pointer (some ⟨J,0,none⟩),.string p] w (M2 (Jo L F p).1 (Jo L F p).2 w):=by
 obtain⟨R,b⟩:=ex (Jo L F p);rw[<-b];unfold Jo at b;have M:=Db h;have aw:=Db aB;have hk:=Ov w J _ vf L F h p hp;have aj:Hid (∀W d,Bw w W->Cl 163 #[.pointer (some ⟨J,0,none⟩),.string d] W fun e w'=>∃v,e = .returned v/\Sl w' 103 2 v (Dv L d L.length).length (Dr (Dv L d L.length))/\Bw W w'/\∀j,v.ownBlock=some j->W.heap.size<=j):=fun W d z=>Vl W J vl vf L F (h.at z) hL d
 obtain⟨av,cv,rfl,aD⟩:=h.sl.rdL;have aE:=Db aD;have aM:=h.hd.lt;obtain⟨e0,ay⟩:=ex (J1 L p);rw[<-ay]at hk b;have ax:=Db b;clear h aD aB ay b;go_enter Tryz.func109,Tryz.ntmps109;go_wp2_with fail;refine hk.mono ?_;rintro e w1 ⟨rfl,s⟩;have b:=Da ax;clear hk ax;by_cases X:e0≠0
 ·rw[if_pos X]at b;have aJ:(e0 != 0)=true:=by rw[Eu];exact X
  have D:=Db b;clear b X;go_wp2
  go_ret2
  rw[Da D];exact⟨⟨_,_,_,rfl,rfl,.inl ⟨rfl,rfl⟩⟩,s⟩
 rw[if_neg X]at b;obtain rfl:e0=0:=by omega
 cases Y:(p.toList==[47]) with
 | true=>
  rw[if_pos Y]at b;have S:=Da aj w1 ⟨#[]⟩ s;obtain⟨d,Z⟩:=ex ((⟨#[]⟩:By));rw[<-Z]at S b;have K:=Db b;have HD:=Db Z;clear X b Z;go_wp2_with fail;have b:=Da K;rw[<-Da HD];clear HD K;refine S.mono ?_;rintro e m ⟨vT,rfl,N,ae,au⟩;have ag:Bw w m:=s.trans (ae.mono s.size);obtain⟨T,E⟩:=ex (Dv L d L.length);rw[<-E]at N b;have aq:T.length<=L.length:=by rw[E];exact Q1 L d _
  have O:∀x∈T,x∈L:=fun x f=>by rw[E]at f;exact Bm ((UH L.length (Aa _)).1 f).1
  obtain⟨aT,cT,rfl,ai⟩:=N.rdL;have an:Hid (∀wr,Bw m wr->∀(k:Nat) x,T[k]?=some x->∃g,aT=some ⟨g,0,none⟩/\wr.cell? ⟨g,k*2,none⟩=some (.string x.1)/\wr.cell? ⟨g,k*2+1,none⟩=some (.int .i64 x.2)):=fun wr z k x f=>by
   obtain⟨g,e1,e2,e3⟩:=ai k x f;have Q:g<m.heap.size:=Al _ _ e2;exact⟨g,e1,(z.cell (p:=⟨g,k*2,none⟩) Q).trans e2,(z.cell (p:=⟨g,k*2+1,none⟩) Q).trans e3⟩
  have ap:Hid (∀wr x,Bw w wr->x∈T->Cl 166 #[.pointer (some ⟨J,0,none⟩),.agg #[.string x.1,.int .i64 x.2]] wr fun e w'=>e = .returned (.agg #[.string (DW L F x).n,.bool (DW L F x).d,.int .i64 (DW L F x).s,.int .i64 (DW L F x).l])/\Bw wr w'):=fun wr x z f=>by
   have ho:=(Da M).ok x (O x f);have:=OV wr J _ vf L F ((Da M).at z) x.1 x.2 ho.1 ho.2 (Da aw x (O x f));rw[show(x.1,x.2)=x from rfl,R7]at this;exact this
  have D:=Db b;have ab:=Db ag;clear b E O N ai S au s ae ag aj;go_wp2_with fail
  go_loopw [10,11] (fun o i wr=>UM m wr L F T o i) (fun _ i _=>T.length-(intOf i).toNat)
  case atStart=>exact⟨0,Aw _,rfl,⟨rfl,.inl ⟨rfl,rfl⟩⟩,Ag _ _,fun j B=>by simp[Value.ownBlock]at B⟩
  case round=>
   obtain⟨k,hk,rfl,q,t,I⟩:=hrel;have G:Bw w wr:=(Da ab).trans (t.mono (Da ab).size);obtain⟨ao,no,co,rfl⟩:=q.shape;by_cases ar:k<T.length
   ·obtain⟨x,f⟩:∃x,T[k]?=some x:=⟨_,Ac ar⟩;obtain⟨gT,rfl,t0,t1⟩:=Da an wr t k x f;have U:=Da ap wr x G (An f);obtain⟨y,V⟩:=ex (DW L F x);obtain⟨u,H⟩:=ex ((T.take k).map (DW L F));have ah:u.length+1<=2000000:=by rw[H,A7,Ar];omega
    have ac:Hid ((T.take (k+1)).map (DW L F)=u++[y]):=by
     show _=_;rw[Bg,f,Cj,Bo,BK,Ec,<-H,<-V]
    rw[<-H]at q;rw[<-V]at U;have aa:Hid (∀l,Bw wr l->∃a n c C,(Builtin.append_ #[99,99] 99 #[.slice ao no co,.slice (some ⟨l.heap.size,0,none⟩) 1 1]).run Tryz.prog (l.alloc (.cells #[.string y.n,.bool y.d,.int .i64 y.s,.int .i64 y.l] 112)) = .ok (.slice a n c) C/\Hid (UM m C L F T (.slice a n c) (.int .i64 (k+1:Nat)))):=fun l A=>by
     have af:Bw wr (l.alloc (.cells #[.string y.n,.bool y.d,.int .i64 y.s,.int .i64 y.l] 112)):=A.alloc A.size _;obtain⟨v',C,r1,a,n,c,rfl,r2,r3,r4⟩:=LD (l.alloc (.cells #[.string y.n,.bool y.d,.int .i64 y.s,.int .i64 y.l] 112)) (.slice ao no co) u (q.kept (fun j B _=>af.block j B)) ah y l.heap.size (Bs l _);have P:Bw m (l.alloc (.cells #[.string y.n,.bool y.d,.int .i64 y.s,.int .i64 y.l] 112)):=t.trans (af.mono t.size);refine⟨a,n,c,C,r1,k+1,by omega,rfl,?_,P.trans (Q4 r3 I P.size),fun j B=>(r4 j B).elim (I j) (fun h=>Ae P.size h)⟩;rw[Da ac];exact r2
    have ad:=Db U;have aH:=aq;clear V H ac ah U f I q G t;go_wp2_with fail;refine(Da ad).mono ?_;rintro e l ⟨rfl,A⟩;obtain⟨a4,n4,c4,C,s1,am⟩:=Da aa l A;clear ad aa A t0 t1;go_wp2_with (at_builtin;refine Aj _ rfl _ _ 99 99 rfl _ _ rfl rfl _ _ s1 ?_;clear s1)
    go_roundw
    case rel=>exact(by have:=Da am;obtain⟨k',Y,h2,h3⟩:=this;exact⟨k',Y,(by rw[<-h2];go_num),h3⟩)
    case measure=>simp[intOf];omega
   ·obtain rfl:k=T.length:=by omega
    rw[BN]at q;have HS:=Db q;have al:=Db G;clear q I G t;go_wp2
    go_ret2
    rw[Da D];exact⟨⟨_,_,_,rfl,Da HS⟩,Da al⟩
 | false=>
 rw[if_neg (by rw[Y];simp)]at b;have az:=((Da M).at s).find p;have K:=Db b;clear X b;go_wp2_with fail;refine az.mono ?_;rintro e w' ⟨r,⟨rfl,aG⟩,hw⟩;rw[hw];clear hw az;have b:=Da K;clear K;rcases aG with⟨rfl,aC⟩|⟨k,x,rfl,ak,f,aA⟩
 ·have hl:FT L p=none:=(K5 (.inl ⟨rfl,aC⟩)).elim (fun h=>h.2) (fun ⟨_,_,h,_⟩=>by omega);rw[hl]at b;have D:=Db b;clear b hl aC;go_wp2
  go_ret2
  rw[Da D];exact⟨⟨_,_,_,rfl,rfl,.inl ⟨rfl,rfl⟩⟩,s⟩
 ·rw[F7.look ak f aA]at b;have aK:=(Ad.1 ak).1;obtain⟨g,rfl,q0,q1⟩:=(Da aE) k x ak;have Q:g<w.heap.size:=(Da M).sl.lt rfl;have aI:=(s.cell (p:=⟨g,k*2+1,none⟩) Q).trans q1;have aL:=(Da M).nl;have aF:=((Da M).at s).c.c0;clear aA ak q0 q1;by_cases hf:0<=x.2
  ·simp only[if_pos hf]at b;have D:=Db b;clear b;go_wp2
   go_ret2
   rw[Da D];exact⟨⟨_,_,_,rfl,rfl,.inl ⟨rfl,rfl⟩⟩,s⟩
  ·simp only[if_neg hf]at b;have S:=Da aj w1 p s;have K:=Db b;clear b;go_wp2_with fail;have b:=Da K;obtain⟨d,Z⟩:=ex p;rw[<-Z]at S b ⊢;clear Z aI aF hf f K;refine S.mono ?_;rintro e m ⟨vT,rfl,N,ae,au⟩;have ag:Bw w m:=s.trans (ae.mono s.size);obtain⟨T,E⟩:=ex (Dv L d L.length);rw[<-E]at N b;have aq:T.length<=L.length:=by rw[E];exact Q1 L d _
   have O:∀x∈T,x∈L:=fun x f=>by rw[E]at f;exact Bm ((UH L.length (Aa _)).1 f).1
   obtain⟨aT,cT,rfl,ai⟩:=N.rdL;have an:Hid (∀wr,Bw m wr->∀(k:Nat) x,T[k]?=some x->∃g,aT=some ⟨g,0,none⟩/\wr.cell? ⟨g,k*2,none⟩=some (.string x.1)/\wr.cell? ⟨g,k*2+1,none⟩=some (.int .i64 x.2)):=fun wr z k x f=>by
    obtain⟨g,e1,e2,e3⟩:=ai k x f;have Q:g<m.heap.size:=Al _ _ e2;exact⟨g,e1,(z.cell (p:=⟨g,k*2,none⟩) Q).trans e2,(z.cell (p:=⟨g,k*2+1,none⟩) Q).trans e3⟩
   have ap:Hid (∀wr x,Bw w wr->x∈T->Cl 166 #[.pointer (some ⟨J,0,none⟩),.agg #[.string x.1,.int .i64 x.2]] wr fun e w'=>e = .returned (.agg #[.string (DW L F x).n,.bool (DW L F x).d,.int .i64 (DW L F x).s,.int .i64 (DW L F x).l])/\Bw wr w'):=fun wr x z f=>by
    have ho:=(Da M).ok x (O x f);have:=OV wr J _ vf L F ((Da M).at z) x.1 x.2 ho.1 ho.2 (Da aw x (O x f));rw[show(x.1,x.2)=x from rfl,R7]at this;exact this
   have D:=Db b;have ab:=Db ag;clear b E O N ai S au s ae ag aj;go_wp2_with fail
   go_loopw [10,11] (fun o i wr=>UM m wr L F T o i) (fun _ i _=>T.length-(intOf i).toNat)
   case atStart=>exact⟨0,Aw _,rfl,⟨rfl,.inl ⟨rfl,rfl⟩⟩,Ag _ _,fun j B=>by simp[Value.ownBlock]at B⟩
   case round=>
    obtain⟨k,hk,rfl,q,t,I⟩:=hrel;have G:Bw w wr:=(Da ab).trans (t.mono (Da ab).size);obtain⟨ao,no,co,rfl⟩:=q.shape;by_cases ar:k<T.length
    ·obtain⟨x,f⟩:∃x,T[k]?=some x:=⟨_,Ac ar⟩;obtain⟨gT,rfl,t0,t1⟩:=Da an wr t k x f;have U:=Da ap wr x G (An f);obtain⟨y,V⟩:=ex (DW L F x);obtain⟨u,H⟩:=ex ((T.take k).map (DW L F));have ah:u.length+1<=2000000:=by rw[H,A7,Ar];omega
     have ac:Hid ((T.take (k+1)).map (DW L F)=u++[y]):=by
      show _=_;rw[Bg,f,Cj,Bo,BK,Ec,<-H,<-V]
     rw[<-H]at q;rw[<-V]at U;have aa:Hid (∀l,Bw wr l->∃a n c C,(Builtin.append_ #[99,99] 99 #[.slice ao no co,.slice (some ⟨l.heap.size,0,none⟩) 1 1]).run Tryz.prog (l.alloc (.cells #[.string y.n,.bool y.d,.int .i64 y.s,.int .i64 y.l] 112)) = .ok (.slice a n c) C/\Hid (UM m C L F T (.slice a n c) (.int .i64 (k+1:Nat)))):=fun l A=>by
      have af:Bw wr (l.alloc (.cells #[.string y.n,.bool y.d,.int .i64 y.s,.int .i64 y.l] 112)):=A.alloc A.size _;obtain⟨v',C,r1,a,n,c,rfl,r2,r3,r4⟩:=LD (l.alloc (.cells #[.string y.n,.bool y.d,.int .i64 y.s,.int .i64 y.l] 112)) (.slice ao no co) u (q.kept (fun j B _=>af.block j B)) ah y l.heap.size (Bs l _);have P:Bw m (l.alloc (.cells #[.string y.n,.bool y.d,.int .i64 y.s,.int .i64 y.l] 112)):=t.trans (af.mono t.size);refine⟨a,n,c,C,r1,k+1,by omega,rfl,?_,P.trans (Q4 r3 I P.size),fun j B=>(r4 j B).elim (I j) (fun h=>Ae P.size h)⟩;rw[Da ac];exact r2
     have ad:=Db U;have aH:=aq;clear V H ac ah U f I q G t;go_wp2_with fail;refine(Da ad).mono ?_;rintro e l ⟨rfl,A⟩;obtain⟨a4,n4,c4,C,s1,am⟩:=Da aa l A;clear ad aa A t0 t1;go_wp2_with (at_builtin;refine Aj _ rfl _ _ 99 99 rfl _ _ rfl rfl _ _ s1 ?_;clear s1)
     go_roundw
     case rel=>exact(by have:=Da am;obtain⟨k',Y,h2,h3⟩:=this;exact⟨k',Y,(by rw[<-h2];go_num),h3⟩)
     case measure=>simp[intOf];omega
    ·obtain rfl:k=T.length:=by omega
     rw[BN]at q;have HS:=Db q;have al:=Db G;clear q I G t;go_wp2
     go_ret2
     rw[Da D];exact⟨⟨_,_,_,rfl,Da HS⟩,Da al⟩
section
open Go.RowKit Go.Shelf
attribute [local go_sem] Oper.semAt_some
theorem Zdz{F:Fence}{n:Nat}{P:Program}{h:Array Oper}{o:Oper}{a:Act}{w:World}{K:Act->World->Prop}{Q:Exit->Act->World->Prop}{E:Prop}
  (q:o.guard=none) (d x:Operand) (g i:TypeId) (e:o.op=Op.call { callee:=Callee.builtin Builtin.append,args := #[d,x],argTypes := #[g,i] })
  (v u:Value) (p:a.eval d=v) (t:a.eval x=u) {f:Value->World->Prop} (r:∃b w',(Builtin.append_ #[g,i] o.type #[v,u]).run P w = .ok b w'/\f b w') (l:∀b w',f b w'->K (a.put o.dst b) w'):
  if Region.wanted o (yielded h a.tmps)=true then Oper.wpIn F n P o a w K Q else E:=by
 obtain⟨b,w',j,k⟩:=r;have s:Region.wanted o (yielded h a.tmps)=true:=by simp[Region.wanted,q]
 rw[if_pos s];unfold Oper.wpIn;refine⟨?_,?_⟩
 ·simp[Oper.about,e,resolve,Target.leads,Sem.run_pure]
 ·rw[Fg F _ _ (by rw[e];intro c m;cases m)];simp[execOp,e,resolve,invoke,builtin,p,t,j,Result.andThen];exact l _ _ k
theorem Zhs{l n:Nat}{P:Program}{k:Array Oper}{o:Oper}{a:Act}{w:World}{K:Act->World->Prop}{Q:Exit->Act->World->Prop}{E:Prop}
  (C:o.guard=none) (f:FuncId) (m p q:Operand) (H:Array TypeId) (j:o.op=Op.call { callee:=Callee.value (.func f),args := #[m,p,q],argTypes:=H })
  (b d g:Value) (r:a.eval m=b) (s:a.eval p=d) (t:a.eval q=g) (z:(callFunc f #[b,d,g]).run P w = .ok (.enter f #[b,d,g]) w) {i:Ending->World->Prop} (x:Calls P f #[b,d,g] w i) (u:∀e w',i e w'->∃v,e = .returned v/\K (a.put o.dst v) w'):
  if Region.wanted o (yielded k a.tmps)=true then Oper.wpIn (Fence.wide.inRound l) n P o a w K Q else E:=by
 have G:Region.wanted o (yielded k a.tmps)=true:=by simp[Region.wanted,C]
 rw[if_pos G];unfold Oper.wpIn;have B:a.eval (.func f) = .func (.func f) #[] #[]:=rfl;have A:(execOp a.eval o).run P w = .ok (.enter f #[b,d,g]) w:=by
  simp[execOp,j,resolve,r,s,t,B,Deferred.ofValue,invoke,z]
 refine⟨fun _ _=>trivial,?_⟩;rw[Fg _ _ _ (by rw[j];intro c y;cases y),A,Oper.uponIn_enter];refine⟨fun h=>by simp[Fence.inRound,Fence.wide]at h,(Cp l (A0.2 x)).mono (fun e w' F=>?_)⟩;obtain⟨v,rfl,D⟩:=u e w' F;exact D
def Hh(G:Gh)(I:LF)(ns:LY)(xs:LS)(es:List En):Prop:=
 es.length=xs.length/\∀(j:Nat) x y,xs[j]?=some x->es[j]?=some y->KW G I (ns++[x.1]) x.1 x.2 (.agg #[.string y.n,.bool y.d,.int .i64 y.s,.int .i64 y.l])
theorem Hh.snoc{G:Gh}{I:LF}{ns:LY}{xs:LS}{d:List En}(h:Hh G I ns xs d){x:By×VS}{y:En}(e:KW G I (ns++[x.1]) x.1 x.2 (.agg #[.string y.n,.bool y.d,.int .i64 y.s,.int .i64 y.l])):Hh G I ns (xs++[x]) (d++[y]):=by
 refine⟨by simp[h.1],fun j f g a c=>?_⟩;rcases CQ j xs.length with b|b|b
 ·rw[AU b]at a;rw[AU (by rw[h.1];exact b)]at c;exact h.2 j f g a c
 ·subst b;rw[Fo]at a;rw[<-h.1,Fo]at c
  cases a;cases c;exact e
 ·rw[Bv (by simp;omega)]at a;cases a
def LL(w:World)(tb BL:Nat)(G:Gh)(I:LF)(ns:LY)(xs:LS)(W:World):Prop:=
 ∃v es,FH W BL 99 [v]/\FH W w.heap.size 37 [.pointer (some ⟨tb,0,none⟩)]/\Sl W 112 4 v es.length (D8 es)/\Hh G I ns xs es/\Bw w W/\(∀g,v.ownBlock=some g->w.heap.size<=g)
theorem Nz{W:World}{k:Nat}{t:TypeId}{R:LV}(h:FH W k t R){o:Obj}(ho:W.heap[k]?=some o):o.isCells=true:=by
 unfold FH at h;rw[h]at ho;cases ho;rfl
theorem LL.own{α : Type}(x : α -> By×VS)(w:World)(tb BL:Nat)(G:Gh)(I:LF)(ns:LY)(B:Nat)(r:w.heap.size<=B):OwnFrom B (fun (j:List α) W=>LL w tb BL G I ns (j.map x) W):=by
 rintro j X Y row ⟨v,l,m,n,f,p,g,q⟩ c d;have i:∀k t R,FH X k t R->FH Y k t R:=fun k t R h=>h.kept c (fun b=>by
  obtain⟨_,o,ho,a⟩:=d k b.symm;rw[Nz h ho]at a;cases a)
 refine⟨v,l,i _ _ _ m,i _ _ _ n,f.kept (fun k u e=>c.block k u (fun b=>?_)),p,g.grown c g.size (fun k e=>Ae r (d k e).1),q⟩;obtain⟨R,s⟩:=f.type e;obtain⟨_,o,ho,a⟩:=d k b.symm;rw[Nz s ho]at a;cases a
end
theorem Tx{α : Type}(lt : α -> α -> Prop)(d:∀x,¬lt x x)(g:∀x y z,lt x y->lt y z->lt x z):∀(a b:List α),a.Pairwise lt->b.Pairwise lt->(∀x,x∈a↔x∈b)->a=b
 | [],b,_,_,h=>by
  cases b with
  | nil=>rfl
  | cons y b=>exact absurd ((h y).2 (Bp ..)) (by simp)
 | x::a,[],_,_,h=>absurd ((h x).1 (Bp ..)) (by simp)
 | x::a,y::b,ha,hb,h=>by
  rw[CG]at ha hb;have j:x=y:=by
   rcases AG.1 ((h x).1 (Bp ..)) with e|i
   ·exact e
   ·rcases AG.1 ((h y).2 (Bp ..)) with e|k
    ·exact e.symm
    ·exact absurd (g _ _ _ (ha.1 y k) (hb.1 x i)) (d x)
  subst j;rw[Tx lt d g a b ha.2 hb.2 (fun z=>?_)];constructor
  ·intro c;rcases AG.1 ((h z).1 (AA _ c)) with e|f
   ·subst e;exact absurd (ha.1 z c) (d z)
   ·exact f
  ·intro c;rcases AG.1 ((h z).2 (AA _ c)) with e|f
   ·subst e;exact absurd (hb.1 z c) (d z)
   ·exact f
def LT(x y:By×Int):Prop:=Gu x.1 y.1=true
theorem Zk(y:By×Int)(l:List (By×Int))(x:By×Int):JF (y::l) x=if Gu y.1 x.1=true then y::JF l x else x::y::l:=by
 unfold JF;rw[JU]
 split<;>simp
theorem SZ(x:By×Int):∀(l:List (By×Int)),l.Pairwise LT->(∀y∈l,y.1≠x.1)->(JF l x).Pairwise LT
 | [],_,_=>by simp[JF,JU]
 | y::l,h,hne=>by
  rw[Zk];rw[CG]at h
  split
  ·rename_i b;rw[CG];refine⟨fun z a=>?_,SZ x l h.2 (fun z a=>hne z (AA _ a))⟩;rcases O7.1 a with rfl|a
   ·exact b
   ·exact h.1 z a
  ·rename_i b;have c:Gu x.1 y.1=true:=TQ (by simpa using b) (hne y (Bp ..));rw[CG,CG];refine⟨fun z a=>?_,h⟩;rcases AG.1 a with rfl|a
   ·exact c
   ·exact Nd c (h.1 z a)
theorem PG{L:List (By×Int)}(c:∀(i j:Nat) x y,L[i]?=some x->L[j]?=some y->x.1=y.1->i=j)(d:By):∀k,k<=L.length->(Dv L d k).Pairwise LT
 | 0,_=>List.Pairwise.nil
 | k+1,hk=>by
  have ih:=PG c d k (by omega);have b:k<L.length:=by omega
  simp only[Dv,Ac b]
  split
  ·refine SZ _ _ ih (fun y f e=>?_);have g:=((UH k (by omega)).1 f).1;obtain⟨j,a⟩:=CC.1 g;rw[Ap]at a
   split at a
   ·have:=c j k y L[k] a (Ac b) e;omega
   ·cases a
  ·exact ih
theorem ZD(p a b:List UInt8):Op.bytesLess (p++a) (p++b)=Op.bytesLess a b:=by
 induction p with
 | nil=>rfl
 | cons x p ih=>simp[Op.bytesLess,ih]
theorem ltS_jn(ns:LY)(a b:By):Gu (jn (ns++[a])) (jn (ns++[b]))=Gu a b:=by
 unfold Gu;rw[QR,QR,KT,KT,ZD,KY,KY,BV,BV];simp[Op.bytesLess]
section
variable{G:Gh}{I:LF}{C:IB}{ρ : Int->Nat}{L:List (By×Int)}{F:LY}
theorem Rl.insideE(h:Rl G I C ρ L F){ns:LY}(t:Ga ns){f:LS}(v:FZ f)(k:GP G ns f):Dv L (jn ns) L.length=f.map (fun x=>(jn (ns++[x.1]),DF ρ x.2)):=by
 refine Tx LT (fun x e=>by unfold LT at e;rw[Q2]at e;cases e) (fun x y z m o=>Nd m o) _ _ (PG h.jf.un _ _ (Aa _)) ?_ (fun y=>?_)
 ·rw[Cg,BQ];intro i j q s r;show Gu _ _=true;rw[ltS_jn];exact v i j _ _ r (Ac q) (Ac s)
 ·rw[UH _ (Aa _),BN];constructor
  ·rintro⟨c,u⟩;rw[h.eqL]at c;obtain⟨z,b,rfl⟩:=A2.1 c;obtain⟨d,n,e⟩:=Qk (h.ok.ne z b);have a:=h.ok.nms z b;have g:(Jd (jn z.1)).toList=(jn ns).toList:=by simpa [Dx,vw] using u
   rw[e]at g a;rw[Ul d n (K7 (a n (by simp)))]at g;have p:d=ns:=Ua a.left t (Qy g);subst p;refine A2.2 ⟨(n,z.2),(k n z.2).2 (by rw[<-e];exact b),?_⟩;show(jn (d++[n]),DF ρ z.2)=(jn z.1,DF ρ z.2);rw[e]
  ·intro c;obtain⟨z,b,rfl⟩:=A2.1 c;have l:=(k z.1 z.2).1 b;refine⟨by rw[h.eqL];exact A2.2 ⟨_,l,rfl⟩,?_⟩;have a:=h.ok.nms _ l;simp only[Dx];rw[Ul ns z.1 (K7 (a z.1 (by simp)))];simp
theorem Rl.toldT(h:Rl G I C ρ L F){ns:LY}{n:By}{u:VS}(j:(ns++[n],u)∈G){y:En}(l:KW G I (ns++[n]) n u (.agg #[.string y.n,.bool y.d,.int .i64 y.s,.int .i64 y.l])):DW L F (jn (ns++[n]),DF ρ u)=y:=by
 have d:=h.ok.nms _ j;have k:KZ (jn (ns++[n]))=n:=TR ns n (K7 (d n (by simp)));have i:L.countP (Dx (jn (ns++[n])))=G.countP (GF (ns++[n])):=h.dir d;unfold DW;simp only;rw[k,i];obtain⟨yn,yd,ys,yl⟩:=y;rcases l with⟨a,e⟩|⟨a,r,f,e⟩
 ·rw[if_pos ((K3 ρ u).2 a)];unfold Qq at e;simp at e;obtain⟨rfl,rfl,rfl,rfl⟩:=e
  rfl
 ·have g:DF ρ u=(ρ u.f:Int):=by unfold DF;rw[a];rfl
  rw[if_neg (fun e=>by have:=(K3 ρ u).1 e;rw[a]at this;cases this),g];have b:=h.num.size _ f;have c:=h.num.links _ f;simp only at b c;unfold Il at e;simp at e;obtain⟨rfl,rfl,rfl,rfl⟩:=e;rw[b,c,BB]
theorem Rl.tellsE(h:Rl G I C ρ L F){ns:LY}(e:Ga ns){xs:LS}(f:FZ xs)(c:GP G ns xs){a:List En}(b:Hh G I ns xs a):a=(Dv L (jn ns) L.length).map (DW L F):=by
 rw[h.insideE e f c,Ee];apply CR;intro j;rw[Be]
 cases hx:xs[j]? with
 | none=>
  have:=List.getElem?_eq_none_iff.1 hx;rw[Bv (by rw[b.1];exact this)];rfl
 | some x=>
  have d:j<a.length:=by rw[b.1];exact(Ad.1 hx).1
  rw[Ac d];show some a[j]=some _
  congr 1
  exact(h.toldT ((c x.1 x.2).1 (An hx)) (b.2 j x _ hx (Ac d))).symm
def GX(G:Gh)(p:By):Int:=if GB G p≠0 then GB G p else if Dc p=[] then 0 else match FQ G (Dc p) with|none=>3|some u=>if u.p.isSome=true then 0 else 4
theorem Rl.listE(h:Rl G I C ρ L F)(p:By):GX G p=(Jo L F p).2/\(GX G p≠0->(Jo L F p).1=[])/\(GX G p=0->Df p=true/\(Jo L F p).1=(Dv L (jn (Dc p)) L.length).map (DW L F)):=by
 have i:∀(k:Int) (n:List En),GX G p=k->Jo L F p=(n,k)->(k≠0->n=[])->(k=0->Df p=true/\n=(Dv L (jn (Dc p)) L.length).map (DW L F))->GX G p=(Jo L F p).2/\(GX G p≠0->(Jo L F p).1=[])/\(GX G p=0->Df p=true/\(Jo L F p).1=(Dv L (jn (Dc p)) L.length).map (DW L F)):=fun k n r s t v=>by
  rw[r,s];exact⟨rfl,t,v⟩
 have c:=h.ask p;by_cases b:Df p=false
 ·rw[b]at c;simp only[EZ]at c;refine i 1 [] ?_ ?_ (fun _=>rfl) (fun e=>by cases e)
  ·unfold GX GB D2;simp[b]
  ·unfold Jo;rw[c];rfl
 ·have b:Df p=true:=by simpa using b
  rw[b]at c;simp only[B3,E0]at c;by_cases f:F8 G (Ds [] (Dc p))=0
  ·rw[f]at c;have l:D2 G p true=0:=by unfold D2;simp[b,f]
   by_cases d:Dc p=[]
   ·have m:=(Kg b).2 d;refine i 0 _ ?_ (show Jo L F p=((Dv L ⟨#[]⟩ L.length).map (DW L F),0) from ?_) (fun e=>absurd rfl e) (fun _=>⟨b,by rw[d];rfl⟩)
    ·unfold GX GB;rw[l];simp[d]
    ·unfold Jo;rw[c];simp[m]
   ·have m:¬(p.toList==[47])=true:=fun e=>d ((Kg b).1 e)
    have j:=h.lk b d;obtain⟨q,hm⟩:=Kq b d
    cases hat:FQ G (Dc p) with
    | none=>
     rw[hat]at j;have g:GB G p=3:=by unfold GB;rw[l,hat];simp[d]
     refine i 3 [] ?_ ?_ (fun _=>rfl) (fun e=>by cases e)
     ·unfold GX;rw[g];rfl
     ·unfold Jo;rw[c,if_neg (by simp),if_neg m,j];rfl
    | some u=>
     rw[hat]at j;have g:GB G p=0:=by unfold GB;rw[l,hat];simp
     cases hu:u.p with
     | none=>
      have o:DF ρ u=(ρ u.f:Int):=by unfold DF;rw[hu];rfl
      refine i 4 [] ?_ ?_ (fun _=>rfl) (fun e=>by cases e)
      ·unfold GX;rw[g,hat];simp[d,hu]
      ·unfold Jo;rw[c,if_neg (by simp),if_neg m,j,Cn,o];show(if (0:Int)<=(ρ u.f:Int) then _ else _)=_;rw[if_pos (Int.natCast_nonneg _)]
     | some a=>
      have o:DF ρ u = -1:=by unfold DF;rw[hu];rfl
      refine i 0 _ ?_ (show Jo L F p=((Dv L p L.length).map (DW L F),0) from ?_) (fun e=>absurd rfl e) (fun _=>⟨b,by rw[<-q]⟩)
      ·unfold GX;rw[g,hat];simp[d,hu]
      ·unfold Jo;rw[c,if_neg (by simp),if_neg m,j,Cn,o]
       rfl
  ·have l:D2 G p true=F8 G (Ds [] (Dc p)):=by unfold D2;simp[b]
   have g:GB G p=F8 G (Ds [] (Dc p)):=by unfold GB;rw[l,if_pos f]
   refine i (F8 G (Ds [] (Dc p))) [] ?_ ?_ (fun _=>rfl) (fun e=>absurd e f)
   ·unfold GX;rw[g,if_pos f]
   ·unfold Jo;rw[c,if_pos f]
end
section
open Go.RowKit Go.Shelf
attribute [local go_sem] Oper.semAt_some
def Rm(w:World)(G:Gh)(I:LF)(ns:LY)(xs:LS)(e:Ending)(w':World):Prop:=
 (∃a n c es,e = .returned (.tuple #[.slice a n c,.int .i64 0])/\Sl w' 112 4 (.slice a n c) es.length (D8 es)/\Hh G I ns xs es)/\Bw w w'
theorem Zkt(w:World)(tb rd:Nat)(V:NV)(E:NS)(vi:Value)(G:Gh)(I:LF)(C:IB)(h:TW w tb rd V E vi G I C)(hG:F0 G)(an:G.length<=10000)(a0:I.length<=10000)(aC:Hx G I)(p:By)(hp:p.size<=2000000)
  (aS:GB G p=0) (b:Nat) (hd:FI G rd (Dc p) b) (ao:Dc p=[]\/FQ G (Dc p)=some ⟨some ⟨b,0,none⟩,0⟩):
  Cl 120 #[.pointer (some ⟨tb,0,none⟩),.string p] w (Rm w G I (Dc p) (E b)):=by
 have aH:∀o,Bw w (w.alloc o):=fun o=>(Ag _ _).alloc (Aa _) o
 have aA:Hid (∀o,Cl 177 #[.pointer (some ⟨tb,0,none⟩),.string p] (w.alloc o) fun e w'=>∃d n,e = .returned (.tuple #[Dn d n true ⟨some ⟨b,0,none⟩,0⟩,.int .i64 0])/\Below (w.alloc o).heap.size (w.alloc o) w'):=fun o=>
  (PD (w.alloc o) tb rd V E vi G I C (h.below (aH o) (Aa _)) hG an p hp).mono (fun e w' ⟨bh,H⟩=>by
   rcases bh with⟨bd,_⟩|⟨_,bt,d,n,u,bj,rfl⟩
   ·exact absurd aS bd
   ·refine⟨d,n,?_,H⟩;rcases Np h.d bj with⟨e,_⟩|⟨_,T,M,Z⟩|⟨_,b',M,Z,_⟩
    ·cases e
    ·rcases ao with h4|h4
     ·exact absurd h4 T
     ·rw[h4]at M;cases M;cases Z
    ·have:=Z.func hG hd;subst this;rw[M])
 have hS:=h.d.sl (Dc p) b hd;have bb:=h.d.le hG hd;have aP:=h.d.row (Dc p) b hd;have hc:=aP.cell 0;have aL:b<w.heap.size:=aP.lt;have az:Hid (∀W,Bw w W->Cl 178 #[.pointer (some ⟨b,0,none⟩)] W fun e w'=>e = .returned (.int .i64 (E b).length)/\w'=W):=fun W H=>IY W b 0 (V b) (E b).length (Di (E b)) ((H.cell (p:=⟨b,0,none⟩) aL).trans hc) (hS.kept (fun k s _=>H.block k s))
 obtain⟨i0,a9,bm,bn,bo⟩:=Bn P9;have HH:=Db h;have aX:=Db aC;have bp:=Db ao;clear h aC aS aH ao;refine(A0 (n:=3)).1 ?_;refine Bq Tryz.func120 rfl trivial ?_ rfl;simp only[Tryz.ntmps120,AQ,Af,Ay,Nat.reduceAdd,Nat.reduceSub,AP,AO,AV,AR,AJ,AL]
 gi_wp2_with fail
 refine⟨trivial,?_⟩;refine(A0.2 (Da aA _)).mono ?_;rintro e w1 ⟨d,n,rfl,ap⟩;have H:Bw w w1:=((Ag _ w).alloc (Aa _) _).trans (ap.mono (by simp));have aO:FH w1 w.heap.size 37 [.pointer (some ⟨tb,0,none⟩)]:=(ap.block _ (by simp)).trans (Jj w [.pointer (some ⟨tb,0,none⟩)] 37);unfold Dn;clear aA ap;obtain⟨U,aE,aU,aM,aR,aJ⟩:=De w1 (Ji d n true ⟨some ⟨b,0,none⟩,0⟩) 262;have ak:=aM _ _ _ aO;have ad:Bw w U:=H.trans (aJ.mono H.size);have aB:=Db aE;have aZ:=Db aR;clear aE aM aO aR aJ
 gi_upto_region 4 with fail
 rw[Da aB];have a3:=aU.cell 3;clear aB
 gi_wp2_with fail
 refine⟨trivial,?_⟩;refine(A0.2 (Da az U ad)).mono ?_;rintro e w' ⟨rfl,hw⟩;rw[hw];clear hw
 gi_wp2_with (first|(gi_at_make;refine wpListIn_make_own _ rfl _ _ 99 rfl w.heap.size 112 i0 _ 4 Lh a9 bm bn _ _ _ (E b).length rfl rfl rfl (by rw[bo];omega) (by unfold maxLen;omega) ad.size ?_;intro f aN ai)|(refine⟨trivial,?_⟩;gi_at_call 179;refine(Ou _ _ trivial rfl _ _).mono ?_;rintro e w' ⟨rfl,rfl⟩))
 obtain⟨q,ac⟩:∃q,(f.alloc (Obj.cells #[Value.slice (some { block:=U.heap.size,off:=0 }) 0 (E b).length] 99)).alloc (Obj.cells #[Value.pointer (some { block:=b,off:=0 })] 307)=q:=⟨_,rfl⟩;rw[ac];have bu:q.heap.size=f.heap.size+2:=by rw[<-ac];simp
 have aq:Bw w f:=ad.grown ai ad.size (fun k e=>by cases e);have ag:Bw f q:=by rw[<-ac];exact((Ag _ f).alloc (Aa _) _).alloc (by simp) _
 have am:Bw w q:=aq.trans (ag.mono aq.size);have aG:FH q f.heap.size 99 [.slice (some ⟨U.heap.size,0,none⟩) 0 (E b).length]:=by rw[<-ac];exact(Jj f _ 99).alloc _
 have a6:Boxed q (f.heap.size+1) 307 (.pointer (some ⟨b,0,none⟩)):=by rw[<-ac];have:=Boxed.new (f.alloc (Obj.cells #[Value.slice (some { block:=U.heap.size,off:=0 }) 0 (E b).length] 99)) 307 (.pointer (some ⟨b,0,none⟩));simpa using this
 have aF:FH q w.heap.size 37 [.pointer (some ⟨tb,0,none⟩)]:=(ag.block _ (Ao ak.lt ai.size)).trans ((ai.block _ ak.lt (by simp)).trans ak);have a4:Sl q 310 3 (V b) (E b).length (Di (E b)):=hS.kept (fun k s _=>am.block k s);have a8:q.cell? ⟨b,0,none⟩=some (V b):=(am.cell (p:=⟨b,0,none⟩) aL).trans hc;have aD:Sl q 112 4 (.slice (some ⟨U.heap.size,0,none⟩) 0 (E b).length) ([]:List En).length (D8 []):=(Sl.of_owns aN).kept (fun k s _=>ag.block k s);have a2:LL w tb f.heap.size G I (Dc p) [] q:=⟨_,[],aG,aF,aD,⟨rfl,fun j x y hx=>by simp at hx⟩,am,fun g J=>by simp[Value.ownBlock]at J;subst J;exact ad.size⟩;have aI:(E b).attach.map (fun x=>x.1)=E b:=CW _;have aQ:=aq.size;clear ac az aG aF aD ag aN ai ak aU a3 aZ;refine Fj (α := { x // x∈E b }) rfl (by omega) (gf:=222) (lb := #[.pointer (some ⟨f.heap.size+1,0,none⟩)]) rfl trivial (Ez Tryz.func222 (by kernel_rfl) rfl)
  (T7 Fence.wide 2 trivial rfl (by omega) (f.heap.size+1) w.heap.size b 0 (V b) (fun x=>x.1) (E b).attach (by simpa using Ae bb an) q (by omega) (by omega) (by omega) a6.cell a8 (by rw[aI];simpa using a4) (fun g J=>hS.lt J))
  belowK_t (Fx (by omega)) (Ag _ _) (fun _=>rfl)
  (fun ae W=>LL w tb f.heap.size G I (Dc p) (ae.map (fun x=>x.1)) W)
  (fun _ _ _=>False)
  (LL.own (fun x:{ x // x∈E b }=>x.1) w tb f.heap.size G I (Dc p) _ (by omega))
  (fun _ _ _ _ _ hs _ _=>hs)
  a2
  (fun x a' W=>∃L,f.heap.size<L/\FH W L 260 [.pointer x.1.2.p,.int .i64 x.1.2.f]/\a'={ tmps := #[.pointer (some ⟨tb,0,none⟩),.string p,.pointer (some ⟨w.heap.size,0,none⟩),undef,.slice none 0 0,.int .i64 0,.pointer (some ⟨w1.heap.size,0,none⟩),.int .i64 0,.pointer (some ⟨b,0,none⟩),.pointer (some ⟨f.heap.size,0,none⟩),.string x.1.1,.pointer (some ⟨L,0,none⟩),.tuple #[.agg #[.pointer d,.string n,.bool true,.pointer (some ⟨b,0,none⟩),.int .i64 0],.int .i64 0],.pointer (some ⟨tb,0,none⟩),.string p,.tuple #[.agg #[.pointer d,.string n,.bool true,.pointer (some ⟨b,0,none⟩),.int .i64 0],.int .i64 0],.agg #[.pointer d,.string n,.bool true,.pointer (some ⟨b,0,none⟩),.int .i64 0],.int .i64 0,.int .i64 0,.bool false,undef,.pointer (some ⟨w1.heap.size,3,none⟩),.pointer (some ⟨w1.heap.size,3,none⟩),.pointer (some ⟨b,0,none⟩),.pointer (some ⟨b,0,none⟩),.bool false,.pointer (some ⟨b,0,none⟩),.pointer (some ⟨b,0,none⟩),.pointer (some ⟨b,0,none⟩),.int .i64 ((E b).length:Nat),.slice (some ⟨U.heap.size,0,none⟩) 0 (E b).length,.pointer (some ⟨b,0,none⟩),.pointer (some ⟨b,0,none⟩),.pointer (some ⟨b,0,none⟩),.func (.func 222) #[] #[.pointer (some ⟨f.heap.size+1,0,none⟩)],.string x.1.1,.agg #[.pointer x.1.2.p,.int .i64 x.1.2.f],undef,undef,undef,undef,undef,undef,undef,undef],defers:=[] })
  (fun x a' _ X Y row hs J hr=>by
   obtain⟨L,T,M,Z⟩:=hs;exact⟨L,T,(UB (β := Unit) L 260 (fun _=>_)).from _ () X Y row M J hr,Z⟩)
  ?assign ?body ?done ?stop
 case assign=>
  rintro l ae x W K hJ z;have a1:=hJ;obtain⟨v,S,A,O,P,Q,B,j6⟩:=hJ;have aj:=A.lt;clear A O P Q j6
  gi_wp2
  exact z _ _ ((Eb _ _).from _) ((Ag _ W).alloc B.size _) ((LL.own (fun x:{ x // x∈E b }=>x.1) w tb f.heap.size G I (Dc p) w.heap.size (Aa _)).alloc _ a1) ⟨W.heap.size,aj,Jj W _ _,rfl⟩
 case body=>
  rintro l ae x a' W bs ⟨r,hr⟩ ⟨v,S,A,O,P,Q,B,j6⟩ ⟨L,br,bX,rfl⟩ aj;have bc:Tryz.prog.follows .mixedOrders=true:=by kernel_rfl
  have bg:S.length<(E b).length:=by rw[Q.1,A7];simpa using aj
  have au:=(Da HH).d;have av:=(au.en (Dc p) b hd x.1.1 x.1.2).1 x.2;have aV:x.1.1.size<=2000000:=by
   have T:=hG.nms _ av x.1.1 (by simp);simp only[DC,A8,AM]at T;have:=T.1.2;omega
  have HT:Hid (Cl 180 #[.pointer (some ⟨tb,0,none⟩),.string x.1.1,.agg #[.pointer x.1.2.p,.int .i64 x.1.2.f]] W.drew fun e w'=>∃y:En,e = .returned (.agg #[.string y.n,.bool y.d,.int .i64 y.s,.int .i64 y.l])/\KW G I (Dc p++[x.1.1]) x.1.1 x.1.2 (.agg #[.string y.n,.bool y.d,.int .i64 y.s,.int .i64 y.l])/\Bw W w'):=
   (TA W.drew tb rd V E vi G I C ((Da HH).below (B.trans ((Ag _ W).drew.mono B.size)) (Aa _)) hG an a0 (Da aX) x.1.1 aV (Dc p++[x.1.1]) x.1.2 (by
    rcases au.sub hd x.2 with bf|⟨b',bl,bk⟩
    ·exact .inr ⟨bf,_,av,rfl⟩
    ·exact .inl ⟨b',bl,bk⟩)).mono (fun e w' ⟨v,T,M,Z⟩=>by
     obtain⟨yb,yc,yd,rfl⟩:=PN M;exact⟨⟨x.1.1,yb,yc,yd⟩,T,M,(Ag _ W).drew.trans Z⟩)
  have ah:=A.lt;have ar:∀g,v.ownBlock=some g->∃R,FH W g 112 R:=fun g J=>P.type J
  have aT:v.ownBlock≠some f.heap.size:=fun e=>by
   obtain⟨R,N⟩:=ar _ e;have:=N.type A;revert this;decide
  have aW:Hid (∀(i:World) (y:En),Bw W i->KW G I (Dc p++[x.1.1]) x.1.1 x.1.2 (.agg #[.string y.n,.bool y.d,.int .i64 y.s,.int .i64 y.l])->
    ∃v' t,(Builtin.append_ #[99,99] 99 #[v,.slice (some ⟨i.heap.size,0,none⟩) 1 1]).run Tryz.prog (i.alloc (.cells #[.string y.n,.bool y.d,.int .i64 y.s,.int .i64 y.l] 112)) = .ok v' t/\∃a m c,v' = .slice a m c/\t.cell? ⟨f.heap.size,0,none⟩=some v/\t.frozen? ⟨f.heap.size,0,none⟩=false/\
     Hid (KeepsFrom q.heap.size W (t.setCell ⟨f.heap.size,0,none⟩ (.slice a m c))/\Below w.heap.size W (t.setCell ⟨f.heap.size,0,none⟩ (.slice a m c))/\LL w tb f.heap.size G I (Dc p) ((ae++[x]).map (fun x=>x.1)) (t.setCell ⟨f.heap.size,0,none⟩ (.slice a m c)))):=fun i y aa al=>by
   obtain⟨F,af⟩:=ex (i.alloc (.cells #[.string y.n,.bool y.d,.int .i64 y.s,.int .i64 y.l] 112));have bi:FH F i.heap.size 112 (IC y):=by rw[af];exact Jj i _ 112
   have ab:Bw W F:=by rw[af];exact aa.alloc aa.size _
   rw[<-af];clear af;have k1:FH F f.heap.size 99 [v]:=(ab.block _ ah).trans A;have k2:FH F w.heap.size 37 [.pointer (some ⟨tb,0,none⟩)]:=(ab.block _ O.lt).trans O;have k3:Sl F 112 4 v S.length (D8 S):=P.kept (fun k s _=>ab.block k s);obtain⟨v',t,r1,a,m,c,rfl,r2,r3,r4⟩:=LD F v S k3 (by omega) y i.heap.size bi;have q1:FH t f.heap.size 99 [v]:=(r3.block _ k1.lt (fun e=>aT e.symm)).trans k1;have q2:FH t w.heap.size 37 [.pointer (some ⟨tb,0,none⟩)]:=(r3.block _ k2.lt (fun e=>by
    obtain⟨R,N⟩:=ar _ e.symm;have:=N.type O;revert this;decide)).trans k2
   have a7:Below w.heap.size W F:=ab.mono B.size;have aK:Below w.heap.size W t:=a7.grown r3 (Ae B.size ab.size) (fun k e=>j6 k e);have be:(Value.slice a m c).ownBlock≠some f.heap.size:=fun e=>by
    obtain⟨R,N⟩:=r2.type e;have:=N.type q1;revert this;decide
   refine⟨_,t,r1,a,m,c,rfl,(q1.cell 0).trans rfl,q1.frozen 0,?_,aK.setCell (p:=⟨f.heap.size,0,none⟩) aQ _,.slice a m c,S++[y],q1.set 0 _,q2.setOther _ _ (fun e=>by
     have e':f.heap.size=w.heap.size:=e;rw[e']at q1;have:=q1.type q2;revert this;decide),r2.setCell _ _ be,?_,(B.trans aK).setCell (p:=⟨f.heap.size,0,none⟩) aQ _,fun g J=>(r4 g J).elim (j6 g) (fun h=>Ae (Ae B.size ab.size) h)⟩
   ·have kk:KeepsOthers F t:=⟨r3.size,fun k o s ho=>(r3.block k (Ah.1 s).1 (fun e=>by
     obtain⟨R,N⟩:=k3.type e.symm;rw[Nz N s]at ho;cases ho)).trans s⟩
    exact(((Wl ab).trans kk).trans (CA _ _ _)).from _
   ·rw[Bo];exact Q.snoc al
  have c9:W.cell? ⟨f.heap.size,0,none⟩=some v:=(A.cell 0).trans rfl;have c2:W.cell? ⟨w.heap.size,0,none⟩=some (.pointer (some ⟨tb,0,none⟩)):=(O.cell 0).trans rfl;have x0:W.cell? ⟨L,0,none⟩=some (.pointer x.1.2.p):=(bX.cell 0).trans rfl;have x1:W.cell? ⟨L,1,none⟩=some (.int .i64 x.1.2.f):=(bX.cell 1).trans rfl;have ax:Hid (∀i,Bw W i->i.cell? ⟨f.heap.size,0,none⟩=some v/\f.heap.size<i.heap.size):=fun i H=>⟨(H.cell (p:=⟨f.heap.size,0,none⟩) ah).trans c9,Ao ah H.size⟩
  have bq:=Db A;clear A O P Q B j6 bX ar aT ah au av aV bg hr aj
  gi_wp2
  refine wpIn_region_any bc ?_
  (try(change wpAnyIn _ _ _ _ _ _ _ _ _ (World.drew _)))
  repeat(first|exact AllReadyIn.nil|refine AllReadyIn.cons rfl (fun K z=>?_) ?_|(refine Zhs rfl 180 _ _ _ _ rfl _ _ _ ?_ ?_ ?_ ?_ (Da HT) ?_;(first|rfl|simp[Act.eval]);(first|rfl|simp[Act.eval]);(first|rfl|simp[Act.eval]);go_simp;rintro e i ⟨y,rfl,al,aa⟩;refine⟨_,rfl,z _ _ ?_⟩;clear z K;have m9:=(Da ax i aa).1;have ml:=(Da ax i aa).2;have bv:¬f.heap.size=i.heap.size:=(by omega);have bw:¬i.heap.size=f.heap.size:=(by omega);have aw:=Db (Da aW i y aa al);clear aa al)|(refine Zdz rfl _ _ 99 99 rfl _ _ ?_ ?_ (Da aw) ?_;(first|rfl|simp[Act.eval]);(first|rfl|simp[Act.eval]);rintro v5 t ⟨a5,m5,c5,rfl,z9,zf,HF⟩;refine z _ _ ?_;clear z K aw)|refine Bz (rs:=[4]) (by decide +kernel) (by simp) ?_|refine Bz (rs:=[5]) (by decide +kernel) (by simp) ?_|refine Bz (rs:=[6]) (by decide +kernel) (by simp) ?_|refine Bz (rs:=[7]) (by decide +kernel) (by simp) ?_|refine Bz (rs:=[0,4]) (by decide +kernel) (by simp) ?_|refine Bz (rs:=[0,5]) (by decide +kernel) (by simp) ?_|refine Bz (rs:=[0]) (by decide +kernel) (by simp) ?_|refine Bz (rs:=[1]) (by decide +kernel) (by simp) ?_|refine Bz (rs:=[2]) (by decide +kernel) (by simp) ?_|refine Bz (rs:=[3]) (by decide +kernel) (by simp) ?_|refine Bz (rs:=[0,1]) (by decide +kernel) (by simp) ?_|refine Bz (rs:=[0,2]) (by decide +kernel) (by simp) ?_|refine Bz (rs:=[0,3]) (by decide +kernel) (by simp) ?_|refine Bz (rs:=[1,2]) (by decide +kernel) (by simp) ?_|refine Bz (rs:=[1,3]) (by decide +kernel) (by simp) ?_|refine Bz (rs:=[2,3]) (by decide +kernel) (by simp) ?_|refine Bz (rs:=[0,1,2]) (by decide +kernel) (by simp) ?_|refine Bz (rs:=[0,1,3]) (by decide +kernel) (by simp) ?_|refine Bz (rs:=[0,2,3]) (by decide +kernel) (by simp) ?_|refine Bz (rs:=[1,2,3]) (by decide +kernel) (by simp) ?_|refine Bz (rs:=[0,1,2,3]) (by decide +kernel) (by simp) ?_|(refine wpAnyIn_done (by decide +kernel) ?_ _;exact Da HF)|(go_simp;refine z _ _ ?_;clear z K))
 case done=>
  rintro D ys W hD rfl ⟨v,S,A,O,P,Q,B,j6⟩ z;have c9:W.cell? ⟨f.heap.size,0,none⟩=some v:=(A.cell 0).trans rfl;rw[aI]at Q;obtain⟨a,m,c,rfl⟩:=P.shape;have ay:=Db P;have aY:=Db Q;clear A O P Q j6
  gi_wp2
  refine⟨by simp,.inl ⟨_,_,rfl,BS z,?_⟩⟩;refine⟨.tuple #[.slice a m c,.int .i64 0],?_,⟨a,m,c,S,rfl,(Da ay).kept (fun k s e=>?_),Da aY⟩,B.trans (Fx (w:=w) (Aa _) W D _ _ (by omega) z rfl rfl)⟩
  ·simp[results,Tryz.results120,go_sem]
  ·refine(Fl W D (.deferred none)).block k s (fun e'=>?_);obtain⟨R,N⟩:=(Da ay).type e
   cases e'
   have:=Nz N z
   cases this
 case stop=>
  rintro D c ae W _ _ h _;exact h.elim
end
theorem Zks(w:World)(tb v:Nat)(V:NV)(E:NS)(x:Value)(G:Gh)(I:LF)(C:IB)(h:TW w tb v V E x G I C)(z:F0 G)(A:G.length<=10000)(p:By)(B:p.size<=2000000)(g:GX G p≠0):
  Cl 120 #[.pointer (some ⟨tb,0,none⟩),.string p] w fun e w'=>e = .returned (.tuple #[.slice none 0 0,.int .i64 (GX G p)])/\Bw w w':=by
 have m:∀o,Bw w (w.alloc o):=fun o=>(Ag _ _).alloc (Aa _) o
 obtain⟨k,c⟩:=ex (GX G p);have r:Hid (∀o,Cl 177 #[.pointer (some ⟨tb,0,none⟩),.string p] (w.alloc o) fun e w'=>(e = .returned (.tuple #[DE,.int .i64 k])\/∃d n f,k=4/\e = .returned (.tuple #[Dn d n true ⟨none,f⟩,.int .i64 0]))/\Below (w.alloc o).heap.size (w.alloc o) w'):=fun o=>
  (PD (w.alloc o) tb v V E x G I C (h.below (m o) (Aa _)) z A p B).mono (fun e w' ⟨q,a⟩=>by
   refine⟨?_,a⟩;rcases q with⟨g,rfl⟩|⟨F,ab,d,n,u,D,rfl⟩
   ·left;rw[c];unfold GX;rw[if_pos g]
   ·have j:GX G p=if Dc p=[] then 0 else match FQ G (Dc p) with|none=>3|some u=>if u.p.isSome=true then 0 else 4:=by unfold GX;rw[if_neg (by rw[F];simp)]
    rcases Np h.d D with⟨e,_⟩|⟨_,y,l,i⟩|⟨_,b',l,i,b⟩
    ·cases e
    ·right;rw[if_neg y,l]at j;simp only[i]at j;refine⟨d,n,u.f,by rw[c,j];rfl,?_⟩;obtain⟨up,uf⟩:=u;simp only at i;subst i
     rfl
    ·exfalso;apply g;rw[j];rcases b with b|b
     ·rw[if_pos b]
     ·rw[b,l];simp)
 rw[<-c];have t:k≠0:=by rw[c];exact g
 have aa:(k != 0)=true:=by simpa using t
 clear h c g t;go_enter Tryz.func120,Tryz.ntmps120;go_wp2_with fail;refine(Da r _).mono ?_;rintro e w1 ⟨q,s⟩;have a:Bw w w1:=(m _).trans (s.mono (by simp));clear r m s;rcases q with rfl|⟨d,n,f,rfl,rfl⟩
 ·unfold DE Dn;go_wp2
  go_ret2
  exact⟨rfl,a.alloc a.size _⟩
 ·unfold Dn;go_wp2
  go_ret2
  exact⟨rfl,a.alloc a.size _⟩
theorem ZQ:Ta:=by
 intro vb tb R L F s l t;refine⟨(Jo L F s).1,(Jo L F s).2,?_,fun W y=>⟨?_,?_⟩⟩
 ·unfold Jo
  split
  ·simp
  ·split
   ·rw[A7];have:=Q1 L ⟨#[]⟩ L.length;have:=l.len;omega
   ·split
    ·simp
    ·split
     ·simp
     ·rw[A7];have:=Q1 L s L.length;have:=l.len;omega
 ·obtain⟨G,I,C,ρ,H,B,v,⟨m,V,E,D,k⟩,z,f,r⟩:=y;have aa:=f.lG;have ab:=f.lI;obtain⟨w,J,K⟩:=f.listE s;by_cases d:GX G s=0
  ·obtain⟨P,M⟩:=K d;have A:GB G s=0:=by
    unfold GX at d;by_cases h:GB G s≠0
    ·rw[if_pos h]at d;exact absurd d h
    ·simpa using h
   obtain⟨b,p,i⟩:∃b,FI G m (Dc s) b/\(Dc s=[]\/FQ G (Dc s)=some ⟨some ⟨b,0,none⟩,0⟩):=by
    by_cases j:Dc s=[]
    ·exact⟨m,.inl ⟨j,rfl⟩,.inl j⟩
    ·unfold GX at d;rw[if_neg (by rw[A];simp),if_neg j]at d
     cases i:FQ G (Dc s) with
     | none=>rw[i]at d;cases d
     | some u=>
      rw[i]at d;rcases k.d.shp _ (Ko i) with g|⟨b,g⟩
      ·simp only at g;simp only[g]at d
       cases d
      ·simp only at g;exact⟨b,.inr (by rw[<-g];exact Ko i),.inr (by rw[g])⟩
   have O:Ga (Dc s):=by
    by_cases j:Dc s=[]
    ·rw[j];intro n r;cases r
    ·exact(Kq P j).2
   refine(Lj W vb tb v s (Rm W G I (Dc s) (E b)) (fun e w' ⟨⟨a,n,c,N,q,_⟩,_⟩=>⟨a,n,c,0,q⟩) (Zkt W tb m V E D G I C k f.ok (by omega) (by omega) f.flOk s t A b p i)).mono ?_;rintro e w' ⟨⟨a,n,c,N,rfl,x,Q⟩,o⟩;have:=f.tellsE O (k.d.srt _ b p) (k.d.en _ b p) Q;rw[this]at x;rw[<-w,d,M];exact⟨⟨a,n,c,rfl,x⟩,o⟩
  ·refine(Lj W vb tb v s (fun e w'=>e = .returned (.tuple #[.slice none 0 0,.int .i64 (GX G s)])/\Bw W w') (fun e w' ⟨q,_⟩=>⟨none,0,0,_,q⟩) (Zks W tb m V E D G I C k f.ok (by omega) s t d)).mono ?_;rintro e w' ⟨rfl,o⟩;rw[J d,<-w];exact⟨⟨none,0,0,rfl,rfl,.inl ⟨rfl,rfl⟩⟩,o⟩
 ·obtain⟨G,I,C,ρ,H,B,v,ac,z,f,r⟩:=y;exact YY W R H B L F z.toFN l.fv (by have:=l.len;omega) s t
end Go.Proofs.YtaieidcohdhgpaaGreatDoor
