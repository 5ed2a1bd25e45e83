/- Dumps. -/
import Derived.Test.YtaieidcohdhgpaaGreatDoorZBC
namespace Go.Proofs.YtaieidcohdhgpaaGreatDoor
set_option maxHeartbeats 40000000
set_option maxRecDepth 100000
open Go.RowKit
def Lb(G:Gh)(I:LF)(p:By)(f:Nat):Prop:=Gz G p=0/\JP G (Dc p).dropLast=true/\∃r,((f:Int),r)∈I
def NY(w:World)(tb:Nat)(G:Gh)(I:LF)(C:IB)(p:By)(f:Nat)(e:Ending)(w':World):Prop:=
 (∃b:Bool,e = .returned (.bool b))/\Fr (D7 tb w) w w'/\(e = .returned (.bool true)->Gz G p=0/\JP G (Dc p).dropLast=true/\∃r I',((f:Int),r)∈I/\FX I I' (f:Int) ⟨r.a,r.l,r.c,r.f+1⟩/\PS w' tb (G++[(Dc p,⟨none,(f:Int)⟩)]) I' C)/\(e = .returned (.bool false)->¬Lb G I p f)
theorem Zjf(w:World)(tb:Nat)(G:Gh)(I:LF)(C:IB)(h:PS w tb G I C)(hG:F0 G)(aL:G.length<=9000)(aM:I.length<=9000)(ak:∀x∈I,0<=x.2.f/\x.2.f<=10000)(p:By)(hp:p.size<=2000000)(f:Nat)(A:OA)(D B:Nat):
  Cl 158 #[.pointer (some ⟨tb,0,none⟩),.agg #[.string p,.int .u8 3,.int .i64 (f:Nat),.slice A D B]] w (NY w tb G I C p f):=by
 obtain⟨rd,V,E,vi,h⟩:=h;obtain⟨W1,e1,x1,k1,s1,b1⟩:=De w [.string p,.int .u8 3,.int .i64 (f:Nat),.slice A D B] 141;have ag:∀{X},Bw w X->TW X tb rd V E vi G I C:=fun i=>h.below i (Aa _)
 have aQ:=h.t.lt;have aa:Hid (∀X,¬Lb G I p f->Bw w X->NY w tb G I C p f (.returned (.bool false)) X):=fun X hn hX=>⟨⟨false,rfl⟩,Fr.of_below hX,(fun e=>by cases e),fun _=>hn⟩
 have ax:=Db e1;have c0:=(x1.cell 0).trans (show _=some (Value.string p) from rfl);have aj:Hid (Cl 181 #[.pointer (some ⟨tb,0,none⟩),.string p] W1 fun e X=>∃(d:OA) (n:By) (S:Int),e = .returned (.tuple #[Dn d n false ⟨none,0⟩,.int .i64 S])/\∃Y,X.alloc (.cells (Ji d n false ⟨none,0⟩).toArray 262)=Y/\FH Y w.heap.size 141 [.string p,.int .u8 3,.int .i64 (f:Nat),.slice A D B]/\Hid (FH Y X.heap.size 262 (Ji d n false ⟨none,0⟩))/\Hid (Bw w Y/\w.heap.size+1<=X.heap.size/\Y.heap.size=X.heap.size+1)/\
   Hid (S=0->(∃r,((f:Int),r)∈I)->∀Z,Bw w Z->Cl 192 #[.pointer (some ⟨tb,0,none⟩),Dn d n false ⟨none,0⟩,.int .i64 (f:Nat)] Z fun e U=>∃x:Int,e = .returned (.int .i64 x)/\Hid (NY w tb G I C p f (.returned (.bool (x==0))) U))/\Hid (¬S=0->¬Lb G I p f)):=by
  refine(Nl W1 tb rd V E vi G I C (ag b1) hG (by omega) p hp).mono ?_;intro e X aw;have i:=aw.2;have aN:=i.size;have ai:Bw w X:=b1.trans (i.mono (by omega));have an:FH X w.heap.size 141 _:=(i.block _ x1.lt).trans x1;rcases aw.1 with⟨aq,rfl⟩|⟨h0,aG,ds,n,db,ah,aC,ap,rfl⟩
  ·obtain⟨Y,eY,xY,kY,sY,bY⟩:=De X (Ji none ⟨#[]⟩ false ⟨none,0⟩) 262;exact⟨none,⟨#[]⟩,_,rfl,Y,eY,kY _ _ _ an,xY,⟨ai.trans (bY.mono ai.size),by omega,sY⟩,(fun e0=>absurd e0 aq),fun _ t=>aq t.1⟩
  ·obtain⟨Y,eY,xY,kY,sY,bY⟩:=De X (Ji (some ⟨db,0,none⟩) n false ⟨none,0⟩) 262;refine⟨some ⟨db,0,none⟩,n,0,rfl,Y,eY,kY _ _ _ an,xY,⟨ai.trans (bY.mono ai.size),by omega,sY⟩,fun _ ⟨r,hr⟩ Z s=>?_,fun h=>absurd rfl h⟩;have av:(Dc p).dropLast=ds:=by rw[ah];simp
   have aK:=TS aG ah;rw[ah]at ap;refine(ZgF Z tb rd V E vi G I C (ag s) hG (by omega) (by omega) ds db aC n aK ap (f:Int) r hr (ak _ hr).1 (ak _ hr).2).mono ?_;rintro e U (⟨aF,rfl,ab⟩|⟨t,rfl,aE,V',E',I',q1,q2⟩)
   ·exact⟨8,rfl,Da aa _ (fun t=>by have:=t.2.1;rw[av,aF]at this;cases this) (s.trans (ab.mono s.size))⟩
   ·exact⟨0,rfl,⟨true,rfl⟩,Fr.prog s aE,fun _=>⟨h0,by rw[av];exact t,r,I',hr,q2,by rw[ah];exact⟨rd,V',E',vi,q1⟩⟩,fun e=>by cases e⟩
 have N:Hid (∀X,Bw w X->Cl 175 #[.pointer (some ⟨tb,1,none⟩),.int .i64 (f:Nat)] X fun e Y=>∃(a9:OA) (l9 c9:Nat) (f9:Int) (b:Bool),e = .returned (.tuple #[.agg #[.slice a9 l9 c9,.int .i64 f9],.bool b])/\Hid ((b=true->∃r,((f:Int),r)∈I)/\(b=false->¬ ∃r,((f:Int),r)∈I))/\Bw X Y):=fun X hX=>by
  have hT:=ag hX;refine(Lw X tb 1 vi I (f:Int) ((hT.t.cell 1).trans rfl) hT.i (by omega) hT.si).mono ?_;rintro e Y ⟨r,b,rfl,aD,i⟩;refine⟨r.a,r.l,r.c,r.f,b,rfl,?_,i⟩;rcases aD with⟨e8,t⟩|⟨e9,_,h9⟩
  ·exact⟨fun _=>⟨r,t⟩,fun e=>by rw[e8]at e;cases e⟩
  ·exact⟨fun e=>(by rw[e9]at e;cases e),fun _ ⟨r',aH⟩=>h9 _ aH rfl⟩
 clear e1 x1 k1 s1 b1 ag h hG ak;go_enter Tryz.func158,Tryz.ntmps158;go_upto_region 1 with fail;rw[show w.alloc (.cells #[.string p,.int .u8 3,.int .i64 (f:Nat),.slice A D B] 141)=W1 from Da ax];unfold Dn at aj;go_upto_region 2 with(go_at_call 181;refine(Da aj).mono ?_;rintro e X ⟨d,n,S,rfl,Y,hY,y1,az,am,F,al⟩;have HY:=Db hY;clear hY aj c0);rw[show X.alloc (.cells (Ji d n false ⟨none,0⟩).toArray 262)=Y from Da HY];have Q:=(y1.cell 2).trans (show _=some (Value.int .i64 (f:Nat)) from rfl);have R:=(y1.cell 3).trans (show _=some (Value.slice A D B) from rfl);have ay:=Db y1;clear y1;obtain⟨g,aI,aJ⟩:=Da am;have K:Hid (∀V,V.heap=Y.heap->V.os=Y.os->V.tape=Y.tape->V.output=Y.output->Bw w V):=fun V a b c d=>⟨b.trans g.os,c.trans g.tape,d.trans g.output,by rw[a];exact g.size,fun k m=>by rw[a];exact g.block k m⟩
 have J:Hid (∀V o,V.heap=(Y.alloc o).heap->V.os=Y.os->V.tape=Y.tape->V.output=Y.output->Bw w V):=fun V o a b c d=>by
  have P:=g.trans ((Ag w.heap.size Y).alloc g.size o);exact⟨b.trans g.os,c.trans g.tape,d.trans g.output,by rw[a];exact P.size,fun k m=>by rw[a];exact P.block k m⟩
 have L:Hid (∀V j,Bw V j->V.os=Y.os->V.tape=Y.tape->V.output=Y.output->(V.heap=Y.heap\/∃o,V.heap=(Y.alloc o).heap)->FH j w.heap.size 141 [.string p,.int .u8 3,.int .i64 (f:Nat),.slice A D B]/\FH j X.heap.size 262 (Ji d n false ⟨none,0⟩)/\Bw w j):=fun V j i ho ht hu hV=>by
  have P:=Da ay;have h5:=Da az;rcases hV with e|⟨o,e⟩
  ·have m:∀k,k<Y.heap.size->j.heap[k]?=Y.heap[k]? := fun k m=>(i.block k (by rw[e];exact m)).trans (by rw[e])
   have ac:=i.size;rw[e]at ac;exact⟨(m _ P.lt).trans P,(m _ h5.lt).trans h5,i.os.trans (ho.trans g.os),i.tape.trans (ht.trans g.tape),i.output.trans (hu.trans g.output),Ae g.size ac,fun k ae=>(m k (Ao ae g.size)).trans (g.block k ae)⟩
  ·have m:∀k,k<Y.heap.size->j.heap[k]?=Y.heap[k]? := fun k m=>(i.block k (by rw[e];simp;omega)).trans (by rw[e];exact BE Y o k m)
   have ac:=i.size;rw[e]at ac;simp at ac;exact⟨(m _ P.lt).trans P,(m _ h5.lt).trans h5,i.os.trans (ho.trans g.os),i.tape.trans (ht.trans g.tape),i.output.trans (hu.trans g.output),by have:=g.size;omega,fun k ae=>(m k (Ao ae g.size)).trans (g.block k ae)⟩
 have O:Hid (∀V j,Bw V j->V.heap=(Y.alloc (.cells #[.slice none 0 0,.int .i64 0] 217)).heap->FH j Y.heap.size 217 [.slice none 0 0,.int .i64 0]):=fun V j i e=>(i.block _ (by rw[e];simp)).trans (by rw[e];exact B2 Y _)
 have ar:¬Y.heap.size=w.heap.size:=by omega
 have au:¬Y.heap.size=X.heap.size:=by omega
 clear g aI aJ
 go_region_held3 (fun W=>W.cell? ⟨w.heap.size,2,none⟩=some (.int .i64 (f:Nat))) (go_keep) (first|(go_at_call 175;refine(Da N _ (by first|exact Da K _ rfl rfl rfl rfl|exact Da J _ _ rfl rfl rfl rfl)).mono ?_;rintro e j ⟨a9,l9,c9,f9,b9,rfl,af,ab⟩;have hz:=Da L _ j ab rfl rfl rfl (by first|exact .inl rfl|exact .inr ⟨_,rfl⟩);have T:=(hz.1.cell 2).trans (show _=some (Value.int .i64 (f:Nat)) from rfl);have aP:=hz.1.lt;have aO:=hz.2.1.lt;(try have zn:=Da O _ j ab rfl);(try have n0:=zn.cell 0);(try have n1:=zn.cell 1);(try have n2:=zn.frozen 0);(try have n3:=zn.frozen 1);have H:=Db hz;clear hz ab;(try clear zn)))
 ·obtain⟨Z,s⟩:∃Z,j.alloc (.cells #[.slice a9 l9 c9,.int .i64 f9] 217)=Z:=⟨_,rfl⟩;rw[s];have bZ:Bw j Z:=by rw[<-s];exact(Ag _ j).alloc (Aa _) _
  obtain⟨v,y,z⟩:=Da H;have u:FH Z w.heap.size 141 _:=(bZ.block _ v.lt).trans v;have l:FH Z X.heap.size 262 _:=(bZ.block _ y.lt).trans y;have q:Bw w Z:=z.trans (bZ.mono z.size);have c0:=l.cell 0;have c1:=l.cell 1;have aA:=l.cell 2;have aB:=l.cell 3;have c4:=l.cell 4;have d2:=(u.cell 2).trans (show _=some (Value.int .i64 (f:Nat)) from rfl);have d3:=(u.cell 3).trans (show _=some (Value.slice A D B) from rfl);by_cases ad:S=0
  ·cases b9
   ·have M:=Db (Da aa Z (fun t=>(Da af).2 rfl t.2.2) q);clear u l v y z q F H L O J K N Q R T;go_wp2;go_ret;exact Da M
   ·have HM:=Db (Da F ad ((Da af).1 rfl) Z q);clear u l v y z q F H L O J K N Q R T;go_wp2_with (go_at_call 192;refine(Da HM).mono ?_;rintro e U ⟨x,rfl,HP⟩);go_ret;exact Da HP
  ·have M:=Db (Da aa Z (Da al ad) q);clear u l v y z q F H L O J K N Q R T;go_wp2;go_ret;exact Da M
 ·obtain⟨Z,s⟩:∃Z,(j.setCell ⟨Y.heap.size,0,none⟩ (.slice a9 l9 c9)).setCell ⟨Y.heap.size,1,none⟩ (.int .i64 f9)=Z:=⟨_,rfl⟩;rw[s];obtain⟨v,y,z⟩:=Da H;have ao:w.heap.size<=Y.heap.size:=(Da am).1.size;have u:FH Z w.heap.size 141 [.string p,.int .u8 3,.int .i64 (f:Nat),.slice A D B]:=by rw[<-s];exact(AB _ _ _ _ (show w.heap.size≠Y.heap.size from fun e=>ar e.symm)).trans ((AB _ _ _ _ (show w.heap.size≠Y.heap.size from fun e=>ar e.symm)).trans v)
  have l:FH Z X.heap.size 262 (Ji d n false ⟨none,0⟩):=by rw[<-s];exact(AB _ _ _ _ (show X.heap.size≠Y.heap.size from fun e=>au e.symm)).trans ((AB _ _ _ _ (show X.heap.size≠Y.heap.size from fun e=>au e.symm)).trans y)
  have q:Bw w Z:=by rw[<-s];exact(z.setCell (p:=⟨Y.heap.size,0,none⟩) ao _).setCell (p:=⟨Y.heap.size,1,none⟩) ao _
  have c0:=l.cell 0;have c1:=l.cell 1;have aA:=l.cell 2;have aB:=l.cell 3;have c4:=l.cell 4;have d2:=(u.cell 2).trans (show _=some (Value.int .i64 (f:Nat)) from rfl);have d3:=(u.cell 3).trans (show _=some (Value.slice A D B) from rfl);by_cases ad:S=0
  ·cases b9
   ·have M:=Db (Da aa Z (fun t=>(Da af).2 rfl t.2.2) q);clear u l v y z q F H L O J K N Q R T;go_wp2;go_ret;exact Da M
   ·have HM:=Db (Da F ad ((Da af).1 rfl) Z q);clear u l v y z q F H L O J K N Q R T;go_wp2_with (go_at_call 192;refine(Da HM).mono ?_;rintro e U ⟨x,rfl,HP⟩);go_ret;exact Da HP
  ·have M:=Db (Da aa Z (Da al ad) q);clear u l v y z q F H L O J K N Q R T;go_wp2;go_ret;exact Da M
theorem Ud{G:Gh}(h:F0 G){p:By}(a:Gz G p=0)(u:VS):Df p=true/\Dc p≠[]/\FQ G (Dc p)=none/\F0 (G++[(Dc p,u)]):=by
 unfold Gz at a
 cases hp:Df p with
 | false=>rw[hp]at a;simp at a
 | true=>
  rw[if_neg (by rw[hp];simp)]at a;unfold DU at a;by_cases b:F8 G (Ds [] (Dc p))=0
  ·rw[if_neg (fun e=>e b)]at a;by_cases c:Dc p=[]\/(FQ G (Dc p)).isSome=true
   ·rw[if_pos c]at a;cases a
   ·have d:Dc p≠[]:=fun e=>c (.inl e)
    have f:FQ G (Dc p)=none:=by
     cases e:FQ G (Dc p) with
     | none=>rfl
     | some u=>exact absurd (.inr (by rw[e];rfl)) c
    refine⟨rfl,d,f,h.add (Qx hp (TV hp d)).2.1 d (QB hp) f (fun ds n e=>?_) u⟩;rw[e]at b;exact Ru b
  ·rw[if_pos b]at a;exact absurd a b
structure TG(G:Gh)(I:LF):Prop where
 ok:F0 G
 gl:G.length<=100
 nd:cD G []+I.length<=60
 rg:∀x∈I,0<=x.1/\x.1<60/\x.2.l<=1280/\0<x.2.f/\x.2.f<=G.length
 fl:∀x∈G,x.2.p=none->∃r,(x.2.f,r)∈I
 us:D4 (I.map (·.2.l))<=160
theorem Og{G:Gh}(h:F0 G){ns:LY}{u:VS}(a:F0 (G++[(ns,u)])):cD (G++[(ns,u)]) []=cD G []+(if u.p.isSome=true then 1 else 0):=by
 rw[OS h,OS a,Ck,Ce];exact(Eh _ _ _).symm
theorem Ph{G:Gh}{I:LF}{a:LY}(h:Ja G I a=true):G.length<100/\cD G []+I.length<60:=by
 unfold Ja at h;rw[AM]at h;exact⟨h.1.2,h.2⟩
theorem FX.use{I d:LF}{n:Int}{r a:VF}(h:FX I d n a)(D:F5 I)(z:(n,r)∈I)(A:a.l=r.l):D4 (d.map (·.2.l))=D4 (I.map (·.2.l)):=by
 have s:=D.nd;have E:∀y∈I,y.1=n->y=(n,r):=fun y l e=>by
  have:=Cg.1 s;rcases FA (y=(n,r)) with f|f
  ·exact f
  ·exfalso;obtain⟨i,p,g⟩:=List.mem_iff_getElem.1 l;obtain⟨j,q,c⟩:=List.mem_iff_getElem.1 z;have o:=BQ.1 this;rcases CQ i j with b|b|b
   ·exact o i j p q b (by rw[g,c,e])
   ·subst b;rw[g]at c;exact f c
   ·exact o j i q p b (by rw[g,c,e])
 have v:((I.map (fun x=>if x.1=n then (n,a) else x)).map (·.1))=I.map (·.1):=by
  rw[Ee];refine Cc (fun x _=>?_);show(if x.1=n then (n,a) else x).1=x.1
  split
  ·rename_i e;exact e.symm
  ·rfl
 have B:(I.map (fun x=>if x.1=n then (n,a) else x)).Nodup:=by
  have t:((I.map (fun x=>if x.1=n then (n,a) else x)).map (·.1)).Nodup:=by rw[v];exact s
  exact(Cg.1 t).imp (fun w e=>w (by rw[e]))
 have C:=PV _ d B (fun x k=>by
  obtain⟨y,l,rfl⟩:=A2.1 k;by_cases e:y.1=n
  ·rw[if_pos e];exact(h.2 _).2 (.inl rfl)
  ·rw[if_neg e];exact(h.2 _).2 (.inr ⟨l,e⟩)) (by rw[A7,h.1];exact Aa _)
 have u:(I.map (fun x=>if x.1=n then (n,a) else x)).map (·.2.l)=I.map (·.2.l):=by
  rw[Ee];refine Cc (fun x k=>?_);show(if x.1=n then (n,a) else x).2.l=x.2.l
  split
  ·rename_i e;rw[E x k e];exact A
  ·rfl
 have m:=C.map (·.2.l);rw[u]at m;unfold D4;exact((m.map _).sum_nat).symm
theorem TG.dir{G:Gh}{I:LF}(h:TG G I){p:By}(b:G2 G I p=0)(i:Nat):TG (G++[(Dc p,⟨some ⟨i,0,none⟩,0⟩)]) I:=by
 have g:Gz G p=0/\Ja G I (Dc p).dropLast=true:=by
  unfold G2 at b;unfold Gz
  split at b
  ·cases b
  ·rename_i n;rw[if_neg n]
   split at b
   ·rename_i d;exact absurd b d
   ·rename_i d
    split at b
    ·cases b
    ·rename_i o;exact⟨by omega,by cases e:Ja G I (Dc p).dropLast with|true=>rfl|false=>exact absurd e o⟩
 obtain⟨_,_,_,f⟩:=Ud h.ok g.1 ⟨some ⟨i,0,none⟩,0⟩;obtain⟨m1,m2⟩:=Ph g.2;refine⟨f,by rw[Ab,Bh];omega,?_,fun x a=>?_,fun x a c=>?_,h.us⟩
 ·rw[Og h.ok f];show cD G []+1+I.length<=60;omega
 ·obtain⟨j,k,l,m,a5⟩:=h.rg x a;rw[Ab,Bh];exact⟨j,k,l,m,by omega⟩
 ·rcases As.1 a with a|a
  ·exact h.fl x a c
  ·rw[Av.1 a]at c;cases c
theorem TG.file{G:Gh}{I:LF}(h:TG G I){p:By}(v:Gz G p=0)(w:Ja G I (Dc p).dropLast=true){f:Nat}(hf:f<60){o:OA}{e q:Nat}(t:e<=1280){c d:LF}(s:c.length=I.length+1)(g:∀x,x∈c↔x=((f:Int),⟨none,0,0,1⟩)\/x∈I)(b:FX c d (f:Int) ⟨o,e,q,1⟩)(A:D4 (d.map (·.2.l))<=160)(u:∀x∈I,x.1≠(f:Int)):TG (G++[(Dc p,⟨none,(f:Int)⟩)]) d:=by
 obtain⟨_,_,_,i⟩:=Ud h.ok v ⟨none,(f:Int)⟩;obtain⟨m1,m2⟩:=Ph w;refine⟨i,by rw[Ab,Bh];omega,?_,fun x a=>?_,fun x a z=>?_,A⟩
 ·rw[Og h.ok i,b.1,s];show cD G []+0+(I.length+1)<=60;omega
 ·rw[Ab,Bh];rcases (b.2 x).1 a with rfl|⟨B,y⟩
  ·exact⟨by show(0:Int)<=(f:Int);omega,by show(f:Int)<60;omega,t,by show(0:Int)<1;omega,by show(1:Int)<=_;omega⟩
  ·rcases (g x).1 B with rfl|C
   ·exact absurd rfl y
   ·obtain⟨k,l,m,n,a5⟩:=h.rg x C;exact⟨k,l,m,n,by omega⟩
 ·rcases As.1 a with a|a
  ·obtain⟨r,j⟩:=h.fl x a z;exact⟨r,(b.2 _).2 (.inr ⟨(g _).2 (.inr j),u _ j⟩)⟩
  ·rw[Av.1 a];exact⟨_,(b.2 _).2 (.inl rfl)⟩
theorem TG.link{G:Gh}{I:LF}(h:TG G I)(v:F5 I){p:By}(t:Gz G p=0)(l:JP G (Dc p).dropLast=true){f:Int}{r:VF}(q:(f,r)∈I){d:LF}(b:FX I d f ⟨r.a,r.l,r.c,r.f+1⟩):TG (G++[(Dc p,⟨none,f⟩)]) d:=by
 obtain⟨_,_,_,o⟩:=Ud h.ok t ⟨none,f⟩;have m1:G.length<100:=by
  unfold JP at l;rw[AM]at l;exact l.2
 refine⟨o,by rw[Ab,Bh];omega,?_,fun x a=>?_,fun x a u=>?_,by rw[b.use v q rfl];exact h.us⟩
 ·rw[Og h.ok o,b.1];exact h.nd
 ·rw[Ab,Bh];rcases (b.2 x).1 a with rfl|⟨w,aa⟩
  ·obtain⟨g,i,j,k,n⟩:=h.rg _ q;exact⟨g,i,j,by show 0<r.f+1;have:0<r.f:=k;omega,by show r.f+1<=_;have:r.f<=_:=n;omega⟩
  ·obtain⟨g,i,j,k,n⟩:=h.rg x w;exact⟨g,i,j,k,by omega⟩
 ·have s:∀c,(x.2.f,c)∈I->∃r,(x.2.f,r)∈d:=fun c m=>by
   by_cases e:x.2.f=f
   ·rw[e];exact⟨_,(b.2 _).2 (.inl rfl)⟩
   ·exact⟨c,(b.2 _).2 (.inr ⟨m,e⟩)⟩
  rcases As.1 a with a|a
  ·obtain⟨c,m⟩:=h.fl x a u;exact s c m
  ·rw[Av.1 a];exact⟨_,(b.2 _).2 (.inl rfl)⟩
theorem TG.none:TG [] []:=
 ⟨⟨fun _ a=>absurd a A4,fun _ a=>absurd a A4,fun _ a=>absurd a A4,EK,fun _ _ _ a=>absurd a A4⟩,Aw _,by show 1+0+0<=60;omega,fun _ a=>absurd a A4,fun _ a=>absurd a A4,Aw _⟩
def P2(G G':Gh)(I I':LF)(C C':IB)(p:By)(f dl:Nat)(s:By):Prop:=
 G'=G++[(Dc p,⟨none,(f:Int)⟩)]/\∃I1 da dc,I1.length=I.length+1/\(∀x,x∈I1↔x=((f:Int),⟨none,0,0,1⟩)\/x∈I)/\FX I1 I' (f:Int) ⟨da,dl,dc,1⟩/\C' f=s/\∀x∈I,C' x.1=C x.1
structure LR(kd:Nat)(G G':Gh)(I I':LF)(C C':IB)(p:By)(f dl:Nat)(s:By):Prop where
 kind:kd=1\/kd=2\/kd=3
 dir:kd=1->G2 G I p=0/\(∃nb:Nat,G'=G++[(Dc p,⟨some ⟨nb,0,none⟩,0⟩)])/\I'=I/\C'=C
 file:kd=2->P2 G G' I I' C C' p f dl s/\Gz G p=0/\Ja G I (Dc p).dropLast=true/\(∀x∈I,x.1≠(f:Int))/\dl<=1280
 link:kd=3->Gz G p=0/\JP G (Dc p).dropLast=true/\G'=G++[(Dc p,⟨none,(f:Int)⟩)]/\C'=C/\∃r,((f:Int),r)∈I/\FX I I' (f:Int) ⟨r.a,r.l,r.c,r.f+1⟩
structure LJ(kd:Nat)(G:Gh)(I:LF)(p:By)(f dl:Nat):Prop where
 kind:kd=1\/kd=2\/kd=3
 dir:kd=1->G2 G I p=0
 file:kd=2->Lc G I p f dl
 link:kd=3->Lb G I p f
def MR(w:World)(tb:Nat)(G:Gh)(I:LF)(C:IB)(p:By)(kd f dl:Nat)(s:By)(e:Ending)(w':World):Prop:=
 (∃b:Bool,e = .returned (.bool b))/\Fr (D7 tb w) w w'/\(e = .returned (.bool true)->∃G' I' C',PS w' tb G' I' C'/\TG G' I'/\LR kd G G' I I' C C' p f dl s)/\(e = .returned (.bool false)->¬LJ kd G I p f dl)
theorem Wu(w:World)(tb:Nat)(G:Gh)(I:LF)(C:IB)(h:PS w tb G I C)(c:TG G I)(p:By)(B:p.size<=2000000)(z f:Nat)(i:OA)(g j:Nat)(s:By)(Z:Sl w 5 1 (.slice i g j) g (Dd s)):
  Cl 97 #[.pointer (some ⟨tb,0,none⟩),.agg #[.string p,.int .u8 (z:Nat),.int .i64 (f:Nat),.slice i g j]] w (MR w tb G I C p z f g s):=by
 have ac:=c.gl;have ad:=c.nd;have D:∀W,Bw w W->PS W tb G I C:=fun W a=>by obtain⟨M,V,E,N,h⟩:=h;exact⟨M,V,E,N,h.below a (Aa _)⟩
 have ab:F5 I:=by obtain⟨M,V,E,N,h⟩:=h;exact h.si
 refine Wv w tb p z f i g j (MR w tb G I C p z f g s) (fun d W a=>?_) (fun d W a=>?_) (fun d W a=>?_) (fun h1 h2 h3 W a=>⟨⟨false,rfl⟩,Fr.of_below a,(fun e=>by cases e),fun _ e=>by have:=e.kind;omega⟩)
 ·refine(Zkp W tb G I C (D W a) c.ok (by omega) (by omega) p B).mono ?_;rintro e X ⟨rfl,q,o⟩;refine⟨_,rfl,⟨_,rfl⟩,Fr.prog a q,fun e=>?_,fun e t=>?_⟩
  ·rcases o with⟨aa,_⟩|⟨y,L,Y⟩
   ·have:(G2 G I p==0)=false:=by simpa using aa
    rw[this]at e;cases e
   ·exact⟨_,_,_,Y,c.dir y L,.inl d,fun _=>⟨y,⟨L,rfl⟩,rfl,rfl⟩,(fun e=>by omega),fun e=>by omega⟩
  ·have y:=t.dir d;rw[y]at e;cases e
 ·refine(Zjg W tb G I C (D W a) c.ok (by omega) (by omega) (fun x F=>by have:=(c.rg x F).2.2.1;omega) p B f i g j s (Z.kept (fun k d _=>a.block k d))).mono ?_;rintro e X ⟨⟨b,rfl⟩,q,o,A⟩;refine⟨b,rfl,⟨b,rfl⟩,Fr.prog a q,fun e=>?_,fun e t=>A e (t.file d)⟩;obtain⟨l,m,u,n,v,P,Q,C2,H,J,K,U,R,S,T⟩:=o e;exact⟨_,Q,C2,R,c.file l m u v H J K U n,.inr (.inl d),(fun e=>by omega),fun _=>⟨⟨rfl,P,i,j,H,J,K,S,T⟩,l,m,n,v⟩,fun e=>by omega⟩
 ·refine(Zjf W tb G I C (D W a) c.ok (by omega) (by omega) (fun x F=>by have:=c.rg x F;omega) p B f i g j).mono ?_;rintro e X ⟨⟨b,rfl⟩,q,o,A⟩;refine⟨b,rfl,⟨b,rfl⟩,Fr.prog a q,fun e=>?_,fun e t=>A e (t.link d)⟩;obtain⟨l,m,r,O,u,n,v⟩:=o e;exact⟨_,O,C,v,c.link ab l m u n,.inr (.inr d),(fun e=>by omega),(fun e=>by omega),fun _=>⟨l,m,rfl,rfl,r,u,n⟩⟩

section
variable{w w0:World}{n0 rb db tp tx:Nat}{q:NF}{va vt:Value}{vf vw ve:Value}{a:OA}{l c:Nat}{D:LY}
end



section
variable{w0:World}{n0 rb db tp tx:Nat}{q:NF}{va vt:Value}{W W':World}
end


def eS(s:By):By:=s.extract 1 s.size
def Wn(s:By):By:=(eS (eS (eS s))).extract (Jr (BL (Dt (eS (eS s)) 1))) (eS (eS (eS s))).size
def eP(last s:By):By:=last.extract 0 (Jr (BL (Dt (eS s) 1)))++Dt (eS (eS (eS s))) (Jr (BL (Dt (eS (eS s)) 1)))
def eL(s:By):Nat:=Jr (BL (Dt (eS (Wn s)) 2))


section
variable{D:LY}{R:NB}{N:Nat->Nat}{P X:Nat->Nat->Nat}{B:Nat}
end

def DY(G:Gh)(rd:Nat)(E:NS)(ns:LY):List Ek:=
 if ns=[] then (E rd).map JC else
 match FQ G ns with
 | some ⟨some ⟨b,_,_⟩,_⟩=>(E b).map JC
 | _=>[]
def IZ(I:LF)(n:Nat):Value:=
 match I.find? (fun x=>x.1==(n:Int)) with
 | some x => .slice x.2.a x.2.l x.2.c
 | none => .slice none 0 0
theorem F5.key{c:LF}(h:F5 c){x y:Int×VF}(f:x∈c)(g:y∈c)(e:x.1=y.1):x=y:=by
 obtain⟨i,d⟩:=CC.1 f;obtain⟨j,b⟩:=CC.1 g;rcases CQ i j with a|a|a
 ·have:=h i j x y a d b;rw[e,Qj]at this;cases this
 ·subst a;rw[d]at b;exact BG b
 ·have:=h j i y x a b d;rw[e,Qj]at this;cases this
theorem RI{I:LF}(h:F5 I){n:Nat}{r:VF}(b:((n:Int),r)∈I):IZ I n = .slice r.a r.l r.c:=by
 unfold IZ
 cases e:I.find? (fun x=>x.1==(n:Int)) with
 | none=>
  have:=Ex.1 e _ b;simp at this
 | some x=>
  have a:=Fp e;simp only[CE]at a;have:=h.key (CB e) b a;rw[this]
theorem TW.wk{w:World}{tb rd:Nat}{V:NV}{E:NS}{vi:Value}{G:Gh}{I:LF}{CI:IB}(h:TW w tb rd V E vi G I CI)(c:F0 G)(e:G.length<=10000)(l:I.length<=10000)(i:∀x∈G,x.2.p=none->∃(n:Nat) (r:VF),x.2.f=n/\n<60/\((n:Int),r)∈I):I4 w tb rd V E vi G I CI (DY G rd E) (IZ I):=by
 refine⟨h,c,e,l,fun ns b a=>?_,fun x k j=>?_⟩
 ·unfold DY;rcases a with⟨rfl,rfl⟩|a
  ·rw[if_pos rfl]
  ·rw[if_neg (c.ne _ a),Ut c.nd a]
 ·obtain⟨n,r,f,g,d⟩:=i x k j;exact⟨n,r,f,g,d,RI h.si d⟩
theorem Sz{α : Type}:∀(J K:List α),J.Nodup->(∀x∈J,x∈K)->J.length<=K.length
 | [],K,_,_=>Aw _
 | a::J,K,hnd,hs=>by
  rw[Cx]at hnd;obtain⟨s,t,rfl⟩:=Fz (hs a (by simp));have ih:=Sz J (s++t) hnd.2 (fun x b=>by
   rcases As.1 (hs x (by simp[b])) with h|h
   ·exact BM _ h
   ·rcases AG.1 h with rfl|h
    ·exact absurd b hnd.1
    ·exact Cb _ h)
  simp only[Ab,Af]at ih ⊢;omega
section
variable{w:World}{tb rd:Nat}{V:NV}{E:NS}{vi:Value}{G:Gh}{I:LF}{CI:IB}
end
structure Hk(S S':FJ)(L:List It):Prop where
 mono:∀n,S n=true->S' n=true
 kind:∀y∈L,y.k=1\/y.k=2\/y.k=3
 told:∀y∈L,y.k=2->S y.f=false/\S' y.f=true
 fresh:L.Pairwise (fun x y=>x.k=2->y.k=2->x.f≠y.f)
theorem Hk.nil(S:FJ):Hk S S []:=⟨fun _ h=>h,fun _ h=>absurd h A4,fun _ h=>absurd h A4,List.Pairwise.nil⟩
theorem Hk.app{S f g:FJ}{A B:List It}(h:Hk S f A)(k:Hk f g B):Hk S g (A++B):=by
 refine⟨fun n l=>k.mono n (h.mono n l),fun y a=>?_,fun y a c=>?_,List.pairwise_append.2 ⟨h.fresh,k.fresh,fun x m y a d b e=>?_⟩⟩
 ·exact(As.1 a).elim (h.kind y) (k.kind y)
 ·rcases As.1 a with e|e
  ·exact⟨(h.told y e c).1,k.mono _ (h.told y e c).2⟩
  ·refine⟨?_,(k.told y e c).2⟩
   cases hs:S y.f with
   | false=>rfl
   | true=>
    have d:=h.mono _ hs;have b:=(k.told y e c).1;rw[d]at b;cases b
 ·have i:=(h.told x m d).2;have j:=(k.told y a b).1;rw[e,j]at i;cases i
theorem Hk.stp{c:LY->FJ->List It×FJ}(g:∀ns S,Hk S (c ns S).2 (c ns S).1)(ns:LY)(S:FJ)(x:Ek):Hk S (Gd c ns S x).2 (Gd c ns S x).1:=by
 unfold Go.Proofs.YtaieidcohdhgpaaGreatDoor.Gd
 split
 ·have h:=g (ns++[x.1]) S;have d:Hk S S [⟨ns++[x.1],1,0⟩]:=⟨fun _ h=>h,fun y a=>by rw[Av.1 a];exact .inl rfl,fun y a b=>by (rw[Av.1 a]at b;cases b),CK _ _⟩;exact d.app h
 ·rename_i f _
  split
  ·exact⟨fun _ h=>h,fun y a=>by rw[Av.1 a];exact .inr (.inr rfl),fun y a b=>by (rw[Av.1 a]at b;cases b),CK _ _⟩
  ·rename_i i;refine⟨fun n e=>?_,fun y a=>by rw[Av.1 a];exact .inr (.inl rfl),fun y a b=>?_,CK _ _⟩
   ·show(if n=f then true else S n)=true
    split
    ·rfl
    ·exact e
   ·rw[Av.1 a];exact⟨by simpa using i,by show(if f=f then true else S f)=true;rw[if_pos rfl]⟩
theorem Hk.itL{a:LY->FJ->List It×FJ}(b:∀ns S,Hk S (a ns S).2 (a ns S).1)(ns:LY):∀(l:List Ek) (S:FJ),Hk S (FU a ns l S).2 (FU a ns l S).1
 | [],S=>Hk.nil S
 | x::l,S=>(Hk.stp b ns S x).app (Hk.itL b ns l _)
theorem OK(ch:LY->List Ek):∀(d:Nat) (ns:LY) (S:FJ),Hk S (Dk ch d ns S).2 (Dk ch d ns S).1
 | 0,_,S=>Hk.nil S
 | d+1,ns,S=>Hk.itL (OK ch d) ns (ch ns) S
theorem ZkW(ch:LY->List Ek)(i j:Nat)(x y:It)(d:i<j)(f:(Dg ch)[i]?=some x)(g:(Dg ch)[j]?=some y)(a:x.k=2)(b:y.k=2):x.f≠y.f:=by
 obtain⟨c,rfl⟩:=Ad.1 f;obtain⟨e,rfl⟩:=Ad.1 g;exact BQ.1 (OK ch 7 [] (fun _=>false)).fresh i j c e d a b
theorem Tj(ch:LY->List Ek):∀x∈Dg ch,x.k=1\/x.k=2\/x.k=3:=(OK ch 7 [] (fun _=>false)).kind
def Le(R:LY->Prop)(ch:LY->List Ek)(y:It):Prop:=
 ∃ds x,R ds/\x∈ch ds/\y.ns=ds++[x.1]/\((x.2=none/\y.k=1/\y.f=0)\/(x.2=some y.f/\(y.k=2\/y.k=3)))
theorem Of{R:LY->Prop}{ch:LY->List Ek}{c:LY->FJ->List It×FJ}(h:∀ns S,R ns->∀y∈(c ns S).1,Le R ch y)(g:∀ns x,R ns->x∈ch ns->x.2=none->R (ns++[x.1])){ns:LY}(b:R ns):∀(l:List Ek) (S:FJ),(∀x∈l,x∈ch ns)->∀y∈(FU c ns l S).1,Le R ch y
 | [],S,_,y,hy=>absurd hy A4
 | x::l,S,hl,y,hy=>by
  have d:=hl x Bp;rcases As.1 (show y∈(Gd c ns S x).1++(FU c ns l (Gd c ns S x).2).1 from hy) with e|e
  ·unfold Gd at e
   split at e
   ·rename_i a;rcases AG.1 e with rfl|e
    ·exact⟨ns,x,b,d,rfl,.inl ⟨a,rfl,rfl⟩⟩
    ·exact h _ S (g ns x b d a) y e
   ·rename_i f a
    split at e
    ·rw[Av.1 e];exact⟨ns,x,b,d,rfl,.inr ⟨a,.inr rfl⟩⟩
    ·rw[Av.1 e];exact⟨ns,x,b,d,rfl,.inr ⟨a,.inl rfl⟩⟩
  ·exact Of h g b l _ (fun z i=>hl z (AA _ i)) y e
theorem QT{R:LY->Prop}{ch:LY->List Ek}(a:∀ns x,R ns->x∈ch ns->x.2=none->R (ns++[x.1])):∀(d:Nat) (ns:LY) (S:FJ),R ns->∀y∈(Dk ch d ns S).1,Le R ch y
 | 0,_,_,_,_,hy=>absurd hy A4
 | d+1,ns,S,hn,y,hy=>Of (QT a d) a hn (ch ns) S (fun _ h=>h) y hy
structure PZ(ns:LY)(L:List It):Prop where
 pre:∀y∈L,∃t,t≠[]/\y.ns=ns++t
 nd:L.Pairwise (fun x y=>x.ns≠y.ns)
theorem stp_n{b:LY->FJ->List It×FJ}(f:∀ns S,PZ ns (b ns S).1)(ns:LY)(S:FJ)(x:Ek):(∀y∈(Gd b ns S x).1,∃t,y.ns=ns++x.1::t)/\(Gd b ns S x).1.Pairwise (fun x y=>x.ns≠y.ns):=by
 unfold Gd
 split
 ·have h:=f (ns++[x.1]) S;refine⟨fun y a=>?_,CG.2 ⟨fun y a e=>?_,h.nd⟩⟩
  ·rcases AG.1 a with rfl|a
   ·exact⟨[],rfl⟩
   ·obtain⟨t,_,e⟩:=h.pre y a;exact⟨t,by rw[e,AC];rfl⟩
  ·obtain⟨t,g,d⟩:=h.pre y a;have c:ns++[x.1]=y.ns:=e;rw[d]at c;have e4:(ns++[x.1]).length=(ns++[x.1]).length+t.length:=by rw[<-Ab];exact C1 List.length c
   exact g (Ak (by omega))
 ·split
  ·exact⟨fun y a=>⟨[],by rw[Av.1 a]⟩,CK _ _⟩
  ·exact⟨fun y a=>⟨[],by rw[Av.1 a]⟩,CK _ _⟩
theorem itL_n{a:LY->FJ->List It×FJ}(i:∀ns S,PZ ns (a ns S).1)(ns:LY):∀(l:List Ek) (S:FJ),l.Pairwise (fun x y=>x.1≠y.1)->(∀y∈(FU a ns l S).1,∃x∈l,∃t,y.ns=ns++x.1::t)/\(FU a ns l S).1.Pairwise (fun x y=>x.ns≠y.ns)
 | [],S,_=>⟨fun _ h=>absurd h A4,List.Pairwise.nil⟩
 | x::l,S,hl=>by
  obtain⟨p,n⟩:=CG.1 hl;obtain⟨f,j⟩:=stp_n i ns S x;obtain⟨g,k⟩:=itL_n i ns l (Gd a ns S x).2 n;refine⟨fun y c=>?_,List.pairwise_append.2 ⟨j,k,fun y c z d e=>?_⟩⟩
  ·rcases As.1 (show y∈(Gd a ns S x).1++(FU a ns l (Gd a ns S x).2).1 from c) with e|e
   ·obtain⟨t,b⟩:=f y e;exact⟨x,Bp,t,b⟩
   ·obtain⟨z,d,t,b⟩:=g y e;exact⟨z,AA _ d,t,b⟩
  ·obtain⟨t,b⟩:=f y c;obtain⟨r,q,t2,o⟩:=g z d;rw[b,o]at e;have m:=E6 e;injection m with e3 _;exact p r q e3
theorem Sn(ch:LY->List Ek)(a:∀ns,(ch ns).Pairwise (fun x y=>x.1≠y.1)):∀(d:Nat) (ns:LY) (S:FJ),PZ ns (Dk ch d ns S).1
 | 0,_,_=>⟨fun _ h=>absurd h A4,List.Pairwise.nil⟩
 | d+1,ns,S=>by
  obtain⟨b,c⟩:=itL_n (Sn ch a d) ns (ch ns) S (a ns);refine⟨fun y f=>?_,c⟩;obtain⟨x,_,t,e⟩:=b y f;exact⟨x.1::t,by simp,e⟩
theorem RJ(ch:LY->List Ek)(a:∀ns,(ch ns).Pairwise (fun x y=>x.1≠y.1)):((Dg ch).map (·.ns)).Nodup:=Cg.2 (Sn ch a 7 [] (fun _=>false)).nd
section
variable{w:World}{tb rd:Nat}{V:NV}{E:NS}{vi:Value}{G:Gh}{I:LF}{CI:IB}
theorem Uj(d:TW w tb rd V E vi G I CI)(_:F0 G)(ns:LY):DY G rd E ns=[]\/∃b,FI G rd ns b/\DY G rd E ns=(E b).map JC:=by
 by_cases a:ns=[]
 ·exact .inr ⟨rd,.inl ⟨a,rfl⟩,by unfold DY;rw[if_pos a]⟩
 ·cases e:FQ G ns with
  | none=>exact .inl (by unfold DY;rw[if_neg a,e])
  | some u=>
   have c:=Ko e;rcases d.d.shp _ c with h|⟨b,f⟩
   ·refine .inl ?_;unfold DY;rw[if_neg a,e];obtain⟨up,uf⟩:=u;have i:up=none:=h;subst i;rfl
   ·have g:u=⟨some ⟨b,0,none⟩,0⟩:=f;subst g;exact .inr ⟨b,.inr c,by unfold DY;rw[if_neg a,e]⟩
theorem UW(f:TW w tb rd V E vi G I CI)(h:TG G I):I6 w tb rd V E vi G I CI (DY G rd E) (IZ I) (fun n=>CI (n:Int)):=by
 have ac:=h.gl;have ad:=h.nd;have A:∀x∈G,x.2.p=none->∃(n:Nat) (r:VF),x.2.f=n/\n<60/\((n:Int),r)∈I:=fun x c i=>by
  obtain⟨r,j⟩:=h.fl x c i;obtain⟨L,N,_⟩:=h.rg _ j;have M:0<=x.2.f:=L;have aa:x.2.f<60:=N;exact⟨x.2.f.toNat,r,by omega,by omega,by rw[Int.toNat_of_nonneg M];exact j⟩
 have U:∀ns,(DY G rd E ns).Pairwise (fun x y=>x.1≠y.1):=fun ns=>by
  rcases Uj f h.ok ns with e|⟨b,l,e⟩
  ·rw[e];exact List.Pairwise.nil
  ·rw[e,Cg];exact Cg.1 (f.d.srt ns b l).nodup
 have q:∀y∈Dg (DY G rd E),∃v:VS,(y.ns,v)∈G/\(y.k=1/\y.f=0\/v.p=none/\y.f=v.f.toNat):=fun y d=>by
  obtain⟨C,x,⟨b,Q⟩,c,X,Y⟩:=QT (R:=fun ns=>∃b,FI G rd ns b) (ch:=DY G rd E) (fun ns x ⟨b,Q⟩ c D=>by
   rcases Uj f h.ok ns with e|⟨s,l,e⟩
   ·rw[e]at c;exact absurd c A4
   ·rw[e]at c;obtain⟨z,B,rfl⟩:=A2.1 c;have m:=(f.d.en ns s l z.1 z.2).1 B;rcases f.d.shp _ m with i|⟨O,S⟩
    ·have W:z.2.p=none:=i;have:(JC z).2=some z.2.f.toNat:=by unfold JC;rw[W];rfl
     rw[this]at D;cases D
    ·refine⟨O,.inr ?_⟩;have T:z.2=_:=S;rw[T]at m;exact m) 7 [] (fun _=>false) ⟨rd,.inl ⟨rfl,rfl⟩⟩ y d
  rcases Uj f h.ok C with e|⟨s,l,e⟩
  ·rw[e]at c;exact absurd c A4
  ·rw[e]at c;obtain⟨z,B,rfl⟩:=A2.1 c;have m:=(f.d.en C s l z.1 z.2).1 B;refine⟨z.2,by rw[X];exact m,?_⟩;rcases Y with⟨_,K,P⟩|⟨o,_⟩
   ·exact .inl ⟨K,P⟩
   ·refine .inr ?_;unfold JC at o
    cases i:z.2.p with
    | none=>rw[i]at o;exact⟨rfl,(BG o).symm⟩
    | some a=>rw[i]at o;cases o
 have J:∀y∈Dg (DY G rd E),y.k=2->∃r:VF,((y.f:Int),r)∈I:=fun y d p=>by
  obtain⟨v,k,⟨K,_⟩|⟨i,H⟩⟩:=q y d
  ·omega
  ·obtain⟨n,r,g,_,F⟩:=A _ k i;have t:v.f=n:=g;exact⟨r,by rw[H,t];exact F⟩
 refine⟨f.wk h.ok (by omega) (by omega) A,⟨?_,Tj _,fun y d=>?_,fun y d=>?_,fun y d p=>?_,ZkW _⟩,fun y d p=>?_⟩
 ·have:=Sz ((Dg (DY G rd E)).map (·.ns)) (G.map (·.1)) (RJ _ U) (fun x c=>by
   obtain⟨y,d,rfl⟩:=A2.1 c;obtain⟨v,k,_⟩:=q y d;exact A2.2 ⟨_,k,rfl⟩)
  rw[A7,A7]at this;omega
 ·obtain⟨v,k,_⟩:=q y d;have g:=QD y.ns (h.ok.nms _ k);have u:y.ns.length<=6:=h.ok.le _ k;omega
 ·obtain⟨v,k,⟨_,f0⟩|⟨i,H⟩⟩:=q y d
  ·omega
  ·obtain⟨n,r,g,u,_⟩:=A _ k i;have t:v.f=n:=g;omega
 ·obtain⟨r,j⟩:=J y d p;have g:=(f.dat _ j).1;have u:=(h.rg _ j).2.2.1;rw[Dj]at g;show(CI (y.f:Int)).size<=1280;have t:(CI (y.f:Int)).size=r.l:=by
   have F:(CI (y.f:Int)).size=r.l*1:=by first|exact g|exact g.symm|(rw[Ci];exact g)|(rw[Ci];exact g.symm)
   omega
  have ab:r.l<=1280:=u;omega
 ·obtain⟨r,j⟩:=J y d p;exact⟨r.a,r.l,r.c,RI f.si j,f.dat _ j⟩
end
open Go.RowKit Go.Maps
def Iv(D:DH):Prop:=IsMap D/\∀k,∃n:Nat,Iq D k=(n:Int)
theorem Iv.nil:Iv (.map []):=⟨isMap_empty,fun _=>⟨0,rfl⟩⟩
theorem Iv.put{D:DH}(h:Iv D)(p:List UInt8)(n:Nat):Iv (D.put (DM p) (.lit (.int .i64 (n:Int)))):=by
 refine⟨h.1.put _ _,fun k=>?_⟩;by_cases e:k=p
 ·subst e;refine⟨n,?_⟩;unfold Iq;rw[atKey_put_same h.1 (by simp[WideAt.IsKeyLit,DM])]
 ·obtain⟨m,b⟩:=h.2 k;refine⟨m,?_⟩;unfold Iq at b ⊢;rw[atKey_put_other (fun a=>e (by unfold DM at a;injection a))];exact b
theorem Iv.rd{D b:DH}(h:Iv D){rest p d r:List UInt8}{c:Nat}{nm:Int}(a:G1 rest D=some (c,p,nm,d,r,b)):Iv b/\∃n:Nat,nm=(n:Int):=by
 unfold G1 at a
 split at a
 ·dsimp only at a
  split at a
  ·cases a;exact⟨h,0,rfl⟩
  ·split at a
   ·rw[BJ]at a;obtain⟨x,_,e⟩:=a
    cases e
    exact⟨h.put _ _,_,rfl⟩
   ·split at a
    ·split at a
     ·cases a;exact⟨h,h.2 _⟩
     ·cases a
    ·cases a
 ·cases a
structure LH(T:List UInt8->DH->Gh->LF->(IB)->Prop)(A:Prop)(text:List UInt8):Prop where
 head:A->∃r,text=[115,105,108,116,10]++r
 start:∀r,text=[115,105,108,116,10]++r->T r (.map []) [] [] (fun _=>⟨#[]⟩)
 step:∀r D G I C,T r D G I C->TG G I->∀kd p f d r' D' G' I' C',G1 r D=some (kd,p,((f:Nat):Int),d,r',D')->LR kd G G' I I' C C' (ba p) f d.length (ba d)->TG G' I'->(I'.map (·.1)).Nodup->T r' D' G' I' C'
 go:A->∀r D G I C,T r D G I C->TG G I->r≠[]->∃kd p f d r' D',G1 r D=some (kd,p,((f:Nat):Int),d,r',D')/\LJ kd G I (ba p) f d.length
 stop:A->∀D G I C,T [] D G I C->TG G I->∀w tb rd V E vi,TW w tb rd V E vi G I C->(Gb (fun n=>C (n:Int)) (Dg (DY G rd E))).1=text
def Q5(T:List UInt8->DH->Gh->LF->(IB)->Prop)(A:Prop)(text:List UInt8)(w:World)(e:Ending)(w':World):Prop:=
 (e = .returned (.tuple #[.pointer none,.bool false])/\¬A\/∃tb G I C D,e = .returned (.tuple #[.pointer (some ⟨tb,0,none⟩),.bool true])/\PS w' tb G I C/\TG G I/\T [] D G I C/\w.heap.size<tb/\∃X rd V E vi,TW X tb rd V E vi G I C/\(Gb (fun n=>C (n:Int)) (Dg (DY G rd E))).1=text)/\Bw w w'
structure ML(T:List UInt8->DH->Gh->LF->(IB)->Prop)(A:Prop)(w:World)(rb mb tb:Nat)(rest:List UInt8)(X:World):Prop where
 rg:∃D K,GG rb mb rest D K X/\Iv D/\∃G I C,PS X tb G I C/\TG G I/\T rest D G I C
 bel:Bw w X
 lo:w.heap.size<=mb/\w.heap.size<=rb/\rb+1<tb/\mb+1<tb/\tb<X.heap.size
theorem Tl{b:Nat}{c w w':World}(h:Below b c w){X:Nat->Prop}(a:Fr X w w')(d:∀k,X k->b<=k)(hn:b<=c.heap.size):Below b c w':=
 ⟨a.os.trans h.os,a.tape.trans h.tape,a.output.trans h.output,Ae h.size a.size,fun k f=>(a.block k (by have:=h.size;omega) (fun e=>by have:=d k e;omega)).trans (h.block k f)⟩
section
variable{T:List UInt8->DH->Gh->LF->(IB)->Prop}{A:Prop}{w:World}{rb mb tb:Nat}{rest text:List UInt8}{X:World}
theorem ML.item(h:ML T A w rb mb tb rest X)(J:LH T A text)(af:rest≠[])(h4:4<=w.heap.size):
  Cl 96 #[.pointer (some ⟨rb,0,none⟩)] X fun e Y=>∃(s:By) (i:Nat) (nm:Int) (a:OA) (l c:Nat) (u:Bool),e = .returned (.tuple #[.agg #[.string s,.int .u8 i,.int .i64 nm,.slice a l c],.bool u])/\(∃Z,Y.alloc (.cells #[.string s,.int .u8 i,.int .i64 nm,.slice a l c] 141)=Z/\FH Z Y.heap.size 141 [.string s,.int .u8 i,.int .i64 nm,.slice a l c]/\Hid (u=false->¬A/\Bw w Z)/\
   Hid (u=true->Cl 97 #[.pointer (some ⟨tb,0,none⟩),.agg #[.string s,.int .u8 i,.int .i64 nm,.slice a l c]] Z fun e U=>∃b:Bool,e = .returned (.bool b)/\Hid (b=false->¬A/\Bw w U)/\Hid (b=true->∃r,ML T A w rb mb tb r U/\r.length<rest.length))):=by
 obtain⟨D,K,O,ak,G,I,C,am,y,H⟩:=h.rg;obtain⟨ap,aq,ar,au,aB⟩:=h.lo;have hb:=h.bel;refine(Xm O (by omega)).mono ?_;rintro e Y ⟨s,i,nm,a,l,c,u,rfl,N,hn,hy⟩;obtain⟨Z,eZ,xZ,kZ,sZ,v⟩:=De Y [.string s,.int .u8 i,.int .i64 nm,.slice a l c] 141;have ad:Bw w Y:=Tl hb N (fun k e=>by omega) (Aa _);have ae:Bw w Z:=ad.trans (v.mono ad.size);have ax:=N.size;refine⟨s,i,nm,a,l,c,u,rfl,Z,eZ,xZ,fun e=>⟨fun M=>?_,ae⟩,fun e=>?_⟩
 ·obtain⟨i,p,f,d,r',F,o,_⟩:=J.go M _ _ _ _ _ H y af;rw[hn e]at o;cases o
 ·obtain⟨p,d,r,F,S,P,rfl,q3,q4,q5,q6⟩:=hy e;obtain⟨al,n,rfl⟩:=ak.rd P;have an:PS Y tb G I C:=by
   obtain⟨z,V,E,B,m⟩:=am;refine⟨z,V,E,B,m.fr N (by omega) (fun k t R e q=>?_)⟩;rcases e with e|e
   ·subst e;have:=q.type O.row;subst this;decide
   ·subst e;obtain⟨es,cl,ai,_⟩:=O.map;unfold FH at q;rw[ai]at q;cases q
  have ao:PS Z tb G I C:=by obtain⟨z,V,E,B,m⟩:=an;exact⟨z,V,E,B,m.below v (Aa _)⟩
  have x:l=(ba d).size:=by
   rcases q4.1.2 with⟨e,e2⟩|⟨g,aw,L,e,_⟩
   ·cases e;omega
   ·cases e;rfl
  have hS:Sl Z 5 1 (.slice a l c) l (Dd (ba d)):=by
   have:=q4.1.kept (fun j hj _=>v.block j hj);rw[x];rw[x]at this;exact this
  refine(Wu Z tb G I C ao y (ba p) (by rw[DR];exact q6) i n a l c (ba d) hS).mono ?_;rintro e U ⟨⟨b,rfl⟩,Q,ag,ah⟩;have ac:Bw w U:=Tl ae Q (fun k ⟨_,e⟩=>by omega) (Aa _);have az:=Q.size;refine⟨b,rfl,fun e=>⟨fun M=>?_,ac⟩,fun e=>?_⟩
  ·obtain⟨aA,p',f,d',r',av,o,h2⟩:=J.go M _ _ _ _ _ H y af;rw[P]at o
   cases o
   exact ah (by rw[e]) (by rw[x,DR];exact h2)
  ·obtain⟨G',I',C',aa,ab,W⟩:=ag (by rw[e]);have aj:GG rb mb r F S U:=by
    refine(q3.below v).fr Q (fun ⟨⟨t,R,q,m⟩,hk⟩=>by omega) (fun ⟨_,hk⟩=>by omega) (fun k hk ⟨_,ay⟩=>by omega)
   refine⟨r,⟨⟨F,S,aj,al,G',I',C',aa,ab,?_⟩,ac,ap,aq,ar,au,by omega⟩,q5⟩;rw[x,DR]at W;exact J.step _ _ _ _ _ H y _ _ _ _ _ _ _ _ _ P W ab (by obtain⟨z,V,E,B,m⟩:=aa;exact m.si.nd)
end
def JK:List UInt8:=[115,105,108,116,10]
theorem read_rd (w : World) (hp : Gk w) (he : GH w) (n0 : Nat) (hn0 : n0 ≤ w.heap.size) (htab : Lib.TabBelow Tryz.prog n0 w "internal/strconv.uint64pow10" .u64 Lib.pow10Tab) (h4 : 4 ≤ w.heap.size) (text : List UInt8) (hl : text.length ≤ 1999990)
  {T:List UInt8->DH->Gh->LF->(IB)->Prop} {A:Prop} (hT:LH T A text):Cl 39 #[.string (ba text)] w (Q5 T A text w):=by
 have hcp:=Tryz.strings_CutPrefix (ba text) ⟨#[115,105,108,116,10]⟩ w;rw[show(ba text).data.toList=text from DN text,show(⟨#[115,105,108,116,10]⟩:By).data.toList=JK from rfl]at hcp;obtain⟨hb,hhb⟩:∃b,b=Lib.hasPrefix text JK:=⟨_,rfl⟩;obtain⟨rest,hrest⟩:∃r,r=Lib.trimPrefix text JK:=⟨_,rfl⟩;rw[<-hhb,<-hrest]at hcp;have HCP:Hid (Cl 94 #[.string (ba text),.string ⟨#[115,105,108,116,10]⟩] w fun e w'=>e = .returned (.tuple #[.string (ba rest),.bool hb])/\w'=w):=hcp;clear hcp
 cases hb with
 | false=>
  have HF:Hid (Q5 T A text w (.returned (.tuple #[.pointer none,.bool false])) w):=by
   refine⟨.inl ⟨rfl,fun ha=>?_⟩,Ag _ _⟩;obtain⟨r,e⟩:=hT.head ha;have:Lib.hasPrefix text JK=true:=by
    unfold Lib.hasPrefix;rw[e];exact Fu.2 ⟨r,rfl⟩
   rw[<-hhb]at this;cases this
  clear hT hp he htab hhb hrest;go_enter Tryz.func39,Tryz.ntmps39;go_wp2_with (go_at_call 94;refine(Da HCP).mono ?_;rintro e w' ⟨rfl,hw⟩;rw[hw];clear hw);exact Aq (v := .tuple #[.pointer none,.bool false]) (by simp[results,Tryz.results39,go_sem]) rfl (Da HF)
 | true=>
  have htx:text=JK++rest:=by
   rw[hrest];unfold Lib.trimPrefix;rw[if_pos hhb.symm];obtain⟨r,e⟩:=Fu.1 hhb.symm;rw[<-e,FC]
  have hrl:rest.length<=1999990:=by
   have:=C1 List.length htx;rw[Ab]at this;omega
  obtain⟨W1,eW1⟩:∃W1,w.alloc (.map #[] 0)=W1:=⟨_,rfl⟩;have hm1:W1.ownsMap Tryz.prog 9 (plainElem Tryz.prog 3) w.heap.size 0 (.map []:DH):=by rw[<-eW1];exact World.ownsMap_made w Tryz.prog 9 _
  have b1:Bw w W1:=by rw[<-eW1];exact(Ag _ w).alloc (Aa _) _
  have s1:W1.heap.size=w.heap.size+1:=by rw[<-eW1];simp
  obtain⟨W2,e2,x2,k2,s2,b2⟩:=De W1 [.string (ba rest),.map (some w.heap.size)] 137;have b12:Bw w W2:=b1.trans (b2.mono (by omega));rw[s1]at x2;have hm2:W2.ownsMap Tryz.prog 9 (plainElem Tryz.prog 3) w.heap.size 0 (.map []:DH):=by rw[<-e2];exact hm1.alloc _
  have hpk2:Gk W2:=hp.fr (X:=fun _=>False) (Fr.of_below b12) (fun e=>e);have hg2:GG (w.heap.size+1) w.heap.size rest (.map []) 0 W2:=⟨x2,hm2,hpk2,he.fr (X:=fun _=>False) (Fr.of_below b12) (fun _ _ e=>e),by omega,by omega⟩;have HN:Hid (Cl 95 #[] W2 fun e X=>∃tb,e = .returned (.pointer (some ⟨tb,0,none⟩))/\Hid (ML T A w (w.heap.size+1) w.heap.size tb rest X)/\Hid (w.heap.size<tb)):=by
   refine(Y8 W2 hpk2).mono ?_;rintro e X ⟨tb,rfl,q1,q2,q3,rb',vi,q4,q5⟩;refine⟨tb,rfl,⟨⟨.map [],0,hg2.below q3,Iv.nil,[],[],_,q2,?_,?_⟩,b12.trans (q3.mono b12.size),by omega,by omega,by omega,by omega,q4.lt⟩,by show _<_;omega⟩
   ·exact TG.none
   ·exact hT.start rest htx
  have HE1:=Db eW1;have HE2:=Db e2;have HS1:=Db s1;have HT:=Db hT;have HTB:=Db htab;have H4:=Db h4;clear hT hp he htab hhb hrest htx hm1 b1 s1 x2 k2 s2 b2 b12 hm2 hpk2 hg2 eW1 e2 h4;go_enter Tryz.func39,Tryz.ntmps39;go_upto_region 4 with(go_at_call 94;refine(Da HCP).mono ?_;rintro e w' ⟨rfl,hw⟩;rw[hw];clear hw);have hmk:(Instr.makeMap 135 none).run Tryz.prog w = .ok (.map (some w.heap.size)) W1:=by rw[<-Da HE1];rfl
  go_upto_region 5 with fail;rw[show W1.alloc (.cells #[.string (ba rest),.map (some w.heap.size)] 137)=W2 from Da HE2,Da HS1];clear hmk HCP HE1 HE2 HS1;go_upto_region 6 with(go_at_call 95;refine(Da HN).mono ?_;rintro e X ⟨tb,rfl,HV0,HTB0⟩);clear HN;obtain⟨rb,hrb⟩:∃r,r=w.heap.size+1:=⟨_,rfl⟩;rw[<-hrb]at HV0 ⊢;clear hrb;go_wp2
  go_loopw [9] (fun _ wr=>∃r,Hid (ML T A w rb w.heap.size tb r wr)) (fun _ wr=>GC rb wr)
  case atStart=>exact⟨rest,HV0⟩
  case round=>
   obtain⟨r,HR⟩:=hrel;clear HV0 hrl;obtain⟨D,K,hg,_,G,I,C,hps,htg,hA⟩:=(Da HR).rg;have hra:=hg.restAt;have c0:wr.cell? ⟨rb,0,none⟩=some (.string (ba r)):=(hg.row.cell 0).trans rfl;by_cases hne:r=[]
   ·subst hne;obtain⟨rd,V,E,vi,ht⟩:=hps;have hbel:=(Da HR).bel;obtain⟨S,hS⟩:=ex ((Gb (fun n=>C (n:Int)) (Dg (DY G rd E))).1);have hdl:S.length<=1999990\/1999990<S.length:=by omega
    have HOF:Hid (Cl 54 #[.pointer (some ⟨tb,0,none⟩)] wr fun e Y=>e = .returned (.string (ba S))/\Hid (Bw w Y/\PS Y tb G I C)):=by
     refine(dump_code wr n0 tb rd (UW ht htg) (Ae hn0 hbel.size) ((Da HTB).on (hbel.mono hn0))).mono ?_;rintro e Y ⟨rfl,hY⟩;exact⟨by rw[hS];rfl,hbel.trans (hY.mono hbel.size),rd,V,E,vi,ht.below hY (Aa _)⟩
    have hts:(ba S).toList=S:=by rw[CD];exact DN S
    have htt:(ba text).toList=text:=by rw[CD];exact DN text
    by_cases heq:S=text
    ·have HF:Hid (∀Y,Bw w Y->PS Y tb G I C->Q5 T A text w (.returned (.tuple #[.pointer (some ⟨tb,0,none⟩),.bool true])) Y):=fun Y h1 h2=>⟨.inr ⟨tb,G,I,C,D,rfl,h2,htg,hA,Da HTB0,wr,rd,V,E,vi,ht,by rw[<-hS];exact heq⟩,h1⟩
     subst heq;clear hts htt hdl hS hbel ht hA htg hg hra HR HT HTB;rw[show ba []=⟨#[]⟩ from rfl]at c0;go_wp2_with (go_at_call 54;refine(Da HOF).mono ?_;rintro e Y ⟨rfl,HY⟩);exact Aq (v := .tuple #[.pointer (some ⟨tb,0,none⟩),.bool true]) (by simp[results,Tryz.results39,go_sem]) rfl (Da HF _ (Da HY).1 (Da HY).2)
    ·have HF:Hid (∀Y,Bw w Y->Q5 T A text w (.returned (.tuple #[.pointer none,.bool false])) Y):=fun Y h1=>⟨.inl ⟨rfl,fun ha=>heq (by rw[hS];exact(Da HT).stop ha _ _ _ _ hA htg _ _ _ _ _ _ ht)⟩,h1⟩
     have p1:((ba S).toList==(ba text).toList)=false:=by rw[hts,htt,AH];exact heq
     clear hts htt hdl hS hbel ht hA htg hg hra HR HT HTB heq;rw[show ba []=⟨#[]⟩ from rfl]at c0;go_wp2_with (go_at_call 54;refine(Da HOF).mono ?_;rintro e Y ⟨rfl,HY⟩);exact Aq (v := .tuple #[.pointer none,.bool false]) (by simp[results,Tryz.results39,go_sem]) rfl (Da HF _ (Da HY).1)
   ·have HC:=Db ((Da HR).item (Da HT) hne (Da H4));obtain⟨Q,hQ⟩:=ex (ba r);have hQl:Q.toList=r:=by rw[hQ,CD];exact DN r
    have p1:Q.toList.isEmpty=false:=by rw[hQl];cases r with|nil=>exact absurd rfl hne|cons a l=>rfl
    have p2:(Q.toList==[])=false:=by rw[hQl,AH];exact hne
    rw[<-hQ]at c0;have HRA:=Db hra;have HNO:Hid (∀Y,¬A/\Bw w Y->Q5 T A text w (.returned (.tuple #[.pointer none,.bool false])) Y):=fun Y h=>⟨.inl ⟨rfl,h.1⟩,h.2⟩
    clear hQl hQ hne hg hps htg hA hra HR HT HTB;go_upto_region 8 with(go_at_call 96;refine(Da HC).mono ?_;rintro e Y ⟨s,kd,nm,a,l,c,ok,rfl,Z,eZ,xZ,HN1,HY1⟩;have HZ:=Db eZ;clear eZ);rw[show Y.alloc (.cells #[.string s,.int .u8 kd,.int .i64 nm,.slice a l c] 141)=Z from Da HZ];have z0:=xZ.cell 0;have z1:=xZ.cell 1;have z2:=xZ.cell 2;have z3:=xZ.cell 3;clear xZ HC HZ
    cases ok
    ·have HF:=Db (Da HNO _ (Da HN1 rfl));clear HN1 HY1;go_wp2;exact Aq (v := .tuple #[.pointer none,.bool false]) (by simp[results,Tryz.results39,go_sem]) rfl (Da HF)
    ·have HA1:=Db (Da HY1 rfl);clear HN1 HY1;go_wp2_with (go_at_call 97;refine(Da HA1).mono ?_;rintro e U ⟨b,rfl,HB0,HB1⟩;cases b)
     ·exact Aq (v := .tuple #[.pointer none,.bool false]) (by simp[results,Tryz.results39,go_sem]) rfl (Da HNO _ (Da HB0 trivial))
     ·obtain⟨r',h1,h2⟩:=Da HB1 trivial;obtain⟨_,_,hg',_⟩:=h1.rg;have hm:=hg'.restAt;have HM:Hid (GC rb U<GC rb wr):=by
       show _<_;rw[hm,Da HRA];exact h2
      have HR':=Db h1;clear h1 h2 hg' hm HB0 HB1
      go_roundw
      case rel=>exact⟨r',HR'⟩
      case measure=>exact Da HM
end Go.Proofs.YtaieidcohdhgpaaGreatDoor
