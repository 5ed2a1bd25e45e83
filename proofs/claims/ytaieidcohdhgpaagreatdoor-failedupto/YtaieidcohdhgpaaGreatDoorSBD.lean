/- Failed. -/
import Derived.Test.YtaieidcohdhgpaaGreatDoorSBC
import Derived.Lib.SlBytesRow
import Derived.Lib.BufferRead
import Derived.Laws.CopyOwn
import Derived.Sort.CutIn
namespace Go.Proofs.YtaieidcohdhgpaaGreatDoor
set_option maxHeartbeats 40000000
set_option maxRecDepth 100000
open Go.RowKit
def VolR(w:World)(vb tb db stb:Nat):Prop:=RowIs w vb 41 [.pointer (some ⟨vb,0,none⟩),.pointer (some ⟨tb,0,none⟩),.pointer (some ⟨db,0,none⟩),.pointer (some ⟨stb,0,none⟩)]
theorem VolR.vol{w:World}{c tb a b:Nat}(h:VolR w c tb a b):VolW w c tb:=⟨a,b,h⟩
theorem Zdh(w:World)(tb b c:Nat):Calls Tryz.prog 77 #[.pointer (some ⟨tb,0,none⟩),.pointer (some ⟨b,0,none⟩),.pointer (some ⟨c,0,none⟩)] w fun e w'=>e = .returned (.pointer (some ⟨w.heap.size,0,none⟩))/\VolR w' w.heap.size tb b c/\Below w.heap.size w w'/\w.heap.size<w'.heap.size:=by
 obtain⟨W,j,a,k,f,d⟩:=De w [.pointer none,.pointer (some ⟨tb,0,none⟩),.pointer (some ⟨b,0,none⟩),.pointer (some ⟨c,0,none⟩)] 41;go_enter Tryz.func77,Tryz.ntmps77;go_upto_region 2 with fail;have b0:=a.cell 0;have g0:=a.frozen 0;have i:=Db a;have g:=Db d;have h:=Db f;clear j k d a f;go_wp2;go_ret;exact⟨rfl,(Da i).set 0 _,(Da g).setCell (p:=⟨w.heap.size,0,none⟩) (Nat.le_refl _) _,by have:=Da h;simp[World.setCell];omega⟩
def Zmt(w:World)(tb:Nat)(e:Ending)(w':World):Prop:=
 ∃vb db stb vf vn va,e = .returned (.pointer (some ⟨vb,0,none⟩))/\VolR w' vb tb db stb/\StW w' stb db va ((16:Nat):Int) (Dp DB:Nat) ((1:Nat):Int) vf vn (.slice none 0 0) (.slice none 0 0) Jf [] []/\SlD w' vf Jf/\Sl w' 350 2 va 1 (Du Jk)/\Below w.heap.size w w'/\w.heap.size<=vb/\w.heap.size<=db/\w.heap.size<=stb/\vb≠db/\vb≠stb/\(∀k,Own vf k->w.heap.size<=k/\k≠stb/\k≠db/\¬Own va k/\¬Own vn k/\k≠vb)/\(∀k,Own va k->w.heap.size<=k/\k≠stb/\k≠db/\¬Own vn k/\k≠vb)/\(∀k,Own vn k->w.heap.size<=k/\k≠vb)
theorem Zf1(w:World)(tb:Nat){C:IB}(q:PS w tb [] [] C):
  Calls Tryz.prog 40 #[.pointer (some ⟨tb,0,none⟩)] w (Zmt w tb):=by
 have v:Hid (Calls Tryz.prog 98 #[] w fun e X=>∃c,e = .returned (.pointer (some ⟨c,0,none⟩))/\Hid (Calls Tryz.prog 99 #[.pointer (some ⟨c,0,none⟩),.pointer (some ⟨tb,0,none⟩)] X fun e Y=>∃d,e = .returned (.pointer (some ⟨d,0,none⟩))/\Hid (Calls Tryz.prog 77 #[.pointer (some ⟨tb,0,none⟩),.pointer (some ⟨c,0,none⟩),.pointer (some ⟨d,0,none⟩)] Y fun e Z=>∃m,e = .returned (.pointer (some ⟨m,0,none⟩))/\Hid (Zmt w tb (.returned (.pointer (some ⟨m,0,none⟩))) Z)))):=by
  refine(Zlh w).mono ?_;rintro e X ⟨c,L,s,rfl,F,y,-,f,-,l,-⟩;refine⟨c,rfl,?_⟩;have p:=f.size;have I:PS X tb [] [] C:=by
   obtain⟨J,V,E,M,z⟩:=q;exact⟨J,V,E,M,z.below f (Nat.le_refl _)⟩
  refine(Zh4 X c tb L s y (fun e=>(l _ e).2 rfl) I).mono ?_;rintro e Y ⟨d,K,r,rfl,ab,h,j,o,H,G,g⟩;refine⟨d,rfl,?_⟩;have B:=g.size;refine(Zdh Y tb c d).mono ?_;rintro e Z ⟨rfl,A,i,aa⟩;have D:Below w.heap.size w Y:=⟨g.os.trans f.os,g.tape.trans f.tape,g.output.trans f.output,Nat.le_trans p B,fun k a=>(g.block k (by omega) (fun e=>by
   rcases e with e|e
   ·omega
   ·have:=(l _ e).1;omega)).trans (f.block k a)⟩
  have l1:=h.disk.1.lt;have l2:=h.row.lt;have ac:∀k,Own r k->w.heap.size<=k\/k<w.heap.size:=fun k _=>by omega
  refine⟨Y.heap.size,rfl,Y.heap.size,c,d,K,s,r,rfl,A,h.below i,⟨j.1.kept (fun k a _=>i.block k a),j.2⟩,o.kept (fun k a _=>i.block k a),D.trans (i.mono (by omega)),by omega,F,by omega,by omega,by omega,fun k a=>?_,fun k a=>?_,fun k a=>?_⟩
  ·have b:=H k a;have n:=j.1.lt a;exact⟨by omega,b.2.1,b.2.2.2.1,b.2.2.1,b.2.2.2.2,by omega⟩
  ·have b:=G k a;have n:=o.lt a;exact⟨Nat.le_trans p b.1,b.2.1,b.2.2.1,b.2.2.2,by omega⟩
  ·have b:=l k a;have n:=h.disk.2.1.1.lt a;exact⟨b.1,by omega⟩
 clear q;go_enter Tryz.func40,Tryz.ntmps40;go_wp2_with (first|(go_at_call 98;refine(Da v).mono ?_;rintro e X ⟨c,rfl,t⟩)|(go_at_call 99;refine(Da t).mono ?_;rintro e Y ⟨d,rfl,u⟩)|(go_at_call 77;refine(Da u).mono ?_;rintro e Z ⟨m,rfl,x⟩));go_ret;exact Da x
def Zev(w:World)(e:Ending)(w':World):Prop:=
 ∃tb w1,w.heap.size<tb/\Below w.heap.size w w1/\tb<w1.heap.size/\PS w' tb [] [] (fun _=>⟨#[]⟩)/\Zmt w1 tb e w'
theorem ZfB(w:World)(b:PkgOk w):Calls Tryz.prog 71 #[] w (Zev w):=by
 have g:Hid (Calls Tryz.prog 95 #[] w fun e X=>∃tb,e = .returned (.pointer (some ⟨tb,0,none⟩))/\Hid (Calls Tryz.prog 40 #[.pointer (some ⟨tb,0,none⟩)] X fun e Y=>∃a,e = .returned (.pointer (some ⟨a,0,none⟩))/\Hid (Zev w (.returned (.pointer (some ⟨a,0,none⟩))) Y))):=by
  refine(Zjs w b).mono ?_;rintro e X ⟨tb,rfl,l,c,k,rb,vi,n,hr⟩;refine⟨tb,rfl,?_⟩;refine(Zf1 X tb c).mono ?_;intro e Y d;have m:=d;obtain⟨a,db,aa,vf,vn,va,rfl,h1,h2,h3,h4,j,h6⟩:=d;refine⟨a,rfl,tb,X,l,k,n.lt,?_,m⟩;obtain⟨o,V,E,p,h⟩:=c;exact⟨o,V,E,p,h.below j (Nat.le_refl _)⟩
 clear b;go_enter Tryz.func71,Tryz.ntmps71;go_wp2_with (first|(go_at_call 95;refine(Da g).mono ?_;rintro e X ⟨tb,rfl,f⟩)|(go_at_call 40;refine(Da f).mono ?_;rintro e Y ⟨a,rfl,i⟩));go_ret;exact Da i
theorem imageV(w:World)(b tb a p:Nat)(h:VolR w b tb a p)(g i vw f:Value)(D:LY)(d:DS w a g i vw f D):Calls Tryz.prog 28 #[.pointer (some ⟨b,0,none⟩)] w (Qi w D):=by
 have n:=Ka w b tb h.vol;have j:=Db (Zkg w a g i vw f D d);have c2:w.cell? ⟨b,2,none⟩=some (.pointer (some ⟨a,0,none⟩)):=(RowIs.cell h 2).trans rfl;clear h d;go_enter Tryz.func28,Tryz.ntmps28;go_wp2_with (first|(go_at_call 53;refine n.mono ?_;rintro e w' ⟨rfl,rfl⟩)|(go_at_call 78;refine(Da j).mono ?_;rintro e w' ⟨l,o,m,rfl,c⟩;have k:=Db c;clear c));go_ret;exact⟨l,o,m,rfl,Da k⟩
theorem ZoJ(w:World)(d tb b j:Nat)(h:VolR w d tb b j)(a:OA)(l c:Nat)(f:w.cell? ⟨b,3,none⟩=some (.slice a l c)):Calls Tryz.prog 30 #[.pointer (some ⟨d,0,none⟩)] w fun e w'=>e = .returned (.int .i64 l)/\w'=w:=by
 have i:=Ka w d tb h.vol;have g:=ZiV w b a l c f;have c2:w.cell? ⟨d,2,none⟩=some (.pointer (some ⟨b,0,none⟩)):=(RowIs.cell h 2).trans rfl;clear h f;go_enter Tryz.func30,Tryz.ntmps30;go_wp2_with (first|(go_at_call 53;refine i.mono ?_;rintro e w' ⟨rfl,rfl⟩)|(go_at_call 79;refine g.mono ?_;rintro e w' ⟨rfl,rfl⟩));go_ret;exact⟨rfl,rfl⟩
def JT(tb:Nat)(w:World)(k:Nat):Prop:=(∃t R,RowIs w k t R/\(t=214\/t=229\/t=310\/t=293\/t=89\/t=103\/t=9))/\tb<=k+1
structure RefL(w:World)(tb rb:Nat)(vl vf:Value)(L:List (By×Int))(F:LY):Prop extends RefW w rb vl vf L F where
 lo:∀k,RefOwn rb vl vf k->tb<=k+1
def Md(w:World)(vb tb rb:Nat)(L:List (By×Int))(F:LY)(L':List (By×Int))(F':LY):Prop:=
 ∃G I C ρ vl vf,VolW w vb tb/\PS w tb G I C/\RefL w tb rb vl vf L F/\Rl G I C ρ L' F'/\cD G []+I.length<=60
section
variable{w w':World}{vb tb rb:Nat}{L L' L1:List (By×Int)}{F F' F1:LY}{G G':Gh}{I I':LF}{C C':IB}{ρ ρ':Int->Nat}{vl vf:Value}
end
section
variable{w:World}{vb tb rb:Nat}{L:List (By×Int)}{F:LY}
end
def BothW(w:World)(xb vb rb:Nat)(kp ep fs:Value):Prop:=RowIs w xb 55 [.pointer (some ⟨vb,0,none⟩),.pointer (some ⟨rb,0,none⟩),kp,ep,fs]
structure K1(w W:World)(vb tb rb xb:Nat)(kp ep fs:Value)(ob:Nat)(O:LVa)(L:List (By×Int))(F:LY)(L':List (By×Int))(F':LY):Prop where
 fr:Fr (JT tb w) w W
 md:Md W vb tb rb L F L' F'
 x:BothW W xb vb rb kp ep fs
 o:RowIs W ob 51 O
section
variable{w W W':World}{vb tb rb xb ob:Nat}{kp ep fs:Value}{O:LVa}{L L' L1:List (By×Int)}{F F' F1:LY}
end



section
variable{w w':World}{vb tb rb B:Nat}{L L' L1:List (By×Int)}{F F' F1:LY}{G G':Gh}{I I':LF}{C C':IB}{ρ ρ':Int->Nat}{vl vf:Value}
end
section
variable{w:World}{vb tb rb:Nat}{L:List (By×Int)}{F:LY}
end





structure En where
 n:By
 d:Bool
 s:Int
 l:Int
def clE(x:En):LVa:=[.string x.n,.bool x.d,.int .i64 x.s,.int .i64 x.l]
def JX(es:List En):LVa:=es.flatMap clE
theorem Zg8(a b:List En):JX (a++b)=JX a++JX b:=by simp[JX]
theorem Zkt(es:List En):∀u∈JX es,u.oneCell'=true:=by
 intro u a;simp only[JX,List.mem_flatMap,clE,List.mem_cons,List.mem_nil_iff,or_false]at a;obtain⟨x,_,rfl|rfl|rfl|rfl⟩:=a<;>simp[Value.oneCell']

theorem ZnF:(Tryz.prog.info? 112).map (fun i=>(i.zero,i.size,i.bytes))=some (some (.agg #[.string ⟨#[]⟩,.bool false,.int .i64 0,.int .i64 0]),4,40):=by kernel_rfl
theorem und47:Tryz.prog.underlying 99=some (.slice 112):=by kernel_rfl
theorem appE(w:World)(v:Value)(es:List En)(f:Sl w 112 4 v es.length (JX es))(hl:es.length+1<=2000000)(x:En)(nb:Nat)(h:RowIs w nb 112 (clE x)):
  ∃d w2,(Builtin.append_ #[99,99] 99 #[v,.slice (some ⟨nb,0,none⟩) 1 1]).run Tryz.prog w = .ok d w2/\∃a n c,d = .slice a n c/\Sl w2 112 4 (.slice a n c) (es++[x]).length (JX (es++[x]))/\w.grownBy w2 v.ownBlock/\Dk w v (.slice a n c):=by
 obtain⟨m,g,i,k,l⟩:=info_parts ZnF;obtain⟨d,w2,o,e,p,q⟩:=KH (P:=Tryz.prog) w 99 99 112 m _ 4 40 und47 g i k l rfl (by decide) v es.length (JX es) f ⟨nb,0,none⟩ 1 1 (clE x) rfl
  (fun j u b=>by rw[Addr.add_lit,Nat.zero_add,h.cell];exact b) (fun u b=>Zkt [x] u (by simpa [JX] using b)) (by unfold maxLen;omega) (by omega)
 obtain⟨a,n,c,rfl⟩:=e.shape;refine⟨_,w2,o,a,n,c,rfl,?_,p,q⟩;rw[List.length_append,Zg8]
 simpa [JX] using e
section
open Go.RowKit Go.Shelf
attribute [local go_sem] Oper.semAt_some
theorem ZdC{F:Fence}{n:Nat}{P:Program}{h:Array Oper}{o:Oper}{a:Act}{w:World}{K:Act->World->Prop}{Q:Exit->Act->World->Prop}{E:Prop}
  (q:o.guard=none) (d x:Operand) (g i:TypeId) (e:o.op=Op.call { callee:=Callee.builtin Builtin.append,args := #[d,x],argTypes := #[g,i] })
  (v u:Value) (p:a.eval d=v) (t:a.eval x=u) {f:Value->World->Prop} (r:∃b w',(Builtin.append_ #[g,i] o.type #[v,u]).run P w = .ok b w'/\f b w') (l:∀b w',f b w'->K (a.put o.dst b) w'):
  if Region.wanted o (yielded h a.tmps)=true then Oper.wpIn F n P o a w K Q else E:=by
 obtain⟨b,w',j,k⟩:=r;have s:Region.wanted o (yielded h a.tmps)=true:=by simp[Region.wanted,q]
 rw[if_pos s];unfold Oper.wpIn;refine⟨?_,?_⟩
 ·simp[Oper.about,e,resolve,Target.leads,Sem.run_pure]
 ·rw[Oper.semAt_plain F _ _ (by rw[e];intro c m;cases m)];simp[execOp,e,resolve,invoke,builtin,p,t,j,Result.andThen];exact l _ _ k
theorem ZhD{l n:Nat}{P:Program}{k:Array Oper}{o:Oper}{a:Act}{w:World}{K:Act->World->Prop}{Q:Exit->Act->World->Prop}{E:Prop}
  (C:o.guard=none) (f:FuncId) (m p q:Operand) (H:Array TypeId) (j:o.op=Op.call { callee:=Callee.value (.func f),args := #[m,p,q],argTypes:=H })
  (b d g:Value) (r:a.eval m=b) (s:a.eval p=d) (t:a.eval q=g) (z:(callFunc f #[b,d,g]).run P w = .ok (.enter f #[b,d,g]) w) {i:Ending->World->Prop} (x:Calls P f #[b,d,g] w i) (u:∀e w',i e w'->∃v,e = .returned v/\K (a.put o.dst v) w'):
  if Region.wanted o (yielded k a.tmps)=true then Oper.wpIn (Fence.wide.inRound l) n P o a w K Q else E:=by
 have G:Region.wanted o (yielded k a.tmps)=true:=by simp[Region.wanted,C]
 rw[if_pos G];unfold Oper.wpIn;have B:a.eval (.func f) = .func (.func f) #[] #[]:=rfl;have A:(execOp a.eval o).run P w = .ok (.enter f #[b,d,g]) w:=by
  simp[execOp,j,resolve,r,s,t,B,Deferred.ofValue,invoke,z]
 refine⟨fun _ _=>trivial,?_⟩;rw[Oper.semAt_plain _ _ _ (by rw[j];intro c y;cases y),A,Oper.uponIn_enter];refine⟨fun h=>by simp[Fence.inRound,Fence.wide]at h,(CallsIn.inRound l (callsIn_wide.2 x)).mono (fun e w' F=>?_)⟩;obtain⟨v,rfl,D⟩:=u e w' F;exact D
def Tells(G:Gh)(I:LF)(ns:LY)(xs:LS)(es:List En):Prop:=
 es.length=xs.length/\∀(j:Nat) x y,xs[j]?=some x->es[j]?=some y->K7 G I (ns++[x.1]) x.1 x.2 (.agg #[.string y.n,.bool y.d,.int .i64 y.s,.int .i64 y.l])
theorem Tells.snoc{G:Gh}{I:LF}{ns:LY}{xs:LS}{es:List En}(h:Tells G I ns xs es){x:By×VS}{y:En}(d:K7 G I (ns++[x.1]) x.1 x.2 (.agg #[.string y.n,.bool y.d,.int .i64 y.s,.int .i64 y.l])):Tells G I ns (xs++[x]) (es++[y]):=by
 refine⟨by simp[h.1],fun j e f a c=>?_⟩;rcases Nat.lt_trichotomy j xs.length with b|b|b
 ·rw[List.getElem?_append_left b]at a;rw[List.getElem?_append_left (by rw[h.1];exact b)]at c;exact h.2 j e f a c
 ·subst b;rw[List.getElem?_concat_length]at a;rw[<-h.1,List.getElem?_concat_length]at c
  cases a;cases c;exact d
 ·rw[List.getElem?_eq_none (by simp;omega)]at a;cases a
def LiJ(w:World)(tb BL:Nat)(G:Gh)(I:LF)(ns:LY)(xs:LS)(W:World):Prop:=
 ∃v es,RowIs W BL 99 [v]/\RowIs W w.heap.size 37 [.pointer (some ⟨tb,0,none⟩)]/\Sl W 112 4 v es.length (JX es)/\Tells G I ns xs es/\Below w.heap.size w W/\(∀g,v.ownBlock=some g->w.heap.size<=g)
theorem ZbB{W:World}{k:Nat}{t:TypeId}{R:LVa}(h:RowIs W k t R){o:Obj}(ho:W.heap[k]?=some o):o.isCells=true:=by
 unfold RowIs at h;rw[h]at ho;cases ho;rfl
theorem LiJ.own{α : Type}(u : α -> By×VS)(w:World)(tb BL:Nat)(G:Gh)(I:LF)(ns:LY)(B:Nat)(q:w.heap.size<=B):OwnFrom B (fun (j:List α) W=>LiJ w tb BL G I ns (j.map u) W):=by
 rintro j X Y row ⟨v,es,l,m,f,n,g,p⟩ c d;have i:∀k t R,RowIs X k t R->RowIs Y k t R:=fun k t R h=>h.kept c (fun b=>by
  obtain⟨_,o,ho,a⟩:=d k b.symm;rw[ZbB h ho]at a;cases a)
 refine⟨v,es,i _ _ _ l,i _ _ _ m,f.kept (fun k s e=>c.block k s (fun b=>?_)),n,g.grown c g.size (fun k e=>Nat.le_trans q (d k e).1),p⟩;obtain⟨R,r⟩:=f.type e;obtain⟨_,o,ho,a⟩:=d k b.symm;rw[ZbB r ho]at a;cases a
end
section
variable{G:Gh}{I:LF}{C:IB}{ρ : Int->Nat}{L:List (By×Int)}{F:LY}
end
section
open Go.RowKit Go.Shelf
attribute [local go_sem] Oper.semAt_some
def Zmq(w:World)(G:Gh)(I:LF)(ns:LY)(xs:LS)(e:Ending)(w':World):Prop:=
 (∃a n c es,e = .returned (.tuple #[.slice a n c,.int .i64 0])/\Sl w' 112 4 (.slice a n c) es.length (JX es)/\Tells G I ns xs es)/\Below w.heap.size w w'
theorem Zj7(w:World)(tb rd:Nat)(V:NV)(E:NS)(vi:Value)(G:Gh)(I:LF)(C:IB)(h:TW w tb rd V E vi G I C)(hG:GOk G)(am:G.length<=10000)(aZ:I.length<=10000)(aB:FlOk G I)(p:By)(hp:p.size<=2000000)
  (aR:thE G p=0) (b:Nat) (hd:IsDir G rd (Df p) b) (an:Df p=[]\/atG G (Df p)=some ⟨some ⟨b,0,none⟩,0⟩):
  Calls Tryz.prog 120 #[.pointer (some ⟨tb,0,none⟩),.string p] w (Zmq w G I (Df p) (E b)):=by
 have aG:∀o,Below w.heap.size w (w.alloc o):=fun o=>(Below.refl _ _).alloc (Nat.le_refl _) o
 have az:Hid (∀o,Calls Tryz.prog 177 #[.pointer (some ⟨tb,0,none⟩),.string p] (w.alloc o) fun e w'=>∃d n,e = .returned (.tuple #[Dl d n true ⟨some ⟨b,0,none⟩,0⟩,.int .i64 0])/\Below (w.alloc o).heap.size (w.alloc o) w'):=fun o=>
  (Zeb (w.alloc o) tb rd V E vi G I C (h.below (aG o) (Nat.le_refl _)) hG am p hp).mono (fun e w' ⟨bf,H⟩=>by
   rcases bf with⟨bb,_⟩|⟨_,br,d,n,u,bh,rfl⟩
   ·exact absurd aR bb
   ·refine⟨d,n,?_,H⟩;rcases ZcW h.d bh with⟨e,_⟩|⟨_,S,M,U⟩|⟨_,b',M,U,_⟩
    ·cases e
    ·rcases an with h4|h4
     ·exact absurd h4 S
     ·rw[h4]at M;cases M;cases U
    ·have:=U.func hG hd;subst this;rw[M])
 have hS:=h.d.sl (Df p) b hd;have a9:=h.d.le hG hd;have aO:=h.d.row (Df p) b hd;have hc:=aO.cell 0;have aK:b<w.heap.size:=aO.lt;have ay:Hid (∀W,Below w.heap.size w W->Calls Tryz.prog 178 #[.pointer (some ⟨b,0,none⟩)] W fun e w'=>e = .returned (.int .i64 (E b).length)/\w'=W):=fun W H=>lenS W b 0 (V b) (E b).length (Dn (E b)) ((H.cell (p:=⟨b,0,none⟩) aK).trans hc) (hS.kept (fun k s _=>H.block k s))
 obtain⟨i0,a8,bk,bl,bm⟩:=info_parts ZnF;have HH:=Db h;have aW:=Db aB;have bn:=Db an;clear h aB aR aG an;refine(callsIn_wide (n:=3)).1 ?_;refine callsIn_of_wp_marks Tryz.func120 rfl trivial ?_ rfl;simp only[Tryz.ntmps120,List.size_toArray,List.length_cons,List.length_nil,Nat.reduceAdd,Nat.reduceSub,Array.replicate_succ,Array.replicate_zero,List.push_toArray,List.append_toArray,List.nil_append,List.cons_append]
 gi_wp2_with fail
 refine⟨trivial,?_⟩;refine(callsIn_wide.2 (Da az _)).mono ?_;rintro e w1 ⟨d,n,rfl,ao⟩;have H:Below w.heap.size w w1:=((Below.refl _ w).alloc (Nat.le_refl _) _).trans (ao.mono (by simp));have aN:RowIs w1 w.heap.size 37 [.pointer (some ⟨tb,0,none⟩)]:=(ao.block _ (by simp)).trans (Jd w [.pointer (some ⟨tb,0,none⟩)] 37);unfold Dl;clear az ao;obtain⟨T,aD,aT,aL,aQ,aI⟩:=De w1 (DT d n true ⟨some ⟨b,0,none⟩,0⟩) 262;have aj:=aL _ _ _ aN;have ac:Below w.heap.size w T:=H.trans (aI.mono H.size);have aA:=Db aD;have aY:=Db aQ;clear aD aL aN aQ aI
 gi_upto_region 4 with fail
 rw[Da aA];have a3:=aT.cell 3;clear aA
 gi_wp2_with fail
 refine⟨trivial,?_⟩;refine(callsIn_wide.2 (Da ay T ac)).mono ?_;rintro e w' ⟨rfl,hw⟩;rw[hw];clear hw
 gi_wp2_with (first|(gi_at_make;refine wpListIn_make_own _ rfl _ _ 99 rfl w.heap.size 112 i0 _ 4 und47 a8 bk bl _ _ _ (E b).length rfl rfl rfl (by rw[bm];omega) (by unfold maxLen;omega) ac.size ?_;intro f aM ah)|(refine⟨trivial,?_⟩;gi_at_call 179;refine(Zja _ _ trivial rfl _ _).mono ?_;rintro e w' ⟨rfl,rfl⟩))
 obtain⟨q,ab⟩:∃q,(f.alloc (Obj.cells #[Value.slice (some { block:=T.heap.size,off:=0 }) 0 (E b).length] 99)).alloc (Obj.cells #[Value.pointer (some { block:=b,off:=0 })] 307)=q:=⟨_,rfl⟩;rw[ab];have bs:q.heap.size=f.heap.size+2:=by rw[<-ab];simp
 have ap:Below w.heap.size w f:=ac.grown ah ac.size (fun k e=>by cases e);have af:Below f.heap.size f q:=by rw[<-ab];exact((Below.refl _ f).alloc (Nat.le_refl _) _).alloc (by simp) _
 have al:Below w.heap.size w q:=ap.trans (af.mono ap.size);have aF:RowIs q f.heap.size 99 [.slice (some ⟨T.heap.size,0,none⟩) 0 (E b).length]:=by rw[<-ab];exact(Jd f _ 99).alloc _
 have a4:Boxed q (f.heap.size+1) 307 (.pointer (some ⟨b,0,none⟩)):=by rw[<-ab];have:=Boxed.new (f.alloc (Obj.cells #[Value.slice (some { block:=T.heap.size,off:=0 }) 0 (E b).length] 99)) 307 (.pointer (some ⟨b,0,none⟩));simpa using this
 have aE:RowIs q w.heap.size 37 [.pointer (some ⟨tb,0,none⟩)]:=(af.block _ (Nat.lt_of_lt_of_le aj.lt ah.size)).trans ((ah.block _ aj.lt (by simp)).trans aj);have a2:Sl q 310 3 (V b) (E b).length (Dn (E b)):=hS.kept (fun k s _=>al.block k s);have a7:q.cell? ⟨b,0,none⟩=some (V b):=(al.cell (p:=⟨b,0,none⟩) aK).trans hc;have aC:Sl q 112 4 (.slice (some ⟨T.heap.size,0,none⟩) 0 (E b).length) ([]:List En).length (JX []):=(Sl.of_owns aM).kept (fun k s _=>af.block k s);have a1:LiJ w tb f.heap.size G I (Df p) [] q:=⟨_,[],aF,aE,aC,⟨rfl,fun j x y hx=>by simp at hx⟩,al,fun g J=>by simp[Value.ownBlock]at J;subst J;exact ac.size⟩;have aH:(E b).attach.map (fun x=>x.1)=E b:=List.attach_map_subtype_val _;have aP:=ap.size;clear ab ay aF aE aC af aM ah aj aT a3 aY;refine wpIn_rangeFunc_ownH (α := { x // x∈E b }) rfl (by omega) (gf:=222) (lb := #[.pointer (some ⟨f.heap.size+1,0,none⟩)]) rfl trivial (enters_of Tryz.func222 (by kernel_rfl) rfl)
  (Zgx Fence.wide 2 trivial rfl (by omega) (f.heap.size+1) w.heap.size b 0 (V b) (fun x=>x.1) (E b).attach (by simpa using Nat.le_trans a9 am) q (by omega) (by omega) (by omega) a4.cell a7 (by rw[aH];simpa using a2) (fun g J=>hS.lt J))
  belowK_t (belowK_b (by omega)) (Below.refl _ _) (fun _=>rfl)
  (fun ad W=>LiJ w tb f.heap.size G I (Df p) (ad.map (fun x=>x.1)) W)
  (fun _ _ _=>False)
  (LiJ.own (fun x:{ x // x∈E b }=>x.1) w tb f.heap.size G I (Df p) _ (by omega))
  (fun _ _ _ _ _ hs _ _=>hs)
  a1
  (fun x a' W=>∃L,f.heap.size<L/\RowIs W L 260 [.pointer x.1.2.p,.int .i64 x.1.2.f]/\a'={ tmps := #[.pointer (some ⟨tb,0,none⟩),.string p,.pointer (some ⟨w.heap.size,0,none⟩),undef,.slice none 0 0,.int .i64 0,.pointer (some ⟨w1.heap.size,0,none⟩),.int .i64 0,.pointer (some ⟨b,0,none⟩),.pointer (some ⟨f.heap.size,0,none⟩),.string x.1.1,.pointer (some ⟨L,0,none⟩),.tuple #[.agg #[.pointer d,.string n,.bool true,.pointer (some ⟨b,0,none⟩),.int .i64 0],.int .i64 0],.pointer (some ⟨tb,0,none⟩),.string p,.tuple #[.agg #[.pointer d,.string n,.bool true,.pointer (some ⟨b,0,none⟩),.int .i64 0],.int .i64 0],.agg #[.pointer d,.string n,.bool true,.pointer (some ⟨b,0,none⟩),.int .i64 0],.int .i64 0,.int .i64 0,.bool false,undef,.pointer (some ⟨w1.heap.size,3,none⟩),.pointer (some ⟨w1.heap.size,3,none⟩),.pointer (some ⟨b,0,none⟩),.pointer (some ⟨b,0,none⟩),.bool false,.pointer (some ⟨b,0,none⟩),.pointer (some ⟨b,0,none⟩),.pointer (some ⟨b,0,none⟩),.int .i64 ((E b).length:Nat),.slice (some ⟨T.heap.size,0,none⟩) 0 (E b).length,.pointer (some ⟨b,0,none⟩),.pointer (some ⟨b,0,none⟩),.pointer (some ⟨b,0,none⟩),.func (.func 222) #[] #[.pointer (some ⟨f.heap.size+1,0,none⟩)],.string x.1.1,.agg #[.pointer x.1.2.p,.int .i64 x.1.2.f],undef,undef,undef,undef,undef,undef,undef,undef],defers:=[] })
  (fun x a' _ X Y row hs J hr=>by
   obtain⟨L,S,M,U⟩:=hs;exact⟨L,S,(Un (β := Unit) L 260 (fun _=>_)).from _ () X Y row M J hr,U⟩)
  ?assign ?body ?done ?stop
 case assign=>
  rintro l ad x W K hJ z;have a0:=hJ;obtain⟨v,es,A,O,P,Q,B,j6⟩:=hJ;have ai:=A.lt;clear A O P Q j6
  gi_wp2
  exact z _ _ ((KeepsOthers.alloc _ _).from _) ((Below.refl _ W).alloc B.size _) ((LiJ.own (fun x:{ x // x∈E b }=>x.1) w tb f.heap.size G I (Df p) w.heap.size (Nat.le_refl _)).alloc _ a0) ⟨W.heap.size,ai,Jd W _ _,rfl⟩
 case body=>
  rintro l ad x a' W bq ⟨r,hr⟩ ⟨v,es,A,O,P,Q,B,j6⟩ ⟨L,bp,bX,rfl⟩ ai;have ba:Tryz.prog.follows .mixedOrders=true:=by kernel_rfl
  have be:es.length<(E b).length:=by rw[Q.1,List.length_map];simpa using ai
  have ar:=(Da HH).d;have au:=(ar.en (Df p) b hd x.1.1 x.1.2).1 x.2;have aU:x.1.1.size<=2000000:=by
   have S:=hG.nms _ au x.1.1 (by simp);simp only[DP,Bool.and_eq_true,decide_eq_true_eq]at S;have:=S.1.2;omega
  have HT:Hid (Calls Tryz.prog 180 #[.pointer (some ⟨tb,0,none⟩),.string x.1.1,.agg #[.pointer x.1.2.p,.int .i64 x.1.2.f]] W.drew fun e w'=>∃y:En,e = .returned (.agg #[.string y.n,.bool y.d,.int .i64 y.s,.int .i64 y.l])/\K7 G I (Df p++[x.1.1]) x.1.1 x.1.2 (.agg #[.string y.n,.bool y.d,.int .i64 y.s,.int .i64 y.l])/\Below W.heap.size W w'):=
   (Zhx W.drew tb rd V E vi G I C ((Da HH).below (B.trans ((Below.refl _ W).drew.mono B.size)) (Nat.le_refl _)) hG am aZ (Da aW) x.1.1 aU (Df p++[x.1.1]) x.1.2 (by
    rcases ar.sub hd x.2 with bd|⟨b',bj,bi⟩
    ·exact .inr ⟨bd,_,au,rfl⟩
    ·exact .inl ⟨b',bj,bi⟩)).mono (fun e w' ⟨v,S,M,U⟩=>by
     obtain⟨yb,yc,yd,rfl⟩:=Zfb M;exact⟨⟨x.1.1,yb,yc,yd⟩,S,M,(Below.refl _ W).drew.trans U⟩)
  have ag:=A.lt;have aq:∀g,v.ownBlock=some g->∃R,RowIs W g 112 R:=fun g J=>P.type J
  have aS:v.ownBlock≠some f.heap.size:=fun e=>by
   obtain⟨R,N⟩:=aq _ e;have:=N.type A;revert this;decide
  have aV:Hid (∀(i:World) (y:En),Below W.heap.size W i->K7 G I (Df p++[x.1.1]) x.1.1 x.1.2 (.agg #[.string y.n,.bool y.d,.int .i64 y.s,.int .i64 y.l])->
    ∃v' t,(Builtin.append_ #[99,99] 99 #[v,.slice (some ⟨i.heap.size,0,none⟩) 1 1]).run Tryz.prog (i.alloc (.cells #[.string y.n,.bool y.d,.int .i64 y.s,.int .i64 y.l] 112)) = .ok v' t/\∃a m c,v' = .slice a m c/\t.cell? ⟨f.heap.size,0,none⟩=some v/\t.frozen? ⟨f.heap.size,0,none⟩=false/\
     Hid (KeepsFrom q.heap.size W (t.setCell ⟨f.heap.size,0,none⟩ (.slice a m c))/\Below w.heap.size W (t.setCell ⟨f.heap.size,0,none⟩ (.slice a m c))/\LiJ w tb f.heap.size G I (Df p) ((ad++[x]).map (fun x=>x.1)) (t.setCell ⟨f.heap.size,0,none⟩ (.slice a m c)))):=fun i y Z ak=>by
   obtain⟨F,ae⟩:∃F,F=i.alloc (.cells #[.string y.n,.bool y.d,.int .i64 y.s,.int .i64 y.l] 112):=⟨_,rfl⟩;have bg:RowIs F i.heap.size 112 (clE y):=by rw[ae];exact Jd i _ 112
   have aa:Below W.heap.size W F:=by rw[ae];exact Z.alloc Z.size _
   rw[<-ae];clear ae;have k1:RowIs F f.heap.size 99 [v]:=(aa.block _ ag).trans A;have k2:RowIs F w.heap.size 37 [.pointer (some ⟨tb,0,none⟩)]:=(aa.block _ O.lt).trans O;have k3:Sl F 112 4 v es.length (JX es):=P.kept (fun k s _=>aa.block k s);obtain⟨v',t,r1,a,m,c,rfl,r2,r3,r4⟩:=appE F v es k3 (by omega) y i.heap.size bg;have q1:RowIs t f.heap.size 99 [v]:=(r3.block _ k1.lt (fun e=>aS e.symm)).trans k1;have q2:RowIs t w.heap.size 37 [.pointer (some ⟨tb,0,none⟩)]:=(r3.block _ k2.lt (fun e=>by
    obtain⟨R,N⟩:=aq _ e.symm;have:=N.type O;revert this;decide)).trans k2
   have a6:Below w.heap.size W F:=aa.mono B.size;have aJ:Below w.heap.size W t:=a6.grown r3 (Nat.le_trans B.size aa.size) (fun k e=>j6 k e);have bc:(Value.slice a m c).ownBlock≠some f.heap.size:=fun e=>by
    obtain⟨R,N⟩:=r2.type e;have:=N.type q1;revert this;decide
   refine⟨_,t,r1,a,m,c,rfl,(q1.cell 0).trans rfl,q1.frozen 0,?_,aJ.setCell (p:=⟨f.heap.size,0,none⟩) aP _,.slice a m c,es++[y],q1.set 0 _,q2.setOther _ _ (fun e=>by
     have e':f.heap.size=w.heap.size:=e;rw[e']at q1;have:=q1.type q2;revert this;decide),r2.setCell _ _ bc,?_,(B.trans aJ).setCell (p:=⟨f.heap.size,0,none⟩) aP _,fun g J=>(r4 g J).elim (j6 g) (fun h=>Nat.le_trans (Nat.le_trans B.size aa.size) h)⟩
   ·have kk:KeepsOthers F t:=⟨r3.size,fun k o s ho=>(r3.block k (Array.getElem?_eq_some_iff.1 s).1 (fun e=>by
     obtain⟨R,N⟩:=k3.type e.symm;rw[ZbB N s]at ho;cases ho)).trans s⟩
    exact(((Zdi aa).trans kk).trans (KeepsOthers.setCell _ _ _)).from _
   ·rw[List.map_append];exact Q.snoc ak
  have c9:W.cell? ⟨f.heap.size,0,none⟩=some v:=(A.cell 0).trans rfl;have c2:W.cell? ⟨w.heap.size,0,none⟩=some (.pointer (some ⟨tb,0,none⟩)):=(O.cell 0).trans rfl;have x0:W.cell? ⟨L,0,none⟩=some (.pointer x.1.2.p):=(bX.cell 0).trans rfl;have x1:W.cell? ⟨L,1,none⟩=some (.int .i64 x.1.2.f):=(bX.cell 1).trans rfl;have aw:Hid (∀i,Below W.heap.size W i->i.cell? ⟨f.heap.size,0,none⟩=some v/\f.heap.size<i.heap.size):=fun i H=>⟨(H.cell (p:=⟨f.heap.size,0,none⟩) ag).trans c9,Nat.lt_of_lt_of_le ag H.size⟩
  have bo:=Db A;clear A O P Q B j6 bX aq aS ag ar au aU be hr ai
  gi_wp2
  refine wpIn_region_any ba ?_
  (try(change wpAnyIn _ _ _ _ _ _ _ _ _ (World.drew _)))
  repeat(first|exact AllReadyIn.nil|refine AllReadyIn.cons rfl (fun K z=>?_) ?_|(refine ZhD rfl 180 _ _ _ _ rfl _ _ _ ?_ ?_ ?_ ?_ (Da HT) ?_;(first|rfl|simp[Act.eval]);(first|rfl|simp[Act.eval]);(first|rfl|simp[Act.eval]);go_simp;rintro e i ⟨y,rfl,ak,Z⟩;refine⟨_,rfl,z _ _ ?_⟩;clear z K;have m9:=(Da aw i Z).1;have ml:=(Da aw i Z).2;have bt:¬f.heap.size=i.heap.size:=(by omega);have bu:¬i.heap.size=f.heap.size:=(by omega);have av:=Db (Da aV i y Z ak);clear Z ak)|(refine ZdC rfl _ _ 99 99 rfl _ _ ?_ ?_ (Da av) ?_;(first|rfl|simp[Act.eval]);(first|rfl|simp[Act.eval]);rintro v5 t ⟨a5,m5,c5,rfl,z9,zf,HF⟩;refine z _ _ ?_;clear z K av)|refine wpAnyIn_ready (rs:=[4]) (by decide +kernel) (by simp) ?_|refine wpAnyIn_ready (rs:=[5]) (by decide +kernel) (by simp) ?_|refine wpAnyIn_ready (rs:=[6]) (by decide +kernel) (by simp) ?_|refine wpAnyIn_ready (rs:=[7]) (by decide +kernel) (by simp) ?_|refine wpAnyIn_ready (rs:=[0,4]) (by decide +kernel) (by simp) ?_|refine wpAnyIn_ready (rs:=[0,5]) (by decide +kernel) (by simp) ?_|refine wpAnyIn_ready (rs:=[0]) (by decide +kernel) (by simp) ?_|refine wpAnyIn_ready (rs:=[1]) (by decide +kernel) (by simp) ?_|refine wpAnyIn_ready (rs:=[2]) (by decide +kernel) (by simp) ?_|refine wpAnyIn_ready (rs:=[3]) (by decide +kernel) (by simp) ?_|refine wpAnyIn_ready (rs:=[0,1]) (by decide +kernel) (by simp) ?_|refine wpAnyIn_ready (rs:=[0,2]) (by decide +kernel) (by simp) ?_|refine wpAnyIn_ready (rs:=[0,3]) (by decide +kernel) (by simp) ?_|refine wpAnyIn_ready (rs:=[1,2]) (by decide +kernel) (by simp) ?_|refine wpAnyIn_ready (rs:=[1,3]) (by decide +kernel) (by simp) ?_|refine wpAnyIn_ready (rs:=[2,3]) (by decide +kernel) (by simp) ?_|refine wpAnyIn_ready (rs:=[0,1,2]) (by decide +kernel) (by simp) ?_|refine wpAnyIn_ready (rs:=[0,1,3]) (by decide +kernel) (by simp) ?_|refine wpAnyIn_ready (rs:=[0,2,3]) (by decide +kernel) (by simp) ?_|refine wpAnyIn_ready (rs:=[1,2,3]) (by decide +kernel) (by simp) ?_|refine wpAnyIn_ready (rs:=[0,1,2,3]) (by decide +kernel) (by simp) ?_|(refine wpAnyIn_done (by decide +kernel) ?_ _;exact Da HF)|(go_simp;refine z _ _ ?_;clear z K))
 case done=>
  rintro D ys W hD rfl ⟨v,es,A,O,P,Q,B,j6⟩ z;have c9:W.cell? ⟨f.heap.size,0,none⟩=some v:=(A.cell 0).trans rfl;rw[aH]at Q;obtain⟨a,m,c,rfl⟩:=P.shape;have ax:=Db P;have aX:=Db Q;clear A O P Q j6
  gi_wp2
  refine⟨by simp,.inl ⟨_,_,rfl,run_takeDeferred z,?_⟩⟩;refine⟨.tuple #[.slice a m c,.int .i64 0],?_,⟨a,m,c,es,rfl,(Da ax).kept (fun k s e=>?_),Da aX⟩,B.trans (belowK_b (w:=w) (Nat.le_refl _) W D _ _ (by omega) z rfl rfl)⟩
  ·simp[results,Tryz.results120,go_sem]
  ·refine(grownBy_putObj' W D (.deferred none)).block k s (fun e'=>?_);obtain⟨R,N⟩:=(Da ax).type e
   cases e'
   have:=ZbB N z
   cases this
 case stop=>
  rintro D c ad W _ _ h _;exact h.elim
end
theorem ZjU{P:Program}{e:Array Oper}{f:List Oper}{o:Oper}{a:Act}{w:World}{Q:Exit->Act->World->Prop}(j:o.guard=none)(d:TypeId)(x:Operand)(ho:o.op = .sliceToArrayPointer d x)(n:Nat)(g:TypeId)(k:P.underlying d=some (.array n g))(b:OA)(l c:Nat)(m:a.eval x = .slice b l c)(hn:n<=l)
  (h:wpList P e Q f (a.put o.dst (.pointer b)) w):wpList P e Q (o::f) a w:=by
 refine wpList_plain j fun K i=>?_
 unfold Oper.wp execOp;simp only[ho,Instr.arrayAt,Sem.run_bind,m];simp[underlying,k,go_sem,show ¬l<n by omega];exact i _ _ h
theorem Zbi{P:Program}{c:Array Oper}{d:List Oper}{o:Oper}{a:Act}{w:World}{Q:Exit->Act->World->Prop}(k:o.guard=none)(ty:TypeId)(x y:Operand)(ho:o.op = .store ty x y)
  (g off:Nat) (t:TypeId) (L b:LVa) (m:a.eval x = .pointer (some ⟨g,off,none⟩)) (n:a.eval y = .agg b.toArray)
  (j:RowIs w g t L) (i:off+b.length<=L.length) (l:(P.info? ty).map (·.size)=some b.length) (e:∀u∈b,u.oneCell'=true)
  (h:wpList P c Q d (a.put o.dst undef) (w.setRow g (spl L off b).toArray)):wpList P c Q (o::d) a w:=
 wpList_plain k fun _K f=>Zez ty x y ho g off t L b m n j i l e (f _ _ h)
theorem ZiM(D:LY):Dc (JH D)=JB D:=by
 unfold JH JB Dc;simp[List.map_flatMap]
theorem take_set{D Z:LY}{k:Nat}{s:By}(a:D[k]?=some s)(hl:Z.length=D.length):(D.take k++Z.drop k).set k s=D.take (k+1)++Z.drop (k+1):=by
 have hk:=(List.getElem?_eq_some_iff.1 a).1;have e:D.take (k+1)=D.take k++[s]:=by rw[List.take_add_one,a];rfl
 have b:Z.drop k=Z[k]::Z.drop (k+1):=List.drop_eq_getElem_cons (by omega);rw[e,b,List.set_append_right _ _ (by rw[List.length_take];omega),List.length_take,show k-min k D.length=0 by omega,List.set_cons_zero,List.append_assoc]
 rfl
def Zmp(w:World)(D:LY)(e:Ending)(w':World):Prop:=
 ∃db vf a l c,e = .returned (.tuple #[.pointer (some ⟨db,0,none⟩),.bool true])/\DS w' db vf (.slice a l c) (.slice none 0 0) (.slice none 0 0) D/\¬Own (.slice a l c) db/\w.heap.size<=db/\(∀k,Own (.slice a l c) k->w.heap.size<=k)/\Below w.heap.size w w'
theorem Zoi(w:World)(a:OA)(l c:Nat)(D:LY)(h:Sl w 5 1 (.slice a l c) (JH D).size (Dc (JH D)))(n:D.length=1536)(d:∀s∈D,s.size=64):
  Calls Tryz.prog 75 #[.slice a l c] w (Zmp w D):=by
 have Y:(JH D).size=98304:=by rw[Zej d,n]
 rw[Y,ZiM]at h;obtain⟨i0,aj,am,an,ao⟩:=info_parts UL;rcases h.2 with⟨_,h0⟩|⟨g,aq,L,e,E,K,g2,g3,M⟩
 ·omega
 simp only[Value.slice.injEq]at e;obtain⟨rfl,rfl,rfl⟩:=e;have ai:=E.lt;have af:Hid (∀X k s,Below w.heap.size w X->D[k]?=some s->X.rangeAt g (k*64) (Dc s)):=fun X k s r V j v Z=>by
  have aw:=d s (List.mem_of_getElem? V);have S:j<64:=by have:=(List.getElem?_eq_some_iff.1 Z).1;rw[Dg]at this;omega
  have:=ZfN d k j s V S;rw[Z,<-M,List.getElem?_take]at this
  split at this
  ·have ag:RowIs X g 5 L:=(r.block _ ai).trans E;rw[ag.cell];exact this
  ·cases this
 have I:Hid (∀X,Below w.heap.size w X->SlD X (.slice (some ⟨w.heap.size,0,none⟩) 1536 1536) D->Calls Tryz.prog 134 #[.slice (some ⟨w.heap.size,0,none⟩) 1536 1536] X fun e w'=>∃m,e = .returned (.pointer (some ⟨m,0,none⟩))/\Hid (Zmp w D (.returned (.tuple #[.pointer (some ⟨m,0,none⟩),.bool true])) w')):=fun X r N=>by
  refine(ZeC X _ D N n).mono ?_;rintro e w' ⟨rfl,ap,x,G,p,q4⟩;have P:=r.size;have ak:=N.1.lt (g:=w.heap.size) rfl;refine⟨X.heap.size,rfl,X.heap.size,ap,_,_,_,rfl,x,fun e=>?_,P,fun k T=>?_,r.trans (p.mono P)⟩
  ·simp[Own,Value.ownBlock]at e;omega
  ·simp[Own,Value.ownBlock]at T;omega
 have aa:=Db d;have H:=Db n;have ac:=Db K;clear h Y E g3 M d n K;go_enter Tryz.func75,Tryz.ntmps75;go_wp2_with (at_make;refine wpList_make_full _ rfl _ _ 186 rfl 0 188 i0 (DA (Dm 64)) 64 ZkK aj am an _ _ _ _ 1536 rfl rfl rfl rfl (by rw[ao];decide) (by unfold maxLen;decide) (Nat.zero_le _) ?_;intro w1 U R;have J:=Db (And.intro (Sl.of_owns U) (KJ R));clear U R)
 go_loopw [12] (fun i wr=>∃k:Nat,k<=1536/\i = .int .i64 k/\Hid (SlD wr (.slice (some ⟨w.heap.size,0,none⟩) 1536 1536) (D.take k++J1.drop k)/\Below w.heap.size w wr)) (fun i _=>1536-(intOf i).toNat)
 case atStart=>
  obtain⟨b,o⟩:=Da J;rw[Zgh 1536,<-ZcR]at b;exact⟨0,Nat.zero_le _,rfl,⟨by rw[List.take_zero,List.nil_append,List.drop_zero,Ks];exact b,by rw[List.take_zero,List.nil_append,List.drop_zero];exact Zf4⟩,o⟩
 case round=>
  obtain⟨k,T,rfl,y⟩:=hrel;by_cases ak:k<1536
  ·obtain⟨b,o⟩:=Da y;have n:=Da H;have d:=Da aa;obtain⟨s,t⟩:∃s,D[k]?=some s:=⟨_,List.getElem?_eq_getElem (by omega)⟩;have F:s.size=64:=d s (List.mem_of_getElem? t);have C:(D.take k++J1.drop k).length=1536:=by rw[List.length_append,List.length_take,List.length_drop,Ks];omega
   obtain⟨g',c',A,B,q,O,x,G,p⟩:=b.row (by omega);rw[C]at B;simp only[Value.slice.injEq,Option.some.injEq,Addr.mk.injEq]at B;obtain⟨⟨e1,_,_⟩,_,e3⟩:=B;subst e1 e3;obtain⟨W,f⟩:∃X,wr.setRow w.heap.size (spl A (k*64) (Dc s)).toArray=X:=⟨_,rfl⟩;have Q:(Dc s).length=64:=by rw[Dg,F]
   have xW:RowIs W w.heap.size 188 (spl A (k*64) (Dc s)):=by rw[<-f];exact setRow_heap wr _ _ _ 188 _ q
   have ab:Hid (SlD W (.slice (some ⟨w.heap.size,0,none⟩) 1536 1536) (D.take (k+1)++J1.drop (k+1))/\Below w.heap.size w W):=by
    have:=SlD.set q O x G p b.2 k s (by omega) F W xW;rw[take_set t (by rw[Ks,n]),C]at this;exact⟨this,o.trans ⟨by rw[<-f];rfl,by rw[<-f];rfl,by rw[<-f];rfl,by rw[<-f];simp,fun j S=>by rw[<-f];exact setRow_other wr _ j _ (by omega)⟩⟩
   have ae:=Db (Da af wr k s o t);have HX:=Db q;have HW:=Db f;have z:=Db Q;have ad:=Db p;have ax:IntKind.i64.wrap ((k:Int)*64)=((k*64:Nat):Int):=by rw[IntKind.wrap_i64];omega
   have au:(k:Int)<1536:=by omega
   have ah:=Da ac;have ar:¬c=k*64:=by omega
   have av:k*64<=98304:=by omega
   clear ah;have al:Hid (∀u∈Dc s,u.oneCell'=true):=Kc s;clear b o xW q O x G p C n d F Q t f y J I;go_wp2_with (first|(refine ZjU rfl 188 _ rfl 64 5 JQ _ _ _ rfl (by omega) ?_)|(refine wpList_load_mid rfl 188 _ rfl g (k*64) rfl (Dc s) _ (Da ae) JQ rfl (by rw[D2,Da z]) ?_)|(refine Zbi rfl 188 _ _ rfl w.heap.size (k*64) 188 A (Dc s) rfl rfl (Da HX) (by rw[Da z,Da ad];omega) (by rw[D2,Da z]) (Da al) ?_;rw[Da HW]))
   go_roundw
   case rel=>exact⟨k+1,by omega,by go_num,Da ab⟩
   case measure=>simp[intOf];omega
  ·obtain rfl:k=1536:=by omega
   have HC:Hid (Calls Tryz.prog 134 #[.slice (some ⟨w.heap.size,0,none⟩) 1536 1536] wr fun e w'=>∃m,e = .returned (.pointer (some ⟨m,0,none⟩))/\Hid (Zmp w D (.returned (.tuple #[.pointer (some ⟨m,0,none⟩),.bool true])) w')):=by
    obtain⟨b,o⟩:=Da y;rw[List.take_of_length_le (Nat.le_of_eq (Da H)),List.drop_of_length_le (Nat.le_of_eq Ks),List.append_nil]at b;exact Da I wr o b
   go_wp2_with (go_at_call 134;refine(Da HC).mono ?_;rintro e w' ⟨m,rfl,HP⟩);exact bodyPost_ret (v := .tuple #[.pointer (some ⟨m,0,none⟩),.bool true]) (by simp[results,Tryz.results75,go_sem]) rfl (Da HP)
end Go.Proofs.YtaieidcohdhgpaaGreatDoor
