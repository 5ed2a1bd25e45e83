/- The law Kept returns true at every script of bulk at most 1048576 (values and letters, each counted each time it is reached), whatever the world; the script reads behind the call as before. Conditions: the row's own alone: what two tables of package unicode/utf8 hold is taken from the row's list; that bound. -/
import Derived.Test.YtaieidcohdhgpaaGreatDoorKAS
import Derived.Test.YtaieidcohdhgpaaGreatDoorKAT
import Derived.LaidOnce
import Derived.Deep.DeepHandedRow
import Derived.Deep.Slices
namespace Go.Proofs.YtaieidcohdhgpaaGreatDoor
set_option maxHeartbeats 40000000
set_option maxRecDepth 100000
set_option linter.all false
open _root_.Go.Proofs.Tryz
open Go.ChangeShapes Go.WideShapes Go.ChangeAt Go.RowKit
section
variable{H:Type}
theorem ZrW(d:DataW H):1<=Rows.uptoBulk d:=by
 cases d with
 |lit l=>cases l<;>simp[Rows.uptoBulk]
 |nil=>simp[Rows.uptoBulk]
 |ptr d=>simp[Rows.uptoBulk]
 |slice elems spare=>simp[Rows.uptoBulk]
 |agg parts=>simp[Rows.uptoBulk]
 |iface t d=>simp[Rows.uptoBulk]
 |map entries=>simp[Rows.uptoBulk]
 |held h=>simp[Rows.uptoBulk]
theorem YC:∀l:List (DataW H),l.length<=Rows.uptoBulkAll l
 |[]=>by simp
 |d::l=>by
  have:=YC l;have:=ZrW d;simp only[Rows.uptoBulkAll,Ay];omega
theorem YD:∀{l:List (DataW H)} {d:DataW H},d∈l->Rows.uptoBulk d<=Rows.uptoBulkAll l
 |x::l,d,h=>by
  simp only[Rows.uptoBulkAll];rcases AM.1 h with rfl|h
  ·omega
  ·have:=YD h;omega
end
theorem MH{α : Type}{l:List α}(h:l.length=7):∃a b c d e f g,l=[a,b,c,d,e,f,g]:=by
 match l,h with
 |[a,b,c,d,e,f,g],_=>exact⟨a,b,c,d,e,f,g,rfl⟩
theorem Xq:Tryz.prog.cellsOf 51=7:=by kernel_rfl
theorem M2:Tryz.prog.cellsOf 3=1:=by kernel_rfl
theorem ZtY:Tryz.prog.cellsOf 9=1:=by kernel_rfl
theorem Zrl:laidOutB Tryz.prog=true:=by kernel_rfl
def ME{H:Type}(o:Lb):DataW H:=.agg [.lit (.int .i64 o.k),.lit (.int .i64 o.kk),.lit (.int .i64 o.a),.lit (.int .i64 o.b),.lit (.string o.s.data.toList),.lit (.string o.t.data.toList),.lit (.string o.u.data.toList)]
def PC(o:Lb):Gf:=[.int .i64 o.k,.int .i64 o.kk,.int .i64 o.a,.int .i64 o.b,.string o.s,.string o.t,.string o.u]
theorem wf_le{n:Int}(h:(Lit.int .i64 n).wf=true):Jt n:=by
 unfold Lit.wf at h;rw[AQ]at h;exact⟨Bd h.1,Bd h.2⟩
theorem Ztf{H:Type}{enc:TypeId×Value->H}{W:World}{sp:Nat->Bool}{fuel:Nat}{cs:Gf}{x:DataW H×List MemPlace}(h:DataW.trod enc Tryz.prog W 0 sp true fuel 51 cs=some x):
  ∃o:Lb,cs=PC o/\x.1=ME o/\Jt o.a/\Jt o.b:=by
 obtain⟨xs,n,rfl,rfl,hl,hxl,hf⟩:=DataW.trod_struct underlying51 h;rw[Xq]at hl;obtain⟨c0,c1,c2,c3,c4,c5,c6,rfl⟩:=MH hl;obtain⟨y0,y1,y2,y3,y4,y5,y6,rfl⟩:=MH (l:=xs) hxl;have g0:=hf 0 _ rfl;have g1:=hf 1 _ rfl;have g2:=hf 2 _ rfl;have g3:=hf 3 _ rfl;have g4:=hf 4 _ rfl;have g5:=hf 5 _ rfl;have g6:=hf 6 _ rfl;simp[M2]at g0 g1 g2 g3;simp[ZtY]at g4 g5 g6;obtain⟨k,e0,rfl,_⟩:=F7 underlying3 g0;obtain⟨kk,e1,rfl,_⟩:=F7 underlying3 g1;obtain⟨a,e2,rfl,w2⟩:=F7 underlying3 g2;obtain⟨b,e3,rfl,w3⟩:=F7 underlying3 g3;obtain⟨s,e4,rfl,_⟩:=Ga underlying9 g4;obtain⟨t,e5,rfl,_⟩:=Ga underlying9 g5;obtain⟨u,e6,rfl,_⟩:=Ga underlying9 g6;simp only[Fu,and_true]at e0 e1 e2 e3 e4 e5 e6;subst e0 e1 e2 e3 e4 e5 e6;exact⟨⟨k,kk,a,b,s,t,u⟩,rfl,rfl,wf_le w2,wf_le w3⟩
theorem Zk7{H:Type}{enc:TypeId×Value->H}{W:World}{a0:OA}{len cap fuel:Nat}{x:DataW H×List MemPlace}(hf:DataW.trod enc Tryz.prog W 0 (λ_=>true) true fuel 22 [.slice a0 len cap]=some x):
  ∃os:List Lb,os.length=len/\Nd W a0 os/\(∀o∈os,Jt o.a/\Jt o.b)/\(os=[]\/∃spare,x.1=.slice (os.map ME) spare):=by
 rcases Deep.open_slice underlying22 hf with⟨hcs,hx⟩|⟨a,len',cap',m,n,D,Pl,hcs,_,hl,_,hm,hx,hel⟩
 ·simp at hcs;obtain⟨rfl,rfl,rfl⟩:=hcs;exact⟨[],rfl,λm o h=>(by simp at h),λo h=>(by cases h),.inl rfl⟩
 ·simp at hcs;obtain⟨rfl,rfl,rfl⟩:=hcs;simp only[FD]at hm;subst hx hm;rw[Xq]at hel;have hspot:0<len->a.spot=none:=λh=>by
   obtain⟨cs',h1,h2⟩:=hel 0 (by omega);obtain⟨_,hlen,hcell⟩:=World.cells?_some h1;have h0:=hcell 0 (by omega);rw[Ab (by omega)]at h0;have:=World.cell?_spot h0
   simpa [Addr.add] using this
  have key:∀i,i<len->∃o:Lb,(∃g f,a=⟨g,f,none⟩/\∀j,j<7->∃v,(PC o)[j]?=some v/\W.cell? ⟨g,f+i*7+j,none⟩=some v)/\D i=ME o/\Jt o.a/\Jt o.b:=λi hi=>by
   obtain⟨cs',h1,h2⟩:=hel i (by omega);obtain⟨_,hlen,hcell⟩:=World.cells?_some h1;obtain⟨o,rfl,hD,w2,w3⟩:=Ztf h2;have hsp:=hspot (by omega);obtain⟨g,f,sp⟩:=a;simp only at hsp;subst hsp;refine⟨o,⟨g,f,rfl,λj hj=>?_⟩,hD,w2,w3⟩;have hj':=hcell j hj;refine⟨_,Ab (by simpa [PC] using hj),?_⟩;rw[add_plain,add_plain]at hj';rw[hj',Ab (by simpa [PC] using hj)]
  haveI:Inhabited Lb:=⟨⟨0,0,0,0,⟨#[]⟩,⟨#[]⟩,⟨#[]⟩⟩⟩
  obtain⟨f,hq⟩:=Deep.choose_lt key;refine⟨(List.range len).map f,by simp,λj o ho=>?_,λo ho=>?_,.inr ⟨(List.range (m-len)).map λj=>D (len+j),?_⟩⟩
  ·have hj:j<len:=by have:=(Ac.1 ho).1;simpa using this
   have e:f j=o:=by simpa [List.getElem?_map,List.getElem?_range hj] using ho
   subst e;obtain⟨⟨g,ff,rfl,hc⟩,_⟩:=hq j hj;refine⟨g,ff,rfl,?_,?_,?_,?_,?_,?_,?_⟩
   ·obtain⟨v,h1,h2⟩:=hc 0 (by omega);cases h1;exact h2
   ·obtain⟨v,h1,h2⟩:=hc 1 (by omega);cases h1;exact h2
   ·obtain⟨v,h1,h2⟩:=hc 2 (by omega);cases h1;exact h2
   ·obtain⟨v,h1,h2⟩:=hc 3 (by omega);cases h1;exact h2
   ·obtain⟨v,h1,h2⟩:=hc 4 (by omega);cases h1;exact h2
   ·obtain⟨v,h1,h2⟩:=hc 5 (by omega);cases h1;exact h2
   ·obtain⟨v,h1,h2⟩:=hc 6 (by omega);cases h1;exact h2
  ·obtain⟨j,hj,rfl⟩:=AB.1 ho;exact(hq j (Cz.1 hj)).2.2
  ·show DataW.slice _ _=_;rw[BP]
   congr 1
   exact Ch (λi hi=>(hq i (Cz.1 hi)).2.1)
theorem ops_ok{H:Type}{os:List Lb}{spare:List (DataW H)}(hb:Rows.uptoBulkAll [DataW.slice (os.map ME) spare]<=1048576)(hab:∀o∈os,Jt o.a/\Jt o.b):os.length<=1048576/\∀o∈os,o.ok:=by
 simp only[Rows.uptoBulkAll,Rows.uptoBulk]at hb;have h1:=YC (os.map (ME (H:=H)));rw[AT]at h1;refine⟨by omega,λo ho=>?_⟩;have h2:=YD (Fg (f:=ME (H:=H)) ho);have h3:o.s.size+o.t.size+o.u.size<=Rows.uptoBulk (ME (H:=H) o):=by
  unfold ME;simp only[Rows.uptoBulkAll,Rows.uptoBulk,AF];have hs:∀s:By,s.data.size=s.size:=λ_=>rfl
  rw[hs,hs,hs];omega
 unfold Lb.ok;obtain⟨ha,hb'⟩:=hab o ho;refine⟨ha,hb',by omega,by omega,by omega⟩
theorem pkg_ok{W:World}(h:W.ShapedOpen Tryz.prog):GU W:=by
 obtain⟨cs,hh,hs,hr⟩:=h.1 0 #[.int .i64 0] 3 (Bd (by kernel_rfl)) (by kernel_rfl);refine⟨cell_of_shapedOpen_int (zero:=#[.int .i64 0]) (t:=3) h (Bd (by kernel_rfl)) (by kernel_rfl) rfl (by kernel_rfl) (by kernel_rfl) underlying3,λt R hR=>?_⟩;unfold Gb at hR;rw[hh]at hR
 cases hR
 rfl
theorem Ztv:ownKnob Tryz.prog.godebug=none:=by kernel_rfl
theorem Zkb(os:Os){H:Type}(enc:TypeId×Value->H):
  ∃(w:World) (tape:Tape) (i:Input),w.os=os/\(w.forCall tape i).Shaped Tryz.checked.prog/\i.vars=[]/\Input.okWide Tryz.checked.prog (w.forCall tape i) .any w.heap.size 4 i/\
   (Rows.OpenSpec.upto Rows.keptSpec).preRow enc Tryz.checked.prog Tryz.f4 Rows.keptUptoRow.domain false Rows.keptUptoRow.laid (w.forCall tape i).memory i.args/\({ modest:=false }:Assume).holds Tryz.checked.prog (lone (Frame.enter Tryz.checked.prog 4 i.args .normal) [] (w.forCall tape i)):=by
 have hok:Input.okWideB Tryz.prog ((World.laidAll Tryz.prog os Rows.keptUptoRow.laid).forCall (λ_ _=>0) ⟨#[],#[.slice none 0 0],[]⟩) 4 ⟨#[],#[.slice none 0 0],[]⟩=true:=by kernel_rfl
 have hw:(DataW.whole enc Tryz.prog ((World.laidAll Tryz.prog os Rows.keptUptoRow.laid).forCall (λ_ _=>0) ⟨#[],#[.slice none 0 0],[]⟩).memory Tryz.f4.params.toList (Rows.OpenSpec.upto Rows.keptSpec).vars false #[Value.slice none 0 0].toList 8).map (λx=>(x.1,x.2.1))=some ([.nil],[]):=by kernel_rfl
 obtain⟨⟨x1,x2,x3⟩,hx,hx1⟩:=ED.1 hw;simp only[Cu]at hx1;obtain⟨rfl,rfl⟩:=hx1;refine⟨World.laidAll Tryz.prog os Rows.keptUptoRow.laid,λ_ _=>0,⟨#[],#[.slice none 0 0],[]⟩,World.laidAll_os _ _ _,World.shaped_of_ZipB (by kernel_rfl) (by kernel_rfl),(Input.okWide_of_okWideB (base:=0) hok).1,(Input.okWide_of_okWideB hok).2,
  OpenSpec.preRow_of_cond 8 hx (by kernel_rfl) (λk hk=>by cases hk;rfl) (by kernel_rfl) ?_,?_⟩
 ·rw[MakeChecks.laidMetH_plain _ _ _ (by kernel_rfl)];exact laidMet_laidAll _ (by kernel_rfl) (by kernel_rfl)
 ·simp only[Assume.holds];exact⟨by simp,by simp,λh=>(by cases h),by simp,by simp⟩
theorem Zns(os:Os)(started:os.Started)(H:Type)(enc:TypeId×Value->H)(F:Stop.Interp):
  ReturnsInHanded {} Tryz.checked os 4 .any ((Rows.OpenSpec.upto Rows.keptSpec).preRow enc Tryz.prog Tryz.f4 Rows.keptUptoRow.domain false Rows.keptUptoRow.laid) (((Rows.OpenSpec.upto Rows.keptSpec).at F).post enc Tryz.prog Tryz.f4 false true false false):=by
 refine returnsInHanded_of_row (C:=Tryz.checked) (s:=Rows.OpenSpec.upto Rows.keptSpec) Ztv started (by kernel_rfl) func4 (Zkb os enc) ?_;intro W base args ds gs before hval0 hW _ hcond0 _ _ hsh _;have hcond:Rows.uptoSmall H (ds++gs)=true:=hcond0 _ rfl;have hval:∀(j:Nat) t v,Tryz.f4.params[j]?=some t->args[j]?=some v->Value.okWide Tryz.prog W .any base t v:=hval0;have hW':=hW;obtain⟨p,q,hA0,hV0,rfl,_,_⟩:=hW;have hA:DataW.TrodAll enc Tryz.prog W 0 (λ_=>true) true Tryz.f4.params.toList args.toList ds p:=hA0;rw[params4]at hA hval;obtain⟨v0,vs0,d0,ds0,p0,q0,hargs,rfl,rfl,h0,r0⟩:=trodAll_cons hA;obtain⟨rfl,rfl,rfl⟩:=trodAll_nil r0;obtain rfl:args = #[v0]:=by cases args;simp_all
 obtain⟨rfl,rfl⟩:=trodVars_none hV0;obtain⟨a0,len,cap,rfl⟩:=okWide_slice underlying22 (hval 0 22 v0 rfl rfl);have h0k:=h0;obtain⟨fuel,hf⟩:=h0;clear hA0 hV0 hval0 hcond0 hA;simp only[Ca]at hW' hcond;have hlt:∀x∈p0,x.block<W.heap.size:=λx hx=>by simpa using hW'.lt x (by simp[hx])
 obtain⟨ops,hlen,hrd,hab,hsh'⟩:=Zk7 hf;have hbulk:Rows.uptoBulkAll [d0]<=1048576:=Bd hcond;have hok:ops.length<=1048576/\∀o∈ops,o.ok:=by
  rcases hsh' with rfl|⟨spare,hd⟩
  ·exact⟨by simp,λo ho=>by cases ho⟩
  ·simp only at hd;rw[hd]at hbulk;exact ops_ok hbulk hab
 subst hlen;refine(Zo1 W (pkg_ok hsh) a0 cap ops hok.1 hok.2 hrd).Q λe W' ⟨he,bel⟩=>?_
 subst he;refine⟨_,rfl,_,_,_,[],p0,[],hW',trodAll_mk1 (shut_bool underlying4 _),?_,rfl,bel.frame _,λh=>by cases h⟩;exact trodAll_mk1 (Below.trod Zrl (by kernel_rfl) (Bd (by kernel_rfl)) h0k bel hlt)
theorem Zo0:Rows.KeptUptoSaid:=
 OpenClaim.holds_of_cond 4 Tryz.f4 rfl rfl rfl rfl rfl rfl rfl ⟨rfl,rfl,rfl,rfl,rfl⟩ rfl rfl rfl rfl rfl Zrn func4 ZoY Ztr Ztm
  (λos started H enc _ F=>by rw[OpenClaim.pre_eq_preRow];exact Zns os started H enc F)
theorem Zro:true=Tryz.pinned.checked.prog.looks []:=by kernel_rfl
theorem Znr(f:FuncId)(fn:Func)(hf:Tryz.pinned.checked.prog.funcNamed Rows.keptUptoRow.func=some f)(hfn:Tryz.pinned.checked.prog.funcs[f]?=some fn):
  true=Tryz.pinned.checked.prog.looks []/\∀(j:Nat) t,fn.params[j]?=some t->Tryz.pinned.checked.prog.wantsStandIn t=false:=by
 obtain rfl:f=4:=FX ((show Tryz.prog.funcNamed Rows.keptUptoRow.func=some 4 by kernel_rfl).r.M hf) |>.r
 obtain rfl:fn=Tryz.f4:=(FX (func4.r.M hfn)).r;refine⟨Zro,λj t ht=>?_⟩;rw[params4]at ht;obtain rfl:t=22:=by simpa using Array.mem_of_getElem? ht
 exact(show Tryz.prog.wantsStandIn 22=false by kernel_rfl)
theorem Zrr:Rows.keptUptoRow.laidByTextAt .later Tryz.pinned [.data,.data,.data,.data,.sentinel,.sentinel,.pinned] true:=
 OpenClaim.laidByTextAt_pinned rfl rfl (Program.laidByTextLater_by_one 72 8 65 (by kernel_rfl) (by kernel_rfl) (by kernel_rfl) (by kernel_rfl) (by kernel_rfl) (by kernel_rfl) (λ_ _=>by kernel_rfl)) rfl rfl rfl rfl (λy hy e=>by
  simp only[Rows.keptUptoRow,List.zip_cons_cons,List.zip_nil_right,AM,Ey,or_false]at hy;rcases hy with rfl|rfl|rfl|rfl|rfl|rfl|rfl
  iterate 6 cases e
  exact⟨by kernel_rfl,by kernel_rfl⟩) (by unfold Program.listedFits;rw[AQ,CE];exact⟨.inl (by kernel_rfl),by kernel_rfl⟩)
theorem kept_card:Rows.KeptUptoCardSaid:=
 Claim7.holds_tied_plain_at .later [] _ _ _ _ Zo0 (λ_ h=>by cases h) (by kernel_rfl) (λ_ h=>by cases h) Zrr rfl ⟨rfl,rfl⟩ (by kernel_rfl) rfl Znr (by kernel_rfl)
#print axioms kept_card
end Go.Proofs.YtaieidcohdhgpaaGreatDoor
