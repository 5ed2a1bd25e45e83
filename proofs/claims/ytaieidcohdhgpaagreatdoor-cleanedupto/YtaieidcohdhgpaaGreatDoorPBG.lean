/- Cleaned. -/
import Derived.Test.YtaieidcohdhgpaaGreatDoorPBF
namespace Go.Proofs.YtaieidcohdhgpaaGreatDoor
set_option maxHeartbeats 8000000
set_option maxRecDepth 100000
open Go.RowKit
def KP(s0 s1:By):Option (Nat×Nat×Nat):=
 if KM 0 s0=true/\KM 1 s1=true then
  if ckT s0=(ckT s1+1)%18446744073709551616 then some (ckT s0,rdP (ckQ s0),rdX (ckQ s0))
  else if ckT s1=(ckT s0+1)%18446744073709551616 then some (ckT s1,rdP (ckQ s1),rdX (ckQ s1))
  else none
 else none
def Ka(o:Option (Nat×Nat×Nat)):Value:=
 match o with
 | some (t,p,x) => .tuple #[.agg #[.int .u64 (t:Nat),.int .i64 (p:Nat),.int .u64 (x:Nat)],.bool true]
 | none => .tuple #[.agg #[.int .u64 0,.int .i64 0,.int .u64 0],.bool false]
theorem QQ{w:World}{g:Nat}{t:TypeId}{a b c:Value}(h:RowIs w g t [a,b,c])(x y z:Value):RowIs (((w.setCell ⟨g,0,none⟩ x).setCell ⟨g,1,none⟩ y).setCell ⟨g,2,none⟩ z) g t [x,y,z]:=((h.set 0 x).set 1 y).set 2 z
theorem Ul{n:Nat}{w w':World}{g:Nat}(h:Below n w w')(a:n<=g)(x y z:Value):Below n w (((w'.setCell ⟨g,0,none⟩ x).setCell ⟨g,1,none⟩ y).setCell ⟨g,2,none⟩ z):=
 ((h.setCell (p:=⟨g,0,none⟩) a _).setCell (p:=⟨g,1,none⟩) a _).setCell (p:=⟨g,2,none⟩) a _
theorem ZgK(w:World)(x:Nat)(L vw K:Value)(a:OA)(l c:Nat)(D:LY)(h:DO w x L (.slice a l c) vw K D)(j m:By)(h0:D[0]?=some j)(h1:D[1]?=some m):
  Calls Tryz.prog 135 #[.pointer (some ⟨x,0,none⟩)] w fun e w'=>e = .returned (Ka (KP j m))/\Below w.heap.size w w':=by
 obtain⟨G,e1,x1,k1,z1,R⟩:=De w [.int .u64 0,.int .i64 0,.int .u64 0] 191;have S:∀X,Below w.heap.size w X->DO X x L (.slice a l c) vw K D:=fun X hb=>⟨(hb.block _ h.1.lt).trans h.1,⟨h.2.1.1.kept (fun k hk _=>hb.block k hk),h.2.1.2⟩,h.2.2⟩
 obtain⟨f,aa⟩:∃T,T=ckT j:=⟨_,rfl⟩;obtain⟨r,W⟩:∃T,T=rdP (ckQ j):=⟨_,rfl⟩;obtain⟨t,ac⟩:∃T,T=rdX (ckQ j):=⟨_,rfl⟩;obtain⟨g,ab⟩:∃T,T=ckT m:=⟨_,rfl⟩;obtain⟨s,Z⟩:∃T,T=rdP (ckQ m):=⟨_,rfl⟩;obtain⟨u,ad⟩:∃T,T=rdX (ckQ m):=⟨_,rfl⟩;obtain⟨O,U⟩:∃b,b=KM 0 j:=⟨_,rfl⟩;obtain⟨K1,V⟩:∃b,b=KM 1 m:=⟨_,rfl⟩;have HC:Hid (Calls Tryz.prog 201 #[.pointer (some ⟨x,0,none⟩),.int .i64 0] G fun e X=>e = .returned (.tuple #[.agg #[.int .u64 (f:Nat),.int .i64 (r:Nat),.int .u64 (t:Nat)],.bool O])/\∃Y,X.alloc (.cells #[.int .u64 (f:Nat),.int .i64 (r:Nat),.int .u64 (t:Nat)] 191)=Y/\
   Hid (Calls Tryz.prog 201 #[.pointer (some ⟨x,0,none⟩),.int .i64 1] Y fun e y=>e = .returned (.tuple #[.agg #[.int .u64 (g:Nat),.int .i64 (s:Nat),.int .u64 (u:Nat)],.bool K1])/\∃n,y.alloc (.cells #[.int .u64 (g:Nat),.int .i64 (s:Nat),.int .u64 (u:Nat)] 191)=n/\RowIs n w.heap.size 191 [.int .u64 0,.int .i64 0,.int .u64 0]/\RowIs n X.heap.size 191 [.int .u64 (f:Nat),.int .i64 (r:Nat),.int .u64 (t:Nat)]/\RowIs n y.heap.size 191 [.int .u64 (g:Nat),.int .i64 (s:Nat),.int .u64 (u:Nat)]/\Hid (Below w.heap.size w n))):=by
  refine(Zfj G x L vw K a l c D (S G R) 0 j h0).mono ?_;rintro e X ⟨rfl,hX⟩;obtain⟨Y,eY,xY,kY,sY,bY⟩:=De X [.int .u64 (f:Nat),.int .i64 (r:Nat),.int .u64 (t:Nat)] 191;have aw:=hX.size;have aj:Below w.heap.size w X:=R.trans (hX.mono (by omega));have J:Below w.heap.size w Y:=aj.trans (bY.mono aj.size);refine⟨by rw[aa,W,ac,U],Y,eY,?_⟩;refine(Zfj Y x L vw K a l c D (S Y J) 1 m h1).mono ?_;rintro e y ⟨rfl,I⟩;obtain⟨n,an,au,ak,ax,am⟩:=De y [.int .u64 (g:Nat),.int .i64 (s:Nat),.int .u64 (u:Nat)] 191;have av:=I.size;have y1:RowIs Y w.heap.size 191 _:=kY _ _ _ ((hX.block _ x1.lt).trans x1);refine⟨by rw[ab,Z,ad,V],n,an,ak _ _ _ ((I.block _ y1.lt).trans y1),ak _ _ _ ((I.block _ xY.lt).trans xY),au,J.trans ((I.mono J.size).trans (am.mono (by have:=J.size;omega)))⟩
 have F:Hid (KP j m=if O=true/\K1=true then if f=(g+1)%18446744073709551616 then some (f,r,t) else if g=(f+1)%18446744073709551616 then some (g,s,u) else none else none):=by
  show KP j m=_;unfold KP;rw[aa,W,ac,ab,Z,ad,U,V]
 have aq:IntKind.u64.wrap ((f:Int)+1)=(((f+1)%18446744073709551616:Nat):Int):=by simp[IntKind.wrap,IntKind.bits,IntKind.signed]
 have ar:IntKind.u64.wrap ((g:Int)+1)=(((g+1)%18446744073709551616:Nat):Int):=by simp[IntKind.wrap,IntKind.bits,IntKind.signed]
 obtain⟨P,ag⟩:∃M,M=(f+1)%18446744073709551616:=⟨_,rfl⟩;obtain⟨Q,ah⟩:∃M,M=(g+1)%18446744073709551616:=⟨_,rfl⟩;rw[<-ag]at aq F;rw[<-ah]at ar F;obtain⟨LV,H⟩:∃v,v=Ka (KP j m):=⟨_,rfl⟩;rw[<-H];rw[Da F]at H;have A:=Db H;have al:=Db e1;clear H F ag ah e1 x1 k1 z1 R S h h0 h1 aa W ac ab Z ad U V;go_enter Tryz.func135,Tryz.ntmps135;go_upto_region 1 with fail;rw[show w.alloc (.cells #[.int .u64 0,.int .i64 0,.int .u64 0] 191)=G from Da al];go_upto_region 2 with(go_at_call 201;refine(Da HC).mono ?_;rintro e X ⟨rfl,Y,hY,ae⟩;have HY:=Db hY;clear hY);rw[show X.alloc (.cells #[.int .u64 (f:Nat),.int .i64 (r:Nat),.int .u64 (t:Nat)] 191)=Y from Da HY];go_upto_region 3 with(go_at_call 201;refine(Da ae).mono ?_;rintro e y ⟨rfl,n,ai,i,r1,r2,z⟩;have af:=Db ai;clear ai);rw[show y.alloc (.cells #[.int .u64 (g:Nat),.int .i64 (s:Nat),.int .u64 (u:Nat)] 191)=n from Da af];have a0:=i.cell 0;have a1:=i.cell 1;have a2:=i.cell 2;have f0:=i.frozen 0;have f1:=i.frozen 1;have f2:=i.frozen 2;have c0:=r1.cell 0;have c1:=r1.cell 1;have c2:=r1.cell 2;have d0:=r2.cell 0;have d1:=r2.cell 1;have d2:=r2.cell 2;clear HC ae HY af
 cases O
 ·go_wp2;have d:=QQ i (.int .u64 0) (.int .i64 0) (.int .u64 0);have o:=d.cell 0;have p:=d.cell 1;have q:=d.cell 2;exact bodyPost_ret (v:=Ka none) (by simp[results,Tryz.results135,go_sem,o,p,q,Ka]) rfl ⟨by rw[Da A];simp,Ul (Da z) (Nat.le_refl _) _ _ _⟩
 ·cases K1
  ·go_wp2;have d:=QQ i (.int .u64 0) (.int .i64 0) (.int .u64 0);have o:=d.cell 0;have p:=d.cell 1;have q:=d.cell 2;exact bodyPost_ret (v:=Ka none) (by simp[results,Tryz.results135,go_sem,o,p,q,Ka]) rfl ⟨by rw[Da A];simp,Ul (Da z) (Nat.le_refl _) _ _ _⟩
  ·by_cases B:f=Q
   ·have ao:((f:Int)==(Q:Int))=true:=by rw[B];simp
    have E:=Db B;clear B;go_wp2;have d:=QQ i (.int .u64 (f:Nat)) (.int .i64 (r:Nat)) (.int .u64 (t:Nat));have o:=d.cell 0;have p:=d.cell 1;have q:=d.cell 2;exact bodyPost_ret (v:=Ka (some (f,r,t))) (by simp[results,Tryz.results135,go_sem,o,p,q,Ka]) rfl ⟨by rw[Da A];simp[Da E],Ul (Da z) (Nat.le_refl _) _ _ _⟩
   ·have ao:((f:Int)==(Q:Int))=false:=by rw[beq_eq_false_iff_ne];omega
    have E:=Db B;clear B;by_cases C:g=P
    ·have ap:((g:Int)==(P:Int))=true:=by rw[C];simp
     have N:=Db C;clear C;go_wp2;have d:=QQ i (.int .u64 (g:Nat)) (.int .i64 (s:Nat)) (.int .u64 (u:Nat));have o:=d.cell 0;have p:=d.cell 1;have q:=d.cell 2;exact bodyPost_ret (v:=Ka (some (g,s,u))) (by simp[results,Tryz.results135,go_sem,o,p,q,Ka]) rfl ⟨by rw[Da A];simp[Da E,Da N],Ul (Da z) (Nat.le_refl _) _ _ _⟩
    ·have ap:((g:Int)==(P:Int))=false:=by rw[beq_eq_false_iff_ne];omega
     have N:=Db C;clear C;go_wp2;have d:=QQ i (.int .u64 0) (.int .i64 0) (.int .u64 0);have o:=d.cell 0;have p:=d.cell 1;have q:=d.cell 2;exact bodyPost_ret (v:=Ka none) (by simp[results,Tryz.results135,go_sem,o,p,q,Ka]) rfl ⟨by rw[Da A];simp[Da E,Da N],Ul (Da z) (Nat.le_refl _) _ _ _⟩
theorem Zdb{P:Program}{fn:Func}{p q:Tmp}{ty:TypeId}(h:fn.results = #[.cell p ty,.tmp q])(tmps:Array Value)(w:World)(g:Nat)(t:TypeId)(a:Array Value)(b:Nat×Nat)(d:TypeDesc)
  (i:tmps.getD p undef = .pointer (some ⟨g,0,none⟩)) (e:w.heap[g]?=some (.cells a t b))
  (k:P.underlying ty=some d) (c:(match d with | .struct _ | .array _ _=>true|_=>false)=true) (f:(P.info? ty).map (·.size)=some a.size):
  (results fn tmps).run P w = .ok (.tuple #[.agg a,tmps.getD q undef]) w:=by
 have j:tmps[p]?.getD undef = .pointer (some ⟨g,0,none⟩):=by simpa using i
 simp[results,h,j,asAddr,run_loadVar_row w g t ty a b d e k c f]
theorem ZnJ(L a:LVa)(h:a.length=L.length):spl L 0 a=a:=by
 unfold spl;simp[h]
def Zm8(w:World)(rb p:Nat)(L:LVa)(s:By)(e:Ending)(w':World):Prop:=
 e = .returned (.tuple #[Dx s,.bool true])/\RowIs w' rb 197 (L.set (4+p) (.bool true))/\Fr (fun k=>k=rb) w w'
theorem ZnG(w:World)(b i:Nat)(L:LVa)(J:RowIs w b 197 L)(ac:L[0]?=some (.pointer (some ⟨i,0,none⟩)))(T vw R:Value)(a:OA)(l c:Nat)(D:LY)(h:DO w i T (.slice a l c) vw R D)(ah:b≠i)(ai:¬Own (.slice a l c) b)(p x:Nat)(aK:16<=p)(aL:p<1536)(H:L[4+p]?=some (.bool false))(s:By)(O:D[p]?=some s):
  Calls Tryz.prog 241 #[.pointer (some ⟨b,0,none⟩),.agg #[.int .i64 (p:Nat),.int .u64 (x:Nat)]] w (Zm8 w b p L s):=by
 have aj:s.size=64:=h.2.1.2 s (List.mem_of_getElem? O);obtain⟨E,e1,x1,k1,z1,b1⟩:=De w [.int .i64 (p:Nat),.int .u64 (x:Nat)] 175;obtain⟨j,e2,U,Q,z2,b2⟩:=De E (Dc (Dp 64)) 188;rw[z1]at U;have r:Below w.heap.size w j:=b1.trans (b2.mono (by omega));have aM:=J.lt;have W:=Q _ _ _ x1;have Y:=Q _ _ _ (k1 _ _ _ J);obtain⟨VB,I⟩:∃V,V=Dx s:=⟨_,rfl⟩;have aa:Hid (∀f:World,f.heap=j.heap->f.os=j.os->f.tape=j.tape->f.output=j.output->f.cell? ⟨w.heap.size,0,none⟩=some (.int .i64 (p:Nat))/\f.cell? ⟨b,4+p,none⟩=some (.bool false)/\f.frozen? ⟨b,4+p,none⟩=false/\∃d,f.setCell ⟨b,4+p,none⟩ (.bool true)=d/\d.cell? ⟨w.heap.size,0,none⟩=some (.int .i64 (p:Nat))/\d.cell? ⟨b,0,none⟩=some (.pointer (some ⟨i,0,none⟩))/\
   Hid (Calls Tryz.prog 239 #[.pointer (some ⟨i,0,none⟩),.int .i64 (p:Nat)] d.drew fun e X=>e = .returned VB/\X.cell? ⟨w.heap.size,0,none⟩=some (.int .i64 (p:Nat))/\X.cell? ⟨b,0,none⟩=some (.pointer (some ⟨i,0,none⟩))/\RowIs X (w.heap.size+1) 188 (Dc (Dp 64))/\∃Z,X.setRow (w.heap.size+1) (Dc s).toArray=Z/\Z.cell? ⟨w.heap.size,0,none⟩=some (.int .i64 (p:Nat))/\Z.cell? ⟨b,0,none⟩=some (.pointer (some ⟨i,0,none⟩))/\RowIs Z (w.heap.size+1) 188 (Dc s)/\Hid (RowIs Z b 197 (L.set (4+p) (.bool true))/\Fr (fun k=>k=b) w Z))):=fun f u ho ht hu=>by
  have N:RowIs f b 197 L:=by unfold RowIs;rw[u];exact Y
  have ap:RowIs f w.heap.size 175 [.int .i64 (p:Nat),.int .u64 (x:Nat)]:=by unfold RowIs;rw[u];exact W
  have aB:RowIs f (w.heap.size+1) 188 (Dc (Dp 64)):=by unfold RowIs;rw[u];exact U
  obtain⟨d,n⟩:∃X,f.setCell ⟨b,4+p,none⟩ (.bool true)=X:=⟨_,rfl⟩;have t:Fr (fun k=>k=b) w d:=by
   rw[<-n];exact Fr.set (X:=fun k=>k=b) (w':=f) ⟨ho.trans r.os,ht.trans r.tape,hu.trans r.output,by rw[u];exact r.size,fun k A _=>by rw[u];exact r.block k A⟩ ⟨b,4+p,none⟩ _ rfl
  have M:RowIs d b 197 (L.set (4+p) (.bool true)):=by rw[<-n];exact N.set (4+p) _
  have P:RowIs d w.heap.size 175 [.int .i64 (p:Nat),.int .u64 (x:Nat)]:=by rw[<-n];exact(Below.heap_setCell _ _ _ _ (show w.heap.size≠b by omega)).trans ap
  have ak:RowIs d (w.heap.size+1) 188 (Dc (Dp 64)):=by rw[<-n];exact(Below.heap_setCell _ _ _ _ (show w.heap.size+1≠b by omega)).trans aB
  have G:(L.set (4+p) (.bool true))[0]?=some (.pointer (some ⟨i,0,none⟩)):=by rw[List.getElem?_set_ne (by omega)];exact ac
  have ae:Fr (fun k=>k=b) w d.drew:=⟨t.os,t.tape,t.output,t.size,t.block⟩;have ay:DO d.drew i T (.slice a l c) vw R D:=⟨h.1.fr ae (fun (e:i=b)=>ah e.symm),⟨h.2.1.1.fr ae (fun g hg (e:g=b)=>ai (by rw[<-e];exact hg)),h.2.1.2⟩,h.2.2⟩;refine⟨(ap.cell 0).trans rfl,(N.cell _).trans H,N.frozen _,d,n,(P.cell 0).trans rfl,(M.cell 0).trans G,?_⟩;refine(Qr d.drew i T vw R a l c D ay p s O).mono ?_;rintro e X ⟨rfl,y⟩;have C:Below d.heap.size d X:=⟨y.os,y.tape,y.output,y.size,y.block⟩;have af:RowIs X b 197 _:=(C.block _ M.lt).trans M;have ao:RowIs X w.heap.size 175 _:=(C.block _ P.lt).trans P;have al:RowIs X (w.heap.size+1) 188 _:=(C.block _ ak.lt).trans ak;have so:∀k,k≠w.heap.size+1->(X.setRow (w.heap.size+1) (Dc s).toArray).heap[k]?=X.heap[k]? := fun k A=>setRow_other X _ k _ A
  have ag:RowIs (X.setRow (w.heap.size+1) (Dc s).toArray) b 197 _:=(so _ (by omega)).trans af;have aC:RowIs (X.setRow (w.heap.size+1) (Dc s).toArray) w.heap.size 175 _:=(so _ (by omega)).trans ao;refine⟨by rw[I],(ao.cell 0).trans rfl,(af.cell 0).trans G,al,_,rfl,(aC.cell 0).trans rfl,(ag.cell 0).trans G,setRow_heap X _ _ _ 188 _ al,ag,?_⟩;have z:Fr (fun k=>k=b) w X:=t.then (Fr.of_below (X:=fun _=>False) C) (fun _ _ e=>e.elim);exact⟨z.os,z.tape,z.output,by simp[World.setRow];exact z.size,fun k A aA=>(so k (by omega)).trans (z.block k A aA)⟩
 have F:j.cell? ⟨w.heap.size,0,none⟩=some (.int .i64 (p:Nat)):=(W.cell 0).trans rfl;have ct:j.cell? ⟨b,4+p,none⟩=some (.bool false):=(Y.cell _).trans H;have aH:¬((p:Int)<16):=by omega
 have aI:¬((1536:Int)<=(p:Int)):=by omega
 have aJ:(p:Int)<1536:=by omega
 have ad:(Dc s).length=64:=by rw[Dh,aj]
 have B:=Db ad;have au:=Db I;have aq:=Db e1;have ar:=Db e2;clear e1 e2 x1 U k1 Q z1 z2 b1 b2 W Y J ac h ah ai H O aj I ad r;go_enter Tryz.func241,Tryz.ntmps241;go_upto_region 1 with(refine JO rfl 188 rfl Kn ?_);rw[show w.alloc (.cells #[.int .i64 (p:Nat),.int .u64 (x:Nat)] 175)=E from Da aq,show E.alloc (.cells (Dc (Dp 64)).toArray 188)=j from Da ar]
 go_quiet (fail)
 obtain⟨Wq,o⟩:∃X,j.drewN nq=X:=⟨_,rfl⟩;rw[o];have hq:=Da aa Wq.drew (by rw[<-o];rfl) (by rw[<-o];rfl) (by rw[<-o];rfl) (by rw[<-o];rfl);clear aa o F ct;obtain⟨F,ct,aG,d,n,c3,d3,HC⟩:=hq;have av:=Db n;clear n;go_upto_region 3 with fail;refine wp_region_held_drew (S:=fun X=>X.cell? ⟨w.heap.size,0,none⟩=some (.int .i64 (p:Nat))) (by kernel_rfl) F (fun az=>?_);refine tk 0 ?_;try simp only[pE];refine tk 1 ?_;try simp only[pE];refine tk 2 ?_;try simp only[pE];refine tk 3 ?_;try simp only[pE];refine tk 4 ?_;try simp only[pE];refine tk 5 ?_;try simp only[pE];refine rk 6 (fun K m=>?_);go_simp;rw[show(Wq.setCell ⟨b,4+p,none⟩ (.bool true)).drew=d from Da av];refine m.out _ _ c3 (fun aD=>?_);clear m K
 (try simp only[pE])
 refine wpAnyH_done (by kernel_rfl) ?_ _;go_upto_region 4 with fail;refine wp_region_held_drew (S:=fun X=>X.cell? ⟨w.heap.size,0,none⟩=some (.int .i64 (p:Nat))/\X.cell? ⟨b,0,none⟩=some (.pointer (some ⟨i,0,none⟩))) (by kernel_rfl) ⟨c3,d3⟩ (fun az=>?_);refine tk 0 ?_;try simp only[pE];refine tk 1 ?_;try simp only[pE];refine tk 2 ?_;try simp only[pE];refine tk 3 ?_;try simp only[pE];refine tk 4 ?_;try simp only[pE];refine tk 5 ?_;try simp only[pE];refine rk 6 (fun K m=>?_);go_simp;go_at_call 239;refine(Da HC).mono ?_;rintro e X ⟨rfl,cX,dX,am,Z,hZ,cZ,dZ,an,ab⟩;have aw:=Db am;have ax:=Db an;have HZ:=Db hZ;clear HC am an hZ;go_wp2_with fail;refine m.out _ _ ⟨cX,dX⟩ (fun aE=>?_);clear m K
 (try simp only[pE])
 refine rk 7 (fun K m=>?_);refine Zdf rfl 188 _ _ rfl (w.heap.size+1) 0 188 (Dc (Dp 64)) (Dc s) rfl (Da au) (Da aw) (by rw[Da B,Dh,Jq];omega) (by rw[D7,Da B]) (Ke s) Z (by rw[ZnJ _ _ (by rw[Da B,Dh,Jq])];exact Da HZ) ?_;refine m.out _ _ ⟨cZ,dZ⟩ (fun aF=>?_);clear m K
 (try simp only[pE])
 refine tk 8 ?_;try simp only[pE];refine wpAnyH_done (by kernel_rfl) ?_ _;go_wp2_with fail;refine bodyPost_ret (v := .tuple #[Dx s,.bool true]) ?_ rfl ⟨rfl,(Da ab).1,(Da ab).2⟩;exact Zdb (fn:=Tryz.f241) (p:=4) (q:=5) (ty:=188) rfl _ _ (w.heap.size+1) 188 (Dc s).toArray (0,0) _ rfl (Da ax) UB rfl (by rw[D7];simp[Da B])
structure RdQ where
 ins:List (Nat×Nat)
 tk:Nat->Bool
 tn:Nat->Nat
 t:By
structure RdS(w0:World)(n0 rb db tp tx:Nat)(q:RdQ)(va vt:Value)(W:World):Prop where
 row:∃L,RowIs W rb 197 L/\L[0]?=some (.pointer (some ⟨db,0,none⟩))/\L[1]?=some va/\L[2]?=some (.int .i64 (tp:Nat))/\L[3]?=some (.int .u64 (tx:Nat))/\(∀p,p<1536->L[4+p]?=some (.bool (q.tk p)))/\(∀b,b<8->L[1540+b]?=some (.int .i64 (q.tn b:Nat)))/\L[1548]?=some vt
 es:∃es,EsOf q.ins es/\Sl W 350 2 va es.length (Ds es)
 tab:SlB n0 W vt q.t
 oa:∀k,Own va k->n0<=k/\k≠rb/\¬Own vt k
 ot:¬Own vt rb
 bel:Below n0 w0 W
 lo:n0<=rb
 sz:n0<=w0.heap.size
section
variable{w0:World}{n0 rb db tp tx:Nat}{q:RdQ}{va vt:Value}{W W':World}
theorem RdS.fr(h:RdS w0 n0 rb db tp tx q va vt W){Z:Nat->Prop}(a:Fr Z W W')(b:∀k,Z k->n0<=k/\k≠rb/\¬Own va k/\¬Own vt k):RdS w0 n0 rb db tp tx q va vt W':=by
 obtain⟨L,j,i⟩:=h.row;obtain⟨es,d,f⟩:=h.es;have hs:=h.bel.size;have l:=h.sz;exact⟨⟨L,j.fr a (fun e=>(b _ e).2.1 rfl),i⟩,⟨es,d,f.fr a (fun g c e=>(b g e).2.2.1 c)⟩,⟨h.tab.1.fr a (fun g c e=>(b g e).2.2.2 c),h.tab.2⟩,h.oa,h.ot,h.bel.trans ⟨a.os,a.tape,a.output,a.size,fun k hk=>a.block k (by omega) (fun e=>by have:=(b k e).1;omega)⟩,h.lo,l⟩
theorem RdS.below(h:RdS w0 n0 rb db tp tx q va vt W)(a:Below W.heap.size W W'):RdS w0 n0 rb db tp tx q va vt W':=h.fr (Z:=fun _=>False) (Fr.of_below a) (fun _ e=>e.elim)
theorem RdS.lt(h:RdS w0 n0 rb db tp tx q va vt W):rb<W.heap.size/\(∀k,Own va k->k<W.heap.size)/\(∀k,Own vt k->k<W.heap.size):=by
 obtain⟨L,c,_⟩:=h.row;obtain⟨es,_,b⟩:=h.es;exact⟨c.lt,fun k a=>b.lt a,fun k a=>h.tab.1.lt a⟩
theorem RdS.set(h:RdS w0 n0 rb db tp tx q va vt W)(a:Fr (fun k=>k=rb) W W'){L:LVa}{c:RdQ}(n:RowIs W' rb 197 L)(m:L[0]?=some (.pointer (some ⟨db,0,none⟩))/\L[1]?=some va/\L[2]?=some (.int .i64 (tp:Nat))/\L[3]?=some (.int .u64 (tx:Nat))/\(∀p,p<1536->L[4+p]?=some (.bool (c.tk p)))/\(∀b,b<8->L[1540+b]?=some (.int .i64 (c.tn b:Nat)))/\L[1548]?=some vt)(j:c.ins=q.ins)(l:c.t=q.t):RdS w0 n0 rb db tp tx c va vt W':=by
 obtain⟨es,f,i⟩:=h.es;have hs:=h.bel.size;have o:=h.sz;have aa:=h.lo;exact⟨⟨L,n,m⟩,⟨es,by rw[j];exact f,i.fr a (fun g d e=>(h.oa g d).2.1 e)⟩,⟨by rw[l];exact h.tab.1.fr a (fun g d e=>h.ot (by rw[<-e];exact d)),h.tab.2⟩,h.oa,h.ot,h.bel.trans ⟨a.os,a.tape,a.output,a.size,fun k hk=>a.block k (by omega) (fun e=>by omega)⟩,h.lo,o⟩
def RdQ.take(q:RdQ)(p:Nat):RdQ:={ q with tk:=fun k=>if k=p then true else q.tk k }
def RdQ.turn(q:RdQ)(b:Nat):RdQ:={ q with tn:=fun k=>if k=b then q.tn b+1 else q.tn k }
def RdQ.put(q:RdQ)(r p:Nat):RdQ:={ q with ins:=q.ins++[(r,p)] }
def RdQ.say(q:RdQ)(s:By):RdQ:={ q with t:=q.t++s }
theorem RdS.take_call(h:RdS w0 n0 rb db tp tx q va vt W){m vw j:Value}{a:OA}{l c:Nat}{D:LY}(d:DO w0 db m (.slice a l c) vw j D)(g:db<n0/\∀k,Own (.slice a l c) k->k<n0){p x:Nat}(w:16<=p)(r:p<1536)(f:q.tk p=false){s:By}(A:D[p]?=some s):
  Calls Tryz.prog 241 #[.pointer (some ⟨rb,0,none⟩),.agg #[.int .i64 (p:Nat),.int .u64 (x:Nat)]] W fun e w'=>e = .returned (.tuple #[Dx s,.bool true])/\RdS w0 n0 rb db tp tx (q.take p) va vt w'/\Fr (fun k=>k=rb) W w':=by
 obtain⟨L,y,t,B,C,E,i,F,G⟩:=h.row;have aa:=h.lo;have u:DO W db m (.slice a l c) vw j D:=⟨(h.bel.block _ g.1).trans d.1,⟨d.2.1.1.kept (fun k _ f=>h.bel.block k (g.2 k f)),d.2.1.2⟩,d.2.2⟩;refine(ZnG W rb db L y t m vw j a l c D u (by omega) (fun e=>by have:=g.2 _ e;omega) p x w r (by rw[i p r,f]) s A).mono ?_;rintro e w' ⟨rfl,z,n⟩;refine⟨rfl,h.set n z ⟨by rw[List.getElem?_set_ne (by omega)];exact t,by rw[List.getElem?_set_ne (by omega)];exact B,by rw[List.getElem?_set_ne (by omega)];exact C,by rw[List.getElem?_set_ne (by omega)];exact E,fun k o=>?_,fun b v=>by rw[List.getElem?_set_ne (by omega)];exact F b v,by rw[List.getElem?_set_ne (by omega)];exact G⟩ rfl rfl,n⟩;show _=some (Value.bool (if k=p then true else q.tk k));by_cases e:k=p
 ·subst e;rw[if_pos rfl,List.getElem?_set_self (List.getElem?_eq_some_iff.1 (i k o)).1]
 ·rw[if_neg e,List.getElem?_set_ne (by omega)];exact i k o
theorem RdS.turn(h:RdS w0 n0 rb db tp tx q va vt W){b:Nat}(hb:b<8):RdS w0 n0 rb db tp tx (q.turn b) va vt (W.setCell ⟨rb,1540+b,none⟩ (.int .i64 ((q.tn b+1:Nat):Int))):=by
 obtain⟨L,d,f,g,i,j,l,c,m⟩:=h.row;refine h.set ((Fr.refl _ _).set _ _ rfl) (d.set (1540+b) (.int .i64 ((q.tn b+1:Nat):Int))) ⟨by rw[List.getElem?_set_ne (by omega)];exact f,by rw[List.getElem?_set_ne (by omega)];exact g,by rw[List.getElem?_set_ne (by omega)];exact i,by rw[List.getElem?_set_ne (by omega)];exact j,fun k a=>by rw[List.getElem?_set_ne (by omega)];exact l k a,fun k a=>?_,by rw[List.getElem?_set_ne (by omega)];exact m⟩ rfl rfl;show _=some (Value.int .i64 ((if k=b then q.tn b+1 else q.tn k:Nat):Int));by_cases e:k=b
 ·subst e;rw[if_pos rfl,List.getElem?_set_self (List.getElem?_eq_some_iff.1 (c k a)).1]
 ·rw[if_neg e,List.getElem?_set_ne (by omega)];exact c k a
theorem RdS.say(h:RdS w0 n0 rb db tp tx q va vt W){s:By}{c:Value}(i:SlB n0 W' c (q.t++s))(b:Fr (Own vt) W W')(j:Dk W vt c):RdS w0 n0 rb db tp tx (q.say s) va c (W'.setCell ⟨rb,1548,none⟩ c):=by
 obtain⟨L,t,w,x,y,z,A,B,C⟩:=h.row;obtain⟨aa,p,ab⟩:=h.lt;obtain⟨es,m,n⟩:=h.es;have v:=h.sz;have hs:=h.bel.size;have u:RowIs W' rb 197 L:=t.fr b h.ot;have ac:=h.lo;have l:¬Own c rb:=fun e=>(j rb e).elim h.ot (fun e=>by omega)
 have r:∀k,Own va k->¬Own c k:=fun k a e=>(j k e).elim (h.oa k a).2.2 (fun e=>by have:=p k a;omega)
 have d:Fr (fun k=>k=rb) W' (W'.setCell ⟨rb,1548,none⟩ c):=(Fr.refl _ _).set _ _ rfl;have o:Sl W' 350 2 va es.length (Ds es):=n.fr b (fun g f e=>(h.oa g f).2.2 e);refine⟨⟨_,u.set 1548 c,by rw[List.getElem?_set_ne (by omega)];exact w,by rw[List.getElem?_set_ne (by omega)];exact x,by rw[List.getElem?_set_ne (by omega)];exact y,by rw[List.getElem?_set_ne (by omega)];exact z,fun k a=>by rw[List.getElem?_set_ne (by omega)];exact A k a,fun k a=>by rw[List.getElem?_set_ne (by omega)];exact B k a,by rw[List.getElem?_set_self (List.getElem?_eq_some_iff.1 C).1]⟩,⟨es,m,o.fr d (fun g f e=>(h.oa g f).2.1 e)⟩,⟨i.1.setCell _ _ l,i.2⟩,fun k a=>⟨(h.oa k a).1,(h.oa k a).2.1,r k a⟩,l,?_,h.lo,v⟩;exact h.bel.trans ⟨d.os.trans b.os,d.tape.trans b.tape,d.output.trans b.output,Nat.le_trans b.size d.size,fun k a=>(d.block k (by have:=b.size;omega) (fun e=>by omega)).trans (b.block k (by omega) (fun e=>by have:=h.tab.2 k e;omega))⟩
theorem RdS.put_call(h:RdS w0 n0 rb db tp tx q va vt W){r p:Nat}(z:∀y∈q.ins,y.1≠r)(ac:q.ins.length<=9999):
  Calls Tryz.prog 243 #[.pointer (some ⟨rb,1,none⟩),.int .u64 (r:Nat),.int .i64 (p:Nat)] W fun e w'=>e = .returned (.tuple #[])/\∃c,RdS w0 n0 rb db tp tx (q.put r p) c vt w'/\Fr (fun k=>k=rb\/Own va k) W w'/\Dk W va c:=by
 obtain⟨L,j,D,n,E,F,G,H,I⟩:=h.row;obtain⟨es,f,u⟩:=h.es;obtain⟨aa,ab,v⟩:=h.lt;have C:=h.sz;have hs:=h.bel.size;have ad:=h.lo;refine(Qt W rb 1 va es (r:Nat) (p:Nat) ((j.cell 1).trans n) (j.frozen 1) (fun e=>(h.oa rb e).2.1 rfl) u (by rw[f.2.1];omega) f.1 (fun x B e=>?_)).mono ?_
 ·obtain⟨y,i,rfl⟩:=(f.2.2 x).1 B;exact z y i (by simp only at e;omega)
 ·rintro e w' ⟨rfl,c,t,m1,J,K,M,N,o,d⟩;have b:Fr (fun k=>k=rb\/Own va k) W w':=⟨d.os,d.tape,d.output,d.size,fun k a l=>d.block k a (fun e=>l (.inl e)) (fun e=>l (.inr e))⟩;have A:RowIs w' rb 197 (L.set 1 c):=by unfold RowIs;rw[d.head];exact j.set 1 c
  have w:∀k,Own c k->n0<=k/\k≠rb/\¬Own vt k:=fun k a=>(o k a).elim (h.oa k) (fun e=>⟨by omega,by omega,fun s=>by have:=v k s;omega⟩)
  refine⟨rfl,c,⟨⟨_,A,by rw[List.getElem?_set_ne (by omega)];exact D,by rw[List.getElem?_set_self (List.getElem?_eq_some_iff.1 n).1],by rw[List.getElem?_set_ne (by omega)];exact E,by rw[List.getElem?_set_ne (by omega)];exact F,fun k a=>by rw[List.getElem?_set_ne (by omega)];exact G k a,fun k a=>by rw[List.getElem?_set_ne (by omega)];exact H k a,by rw[List.getElem?_set_ne (by omega)];exact I⟩,⟨t,⟨K,by rw[M,f.2.1];show _=(q.ins++[(r,p)]).length;rw[List.length_append];rfl,fun x=>?_⟩,J⟩,⟨h.tab.1.fr b (fun g m e=>e.elim (fun e=>h.ot (by rw[<-e];exact m)) (fun e=>(h.oa g e).2.2 m)),h.tab.2⟩,w,h.ot,h.bel.trans ⟨b.os,b.tape,b.output,b.size,fun k a=>b.block k (by omega) (fun e=>e.elim (fun e=>by omega) (fun e=>by have:=(h.oa k e).1;omega))⟩,h.lo,C⟩,b,o⟩;rw[N x,f.2.2 x];show _↔∃y∈q.ins++[(r,p)],_;constructor
  ·rintro(rfl|⟨y,i,rfl⟩)
   ·exact⟨(r,p),by simp,rfl⟩
   ·exact⟨y,List.mem_append_left _ i,rfl⟩
  ·rintro⟨y,i,rfl⟩;rcases List.mem_append.1 i with e|e
   ·exact .inr ⟨y,e,rfl⟩
   ·rw[List.mem_singleton.1 e];exact .inl rfl
theorem RdS.cells(h:RdS w0 n0 rb db tp tx q va vt W):W.cell? ⟨rb,0,none⟩=some (.pointer (some ⟨db,0,none⟩))/\W.cell? ⟨rb,1,none⟩=some va/\W.cell? ⟨rb,1548,none⟩=some vt/\W.frozen? ⟨rb,1548,none⟩=false/\(∀b,b<8->W.cell? ⟨rb,1540+b,none⟩=some (.int .i64 (q.tn b:Nat))/\W.frozen? ⟨rb,1540+b,none⟩=false):=by
 obtain⟨L,a,d,e,l2,l3,l4,f,g⟩:=h.row;exact⟨(a.cell 0).trans d,(a.cell 1).trans e,(a.cell 1548).trans g,a.frozen 1548,fun b c=>⟨(a.cell _).trans (f b c),a.frozen _⟩⟩
end
def Km(w0:World)(n0 rb db tp tx:Nat)(W:World)(va vt:Value)(b:Nat)(q':RdQ)(e:Ending)(w':World):Prop:=
 e = .returned (.tuple #[.int .i64 (b:Nat),.bool true])/\∃va' vt',RdS w0 n0 rb db tp tx q' va' vt' w'/\Fr (fun k=>k=rb\/Own va k\/Own vt k) W w'/\Dk W va va'/\Dk W vt vt'
def DT(s:By):By:=s.extract 1 64
theorem Zoh(w O:World)(B d H tp tx:Nat)(q:RdQ)(J vt:Value)(h:RdS O B d H tp tx q J vt w){vf vw ve:Value}{a:OA}{l c:Nat}{D:LY}(hD:DO O H vf (.slice a l c) vw ve D)(aw:H<B/\∀k,Own (.slice a l c) k->k<B)
  (p x:Nat) (a0:16<=p) (a1:p<1536) (hk:q.tk p=false) (s:By) (hs:D[p]?=some s) (aA:s.data[0]?=some 3) (ht:q.t.size<=1000000) (ax:∀y∈q.ins,y.1≠Dd 3 0 (q.tn 0)) (au:q.ins.length<=9999) (aC:q.tn 0<60000):
  Calls Tryz.prog 202 #[.pointer (some ⟨d,0,none⟩),.agg #[.int .i64 (p:Nat),.int .u64 (x:Nat)]] w (Km O B d H tp tx w J vt 0 ((((q.take p).say (DT s)).put (Dd 3 0 (q.tn 0)) p).turn 0)):=by
 have ah:s.size=64:=hD.2.1.2 s (List.mem_of_getElem? hs);obtain⟨C,F,E,rfl⟩:=h.tab.1.shape;obtain⟨aY,aq,ar⟩:=h.lt;obtain⟨W1,e1,x1,k1,s1,b1⟩:=De w [.int .i64 (p:Nat),.int .u64 (x:Nat)] 175;have h1:=h.below b1;have bd:B<=w.heap.size:=Nat.le_trans h.sz h.bel.size;obtain⟨m,I⟩:∃T,T=q.tn 0:=⟨_,rfl⟩;have ba:m<60000:=by rw[I];exact aC
 obtain⟨VB,af⟩:∃V,V=Dx s:=⟨_,rfl⟩;have ac:Hid (Calls Tryz.prog 241 #[.pointer (some ⟨d,0,none⟩),.agg #[.int .i64 (p:Nat),.int .u64 (x:Nat)]] W1 fun e X=>e = .returned (.tuple #[VB,.bool true])/\∃Y Z,X.alloc (.cells (Dc (Dp 64)).toArray 188)=Y/\RowIs Y X.heap.size 188 (Dc (Dp 64))/\Y.setRow X.heap.size (Dc s).toArray=Z/\Z.cell? ⟨X.heap.size,0,none⟩=some (.int .u8 3)/\Z.cell? ⟨d,1548,none⟩=some (.slice C F E)/\
   ∃o z t n,(Builtin.append_ #[59,59] 59 #[.slice C F E,.slice (some ⟨X.heap.size,1,none⟩) 63 63]).run Tryz.prog Z.drew = .ok (.slice o z t) n/\n.cell? ⟨d,1548,none⟩=some (.slice C F E)/\n.frozen? ⟨d,1548,none⟩=false/\∃M,n.setCell ⟨d,1548,none⟩ (.slice o z t)=M/\M.cell? ⟨d,1540,none⟩=some (.int .i64 (m:Nat))/\M.cell? ⟨w.heap.size,0,none⟩=some (.int .i64 (p:Nat))/\
    Hid (Calls Tryz.prog 243 #[.pointer (some ⟨d,1,none⟩),.int .u64 ((3*4294967296+0*65536+m:Nat):Int),.int .i64 (p:Nat)] M.drew fun e A=>e = .returned (.tuple #[])/\A.cell? ⟨d,1540,none⟩=some (.int .i64 (m:Nat))/\A.cell? ⟨w.heap.size,0,none⟩=some (.int .i64 (p:Nat))/\A.frozen? ⟨d,1540,none⟩=false/\
     Hid (Km O B d H tp tx w J (.slice C F E) 0 ((((q.take p).say (DT s)).put (Dd 3 0 (q.tn 0)) p).turn 0) (.returned (.tuple #[.int .i64 0,.bool true])) (A.setCell ⟨d,1540,none⟩ (.int .i64 ((m:Int)+1))).drew))):=by
  refine(h1.take_call hD aw (x:=x) a0 a1 hk hs).mono ?_;rintro e X ⟨rfl,hX,ag⟩;have aW:Fr (fun k=>k=d) w X:=(Fr.of_below b1).then ag (fun _ _ e=>e);have bb:=ag.size;obtain⟨Y,eY,xY,kY,sY,bY⟩:=De X (Dc (Dp 64)) 188;have xZ:RowIs (Y.setRow X.heap.size (Dc s).toArray) X.heap.size 188 (Dc s):=setRow_heap Y _ _ _ 188 _ xY;have G:Below X.heap.size X (Y.setRow X.heap.size (Dc s).toArray):=bY.trans ⟨rfl,rfl,rfl,by simp,fun j hj=>setRow_other Y _ j _ (by omega)⟩;obtain⟨Z,U⟩:∃Z,Y.setRow X.heap.size (Dc s).toArray=Z:=⟨_,rfl⟩;rw[U]at xZ G;have aS:=hX.below G;have P:Below X.heap.size X Z.drew:=⟨G.os,G.tape,G.output,G.size,G.block⟩;have ab:=hX.below P;have a7:RowIs Z.drew X.heap.size 188 (Dc s):=xZ;have aU:(DT s).size=63:=by unfold DT;rw[ByteArray.size_extract,ah];rfl
  obtain⟨o,z,t,n,r1,r2,W,r4⟩:=JU Z.drew B (by have:=P.size;omega) (.slice C F E) _ ab.tab ⟨X.heap.size,1,none⟩ 63 63 (DT s) aU (fun j u N=>by
   rw[Addr.add_lit,a7.cell];unfold DT at N;rw[Jn,List.getElem?_take]at N
   split at N
   ·rw[List.getElem?_drop]at N;exact N
   ·cases N) (by show q.t.size+63<=_;omega)
  have aB:=ab.say r2 W r4;have be:=W.size;have bc:=P.size;have b0:RowIs X w.heap.size 175 _:=(ag.block _ x1.lt (show ¬w.heap.size=d by omega)).trans x1;have b5:RowIs n w.heap.size 175 _:=(W.block _ (by omega) (fun e=>by have:=ar _ e;omega)).trans ((P.block _ b0.lt).trans b0);have b6:RowIs (n.setCell ⟨d,1548,none⟩ (.slice o z t)) w.heap.size 175 _:=(Below.heap_setCell _ _ _ _ (show w.heap.size≠d by omega)).trans b5;obtain⟨L,a3,_,_,_,_,_,_,l6⟩:=ab.row;have az:RowIs n d 197 L:=a3.fr W ab.ot;have aV:=aB.cells;refine⟨by rw[af],Y,Z,eY,xY,U,?_,aS.cells.2.2.1,o,z,t,n,r1,(az.cell 1548).trans l6,az.frozen 1548,_,rfl,?_,(b6.cell 0).trans rfl,?_⟩
  ·rw[xZ.cell];have h0:s.data.toList[0]?=some 3:=by rw[Array.getElem?_toList];exact aA
   show(Dc s)[0]? = _;unfold Dc;rw[List.getElem?_map,h0];rfl
  ·rw[I];exact(aV.2.2.2.2 0 (by omega)).1
  ·have a4:RdS O B d H tp tx ((q.take p).say (DT s)) J (.slice o z t) (n.setCell ⟨d,1548,none⟩ (.slice o z t)).drew:=aB.below ⟨rfl,rfl,rfl,Nat.le_refl _,fun _ _=>rfl⟩;have a2:=a4.put_call (r:=Dd 3 0 m) (p:=p) (by rw[I];exact ax) au;refine a2.mono ?_;rintro e A ⟨rfl,aE,al,ao,aZ⟩;have b7:RowIs A w.heap.size 175 _:=(ao.block _ b6.lt (fun e=>e.elim (fun e=>by omega) (fun e=>by have:=aq _ e;omega))).trans b6;have c3:=al.cells.2.2.2.2 0 (by omega);have ap:=al.turn (b:=0) (by omega);have a6:(((q.take p).say (DT s)).put (Dd 3 0 m) p).tn 0=m:=I.symm;rw[a6]at ap;have aM:Fr (fun k=>k=d) A (A.setCell ⟨d,1540,none⟩ (.int .i64 ((m+1:Nat):Int))):=(Fr.refl _ _).set _ _ rfl;have aX:RdS O B d H tp tx (((((q.take p).say (DT s)).put (Dd 3 0 m) p)).turn 0) aE (.slice o z t) (A.setCell ⟨d,1540,none⟩ (.int .i64 ((m+1:Nat):Int))).drew:=ap.below ⟨rfl,rfl,rfl,Nat.le_refl _,fun _ _=>rfl⟩;rw[show((m:Int)+1)=((m+1:Nat):Int) by omega];refine⟨rfl,by rw[I];exact c3.1,(b7.cell 0).trans rfl,c3.2,rfl,aE,.slice o z t,by rw[<-I];exact aX,?_,fun g hg=>(aZ g hg).imp id (fun e=>?_),fun g hg=>(r4 g hg).imp id (fun e=>by omega)⟩
   ·have f1:Fr (fun k=>k=d\/Own J k\/Own (.slice C F E) k) w Z.drew:=(aW.mono (Y:=fun k=>k=d\/Own J k\/Own (.slice C F E) k) (fun k _ e => .inl e)).then (Fr.of_below (X:=fun _=>False) P) (fun _ _ e=>e.elim);have f2:=f1.then W (fun k _ e => .inr (.inr e));have f3:Fr (fun k=>k=d\/Own J k\/Own (.slice C F E) k) w (n.setCell ⟨d,1548,none⟩ (.slice o z t)).drew:=by
     have:=Fr.set f2 ⟨d,1548,none⟩ (.slice o z t) (.inl rfl);exact⟨this.os,this.tape,this.output,this.size,this.block⟩
    have f4:=f3.then ao (fun k _ e=>e.elim .inl (fun e => .inr (.inl e)));have R:=f4.then aM (fun k _ e => .inl e);exact⟨R.os,R.tape,R.output,R.size,R.block⟩
   ·have:(n.setCell ⟨d,1548,none⟩ (.slice o z t)).drew.heap.size=n.heap.size:=by simp[World.setCell,World.drew]
    omega
 have aI:Hid (∀V,Calls Tryz.prog 244 #[.int .u8 3,.int .i64 0,.int .i64 (m:Nat)] V fun e w'=>e = .returned (.int .u64 ((3*4294967296+0*65536+m:Nat):Int))/\w'=V):=fun V=>Um V 3 0 m (by omega) (by omega) (by omega)
 have an:(Dc s).length=64:=by rw[Dh,ah]
 have ai:=Db an;have aJ:=Db af;have aF:=Db e1;have d1:=(x1.cell 0).trans (show _=some (Value.int .i64 (p:Nat)) from rfl);have d2:=(x1.cell 1).trans (show _=some (Value.int .u64 (x:Nat)) from rfl);obtain⟨QF,ak⟩:∃Q,Q=((((q.take p).say (DT s)).put (Dd 3 0 (q.tn 0)) p).turn 0):=⟨_,rfl⟩;rw[<-ak]at ac ⊢;clear I e1 x1 k1 s1 b1 h1 h hD aw hk hs aA ht ax au aC ah af an ak aY aq ar;go_enter Tryz.func202,Tryz.ntmps202;go_upto_region 1 with fail;rw[show w.alloc (.cells #[.int .i64 (p:Nat),.int .u64 (x:Nat)] 175)=W1 from Da aF];go_upto_region 2 with(first|(go_at_call 241;refine(Da ac).mono ?_;rintro e X ⟨rfl,Y,Z,hY,xY,U,z0,z1,o,z,t,n,ay,z5,z6,M,am,ad,ae,aj⟩;have HY:=Db hY;have aK:=Db xY;have HZ:=Db U;have aL:=Db am;have aH:=Db ay;clear hY xY U am ay d1 d2 ac)|(refine JO rfl 188 rfl Kn ?_;rw[show X.alloc (.cells (Dc (Dp 64)).toArray 188)=Y from Da HY])|(refine wpList_store_row rfl 188 _ _ rfl X.heap.size (Dc s).toArray rfl (Da aJ) 188 _ (Da aK) (by rw[D7];simp[Da ai]) (by simp[Da ai,Dh,Jq]) (KF _) ?_;rw[Da HZ]));go_upto_region 8 with fail;refine wp_region_held_drew (S:=fun V=>True) (by kernel_rfl) trivial (fun aa=>?_);refine tk 0 ?_;try simp only[pE];refine tk 1 ?_;try simp only[pE];refine tk 2 ?_;try simp only[pE];refine tk 3 ?_;try simp only[pE];refine tk 5 ?_;try simp only[pE];refine rk 4 (fun K f=>?_);go_simp;refine f.out _ _ trivial (fun aP=>?_);clear f K
 (try simp only[pE])
 refine rk 6 (fun K f=>?_);refine Jo rfl _ _ 59 59 rfl _ _ rfl rfl (Da aH) ?_;refine f.out _ _ trivial (fun aQ=>?_);clear f K
 (try simp only[pE])
 refine tk 7 ?_;try simp only[pE];refine tk 8 ?_;try simp only[pE];refine rk 9 (fun K f=>?_);go_simp;rw[show n.setCell ⟨d,1548,none⟩ (.slice o z t)=M from Da aL];refine f.out _ _ trivial (fun aR=>?_);clear f K
 (try simp only[pE])
 refine wpAnyH_done (by kernel_rfl) ?_ _;clear aa aP aQ aR z0 z1 z5 z6;go_upto_region 13 with fail;refine wp_region_held_drew (S:=fun V=>V.cell? ⟨d,1540,none⟩=some (.int .i64 (m:Nat))/\V.cell? ⟨w.heap.size,0,none⟩=some (.int .i64 (p:Nat))) (by kernel_rfl) ⟨ad,ae⟩ (fun aa=>?_);refine tk 0 ?_;try simp only[pE];refine tk 1 ?_;try simp only[pE];refine tk 2 ?_;try simp only[pE];refine tk 3 ?_;try simp only[pE];refine tk 4 ?_;try simp only[pE];refine tk 5 ?_;try simp only[pE];refine tk 6 ?_;try simp only[pE];refine tk 7 ?_;try simp only[pE];refine tk 8 ?_;try simp only[pE];refine tk 9 ?_;try simp only[pE];refine tk 10 ?_;try simp only[pE];refine tk 11 ?_;try simp only[pE];refine tk 13 ?_;try simp only[pE];refine tk 14 ?_;try simp only[pE];refine rk 12 (fun K f=>?_);go_simp;go_at_call 244;refine(Da aI _).mono ?_;rintro e w' ⟨rfl,aD⟩;rw[aD];clear aD;go_wp2_with fail;refine f.out _ _ ⟨ad,ae⟩ (fun aN=>?_);clear f K
 (try simp only[pE])
 refine rk 15 (fun K f=>?_);go_simp;go_at_call 243;refine(Da aj).mono ?_;rintro e A ⟨rfl,y1,y2,y3,aG⟩;go_wp2_with fail;refine f.out _ _ ⟨y1,y2⟩ (fun aO=>?_);clear f K
 (try simp only[pE])
 refine wpAnyH_done (by kernel_rfl) ?_ _;clear aa aN aO ad ae aj;go_upto_region 14 with fail;refine wp_region_held_drew (S:=fun V=>True) (by kernel_rfl) trivial (fun aa=>?_);refine tk 0 ?_;try simp only[pE];refine tk 1 ?_;try simp only[pE];refine tk 2 ?_;try simp only[pE];refine tk 3 ?_;try simp only[pE];refine tk 4 ?_;try simp only[pE];refine tk 7 ?_;try simp only[pE];refine tk 8 ?_;try simp only[pE];refine rk 5 (fun K f=>?_);go_simp;refine f.out _ _ trivial (fun a9=>?_);clear f K
 (try simp only[pE])
 refine wpAnyH_take (i:=6) (v := .int .i64 ((m+1:Nat):Int)) rfl (by kernel_rfl) (by kernel_rfl) (by kernel_rfl) (fun _ _ _ h=>h) (Or.inl ⟨by rfl,by intro w aT;(try dsimp only at aT);go_simp;rw[IntKind.wrap_i64];omega⟩) (by assumption) ?_
 (try simp only[pE])
 refine tk 9 ?_;try simp only[pE];refine rk 10 (fun K f=>?_);go_simp;refine f.out _ _ trivial (fun a8=>?_);clear f K
 (try simp only[pE])
 refine wpAnyH_done (by kernel_rfl) ?_ _;go_wp2;exact bodyPost_ret (v := .tuple #[.int .i64 0,.bool true]) (by simp[results,Tryz.results202,go_sem]) rfl (Da aG)
end Go.Proofs.YtaieidcohdhgpaaGreatDoor
