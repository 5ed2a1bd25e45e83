/- Dumps. -/
import Derived.Test.YtaieidcohdhgpaaGreatDoorZAX
import Derived.Test.YtaieidcohdhgpaaGreatDoorZAZ
import Derived.Lib.AppendIntMem
import Derived.Lib.ItoaLen
namespace Go.Proofs.YtaieidcohdhgpaaGreatDoor
set_option maxHeartbeats 40000000
set_option maxRecDepth 100000
open Go.RowKit
structure PY(E E':FL)(F:Pl):Prop where
 at':∀y∈F.puts,E'.at y.1=some y.2
 new:∀x∈F.ps,E'.D[x.1]?=some x.2
 old:∀r q,E.at r=some q->E'.D[q]?=E.D[q]?
 cl:E'.cl=false
structure NF where
 ins:List (Nat×Nat)
 tk:Nat->Bool
 tn:Nat->Nat
 t:By
section
variable{w0:World}{n0 rb db tp tx:Nat}{q:NF}{va vt:Value}{W W':World}
end
def BL(s:By):List UInt8:=s.data.toList
theorem DJ(s:By):(BL s).length=s.size:=Az
theorem KQ(a b:By):BL (a++b)=BL a++BL b:=by unfold BL;simp
theorem Ur(s:By)(i j:Nat):BL (s.extract i j)=((BL s).drop i).take (j-i):=by unfold BL;rw[BO]
theorem KB{a b:By}(h:BL a=BL b):a=b:=AY (by unfold BL at h;exact h)
theorem Yf(s:By)(n:Nat):BL (Dt s n)=(BL s++List.replicate n 0).take n:=by
 unfold Dt
 split
 ·rename_i h;rw[Ur,CP,Nat.sub_zero,Ep (by rw[DJ];exact h)]
 ·rename_i h;rw[KQ];have e:BL (⟨(List.replicate (n-s.size) 0).toArray⟩:By)=List.replicate (n-s.size) 0:=by unfold BL;simp
  rw[e,List.take_append,AI (by rw[DJ];omega),DJ,List.take_replicate]
  congr 2;omega
def Mz(f:Nat->List UInt8):Nat->List UInt8
 | 0=>[]
 | n+1=>Mz f n++f n
def NH(p x:Nat):List UInt8:=DK p 2++DK x 8
def Bd(B:Nat)(t:List UInt8)(w:World):Prop:=Lib.IsBuilderF 161 5 B B (Lib.byteCells t) w/\B<w.heap.size
def Gs(B:Nat)(w w':World):Prop:=Below B w w'/\Lib.OthersKept 5 (some B) w w'
theorem Gs.refl(B:Nat)(w:World):Gs B w w:=⟨Ag _ _,Lib.OthersKept.refl _ _ _⟩
theorem Gs.trans{B:Nat}{a b c:World}(h:Gs B a b)(k:Gs B b c):Gs B a c:=⟨h.1.trans k.1,h.2.trans k.2⟩
theorem Gs.below{B:Nat}{w w':World}(h:Bw w w')(a:B<=w.heap.size):Gs B w w':=⟨h.mono a,fun k _o ho _ _=>(h.block k (Ah.1 ho).1).trans ho⟩
theorem Gs.row{B:Nat}{w w':World}(h:Gs B w w'){k:Nat}{t:TypeId}{R:LV}(b:FH w k t R)(d:k<B\/k≠B/\t≠5):FH w' k t R:=by
 rcases d with a|⟨a,f⟩
 ·exact(h.1.block k a).trans b
 ·exact h.2 k _ b (fun e=>a (BG e)) (fun c fz e=>by cases e;exact f rfl)
theorem Bd.below{B:Nat}{t:List UInt8}{w w':World}(h:Bd B t w)(a:Bw w w'):Bd B t w':=by
 have c:∀{p:Value},Lib.BuilderAtF 161 5 B B p (Lib.byteCells t) w->Lib.BuilderAtF 161 5 B B p (Lib.byteCells t) w':=fun ⟨d,v,b,e,f⟩=>⟨d,v,(a.block _ (Ah.1 b).1).trans b,e.kept (row:=none) ⟨a.os,a.tape,a.output,a.size,fun k g _=>a.block k g⟩ (by cases hv:v.ownBlock<;>simp),f⟩
 exact⟨h.1.imp c c,Ao h.2 a.size⟩
theorem Bd.fresh(w:World):Bd w.heap.size [] (w.alloc (.cells #[.pointer none,.slice none 0 0] 161)):=⟨Lib.IsBuilderF.of (Lib.fresh_isBuilder 161 5 w),by simp⟩
theorem Wg(a b:List UInt8):Lib.byteCells a++Lib.byteCells b=Lib.byteCells (a++b):=by simp[Lib.byteCells]
theorem Wh(a:List UInt8):(Lib.byteCells a).length=a.length:=by simp[Lib.byteCells]
theorem Bd.str{B:Nat}{t:List UInt8}{w:World}(h:Bd B t w)(s:By)(hl:t.length+s.size<=100000000):
  Cl 167 #[.pointer (some ⟨B,0,none⟩),.string s] w fun e w'=>e = .returned (.tuple #[.int .i64 s.size,.nilIface])/\Bd B (t++BL s) w'/\Gs B w w':=by
 refine(Tryz.Builder_WriteString B B _ s w h.1 (by rw[Wh];omega) (Cs h.2)).mono ?_;rintro e w' ⟨rfl,a,b,c⟩;rw[Lib.strCells_eq,Wg]at a;exact⟨rfl,⟨.inr a,Ao h.2 b.size⟩,b,c⟩
theorem Bd.byte{B:Nat}{t:List UInt8}{w:World}(h:Bd B t w)(c:UInt8)(hl:t.length+1<=100000000):
  Cl 173 #[.pointer (some ⟨B,0,none⟩),.int .u8 (c.toNat:Int)] w fun e w'=>e = .returned .nilIface/\Bd B (t++[c]) w'/\Gs B w w':=by
 refine(Tryz.Builder_WriteByte B B _ _ w h.1 (by rw[Wh];omega) (Cs h.2)).mono ?_;rintro e w' ⟨rfl,a,b,d⟩;rw[show [Value.int .u8 (c.toNat:Int)]=Lib.byteCells [c] from rfl,Wg]at a;exact⟨rfl,⟨.inr a,Ao h.2 b.size⟩,b,d⟩
def GI(xs:LY):List UInt8:=Lib.join (xs.map BL) [32]++[10]
theorem TO{B:Nat}{t:List UInt8}{w:World}(h:Bd B t w)(g c:Nat)(xs:LY)(o:∀(j:Nat) x,xs[j]?=some x->w.cell? ⟨g,j,none⟩=some (.string x))(l:g<w.heap.size)(m:xs.length<=c)(y:xs.length<=1000)(f:t.length+(GI xs).length<=100000000):
  Cl 114 #[.pointer (some ⟨B,0,none⟩),.slice (some ⟨g,0,none⟩) xs.length c] w fun e w'=>e = .returned (.tuple #[])/\Bd B (t++GI xs) w'/\Gs B w w':=by
 obtain⟨n,d⟩:=ex xs.length;obtain⟨J,b⟩:∃J:By,J=⟨(Lib.join (xs.map BL) [32]).toArray⟩:=⟨_,rfl⟩;have a:BL J=Lib.join (xs.map BL) [32]:=by rw[b];simp[BL]
 have u:t.length+J.size+1<=100000000:=by
  rw[<-DJ,a];unfold GI at f;simp only[Ab,Af,Ay]at f;omega
 have s:Hid (Cl 168 #[.slice (some ⟨g,0,none⟩) n c,.string ⟨#[32]⟩] w fun e X=>e = .returned (.string J)/\Hid (Cl 167 #[.pointer (some ⟨B,0,none⟩),.string J] X fun e Y=>e = .returned (.tuple #[.int .i64 J.size,.nilIface])/\Hid (Cl 167 #[.pointer (some ⟨B,0,none⟩),.string ⟨#[10]⟩] Y fun e Z=>e = .returned (.tuple #[.int .i64 1,.nilIface])/\Hid (Bd B (t++GI xs) Z/\Gs B w Z)))):=by
  have A:(Lib.join (xs.map BL) [32]).length<=140737488355328:=by
   have:=DJ J;rw[a]at this;omega
  rw[d];refine(Tryz.strings_Join g 0 c xs ⟨#[32]⟩ w (fun j x z=>by rw[Au];exact o j x z) l (by omega) m A).mono ?_;rintro e X ⟨rfl,i⟩;refine⟨by rw[b];rfl,?_⟩;refine((h.below i).str J (by omega)).mono ?_;rintro e Y ⟨rfl,v,C⟩;refine⟨rfl,?_⟩;refine(v.str ⟨#[10]⟩ (by rw[Ab,DJ];show _+_+1<=_;omega)).mono ?_;rintro e Z ⟨rfl,k,D⟩;refine⟨rfl,?_,((Gs.below i (Cs h.2)).trans C).trans D⟩;rw[a,AC]at k;exact k
 rw[<-d];clear h o d m y f b a u l;go_enter Tryz.func114,Tryz.ntmps114;go_upto_region 1 with(first|(go_at_call 168;refine(Da s).mono ?_;rintro e X ⟨rfl,p⟩)|(go_at_call 167;refine(Da p).mono ?_;rintro e Y ⟨rfl,q⟩));go_wp2_with (go_at_call 167;refine(Da q).mono ?_;rintro e Z ⟨rfl,r⟩)
 go_end0
 exact⟨rfl,Da r⟩
section
open Go.RowKit Go.Shelf
attribute [local go_sem] Oper.semAt_some
def JA:By:=⟨#[48,49,50,51,52,53,54,55,56,57,97,98,99,100,101,102]⟩
def Gp(n:Nat):UInt8:=JA.data.getD n 0
def JO(b:UInt8):List UInt8:=[Gp (b.toNat/16),Gp (b.toNat%16)]
def DB(l:List UInt8):List UInt8:=l.flatMap JO
def Jq(s:By)(pre:List Nat):List UInt8:=pre.flatMap (fun x=>DB (BL (G7 s 32 x))++[10])
theorem Bd.own{B:Nat}{t:List UInt8}{W W':World}(h:Bd B t W){row:Option Nat}(c:W.grownBy W' row)(n:∀r,row=some r->∃o:Obj,W.heap[r]?=some o/\o.isCells=false):Bd B t W':=by
 have ne:∀{j:Nat} {d:Array Value} {t:TypeId} {z:Nat×Nat},W.heap[j]?=some (Obj.cells d t z)->some j≠row:=fun {j d t z} m e=>by
  obtain⟨o,b,a⟩:=n j e.symm;rw[m]at b;cases b;cases a
 have i:∀{p:Value},Lib.BuilderAtF 161 5 B B p (Lib.byteCells t) W->Lib.BuilderAtF 161 5 B B p (Lib.byteCells t) W':=fun {p} ⟨b,v,a,f,k⟩=>by
  refine⟨b,v,(c.block _ (Ah.1 a).1 (ne a)).trans a,f.kept c ?_,k⟩;rcases f.2 with⟨rfl,_⟩|⟨g,cap,aa,fz,rfl,_,l,_⟩
  ·exact .inl rfl
  ·exact .inr (ne l)
 exact⟨h.1.imp i i,Ao h.2 c.size⟩
theorem Gs.others{B:Nat}{t:List UInt8}{W W':World}(h:Gs B W W')(f:Bd B t W):KeepsOthers W W':=
 ⟨h.1.size,fun k o ho b=>by
  refine h.2 k o ho (fun e=>?_) (fun c fz e=>by rw[e]at b;cases b);obtain⟨p,v,g⟩:∃p v,W.heap[B]?=some (.cells #[p,v] 161 (0,0)):=by
   rcases f.1 with⟨_,v,a,_⟩|⟨_,v,a,_⟩
   ·exact⟨_,v,a⟩
   ·exact⟨_,v,a⟩
  have d:k=B:=BG e;subst d;rw[g]at ho;cases ho;cases b⟩
theorem MI(x:Addr)(j:Nat):(x.add j).block=x.block:=by unfold Addr.add;split<;>rfl
structure He(w:World)(B:Nat)(va:OA)(len cap:Nat)(s:By)(T:List UInt8)(W:World):Prop where
 bd:Bd B T W
 b0:FH W w.heap.size 159 [.pointer (some ⟨B,0,none⟩)]
 b1:FH W (w.heap.size+1) 59 [.slice va len cap]
 b2:FH W (w.heap.size+1+1) 3 [.int .i64 32]
 rd:Ge W va len cap s
 fr:Gs B w W
 sz:w.heap.size+3<=W.heap.size
section
variable{w:World}{B:Nat}{va:OA}{len cap:Nat}{s:By}{T T':List UInt8}{W W':World}
theorem He.on(h:He w B va len cap s T W)(hB:B<w.heap.size)(g:∀x,va=some x->x.block<B)(c:Bd B T' W')(a:Gs B W W'):He w B va len cap s T' W':=by
 have b:=h.sz;refine⟨c,a.row h.b0 (.inr ⟨by omega,by decide⟩),a.row h.b1 (.inr ⟨by omega,by decide⟩),a.row h.b2 (.inr ⟨by omega,by decide⟩),⟨h.rd.1,h.rd.2.1,fun j v f=>?_⟩,h.fr.trans a,Ae b a.1.size⟩;obtain⟨x,e,d⟩:=h.rd.2.2 j v f;refine⟨x,e,?_⟩;rw[<-d];exact Ax (a.1.block _ (by rw[MI];exact g x e))
theorem He.own(h:He w B va len cap s T W){row:Option Nat}(a:W.grownBy W' row)(g:∀r,row=some r->w.heap.size+3<=r/\∃o:Obj,W.heap[r]?=some o/\o.isCells=false)(hB:B<w.heap.size)(q:∀x,va=some x->x.block<B):He w B va len cap s T W':=by
 have ne:∀{j:Nat} {m:Array Value} {t:TypeId} {z:Nat×Nat},W.heap[j]?=some (Obj.cells m t z)->some j≠row:=fun {j m t z} c e=>by
  obtain⟨o,b,f⟩:=(g j e.symm).2;rw[c]at b;cases b;cases f
 have i:∀{j:Nat} {t:TypeId} {R:LV},FH W j t R->FH W' j t R:=fun c=>(a.block _ c.lt (ne c)).trans c
 have l:∀k,k<w.heap.size->some k≠row:=fun k d e=>by have:=(g k e.symm).1;omega
 have aa:=h.sz;refine⟨h.bd.own a (fun r e=>(g r e).2),i h.b0,i h.b1,i h.b2,⟨h.rd.1,h.rd.2.1,fun j v p=>?_⟩,⟨⟨a.os.trans h.fr.1.os,a.tape.trans h.fr.1.tape,a.output.trans h.fr.1.output,Ae h.fr.1.size a.size,fun k d=>(a.block k (by omega) (l k (by omega))).trans (h.fr.1.block k d)⟩,fun k o ho b f=>?_⟩,Ae h.sz a.size⟩
 ·obtain⟨x,e,n⟩:=h.rd.2.2 j v p;refine⟨x,e,?_⟩;rw[<-n];have b:=q x e;exact Ax (a.block _ (Al _ _ n) (l _ (by rw[MI];omega)))
 ·have d:=(Ah.1 ho).1;exact(a.block k (by omega) (l k d)).trans (h.fr.2 k o ho b f)
theorem He.drew(h:He w B va len cap s T W)(a:B<w.heap.size)(b:∀x,va=some x->x.block<B):He w B va len cap s T W.drew:=
 h.on a b (h.bd.below (Ag _ _).drew) (Gs.below (Ag _ _).drew (Cs h.bd.2))
theorem He.byte(h:He w B va len cap s T W)(f:B<w.heap.size)(i:∀x,va=some x->x.block<B)(c:UInt8)(g:T.length+1<=100000000):
  Cl 173 #[.pointer (some ⟨B,0,none⟩),.int .u8 (c.toNat:Int)] W fun e W'=>e = .returned .nilIface/\He w B va len cap s (T++[c]) W'/\Gs B W W':=
 (h.bd.byte c g).mono fun _ _ ⟨b,d,a⟩=>⟨b,h.on f i d a,a⟩
end
end
section
open Go.RowKit Go.Shelf
attribute [local go_sem] Oper.semAt_some
theorem M6(l:List UInt8):(DB l).length=2*l.length:=by
 induction l with
 | nil=>rfl
 | cons a l ih=>show(JO a++DB l).length=_;rw[Ab,ih];show 2+_=_;simp only[Af];omega
theorem ZR(s:By)(a:List Nat)(x:Nat):Jq s (a++[x])=Jq s a++(DB (BL (G7 s 32 x))++[10]):=by
 unfold Jq;rw[EU];simp
theorem Sw(s:By)(b:List Nat):(Jq s b).length<=65*b.length:=by
 induction b with
 | nil=>exact Aa _
 | cons a l ih=>
  show((DB (BL (G7 s 32 a))++[10])++Jq s l).length<=_;have h1:=Qf s 32 a;rw[Ab,Ab,M6,DJ,Bh,Af];omega
theorem Ue{n:Nat}(h:n<JA.size):JA[n]=Gp n:=by
 show JA.data[n]=JA.data.getD n 0;unfold Array.getD;rw[dif_pos (show n<JA.data.size from h)]
 rfl
theorem Yi(v:Nat)(hv:v<256):bits BinOp.and IntKind.u8 (v:Int) 15=((v%16:Nat):Int):=by
 have a:(BitVec.ofInt 8 (v:Int)).toNat=v:=by rw[BitVec.ofInt_natCast,BitVec.toNat_ofNat];exact Nat.mod_eq_of_lt (by omega)
 have b:(BitVec.ofInt 8 15).toNat=15:=rfl;show IntKind.u8.wrap ((BitVec.ofInt 8 (v:Int) &&& BitVec.ofInt 8 15).toNat:Int)=_;rw[BitVec.toNat_and,a,b,show v &&& 15=v%16 from Nat.and_two_pow_sub_one_eq_mod v 4];simp[IntKind.wrap,IntKind.bits,IntKind.signed];omega
theorem VM{B:Nat}{t:List UInt8}{w:World}(h:Bd B t w)(u:OA)(a d:Nat)(s:By)(ac:Ge w u a d s)(au:∀x,u=some x->x.block<B)(hl:a<=1280)(ht:t.length<=50000000)(g off N:Nat)(hN:N=(a+32-1)/32)(S:0<N->u=some ⟨g,off,none⟩)
  (ab:∀W:World,FH W (w.heap.size+1) 59 [.slice u a d]->FH W (w.heap.size+1+1) 3 [.int .i64 32]->∃Sp:List Nat->Prop,SeqStopsK Fence.wide 2 Tryz.prog 220 #[.pointer (some ⟨w.heap.size+1,0,none⟩),.pointer (some ⟨w.heap.size+1+1,0,none⟩)] (fun k:Nat => #[Hj g off 32 a k]) (fun A A'=>A'.heap[w.heap.size+1]?=A.heap[w.heap.size+1]?/\A'.heap[w.heap.size+1+1]?=A.heap[w.heap.size+1+1]?) (fun ys=>ys=List.range N) Sp N W):
  Cl 117 #[.pointer (some ⟨B,0,none⟩),.slice u a d] w fun e w'=>e = .returned (.tuple #[])/\Bd B (t++Jq s (List.range N)) w'/\Gs B w w':=by
 have F:=h.2;obtain⟨W1,R,x1,k1,s1,b1⟩:=De w [.pointer (some ⟨B,0,none⟩)] 159;obtain⟨W2,e2,x2,k2,s2,b2⟩:=De W1 [.slice u a d] 59;obtain⟨Y,e3,x3,k3,s3,b3⟩:=De W2 [.int .i64 32] 3;have aa:Bw w Y:=b1.trans ((b2.mono (by omega)).trans (b3.mono (by omega)));have y1:=k3 _ _ _ (k2 _ _ _ x1);have y2:=k3 _ _ _ x2;have t2:W2.heap.size=w.heap.size+1+1:=by omega
 have M:Y.heap.size=w.heap.size+3:=by omega
 rw[s1]at y2;rw[t2]at x3;have ak:He w B u a d s t Y:=⟨h.below aa,y1,y2,x3,ac.below aa,Gs.below aa (Cs F),by omega⟩;obtain⟨Sp,ab⟩:=ab Y y2 x3;have aA:=Db ak;have aC:=Db ab;have aj:=Db M;have HG:=Db S;have ax:=Db R;have ay:=Db e2;have az:=Db e3;have aO:N<=40:=by omega
 have HN:=Db hN;have Q:=Db au;have O:=Db F;have ap:a=s.size:=ac.1;have aB:=Db ap;clear x1 x2 x3 k1 k2 k3 s1 s2 s3 b1 b2 b3 y1 y2 t2 M R e2 e3 aa ak ac h ab S hN au F ap;refine(A0 (n:=3)).1 ?_;refine Bq Tryz.func117 rfl trivial ?_ rfl;simp only[Tryz.ntmps117,AQ,Af,Ay,Nat.reduceAdd,Nat.reduceSub,AP,AO,AV,AR,AJ,AL]
 gi_wp2_with (refine⟨trivial,?_⟩;gi_at_call 172;refine(Uk _ 32 (by omega) (by omega) _ _ ⟨_,_,_,rfl⟩).mono ?_;rintro e w' ⟨rfl,rfl⟩)
 rw[show w.alloc (.cells #[.pointer (some ⟨B,0,none⟩)] 159)=W1 from Da ax,show W1.alloc (.cells #[.slice u a d] 59)=W2 from Da ay,show W2.alloc (.cells #[.int .i64 32] 3)=Y from Da az];have M:=Da aj;have F:=Da O;refine CS (α := Nat) rfl (by omega) (gf:=220) (lb := #[.pointer (some ⟨w.heap.size+1,0,none⟩),.pointer (some ⟨w.heap.size+1+1,0,none⟩)]) rfl trivial (Ez Tryz.func220 (by kernel_rfl) rfl)
  (Da aC)
  (fun j p=>⟨p.1.trans j.1,p.2.trans j.2⟩)
  (fun X l o o' hl ho _ _=>⟨Bl (by omega),Bl (by omega)⟩)
  (Ag _ _) (fun _=>rfl)
  (fun f X=>He w B u a d s (t++Jq s f) X/\f.length<=N)
  (fun _ _ _=>False)
  (fun f A B row hs S hr=>⟨hs.1.own S (fun r e=>by rw[<-M];exact hr r e) F (Da Q),hs.2⟩)
  (fun _ _ _ _ _ hs _ _=>hs)
  ⟨by rw[show t++Jq s []=t from AZ t];exact Da aA,Aw _⟩
  (fun x=>{ tmps := #[.pointer (some ⟨B,0,none⟩),.slice u a d,.pointer (some ⟨w.heap.size,0,none⟩),undef,Hj g off 32 a x,undef,undef,.slice u a d,.func (.func 220) #[] #[.pointer (some ⟨w.heap.size+1,0,none⟩),.pointer (some ⟨w.heap.size+1+1,0,none⟩)],Hj g off 32 a x,undef,undef,undef,undef,undef,undef,undef,undef,undef,undef,undef,undef,undef,undef,undef,undef,undef,undef,undef],defers:=[] })
  ?assign ?body ?done ?stop
 case assign=>
  intro l x X K C;clear M F
  gi_wp2
  exact C
 case body=>
  rintro l f x W ⟨G,aP⟩ aQ;have aJ:=Da HG (by omega);subst aJ;obtain⟨m,hm⟩:=ex (min 32 (a-x*32));obtain⟨q,hq⟩:=ex (off+x*32);have an:Hj g off 32 a x = .slice (some ⟨g,q,none⟩) m m:=by unfold Hj;rw[hm,hq]
  obtain⟨P,hP⟩:∃P:List UInt8,P=BL (G7 s 32 x):=⟨_,rfl⟩;have al:P.length=m:=by rw[hP,DJ,Qf,hm,Da aB]
  have aR:m<=32:=by omega
  have ao:(t++Jq s f).length<=50010000:=by
   have:=Sw s f;rw[Ab];omega
  have ai:Hid (∀(k:Nat) b X T,P[k]?=some b->He w B (some ⟨g,off,none⟩) a d s T X->X.cell? ⟨g,q+k,none⟩=some (.int .u8 (b.toNat:Int))):=fun k b X T hb hX=>by
   have j:=(hX.rd.chunk 32 x).2.2 k (.int .u8 (b.toNat:Int)) (by unfold Dd;rw[Be];show((BL (G7 s 32 x))[k]?).map _=_;rw[<-hP,hb];rfl);obtain⟨y,e,hc⟩:=j
   cases e
   rw[AF,<-hq]at hc;exact hc
  have HC:Hid (∀(c:UInt8) T X,T.length<=60000000->He w B (some ⟨g,off,none⟩) a d s T X->Cl 173 #[.pointer (some ⟨B,0,none⟩),.int .u8 (c.toNat:Int)] X fun e E=>e = .returned .nilIface/\E.cell? ⟨w.heap.size,0,none⟩=some (.pointer (some ⟨B,0,none⟩))/\Hid (He w B (some ⟨g,off,none⟩) a d s (T++[c]) E/\Gs B X E)):=fun c T X hT hX=>(hX.byte F (Da Q) c (by omega)).mono fun e E ⟨j,p,h3⟩=>⟨j,(p.b0.cell 0).trans rfl,p,h3⟩
  have ad:Hid (He w B (some ⟨g,off,none⟩) a d s (t++Jq s f++DB (P.take 0)) W/\Gs B W W):=⟨by rw[Co];exact(AZ (t++Jq s f)).symm ▸ G,Gs.refl _ _⟩;have HI:=Db G;have HP:=Db hP;have ah:=Db al;have ae:=Db ao;clear M G hP al hm hq ao F;rw[an];clear an
  gi_wp2
  gi_loopw [12] (fun i wr=>∃k:Nat,k<=m/\i = .int .i64 (k:Nat)/\Hid (He w B (some ⟨g,off,none⟩) a d s (t++Jq s f++DB (P.take k)) wr/\Gs B W wr)) (fun i _=>m-(intOf i).toNat)
  case atStart=>exact⟨0,Aw _,rfl,ad⟩
  case round=>
   obtain⟨k,hk,rfl,U⟩:=hrel;clear ad;by_cases aG:k<m
   ·obtain⟨b,hb⟩:∃b,P[k]?=some b:=⟨_,Ac (by rw[Da ah];exact aG)⟩;have aE:=Da ai k b wr _ hb (Da U).1;have c0:wr.cell? ⟨w.heap.size,0,none⟩=some (.pointer (some ⟨B,0,none⟩)):=((Da U).1.b0.cell 0).trans rfl;obtain⟨v,hv⟩:∃v:Nat,v=b.toNat:=⟨_,rfl⟩;have aI:v<256:=by rw[hv];exact b.toNat_lt
    rw[<-hv]at aE;obtain⟨n1,aq⟩:∃n,n=v/16:=⟨_,rfl⟩;obtain⟨L,ar⟩:∃n,n=v%16:=⟨_,rfl⟩;have aK:n1<16:=by omega
    have aL:L<16:=by omega
    have av:=Db hb;have HV:=Db hv;have af:=Db aq;have ag:=Db ar;have aF:(k:Int)<(m:Int):=by omega
    clear hb hv aq ar;have aw:Hid (Cl 173 #[.pointer (some ⟨B,0,none⟩),.int .u8 ((Gp n1).toNat:Int)] wr.drew fun e E=>e = .returned .nilIface/\E.cell? ⟨w.heap.size,0,none⟩=some (.pointer (some ⟨B,0,none⟩))/\Hid (Cl 173 #[.pointer (some ⟨B,0,none⟩),.int .u8 ((Gp L).toNat:Int)] E.drew fun e Z=>e = .returned .nilIface/\Z.cell? ⟨w.heap.size,0,none⟩=some (.pointer (some ⟨B,0,none⟩))/\Hid (He w B (some ⟨g,off,none⟩) a d s (t++Jq s f++DB (P.take (k+1))) Z/\Gs B W Z))):=by
     obtain⟨j,p⟩:=Da U;have aH:(t++Jq s f++DB (P.take k)).length<=50020000:=by
      have:=Da ae;rw[Ab,M6,Ar];omega
     refine(Da HC (Gp n1) _ wr.drew (by omega) (j.drew (Da O) (Da Q))).mono ?_;rintro e E ⟨rfl,h3,H⟩;refine⟨rfl,h3,?_⟩;obtain⟨H,h5⟩:=Da H;refine(Da HC (Gp L) _ E.drew (by rw[Ab,Bh];omega) (H.drew (Da O) (Da Q))).mono ?_;rintro e Z ⟨rfl,h6,h7⟩;obtain⟨h7,h8⟩:=Da h7;refine⟨rfl,h6,?_,(p.trans ((Gs.below (Ag _ _).drew (Cs j.bd.2)).trans h5)).trans ((Gs.below (Ag _ _).drew (Cs H.bd.2)).trans h8)⟩;have R:DB (P.take (k+1))=DB (P.take k)++[Gp n1,Gp L]:=by
      rw[Bg,Da av];unfold DB;rw[EU]
      congr 1
      show JO b++[]=_;unfold JO;rw[<-Da HV,<-Da af,<-Da ag];rfl
     rw[R]
     simpa [List.append_assoc] using h7
    clear HC ai
    gi_wp2
    refine QC (fun V=>V.cell? ⟨w.heap.size,0,none⟩=some (.pointer (some ⟨B,0,none⟩))) (by kernel_rfl) (fun J=>by obtain⟨_,_,J⟩:=J;exact J) (by kernel_rfl) c0 (fun aD=>?_);refine tk 0 ?_;try simp only[pE];refine tk 1 ?_;try simp only[pE];refine Bc (i:=2) (v := .int .u8 (n1:Nat)) rfl (by kernel_rfl) (by kernel_rfl) (by kernel_rfl) (fun _ _ _ h=>h) (Or.inl ⟨by rfl,?_⟩) (by assumption) ?_
    ·intro w I;(try dsimp only at I);go_simp;have:=Da af;omega
    (try simp only[pE])
    refine Bc (i:=3) (v := .int .u8 ((Gp n1).toNat:Int)) rfl (by kernel_rfl) (by kernel_rfl) (by kernel_rfl) (fun _ _ _ h=>h) (Or.inl ⟨by rfl,?_⟩) (by assumption) ?_
    ·intro w I;(try dsimp only at I);go_simp;rw[dif_pos (show((n1:Nat):Int)<16 by omega)];exact C1 (fun z:UInt8=>Result.ok (Next.value (.int .u8 (z.toNat:Int))) w) (Ue (show _<16 by omega))
    (try simp only[pE])
    refine rk 4 (fun K C=>?_);go_simp;go_at_call 173;refine(Da aw).mono ?_;rintro e X1 ⟨rfl,c1,H2⟩;go_wp2_with fail;refine C.out _ _ c1 (fun aM=>?_);clear C K
    (try simp only[pE])
    refine AS (by kernel_rfl) ?_ _
    gi_wp2
    refine QC (fun V=>V.cell? ⟨w.heap.size,0,none⟩=some (.pointer (some ⟨B,0,none⟩))) (by kernel_rfl) (fun J=>by obtain⟨_,_,J⟩:=J;exact J) (by kernel_rfl) c1 (fun aD=>?_);refine tk 0 ?_;try simp only[pE];refine tk 1 ?_;try simp only[pE];refine Bc (i:=2) (v := .int .u8 (L:Nat)) rfl (by kernel_rfl) (by kernel_rfl) (by kernel_rfl) (fun _ _ _ h=>h) (Or.inl ⟨by rfl,?_⟩) (by assumption) ?_
    ·intro w I;(try dsimp only at I);go_simp;rw[Yi v aI,<-Da ag]
    (try simp only[pE])
    refine Bc (i:=3) (v := .int .u8 ((Gp L).toNat:Int)) rfl (by kernel_rfl) (by kernel_rfl) (by kernel_rfl) (fun _ _ _ h=>h) (Or.inl ⟨by rfl,?_⟩) (by assumption) ?_
    ·intro w I;(try dsimp only at I);go_simp;rw[dif_pos (show((L:Nat):Int)<16 by omega)];exact C1 (fun z:UInt8=>Result.ok (Next.value (.int .u8 (z.toNat:Int))) w) (Ue (show _<16 by omega))
    (try simp only[pE])
    refine rk 4 (fun K C=>?_);go_simp;go_at_call 173;refine(Da H2).mono ?_;rintro e Z ⟨rfl,c2,H3⟩;go_wp2_with fail;refine C.out _ _ c2 (fun aN=>?_);clear C K
    (try simp only[pE])
    refine AS (by kernel_rfl) ?_ _
    gi_wp2
    go_roundw
    case rel=>exact⟨k+1,by omega,by go_num,H3⟩
    case measure=>simp[intOf];omega
   ·obtain rfl:k=m:=by omega
    have c0:wr.cell? ⟨w.heap.size,0,none⟩=some (.pointer (some ⟨B,0,none⟩)):=((Da U).1.b0.cell 0).trans rfl;have aF:¬(k:Int)<(k:Int):=by omega
    have HE:Hid (Cl 167 #[.pointer (some ⟨B,0,none⟩),.string ⟨#[10]⟩] wr fun e X=>e = .returned (.tuple #[.int .i64 1,.nilIface])/\Hid (He w B (some ⟨g,off,none⟩) a d s (t++Jq s (f++[x])) X/\Gs B W X)):=by
     obtain⟨j,p⟩:=Da U;have aH:(DB (P.take k)).length<=64:=by
      rw[M6,Ar];omega
     refine(j.bd.str ⟨#[10]⟩ (by rw[Ab];have:=Da ae;show _+1<=_;omega)).mono ?_;rintro e X ⟨rfl,h3,H⟩;refine⟨rfl,?_,p.trans H⟩;have R:t++Jq s (f++[x])=t++Jq s f++DB (P.take k)++BL ⟨#[10]⟩:=by
      rw[ZR,<-Da HP,AI (by rw[Da ah];exact Aa _)];simp only[AC]
      rfl
     rw[R];exact j.on (Da O) (Da Q) h3 H
    gi_wp2_with (refine⟨trivial,?_⟩;gi_at_call 167;refine(Cp _ (A0.2 (Da HE))).mono ?_;rintro e X ⟨rfl,H9⟩)
    obtain⟨j,p⟩:=Da H9;have G:=Da HI;have F:=Da O;exact⟨p.others G.bd,⟨(p.row G.b1 (.inr ⟨by omega,by decide⟩)).trans (Eq.symm G.b1),(p.row G.b2 (.inr ⟨by omega,by decide⟩)).trans (Eq.symm G.b2)⟩,j,by rw[Ab,Bh];omega⟩
 case done=>
  rintro D ys X hD rfl ⟨hR,_⟩ C;have HR:=Db hR;clear hR
  gi_wp2
  have hR:=Da HR;have M:=Da aj;refine⟨by simp,.inl ⟨_,_,rfl,BS C,?_⟩⟩;have S:X.grownBy (X.putObj D (.deferred none)) (some D):=⟨rfl,rfl,rfl,by simp[World.putObj],fun k _ hk=>by
   simp only[World.putObj];rw[A5,if_neg (fun e=>hk (by rw[e]))]⟩
  have am:=hR.own S (fun r e=>by cases e;exact⟨by omega,_,C,rfl⟩) (Da O) (Da Q);exact⟨_,CZ rfl _ _ _,rfl,am.bd,am.fr⟩
 case stop=>
  rintro D c f X _ _ h _;exact h.elim
end
def Jc(s:By):List UInt8:=Jq s (List.range ((s.size+32-1)/32))
theorem Su(s:By)(h:s.size<=1280):(Jc s).length<=2600:=by
 have:=Sw s (List.range ((s.size+32-1)/32));rw[A9]at this;unfold Jc;omega
theorem Zku{B:Nat}{t:List UInt8}{w:World}(h:Bd B t w)(n:OA)(b f:Nat)(s:By)(p:Sl w 5 1 (.slice n b f) b (Dd s))(F:∀k,Own (.slice n b f) k->k<B)(hl:s.size<=1280)(r:t.length<=50000000):
  Cl 117 #[.pointer (some ⟨B,0,none⟩),.slice n b f] w fun e w'=>e = .returned (.tuple #[])/\Bd B (t++Jc s) w'/\Gs B w w':=by
 have m:b=s.size:=by have:=p.1;rw[Dj]at this;omega
 rcases p.2 with⟨e,h0⟩|⟨g,c,L,e,C,E,ab,aa,z⟩
 ·cases e
  have q:s.size=0:=by omega
  have:=VM h none 0 0 s ⟨m,fun _=>rfl,fun j v d=>by
   have:=(Ad.1 d).1;rw[Dj,q]at this;omega⟩ (fun x e=>by cases e) (by omega) r 0 0 0 rfl (fun e=>by omega) (fun W i l=>⟨_,Ts 2 (w.heap.size+1) (w.heap.size+1+1) 32 W i.lt ((i.cell 0).trans rfl) _⟩)
  unfold Jc;rw[q];exact this
 ·cases e
  have D:g<B:=F g (by simp[Own,Value.ownBlock]);have:=VM h (some ⟨g,0,none⟩) b f s ⟨m,fun e=>(by cases e),fun j v d=>⟨_,rfl,by
   rw[AF,Au,C.cell];have hj:=(Ad.1 d).1;rw[<-z,Ap]at d
   split at d
   ·exact d
   ·cases d⟩⟩ (fun x e=>by cases e;exact D) (by omega) r g 0 ((b+32-1)/32) rfl (fun _=>rfl) (fun W i l=>⟨_,Nj 2 (by omega) (w.heap.size+1) (w.heap.size+1+1) g 0 32 b f (by omega) (by omega) E (by omega) _ rfl W i.lt l.lt ((i.cell 0).trans rfl) ((l.cell 0).trans rfl) _ (fun A A' o u y=>⟨(Ax (w:=A) (a:=⟨w.heap.size+1,0,none⟩) o.1).trans u,(Ax (w:=A) (a:=⟨w.heap.size+1+1,0,none⟩) o.2).trans y⟩)⟩)
  unfold Jc;rw[<-m];exact this
def Gm(n:Nat):By:=⟨(Lib.itoa (n:Int)).toArray⟩
def Gx(C told:NB)(y:It):List UInt8:=
 if y.k=1 then GI [⟨#[100]⟩,jn y.ns] else if y.k=2 then GI [⟨#[102]⟩,jn y.ns,Gm (C y.f).size]++Jc (C y.f) else GI [⟨#[108]⟩,jn y.ns,told y.f]
def F9(told:NB)(y:It):NB:=if y.k=2 then (fun n=>if n=y.f then jn y.ns else told n) else told
def Hs(C:NB)(st:List UInt8×(NB))(y:It):List UInt8×(NB):=(st.1++Gx C st.2 y,F9 st.2 y)
def Gb(C:NB)(L:List It):List UInt8×(NB):=L.foldl (Hs C) ([115,105,108,116,10],fun _=>⟨#[]⟩)
theorem XQ(C:NB)(L:List It)(y:It):Gb C (L++[y])=Hs C (Gb C L) y:=by unfold Gb;rw[FG];rfl
theorem Yt(a b:By):(GI [a,b]).length=a.size+b.size+2:=by
 show(Lib.join [BL a,BL b] [32]++[10]).length=_;simp[Lib.join,DJ];omega
theorem SH(a b c:By):(GI [a,b,c]).length=a.size+b.size+c.size+3:=by
 show(Lib.join [BL a,BL b,BL c] [32]++[10]).length=_;simp[Lib.join,DJ];omega
theorem M7(n:Nat)(hn:n<=1280):(Gm n).size<=21:=by
 have:=Lib.itoa_length_le (n:Int) (by omega) (by omega);show(Lib.itoa (n:Int)).toArray.size<=_
 simpa using this
theorem Sk(C told:NB)(y:It)(hp:(jn y.ns).size<=100)(a:y.k=2->(C y.f).size<=1280)(ht:(told y.f).size<=100):(Gx C told y).length<=3000:=by
 unfold Gx
 split
 ·rw[Yt];show 1+_+2<=_;omega
 ·split
  ·rename_i h;have:=Su _ (a h);have:=M7 (C y.f).size (a h);rw[Ab,SH];show 1+_+_+3+_<=_;omega
  ·rw[SH];show 1+_+_+3<=_;omega
theorem OD{C:NB}:∀(L:List It) (st:List UInt8×(NB)),(∀n,(st.2 n).size<=100)->(∀y∈L,(jn y.ns).size<=100/\(y.k=2->(C y.f).size<=1280))->(L.foldl (Hs C) st).1.length<=st.1.length+3000*L.length/\∀n,((L.foldl (Hs C) st).2 n).size<=100
 | [],st,h0,_=>⟨Aa _,h0⟩
 | y::L,st,h0,h=>by
  obtain⟨a,c⟩:=h y (by simp);obtain⟨h1,b⟩:=OD L (Hs C st y) (fun n=>by
   show(F9 st.2 y n).size<=100;unfold F9
   split
   ·show(if n=y.f then jn y.ns else _).size<=100
    split
    ·exact a
    ·exact h0 n
   ·exact h0 n) (fun z d=>h z (AA _ d))
  refine⟨?_,b⟩;have h5:(Hs C st y).1.length=st.1.length+(Gx C st.2 y).length:=Ab;have:=Sk C st.2 y a c (h0 _);show(L.foldl (Hs C) (Hs C st y)).1.length<=_;rw[Af];omega
theorem XE{C:NB}(L:List It)(h:∀y∈L,(jn y.ns).size<=100/\(y.k=2->(C y.f).size<=1280)):(Gb C L).1.length<=5+3000*L.length/\∀n,((Gb C L).2 n).size<=100:=
 OD L _ (fun _=>Aw _) h
def KK(told:NB):LV:=(List.range 60).map (fun n => .string (told n))
theorem R6(told:NB){n:Nat}(h:n<60):(KK told)[n]?=some (.string (told n)):=by
 unfold KK;rw[Be,Ej h];rfl
theorem Yq(told:NB)(n:Nat)(p:By):(KK told).set n (.string p)=KK (fun k=>if k=n then p else told k):=by
 apply CR;intro i;rw[EG];unfold KK;rw[A7,A9,Be,Be];by_cases a:i<60
 ·rw[Ej a];by_cases e:n=i
  ·rw[if_pos e,if_pos (by omega)];show _=some (Value.string (if i=n then p else told i));rw[if_pos e.symm]
  ·rw[if_neg e];show some (Value.string (told i))=some (Value.string (if i=n then p else told i));rw[if_neg (fun h=>e h.symm)]
 ·rw[Bv (by rw[A9];omega)]
  split
  ·split
   ·omega
   ·rfl
  ·rfl
def Hu(B:Nat)(W W':World):Prop:=Below B W W'/\∀k o,W.heap[k]?=some o->k≠B->k≠B+1->(∀c fz,o ≠ .cells c 5 fz)->W'.heap[k]?=some o
theorem Gs.of{B:Nat}{W a:World}(h:Gs B W a):Hu B W a:=⟨h.1,fun k o ho b _ c=>h.2 k o ho (fun e=>b (BG e)) c⟩
theorem Hu.trans{B:Nat}{a b c:World}(h:Hu B a b)(k:Hu B b c):Hu B a c:=⟨h.1.trans k.1,fun i o ho d e f=>k.2 i o (h.2 i o ho d e f) d e f⟩
theorem Hu.row{B:Nat}{W a:World}(h:Hu B W a){k:Nat}{t:TypeId}{R:LV}(f:FH W k t R)(b:k≠B)(d:k≠B+1)(g:t≠5):FH a k t R:=h.2 k _ f b d (fun c fz e=>by cases e;exact g rfl)
theorem Hu.below{B:Nat}{W a:World}(h:Bw W a)(b:B<=W.heap.size):Hu B W a:=⟨h.mono b,fun k _o ho _ _ _=>(h.block k (Ah.1 ho).1).trans ho⟩
structure GU(w:World)(Bt tb:Nat)(T:List UInt8)(told:NB)(X:World):Prop where
 bd:Bd w.heap.size T X
 tl:FH X (w.heap.size+1) 162 (KK told)
 bt:FH X Bt 37 [.pointer (some ⟨tb,0,none⟩)]
 fr:Bw w X
 lo:w.heap.size+1<Bt
section
variable{w:World}{Bt tb:Nat}{T T':List UInt8}{told:NB}{X X':World}
theorem GU.on(h:GU w Bt tb T told X)(b:Bd w.heap.size T' X')(a:Gs w.heap.size X X'):GU w Bt tb T' told X':=by
 have:=h.lo;exact⟨b,a.row h.tl (.inr ⟨by omega,by decide⟩),a.row h.bt (.inr ⟨by omega,by decide⟩),h.fr.trans a.1,h.lo⟩
theorem GU.below(h:GU w Bt tb T told X)(a:Bw X X'):GU w Bt tb T told X':=h.on (h.bd.below a) (Gs.below a (Cs h.bd.2))
theorem GU.tell(h:GU w Bt tb T told X)(n:Nat)(p:By):GU w Bt tb T (fun k=>if k=n then p else told k) (X.setCell ⟨w.heap.size+1,n,none⟩ (.string p))/\Hu w.heap.size X (X.setCell ⟨w.heap.size+1,n,none⟩ (.string p)):=by
 have ac:=h.lo;have m:X.grownBy (X.setCell ⟨w.heap.size+1,n,none⟩ (.string p)) (some (w.heap.size+1)):=⟨rfl,rfl,rfl,by simp[World.setCell],fun k _ r=>AB _ _ _ _ (fun e=>r (by simp[e]))⟩;have l:Bd w.heap.size T (X.setCell ⟨w.heap.size+1,n,none⟩ (.string p)):=by
  have d:∀{v:Value},Lib.BuilderAtF 161 5 w.heap.size w.heap.size v (Lib.byteCells T) X->Lib.BuilderAtF 161 5 w.heap.size w.heap.size v (Lib.byteCells T) (X.setCell ⟨w.heap.size+1,n,none⟩ (.string p)):=fun {v} ⟨i,v,a,b,j⟩=>by
   refine⟨i,v,(AB _ _ _ _ (by show w.heap.size≠w.heap.size+1;omega)).trans a,b.kept m ?_,j⟩;rcases b.2 with⟨rfl,_⟩|⟨g,aa,ab,fz,rfl,_,q,_⟩
   ·exact .inl rfl
   ·refine .inr (fun e=>?_);have f:g=w.heap.size+1:=BG e;subst f;have:=h.tl;unfold FH at this;rw[q]at this
    cases this
  exact⟨h.bd.1.imp d d,by simp[World.setCell];exact h.bd.2⟩
 have c:=h.tl.set n (.string p);rw[Yq]at c;refine⟨⟨l,c,(AB _ _ _ _ (by show Bt≠w.heap.size+1;omega)).trans h.bt,h.fr.setCell (p:=⟨w.heap.size+1,n,none⟩) (by show w.heap.size<=w.heap.size+1;omega) _,h.lo⟩,(Ag _ X).setCell (p:=⟨w.heap.size+1,n,none⟩) (by show w.heap.size<=w.heap.size+1;omega) _,fun k o ho _ a _=>(AB _ _ _ _ a).trans ho⟩
theorem GU.line(h:GU w Bt tb T told X)(xs:LY)(i:xs.length<=1000)(hl:T.length+(GI xs).length<=10000000):
  Cl 114 #[.pointer (some ⟨w.heap.size,0,none⟩),.slice (some ⟨X.heap.size,0,none⟩) xs.length xs.length] (X.alloc (.cells (xs.map Value.string).toArray 9)) fun e Y=>e = .returned (.tuple #[])/\GU w Bt tb (T++GI xs) told Y/\Hu w.heap.size X Y:=by
 obtain⟨Z,g,d,_,sZ,a⟩:=De X (xs.map Value.string) 9;rw[g];have c:=h.below a;refine(TO c.bd X.heap.size xs.length xs (fun j x k=>?_) d.lt (Aa _) i (by omega)).mono ?_
 ·rw[d.cell,Be,k];rfl
 ·rintro e Y ⟨rfl,f,b⟩;exact⟨rfl,c.on f b,(Hu.below a (Cs h.bd.2)).trans b.of⟩
theorem Zi9{A b:World}(h:∃k a,b=Sort.grow (A.drewN k) a):Bw A b:=by
 obtain⟨k,a,rfl⟩:=h;refine⟨rfl,rfl,rfl,by rw[Sort.size_grow];exact EN _ _,fun j c=>?_⟩;show((A.drewN k).heap++a)[j]? = _;rw[Array.getElem?_append_left (show j<(A.drewN k).heap.size from c)];rfl
end
end Go.Proofs.YtaieidcohdhgpaaGreatDoor
