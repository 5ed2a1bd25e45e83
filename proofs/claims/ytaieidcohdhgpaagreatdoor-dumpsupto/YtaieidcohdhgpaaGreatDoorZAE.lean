/- Dumps. -/
import Derived.Test.YtaieidcohdhgpaaGreatDoorZAC
import Derived.Test.YtaieidcohdhgpaaGreatDoorZAD
namespace Go.Proofs.YtaieidcohdhgpaaGreatDoor
set_option maxHeartbeats 40000000
set_option maxRecDepth 100000
open Go.RowKit
abbrev BO:=@Lib.extract_data
abbrev CD:=@Lib.toList_data
theorem P8:∀(l:List UInt8) (i:Nat),(∀j,j<i->l[j]? ≠ some 47)->l[i]?=some 47->Lib.indexByte l 47=i
 | [],i,_,h=>by simp at h
 | a::l,0,_,h=>by simp at h;simp[Lib.indexByte,h]
 | a::l,i+1,h,h1=>by
  have b:a≠47:=fun e=>h 0 (by omega) (by simp[e])
  have:=P8 l i (fun j hj=>by have:=h (j+1) (by omega);simpa using this) (by simpa using h1);simp[Lib.indexByte,b,this]
theorem Rw:∀(l:List UInt8),(∀j:Nat,l[j]? ≠ some 47)->Lib.indexByte l 47 = -1
 | [],_=>by simp[Lib.indexByte]
 | a::l,h=>by
  have b:a≠47:=fun e=>h 0 (by simp[e])
  have:=Rw l (fun j=>by have:=h (j+1);simpa using this);simp[Lib.indexByte,b,this]
def pc(s:By):LY:=Lib.splitB ⟨#[47]⟩ 0 (Lib.countB s ⟨#[47]⟩) s
theorem Vj(s:By):Lib.indexB s ⟨#[47]⟩=Lib.indexByte s.data.toList 47:=Lib.index_one _ _
theorem QL(s:By)(h:∀j:Nat,s.data.toList[j]? ≠ some 47):pc s=[s]:=
 Lib.splitB_miss _ _ _ _ ((Vj s).trans (Rw _ h))
theorem UV(s:By)(i:Nat)(h:∀j,j<i->s.data.toList[j]? ≠ some 47)(b:s.data.toList[i]?=some 47):pc s=s.extract 0 i::pc (s.extract (i+1) s.size):=by
 have a:=(Vj s).trans (P8 _ i h b);unfold pc;rw[Lib.countB_hit s ⟨#[47]⟩ i (Aa 1) a,EY 1,Lib.splitB_hit _ _ _ _ i a]
 rfl
theorem KG(p:By)(f:Nat):(p.extract f p.size).data.toList=p.data.toList.drop f:=Lib.extract_to_end p f
theorem WH(p:By)(f i:Nat)(hf:f<=i)(h:∀j,f<=j->j<i->p.data.toList[j]? ≠ some 47)(a:p.data.toList[i]?=some 47):
  pc (p.extract f p.size)=p.extract f i::pc (p.extract (i+1) p.size):=by
 have aa:i<p.size:=(Ad.1 a).1;rw[UV (p.extract f p.size) (i-f) (fun j hj=>by rw[KG,A3];exact h (f+j) (by omega) (by omega)) (by rw[KG,A3,show f+(i-f)=i by omega];exact a)];have b:(p.extract f p.size).extract 0 (i-f)=p.extract f i:=by
  apply AY;rw[BO,BO,BO];simp;rw[C8,Bu (by have:p.size=p.data.size:=rfl;omega)]
 have c:(p.extract f p.size).extract (i-f+1) (p.extract f p.size).size=p.extract (i+1) p.size:=by
  apply AY;rw[KG,KG,KG,List.drop_drop]
  congr 1;omega
 rw[b,c]
theorem Xx(p:By)(f:Nat)(h:∀j,f<=j->p.data.toList[j]? ≠ some 47):pc (p.extract f p.size)=[p.extract f p.size]:=
 QL _ (fun j=>by rw[KG,A3];exact h _ (by omega))
def Dc(p:By):LY:=if p.toList==[47] then [] else pc (p.extract 1 p.size)
def Df(p:By):Bool:=p.toList==[47] || (p.data.toList[0]? == some 47 && decide ((pc (p.extract 1 p.size)).length<=6) && (pc (p.extract 1 p.size)).all DC)
theorem Q7:(Tryz.prog.info? 9).map (fun i=>(i.zero,i.size,i.bytes))=some (some (.string ⟨#[]⟩),1,16):=by kernel_rfl
theorem RR(p:By)(k:Nat)(h:k<p.size):p.data.toList[k]?=some p[k]:=by
 rw[Ac (by simpa using h)];rfl
theorem QA(p:By)(k:Nat)(h:k<p.size):((p[k].toNat:Int) != 47)=true↔p.data.toList[k]? ≠ some 47:=by
 rw[RR p k h,Eu];constructor
 ·intro a b;rw[EF]at b;rw[b]at a;exact a rfl
 ·intro a b;exact a (by rw[EF];exact EA.1 (by have:p[k].toNat=47:=(by omega);rw[this];rfl))
theorem SC(p:By):(pc p).length<=p.size+1:=by
 have:=Lib.splitB_length_le ⟨#[47]⟩ 0 (Lib.countB p ⟨#[47]⟩) p;have h2:=Lib.countB_le ⟨#[47]⟩ (Aa 1) p.size p (Aa _);unfold pc;omega
theorem Uy(p:By)(w:World)(hp:p.size<=2000000):
  Cl 103 #[.string p] w fun e w'=>∃a n c,e = .returned (.tuple #[.slice a n c,.bool (Df p)])/\(Df p=true->n=(Dc p).length)/\Bw w w':=by
 obtain⟨b,t⟩:=ex (Df p);rw[<-t]
 cases h0:(p.toList==[47]) with
 | true=>
  obtain rfl:b=true:=by rw[t];simp[Df,h0]
  have H:(Dc p).length=0:=by simp[Dc,h0]
  have U:=Db H;clear t H;go_enter Tryz.func103,Tryz.ntmps103;go_wp2
  go_ret2
  exact⟨none,0,0,rfl,fun _=>(Da U).symm,Ag _ _⟩
 | false=>
 have O:=Uv p;by_cases o:p.size<1
 ·have ar:p.toList.isEmpty=true:=by rw[O];exact CN o
  obtain rfl:b=false:=by
   rw[t];unfold Df;rw[h0];have:p.data.toList[0]?=none:=by rw[Bv];have:p.data.toList.length=p.size:=Az;omega
   rw[this];rfl
  clear t O;go_enter Tryz.func103,Tryz.ntmps103;go_wp2
  go_ret2
  exact⟨none,0,0,rfl,fun h=>(by cases h),Ag _ _⟩
 have ar:p.toList.isEmpty=false:=by rw[O];exact BW o
 have ay:0<p.size:=by omega
 clear O;have S:=QA p 0 ay
 cases m:((p[0].toNat:Int) != 47) with
 | true=>
  have B:=S.1 m;obtain rfl:b=false:=by
   rw[t];unfold Df;rw[h0];have:(p.data.toList[0]? == some 47)=false:=by simpa using B
   rw[this];rfl
  clear t S B;go_enter Tryz.func103,Tryz.ntmps103;go_wp2
  go_ret2
  exact⟨none,0,0,rfl,fun h=>(by cases h),Ag _ _⟩
 | false=>
 have K:p.data.toList[0]?=some 47:=by
  by_cases h:p.data.toList[0]?=some 47
  ·exact h
  ·have:=S.2 h;rw[m]at this;cases this
 have ac:b=(decide ((pc (p.extract 1 p.size)).length<=6) && (pc (p.extract 1 p.size)).all DC):=by rw[t];simp[Df,h0,K]
 have H:Dc p=pc (p.extract 1 p.size):=by simp[Dc,h0]
 have J:=Db ac;have U:=Db H;obtain⟨i0,aw,aB,aC,aD⟩:=Bn Q7;have az:=SC (p.extract 1 p.size);have aA:(p.extract 1 p.size).size<=p.size:=by simp[ByteArray.size_extract]
 have ap:=Db (show(pc (p.extract 1 p.size)).length<=2000001 by omega);clear t ac H S K az aA;go_enter Tryz.func103,Tryz.ntmps103;go_wp2_with fail
 go_loopw [4,5,6] (fun v f i wr=>∃(a:OA) (n c d k:Nat) (l:LY),v = .slice a n c/\f = .int .i64 d/\i = .int .i64 k/\1<=d/\d<=k/\k<=p.size+1/\n=l.length/\
   Hid (Sl wr 9 1 (.slice a n c) l.length (l.map .string))/\Hid (k<=p.size->pc (p.extract 1 p.size)=l++pc (p.extract d p.size))/\Hid (k=p.size+1->pc (p.extract 1 p.size)=l)/\Hid (∀g,(Value.slice a n c).ownBlock=some g->w.heap.size<=g)/\Hid (l.all DC=true)/\Hid (∀j,d<=j->j<k->p.data.toList[j]? ≠ some 47)/\Bw w wr) (fun _ _ i _=>p.size+1-(intOf i).toNat)
 case atStart=>exact⟨none,0,0,1,1,[],rfl,rfl,rfl,Aa _,Aa _,by omega,rfl,⟨rfl,.inl ⟨rfl,rfl⟩⟩,fun _=>rfl,fun h=>by omega,fun g h=>by simp[Value.ownBlock]at h,rfl,fun j o m=>by omega,Ag _ _⟩
 case round=>
  obtain⟨a,n,c,d,k,l,rfl,rfl,rfl,au,av,hk,A,V,ag,ah,X,E,R,q⟩:=hrel;by_cases Q:k=p.size+1
  ·have G:=Da ah Q;have ad:b=decide ((n:Int)<=6):=by
    rw[Da J,G,Da E,A];simp;omega
   have af:n=(Dc p).length:=by rw[Da U,G,A]
   have ao:=Db af;have al:=Db ad;clear ad af A G J V ag ah E R;subst Q;have hd:¬((p.size:Int)+1<=p.size):=by omega
   have e3:=Da al;subst e3;go_wp2
   go_ret2
   exact⟨a,n,⟨c,rfl⟩,fun _=>Da ao,q⟩
  have ax:k<=p.size:=by omega
  have Y:=Da ag ax;by_cases F:k<p.size/\p.data.toList[k]? ≠ some 47
  ·obtain⟨r,B⟩:=F;have hq:=(QA p k r).2 B;have an:=Db B;have am:=Db A;clear B A Q;go_wp2
   go_roundw
   case rel=>exact⟨a,n,c,d,k+1,l,rfl,rfl,by go_num,au,by omega,by omega,Da am,V,fun _=>Y,fun h=>by omega,X,E,fun j o m=>by
    rcases Bk j k with h|h
    ·exact Da R j o h
    ·obtain rfl:j=k:=by omega
     exact Da an,q⟩
   case measure=>simp[intOf];omega
  ·obtain⟨I,ak,ai,aj⟩:∃I,pc (p.extract d p.size)=p.extract d k::I/\(k+1<=p.size->I=pc (p.extract (k+1) p.size))/\(k+1=p.size+1->I=[]):=by
    by_cases r:k<p.size
    ·have K:p.data.toList[k]?=some 47:=by
      by_cases h:p.data.toList[k]?=some 47
      ·exact h
      ·exact absurd ⟨r,h⟩ F
     exact⟨_,WH p d k av (Da R) K,fun _=>rfl,fun h=>by omega⟩
    ·obtain rfl:k=p.size:=by omega
     exact⟨[],Xx p d (fun j o m=>by
      rcases Bk j p.size with h|h
      ·exact Da R j o h m
      ·rw[Bv (by have:p.data.toList.length=p.size:=Az;omega)]at m;cases m),fun h=>by omega,fun _=>rfl⟩
   have N:(¬k<p.size)\/(k<p.size/\∃h:k<p.size,((p[k].toNat:Int) != 47)=false):=by
    by_cases r:k<p.size
    ·refine .inr ⟨r,r,?_⟩
     cases h:((p[k].toNat:Int) != 47) with
     | false=>rfl
     | true=>exact absurd ⟨r,(QA p k r).1 h⟩ F
    ·exact .inl r
   have W:pc (p.extract 1 p.size)=(l++[p.extract d k])++I:=by rw[Y,ak,AC];rfl
   have T:(p.extract d k).size<=maxLen:=by unfold maxLen;simp[ByteArray.size_extract];omega
   have aH:l.length+1<=2000001:=by
    have:=Da ap;rw[W]at this;simp at this;omega
   have C:=Db W;have aE:=Db F;have aa:=Db ai;have ab:=Db aj;have aF:=Db A;clear ak ai aj F Y W A Q;obtain⟨x,s,y,w1,Z,z⟩:∃x s y w',(Builtin.append_ #[84,84] 84 #[.slice a n c,.slice (some ⟨wr.heap.size,0,none⟩) 1 1]).run Tryz.prog (wr.alloc (.cells #[.string (p.extract d k)] 9)) = .ok (.slice x s y) w'/\Hid (s=(l++[p.extract d k]).length/\Sl w' 9 1 (.slice x s y) (l++[p.extract d k]).length ((l++[p.extract d k]).map .string)/\Bw w w'/\∀g,(Value.slice x s y).ownBlock=some g->w.heap.size<=g):=by
    have aq:Sl (wr.alloc (.cells #[.string (p.extract d k)] 9)) 9 1 (.slice a n c) l.length (l.map .string):=Sl.of_owns ((Da V).owns.alloc _);have M:Bw wr (wr.alloc (.cells #[.string (p.extract d k)] 9)):=(Ag _ _).alloc (Aa _) _;obtain⟨v',w',o,m,D,h4⟩:=JZ (P:=Tryz.prog) (wr.alloc (.cells #[.string (p.extract d k)] 9)) 84 84 9 i0 _ 1 16 Tryz.underlying84 aw aB aC aD rfl (by decide) (.slice a n c) l.length (l.map .string) aq ⟨wr.heap.size,0,none⟩ 1 1 [.string (p.extract d k)] rfl
     (fun j u hu=>by
      rw[AF,Au,Ch _ _ _ _ rfl]
      simpa using hu) (by simp[Value.oneCell']) (by unfold maxLen;omega) (by omega)
    obtain⟨x,s,y,rfl⟩:=m.shape;have G:s=l.length+1:=by
     rcases m.2 with⟨h,h'⟩|⟨g,aG,L,h,_⟩
     ·omega
     ·cases h;rfl
    refine⟨x,s,y,w',o,by simpa using G,by simpa using m,?_⟩;refine⟨⟨D.os.trans q.os,D.tape.trans q.tape,D.output.trans q.output,Ae q.size (Ae M.size D.size),fun i hi=>?_⟩,fun g hg=>?_⟩
    rotate_left
    ·rcases h4 g hg with h|h
     ·exact Da X g h
     ·have:=M.size;have:=q.size;omega
    have ae:i<wr.heap.size:=Ao hi q.size;rw[D.block i (Ao ae M.size) (fun e=>?_),M.block i ae,q.block i hi];have:=Da X i e.symm;omega
   cases hok:DC (p.extract d k) with
   | false=>
    obtain rfl:b=false:=by rw[Da J,Da C];simp[hok]
    clear Z J;rcases N with N|⟨r,_,hq⟩
    ·go_wp2_with (go_at_call 162;refine(Nm _ _ T).mono ?_;rintro e w' ⟨rfl,rfl⟩)
     go_ret2
     exact⟨none,0,0,rfl,fun h=>(by cases h),q⟩
    ·go_wp2_with (go_at_call 162;refine(Nm _ _ T).mono ?_;rintro e w' ⟨rfl,rfl⟩)
     go_ret2
     exact⟨none,0,0,rfl,fun h=>(by cases h),q⟩
   | true=>
    rcases N with N|⟨r,_,hq⟩
    ·go_wp2_with (first|(go_at_call 162;refine(Nm _ _ T).mono ?_;rintro e w' ⟨rfl,rfl⟩)|(at_builtin;refine Aj _ rfl _ _ 84 84 rfl _ _ rfl rfl _ _ Z ?_))
     go_roundw
     case rel=>exact⟨x,s,y,k+1,k+1,l++[p.extract d k],rfl,by go_num,by go_num,by omega,Aa _,by omega,(Da z).1,(Da z).2.1,fun h=>by rw[Da C,Da aa h],fun h=>by rw[Da C,Da ab h,AZ],(Da z).2.2.2,by show List.all _ _=true;rw[Fq,Da E];simp[hok],fun j o m=>by omega,(Da z).2.2.1⟩
     case measure=>simp[intOf];omega
    ·go_wp2_with (first|(go_at_call 162;refine(Nm _ _ T).mono ?_;rintro e w' ⟨rfl,rfl⟩)|(at_builtin;refine Aj _ rfl _ _ 84 84 rfl _ _ rfl rfl _ _ Z ?_))
     go_roundw
     case rel=>exact⟨x,s,y,k+1,k+1,l++[p.extract d k],rfl,by go_num,by go_num,by omega,Aa _,by omega,(Da z).1,(Da z).2.1,fun h=>by rw[Da C,Da aa h],fun h=>by rw[Da C,Da ab h,AZ],(Da z).2.2.2,by show List.all _ _=true;rw[Fq,Da E];simp[hok],fun j o m=>by omega,(Da z).2.2.1⟩
     case measure=>simp[intOf];omega
theorem SF(l:List UInt8):(∀j:Nat,l[j]? ≠ some 47)\/∃i:Nat,(∀j,j<i->l[j]? ≠ some 47)/\l[i]?=some 47:=by
 induction l with
 | nil=>exact .inl (by simp)
 | cons a l ih=>
  by_cases h:a=47
  ·exact .inr ⟨0,fun j b=>absurd b (CT _),by simp[h]⟩
  ·rcases ih with ih|⟨i,c,d⟩
   ·exact .inl (fun j=>by cases j with
     | zero=>simp[h]
     | succ j=>simpa using ih j)
   ·exact .inr ⟨i+1,fun j b=>by
     cases j with
     | zero=>simp[h]
     | succ j=>simpa using c j (by omega),by simpa using d⟩
theorem Zkv(l:List Nat)(x:Nat)(h:x∈l):x<=l.sum:=by
 induction l with
 | nil=>cases h
 | cons a l ih=>
  rw[List.sum_cons];rcases AG.1 h with rfl|h
  ·omega
  ·have:=ih h;omega
theorem Rd:∀(k:Nat) (s:By),s.size<=k->((pc s).map (fun x=>x.size+1)).sum=s.size+1:=by
 intro k
 induction k with
 | zero=>
  intro s d;have b:s.data.toList=[]:=Ak (by have:s.data.toList.length=s.size:=Az;omega);rw[QL s (fun j=>by rw[b];simp)];simp
 | succ k ih=>
  intro s d;rcases SF s.data.toList with h|⟨i,c,a⟩
  ·rw[QL s h];simp
  ·have hi:i<s.size:=(Ad.1 a).1;rw[UV s i c a,BK,List.sum_cons,ih _ (by simp[ByteArray.size_extract];omega)];simp[ByteArray.size_extract];omega
theorem sum_le(l:LY)(h:l.all DC=true):(l.map (fun x=>x.size+1)).sum<=l.length*13:=by
 induction l with
 | nil=>simp
 | cons a l ih=>
  simp only[List.all_cons,A8]at h;have:=ih h.2;have ha:a.size<=12:=by
   have b:=h.1;simp only[DC,A8,AM]at b;exact b.1.2
  simp only[BK,List.sum_cons,Af];omega
theorem ZY(p:By)(h:Df p=true):p.size<=78:=by
 unfold Df at h;rw[ED]at h;rcases h with h|h
 ·have a:p.toList=[47]:=by simpa using h
  rw[BV]at a;have:p.data.toList.length=p.size:=Az;rw[a]at this;simp at this;omega
 ·simp only[A8,AM]at h;have a:=Rd _ (p.extract 1 p.size) (Aa _);have h2:=sum_le _ h.2;have h3:(p.extract 1 p.size).size=p.size-1:=by simp[ByteArray.size_extract]
  have:=h.1.2;omega
theorem SV(p:By):Lib.hasPrefix p.data.toList [47]=(p.data.toList[0]? == some 47):=by
 cases h:p.data.toList with
 | nil=>rfl
 | cons a l=>rw[EE];simp[Lib.hasPrefix,List.isPrefixOf];exact eq_comm
def QG(p:By)(w:World)(e:Ending)(w':World):Prop:=
 ((Df p=false/\e = .returned (.tuple #[.slice none 0 0,.bool false]))\/
  (Df p=true/\∃a c,e = .returned (.tuple #[.slice a (Dc p).length c,.bool true])/\Sl w' 9 1 (.slice a (Dc p).length c) (Dc p).length ((Dc p).map .string)))/\Bw w w'
theorem VN(p:By)(m:Int)(w:World)(hp:p.size<=2000000)(O:w.cell? ⟨0,0,none⟩=some (.int .i64 m)):Cl 224 #[.string p] w (QG p w):=by
 obtain⟨b,n⟩:=ex (Df p)
 cases h0:(p.toList==[47]) with
 | true=>
  have d:Dc p=[]:=by simp[Dc,h0]
  have a:Df p=true:=by simp[Df,h0]
  have f:=Db (show QG p w (.returned (.tuple #[.slice none 0 0,.bool true])) w from ⟨.inr ⟨a,none,0,by rw[d];rfl,by rw[d];exact⟨rfl,.inl ⟨rfl,rfl⟩⟩⟩,Ag _ _⟩);clear n d a;go_enter Tryz.func224,Tryz.ntmps224;go_wp2
  go_ret2
  exact Da f
 | false=>
 by_cases aa:78<p.size
 ·have a:Df p=false:=by
   cases h:Df p with
   | false=>rfl
   | true=>have:=ZY p h;omega
  have f:=Db (show QG p w (.returned (.tuple #[.slice none 0 0,.bool false])) w from ⟨.inl ⟨a,rfl⟩,Ag _ _⟩);clear n a;go_enter Tryz.func224,Tryz.ntmps224;go_wp2
  go_ret2
  exact Da f
 cases c:(p.data.toList[0]? == some 47) with
 | false=>
  have a:Df p=false:=by simp only[Df,h0,c];rfl
  have f:=Db (show QG p w (.returned (.tuple #[.slice none 0 0,.bool false])) w from ⟨.inl ⟨a,rfl⟩,Ag _ _⟩);have y:=SV p;rw[c]at y;clear n a c;go_enter Tryz.func224,Tryz.ntmps224;go_wp2_with (go_at_call 194;refine(Tryz.strings_HasPrefix _ _ _).mono ?_;rintro e w' ⟨rfl,rfl⟩)
  go_ret2
  exact Da f
 | true=>
  have y:=SV p;rw[c]at y;have ac:1<=p.size:=by
   have:p.data.toList[0]?=some 47:=by simpa using c
   have r:=(Ad.1 this).1;have h3:p.data.toList.length=p.size:=Az;omega
  have d:Dc p=pc (p.extract 1 p.size):=by simp[Dc,h0]
  have a:Df p=(decide ((pc (p.extract 1 p.size)).length<=6) && (pc (p.extract 1 p.size)).all DC):=by simp only[Df,h0,c];simp
  have E:(pc (p.extract 1 p.size)).length=Lib.countB (p.extract 1 p.size) ⟨#[47]⟩+1:=Lib.splitB_all ⟨#[47]⟩ (Aa 1) 0 _ _ rfl;have g:=Tryz.strings_Split (p.extract 1 p.size) ⟨#[47]⟩ m w (by simp[ByteArray.size_extract];omega) O (Aa 1);rw[<-E]at g;change Cl 262 #[.string (p.extract 1 p.size),.string ⟨#[47]⟩] w fun e w'=>e = .returned (.slice (some ⟨w.heap.size,0,none⟩) (pc (p.extract 1 p.size)).length (pc (p.extract 1 p.size)).length)/\w'=w.alloc (.cells ((pc (p.extract 1 p.size)).map Value.string).toArray 9) at g
  have C:=SC (p.extract 1 p.size);have N:(p.extract 1 p.size).size<=2000000:=by simp[ByteArray.size_extract];omega
  have z:∀x∈pc (p.extract 1 p.size),x.size<=2000001:=fun x l=>by
   have c:=Rd _ (p.extract 1 p.size) (Aa _);have r:x.size+1<=((pc (p.extract 1 p.size)).map (fun x=>x.size+1)).sum:=Zkv _ _ (A2.2 ⟨x,l,rfl⟩);omega
  obtain⟨P,s⟩:=ex (pc (p.extract 1 p.size));have B:Sl (w.alloc (.cells (P.map Value.string).toArray 9)) 9 1 (.slice (some ⟨w.heap.size,0,none⟩) P.length P.length) P.length (P.map .string):=
   ⟨by simp,.inr ⟨_,P.length,P.map .string,rfl,Bs w _,Aa _,by unfold maxLen;rw[s];omega,by simp,by rw[Ci];exact AI (by simp)⟩⟩
  have u:Bw w (w.alloc (.cells (P.map Value.string).toArray 9)):=(Ag _ _).alloc (Aa _) _;rw[<-s]at d a g C z;have M:Hid (P.length<=6->P.all DC=true->QG p w (.returned (.tuple #[.slice (some ⟨w.heap.size,0,none⟩) P.length P.length,.bool true])) (w.alloc (.cells (P.map Value.string).toArray 9))):=fun c r=>
   ⟨.inr ⟨by rw[a,r];simp[c],some ⟨w.heap.size,0,none⟩,P.length,by rw[d],by rw[d];exact B⟩,u⟩
  have A:Hid ((¬P.length<=6)\/P.all DC=false->QG p w (.returned (.tuple #[.slice none 0 0,.bool false])) (w.alloc (.cells (P.map Value.string).toArray 9))):=fun h=>
   ⟨.inl ⟨by rw[a];rcases h with h|h<;>simp[h],rfl⟩,u⟩
  have D:∀k,(w.alloc (.cells (P.map Value.string).toArray 9)).cell? ⟨w.heap.size,k,none⟩=(P[k]?).map Value.string:=fun k=>by
   rw[Ch _ _ _ _ rfl];simp
  have J:=Db D;have L:=Db z;have ab:P.length<=2000001:=by omega
  clear n a E C N s B u d D z c;by_cases h6:6<P.length
  ·go_enter Tryz.func224,Tryz.ntmps224;go_wp2_with (first|(go_at_call 194;refine(Tryz.strings_HasPrefix _ _ _).mono ?_;rintro e w' ⟨rfl,j⟩;rw[j];clear j)|(go_at_call 262;refine g.mono ?_;rintro e w' ⟨rfl,rfl⟩))
   go_ret2
   exact Da A (.inl (by omega))
  ·go_enter Tryz.func224,Tryz.ntmps224;go_wp2_with (first|(go_at_call 194;refine(Tryz.strings_HasPrefix _ _ _).mono ?_;rintro e w' ⟨rfl,j⟩;rw[j];clear j)|(go_at_call 262;refine g.mono ?_;rintro e w' ⟨rfl,rfl⟩))
   go_loop [25,6] (fun i _=>∃k:Nat,k<=P.length/\i = .int .i64 k/\Hid ((P.take k).all DC=true)) (fun i _=>P.length-(intOf i).toNat)
   case atStart=>exact⟨0,Aw _,rfl,rfl⟩
   case round=>
    obtain⟨k,hk,rfl,v⟩:=hrel;by_cases G:k<P.length
    ·have l:P[k]?=some P[k]:=Ac G;have q:(w.alloc (.cells (P.map Value.string).toArray 9)).cell? ⟨w.heap.size,k,none⟩=some (.string P[k]):=by rw[Da J,l];rfl
     have I:P[k].size<=maxLen:=by unfold maxLen;have:=Da L P[k] (Cq _);omega
     cases hokk:DC P[k] with
     | false=>
      have F:P.all DC=false:=by rw[List.all_eq_false];exact⟨P[k],Cq _,by simp[hokk]⟩
      have o:=Db (Da A (.inr F));clear F l;go_wp2_with (go_at_call 263;refine(Vr _ _ I).mono ?_;rintro e w' ⟨rfl,rfl⟩)
      go_ret2
      exact Da o
     | true=>
      have H:(P.take (k+1)).all DC=true:=by
       rw[B9 G,Fq,Da v];simp[hokk]
      have K:=Db H;clear H l;go_wp2_with (go_at_call 263;refine(Vr _ _ I).mono ?_;rintro e w' ⟨rfl,rfl⟩)
      go_round
      case rel=>exact⟨k+1,by omega,by go_num,K⟩
      case measure=>simp[intOf];omega
    ·obtain rfl:k=P.length:=by omega
     have t:=Da v;rw[BN]at t;have o:=Db (Da M (by omega) t);clear t v;go_wp2
     go_ret2
     exact Da o
def G3(x:By×Int):LV:=[.string x.1,.int .i64 x.2]
def Dr(es:List (By×Int)):LV:=es.flatMap G3
theorem Wa(b:List (By×Int)):(Dr b).length=b.length*2:=by
 induction b with
 | nil=>rfl
 | cons a l ih=>simp[Dr,G3]at ih ⊢;omega
theorem Wj(a b:List (By×Int)):Dr (a++b)=Dr a++Dr b:=by simp[Dr]
theorem Q0(b:List (By×Int)):∀u∈Dr b,u.oneCell'=true:=by
 intro u a;simp only[Dr,Cz,G3,AG,EO,or_false]at a;obtain⟨x,_,rfl|rfl⟩:=a<;>simp[Value.oneCell']
theorem Po(b:List (By×Int))(k:Nat)(x:By×Int)(h:b[k]?=some x):(Dr b)[k*2]?=some (.string x.1)/\(Dr b)[k*2+1]?=some (.int .i64 x.2):=by
 induction b generalizing k with
 | nil=>simp at h
 | cons a l ih=>
  cases k with
  | zero=>simp at h;subst h;simp[Dr,G3]
  | succ k=>
   simp at h;have:=ih k h;simp only[Dr,AW]at this ⊢;have e:∀r,(G3 a++List.flatMap G3 l)[(k+1)*2+r]?=(List.flatMap G3 l)[k*2+r]? := fun r=>by
    rw[AD (by simp[G3];omega)];congr 1;simp[G3];omega
   have c:=e 0;simp only[Ct]at c;rw[c,e 1];exact this
def RdL(w:World)(a:OA)(L:List (By×Int)):Prop:=∀(k:Nat) (x:By×Int),L[k]?=some x->∃g,a=some ⟨g,0,none⟩/\w.cell? ⟨g,k*2,none⟩=some (.string x.1)/\w.cell? ⟨g,k*2+1,none⟩=some (.int .i64 x.2)
theorem Sl.rdL{w:World}{v:Value}{L:List (By×Int)}(h:Sl w 103 2 v L.length (Dr L)):∃a c,v = .slice a L.length c/\RdL w a L:=by
 rcases h.2 with⟨rfl,i⟩|⟨g,f,R,rfl,b,hc,aa,hL,d⟩
 ·have:L=[]:=Ak i;subst this;exact⟨none,0,rfl,fun k x h=>by simp at h⟩
 ·refine⟨_,f,rfl,fun k x e=>⟨g,rfl,?_,?_⟩⟩
  ·have:=(Po L k x e).1;rw[b.cell];rw[<-d,Ap]at this
   split at this
   ·exact this
   ·cases this
  ·have:=(Po L k x e).2;rw[b.cell];rw[<-d,Ap]at this
   split at this
   ·exact this
   ·cases this
def F7(L:List (By×Int))(p:By)(r:Int):Prop:=
 (r = -1/\∀(k:Nat) x,L[k]?=some x->x.1≠p)\/(∃(k:Nat) (x:By×Int),r=k/\L[k]?=some x/\x.1=p/\∀(j:Nat) y,j<k->L[j]?=some y->y.1≠p)
theorem O3(w:World)(s:Nat)(v:Value)(L:List (By×Int))(p:By)(hc:w.cell? ⟨s,0,none⟩=some v)(o:Sl w 103 2 v L.length (Dr L))(hn:L.length<=2000000):
  Cl 101 #[.pointer (some ⟨s,0,none⟩),.string p] w fun e w'=>∃r,(e = .returned (.int .i64 r)/\F7 L p r)/\w'=w:=by
 obtain⟨a,c,rfl,q⟩:=o.rdL;have t:=Db q;clear o q;go_enter Tryz.func101,Tryz.ntmps101;go_wp2
 go_loop [5] (fun i=>∃k:Nat,k<=L.length/\i = .int .i64 k/\Hid (∀(j:Nat) y,j<k->L[j]?=some y->y.1≠p)) (fun i=>L.length-(intOf i).toNat)
 case atStart=>exact⟨0,Aw _,rfl,fun j y h=>absurd h (CT _)⟩
 case round=>
  obtain⟨k,hk,rfl,m⟩:=hrel;by_cases l:k<L.length
  ·obtain⟨g,rfl,q0,q1⟩:=Da t k _ (Ac l)
   cases hq:(L[k].1.toList==p.toList) with
   | true=>
    have d:L[k].1=p:=Qy (by simpa using hq);have f:=Db (show F7 L p (k:Int) from .inr ⟨k,_,rfl,Ac l,d,Da m⟩);clear d;go_wp2;go_ret;exact⟨⟨_,rfl,Da f⟩,rfl⟩
   | false=>
    have d:L[k].1≠p:=fun e=>by rw[e]at hq;simp at hq
    have u:Hid (∀(j:Nat) y,j<k+1->L[j]?=some y->y.1≠p):=fun j y h b=>by
     rcases Bk j k with n|n
     ·exact Da m j y n b
     ·obtain rfl:j=k:=by omega
      rw[Ac l]at b;cases b;exact d
    clear d;go_wp2
    go_round
    case rel=>exact⟨k+1,by omega,by go_num,u⟩
    case measure=>simp[intOf];omega
  ·obtain rfl:k=L.length:=by omega
   have f:=Db (show F7 L p (-1) from .inl ⟨rfl,fun j y b=>Da m j y (Ad.1 b).1 b⟩);go_wp2;go_ret;exact⟨⟨_,rfl,Da f⟩,rfl⟩
def JX:List UInt8->Option Nat
 | []=>none
 | c::l=>match JX l with
  | some k=>some (k+1)
  | none=>if c=47 then some 0 else none
theorem PH:∀{l:List UInt8},JX l=none->∀j:Nat,l[j]? ≠ some 47
 | [],_,j=>by simp
 | c::l,h,j=>by
  unfold JX at h
  cases hl:JX l with
  | some k=>rw[hl]at h;cases h
  | none=>
   rw[hl]at h
   cases j with
   | zero=>simp;intro e;simp[e]at h
   | succ j=>simpa using PH hl j
theorem PI:∀{l:List UInt8} {k:Nat},JX l=some k->l[k]?=some 47/\∀j,k<j->l[j]? ≠ some 47
 | [],k,h=>by cases h
 | c::l,k,h=>by
  unfold JX at h
  cases hl:JX l with
  | some k'=>
   rw[hl]at h;obtain rfl:k=k'+1:=by simpa using h.symm
   have:=PI hl;refine⟨by simpa using this.1,fun j a=>?_⟩
   cases j with
   | zero=>omega
   | succ j=>simpa using this.2 j (by omega)
  | none=>
   rw[hl]at h;by_cases e:c=47
   ·rw[if_pos e]at h;obtain rfl:k=0:=by simpa using h.symm
    refine⟨by simp[e],fun j a=>?_⟩
    cases j with
    | zero=>omega
    | succ j=>simpa using PH hl j
   ·rw[if_neg e]at h;cases h
def Jd(p:By):By:=p.extract 0 ((JX p.data.toList).getD 0)
def KL(p:By):Prop:=∃k,JX p.data.toList=some k
theorem Uh(p:By)(w:World)(hp:p.size<=2000000)(h:KL p):Cl 148 #[.string p] w fun e w'=>e = .returned (.string (Jd p))/\w'=w:=by
 obtain⟨k,c⟩:=h;obtain⟨a,b⟩:=PI c;have d:Jd p=p.extract 0 k:=by simp[Jd,c]
 have aa:k<p.size:=by
  have b:=(Ad.1 a).1;have h3:p.data.toList.length=p.size:=Az;omega
 rw[d];have g:=Db a;have j:=Db b;clear a b c d;go_enter Tryz.func148,Tryz.ntmps148;go_wp2
 go_loop [3] (fun i=>∃n:Nat,k<=n/\n<p.size/\i = .int .i64 n) (fun i=>(intOf i).toNat)
 case atStart=>exact⟨p.size-1,by omega,by omega,by congr 1;omega⟩
 case round=>
  obtain⟨n,ab,f,rfl⟩:=hrel;by_cases l:n=k
  ·subst l;have m:((p[n].toNat:Int) != 47)=false:=by
    cases h:((p[n].toNat:Int) != 47) with
    | false=>rfl
    | true=>exact absurd (Da g) ((QA p n f).1 h)
   go_wp2;go_ret;exact⟨rfl,rfl⟩
  ·have m:((p[n].toNat:Int) != 47)=true:=(QA p n f).2 (Da j n (by omega));go_wp2
   go_round
   case rel=>exact⟨n-1,by omega,by omega,by congr 1;omega⟩
   case measure=>simp[intOf];omega
def Jn(q:By×Int->Bool)(L:List (By×Int))(k:Nat):Nat:=(L.take k).countP q
theorem Pp(q:By×Int->Bool)(L:List (By×Int))(k:Nat)(h:k<L.length):Jn q L (k+1)=Jn q L k+if q L[k]=true then 1 else 0:=by
 unfold Jn;rw[B9 h,Ck,Ce]
theorem OB(q:By×Int->Bool)(L:List (By×Int))(k:Nat):Jn q L k<=k:=by
 unfold Jn;exact Ae Bj (List.length_take_le _ _)
theorem OY(q:By×Int->Bool)(L:List (By×Int)):Jn q L L.length=L.countP q:=by simp[Jn]
def Dx(d:By)(x:By×Int):Bool:=(Jd x.1).toList==d.toList
def Dz(f:Int)(x:By×Int):Bool:=x.2==f
theorem VE(w:World)(q:Nat)(v:Value)(L:List (By×Int))(d:By)(hc:w.cell? ⟨q,0,none⟩=some v)(h:Sl w 103 2 v L.length (Dr L))(hn:L.length<=2000000)
  (l:∀x∈L,x.1.size<=2000000/\KL x.1):
  Cl 149 #[.pointer (some ⟨q,0,none⟩),.string d] w fun e w'=>e = .returned (.int .i64 (L.countP (Dx d):Nat))/\w'=w:=by
 obtain⟨a,c,rfl,m⟩:=h.rdL;have t:=Db m;have s:=Db l;have r:=Db (OY (Dx d) L);clear h m l;go_enter Tryz.func149,Tryz.ntmps149;go_wp2
 go_loop [5,6] (fun n i=>∃k:Nat,k<=L.length/\i = .int .i64 k/\n = .int .i64 (Jn (Dx d) L k:Nat)) (fun _ i=>L.length-(intOf i).toNat)
 case atStart=>exact⟨0,Aw _,rfl,rfl⟩
 case round=>
  obtain⟨k,hk,rfl,rfl⟩:=hrel;have aa:=OB (Dx d) L k;by_cases j:k<L.length
  ·obtain⟨g,rfl,q0,q1⟩:=Da t k _ (Ac j);obtain⟨p,o⟩:=Da s L[k] (Cq _);have f:=Db (Pp (Dx d) L k j)
   cases hq:((Jd L[k].1).toList==d.toList) with
   | true=>
    have b:Hid (Jn (Dx d) L (k+1)=Jn (Dx d) L k+1):=by show _=_;rw[Da f,if_pos (show Dx d L[k]=true from hq)]
    go_wp2_with (go_at_call 148;refine(Uh _ _ p o).mono ?_;rintro e w' ⟨rfl,rfl⟩)
    go_round
    case rel=>exact⟨k+1,by omega,by go_num,by rw[Da b];go_num⟩
    case measure=>simp[intOf];omega
   | false=>
    have b:Hid (Jn (Dx d) L (k+1)=Jn (Dx d) L k):=by show _=_;rw[Da f,if_neg (show ¬Dx d L[k]=true by unfold Dx;rw[hq];simp)];rfl
    go_wp2_with (go_at_call 148;refine(Uh _ _ p o).mono ?_;rintro e w' ⟨rfl,rfl⟩)
    go_round
    case rel=>exact⟨k+1,by omega,by go_num,by rw[Da b]⟩
    case measure=>simp[intOf];omega
  ·obtain rfl:k=L.length:=by omega
   go_wp2;go_ret;exact⟨by rw[<-Da r];rfl,rfl⟩
theorem Pg(w:World)(m:Nat)(v:Value)(L:List (By×Int))(f:Int)(hc:w.cell? ⟨m,0,none⟩=some v)(h:Sl w 103 2 v L.length (Dr L))(hn:L.length<=2000000):
  Cl 113 #[.pointer (some ⟨m,0,none⟩),.int .i64 f] w fun e w'=>e = .returned (.int .i64 (L.countP (Dz f):Nat))/\w'=w:=by
 obtain⟨a,c,rfl,l⟩:=h.rdL;have p:=Db l;have o:=Db (OY (Dz f) L);clear h l;go_enter Tryz.func113,Tryz.ntmps113;go_wp2
 go_loop [5,6] (fun n i=>∃k:Nat,k<=L.length/\i = .int .i64 k/\n = .int .i64 (Jn (Dz f) L k:Nat)) (fun _ i=>L.length-(intOf i).toNat)
 case atStart=>exact⟨0,Aw _,rfl,rfl⟩
 case round=>
  obtain⟨k,hk,rfl,rfl⟩:=hrel;have aa:=OB (Dz f) L k;by_cases j:k<L.length
  ·obtain⟨g,rfl,q0,q1⟩:=Da p k _ (Ac j);have d:=Db (Pp (Dz f) L k j)
   cases hq:(L[k].2==f) with
   | true=>
    have b:Hid (Jn (Dz f) L (k+1)=Jn (Dz f) L k+1):=by show _=_;rw[Da d,if_pos (show Dz f L[k]=true from hq)]
    go_wp2
    go_round
    case rel=>exact⟨k+1,by omega,by go_num,by rw[Da b];go_num⟩
    case measure=>simp[intOf];omega
   | false=>
    have b:Hid (Jn (Dz f) L (k+1)=Jn (Dz f) L k):=by show _=_;rw[Da d,if_neg (show ¬Dz f L[k]=true by unfold Dz;rw[hq];simp)];rfl
    go_wp2
    go_round
    case rel=>exact⟨k+1,by omega,by go_num,by rw[Da b]⟩
    case measure=>simp[intOf];omega
  ·obtain rfl:k=L.length:=by omega
   go_wp2;go_ret;exact⟨by rw[<-Da o];rfl,rfl⟩
def FT(L:List (By×Int))(p:By):Option Int:=(L.find? (fun x=>decide (x.1=p))).map (·.2)
theorem K5{L:List (By×Int)}{p:By}{r:Int}(h:F7 L p r):(r = -1/\FT L p=none)\/(∃(k:Nat) (x:By×Int),r=k/\L[k]?=some x/\x.1=p/\FT L p=some x.2):=by
 rcases h with⟨rfl,h⟩|⟨k,x,rfl,a,b,c⟩
 ·refine .inl ⟨rfl,?_⟩;unfold FT;rw[Ex.2 (fun x f=>by
   obtain⟨k,e⟩:=BR f
   simpa using h k x e)]
  rfl
 ·refine .inr ⟨k,x,rfl,a,b,?_⟩;unfold FT;rw[List.find?_eq_some_iff_getElem.2 ⟨by simpa using b,k,(Ad.1 a).1,(Ad.1 a).2,fun j d=>by
   have:=c j _ d (Ac (by have:=(Ad.1 a).1;omega))
   simpa using this⟩]
  rfl
def Jl(p:By):Nat->Nat->LY
 | 0,_=>[]
 | n+1,i=>if p.data.toList[i]?=some 47 then p.extract 0 i::Jl p n (i+1) else Jl p n (i+1)
def JV(L:List (By×Int)):LY->Int
 | []=>0
 | q::r=>match FT L q with
  | none=>3
  | some f=>if 0<=f then 4 else JV L r
theorem Th(w:World)(A:Nat)(v:Value)(L:List (By×Int))(p:By)(M:w.cell? ⟨A,0,none⟩=some v)(u:Sl w 103 2 v L.length (Dr L))(N:L.length<=2000000)(hp:p.size<=2000000):
  Cl 104 #[.pointer (some ⟨A,0,none⟩),.string p] w fun e w'=>e = .returned (.int .i64 (JV L (Jl p (p.size-1) 1)))/\w'=w:=by
 have C:=fun q=>O3 w A v L q M u N
 obtain⟨a,c,rfl,F⟩:=u.rdL;have J:=Db F;have I:=Db C;clear u F C;obtain⟨r,z⟩:=ex (JV L (Jl p (p.size-1) 1));rw[<-z];have o:=Db z;clear z;go_enter Tryz.func104,Tryz.ntmps104;go_wp2
 go_loopw [5] (fun i wr=>∃k:Nat,1<=k/\(k<=p.size\/k=1)/\i = .int .i64 k/\Hid (r=JV L (Jl p (p.size-k) k))/\wr=w) (fun i _=>p.size-(intOf i).toNat)
 case atStart=>exact⟨1,Aa _,.inr rfl,rfl,Da o,rfl⟩
 case round=>
  obtain⟨k,ab,hk,rfl,b,rfl⟩:=hrel;by_cases D:k<p.size
  ·have n:Jl p (p.size-k) k=if p.data.toList[k]?=some 47 then p.extract 0 k::Jl p (p.size-(k+1)) (k+1) else Jl p (p.size-(k+1)) (k+1):=by
    rw[show p.size-k=(p.size-(k+1))+1 by omega];rfl
   by_cases m:p.data.toList[k]?=some 47
   ·have O:((p[k].toNat:Int) != 47)=false:=by
     cases h:((p[k].toNat:Int) != 47) with
     | false=>rfl
     | true=>exact absurd m ((QA p k D).1 h)
    rw[if_pos m]at n;have d:=Db n;clear n m;go_wp2_with fail;refine(Da I _).mono ?_;rintro e w' ⟨f,⟨rfl,y⟩,G⟩;rw[G];clear G;rcases K5 y with⟨rfl,l⟩|⟨j,x,rfl,s,H,l⟩
    ·obtain rfl:r=3:=by rw[Da b,Da d];simp[JV,l]
     clear b d o;go_wp2;go_ret;exact⟨rfl,rfl⟩
    ·obtain⟨g,rfl,q0,q1⟩:=Da J j x s;have aa:=(Ad.1 s).1;by_cases B:0<=x.2
     ·obtain rfl:r=4:=by rw[Da b,Da d];simp[JV,l,B]
      clear b d o l H s y;go_wp2;go_ret;exact⟨rfl,rfl⟩
     ·have E:r=JV L (Jl p (p.size-(k+1)) (k+1)):=by rw[Da b,Da d];simp[JV,l,B]
      have t:=Db E;clear b d o l H s y E;go_wp2
      go_roundw
      case rel=>exact⟨k+1,by omega,.inl (by omega),by go_num,t,trivial⟩
      case measure=>simp[intOf];omega
   ·have O:((p[k].toNat:Int) != 47)=true:=(QA p k D).2 m;rw[if_neg m]at n;have t:Hid (r=JV L (Jl p (p.size-(k+1)) (k+1))):=by show _=_;rw[Da b,n]
    clear n m;go_wp2
    go_roundw
    case rel=>exact⟨k+1,by omega,.inl (by omega),by go_num,t,trivial⟩
    case measure=>simp[intOf];omega
  ·have K:p.size-k=0:=by omega
   obtain rfl:r=0:=by rw[Da b,K];rfl
   clear b o;go_wp2;go_ret;exact⟨rfl,rfl⟩
def RdF(w:World)(a:OA)(F:LY):Prop:=∀(k:Nat) (x:By),F[k]?=some x->∃g,a=some ⟨g,0,none⟩/\w.cell? ⟨g,k,none⟩=some (.string x)
theorem Sl.rdF{w:World}{v:Value}{F:LY}(h:Sl w 9 1 v F.length (F.map .string)):∃a c,v = .slice a F.length c/\RdF w a F:=by
 rcases h.2 with⟨rfl,d⟩|⟨g,b,R,rfl,e,hc,aa,hL,f⟩
 ·have:F=[]:=Ak d;subst this;exact⟨none,0,rfl,fun k x h=>by simp at h⟩
 ·refine⟨_,b,rfl,fun k x i=>⟨g,rfl,?_⟩⟩;have:(F.map Value.string)[k]?=some (.string x):=by simp[i]
  rw[e.cell];rw[<-f,Ap]at this
  split at this
  ·exact this
  ·cases this
structure La(w:World)(rb:Nat)(vl vf:Value)(L:List (By×Int))(F:LY):Prop where
 c0:w.cell? ⟨rb,0,none⟩=some vl
 c1:w.cell? ⟨rb,1,none⟩=some vf
 sl:Sl w 103 2 vl L.length (Dr L)
 sf:Sl w 9 1 vf F.length (F.map .string)
 nl:L.length<=2000000
 nf:F.length<=2000000
 ok:∀x∈L,x.1.size<=2000000/\KL x.1
 okf:∀s∈F,s.size<=2000000
def qD(x:By×Int):Bool:=decide (x.2<0)
def Kb(L:List (By×Int))(k:Nat):Nat:=(List.range k).countP (fun f:Nat=>decide (0<L.countP (Dz (f:Int))))
theorem Zkr(L:List (By×Int))(k:Nat):Kb L (k+1)=Kb L k+if 0<L.countP (Dz k) then 1 else 0:=by
 unfold Kb;rw[E5,Ck,Ce];by_cases h:0<L.countP (Dz (k:Int))<;>simp[h]
theorem S3(L:List (By×Int))(k:Nat):Kb L k<=k:=by
 unfold Kb;exact Ae Bj (by simp)
def Qe(L:List (By×Int))(F:LY):Nat:=1+L.countP qD+Kb L F.length
theorem ZZ(w:World)(p:Nat)(v A:Value)(L:List (By×Int))(F:LY)(h:La w p v A L F):
  Cl 152 #[.pointer (some ⟨p,0,none⟩)] w fun e w'=>e = .returned (.int .i64 (Qe L F:Nat))/\w'=w:=by
 have s:=fun f=>Pg w p v L f h.c0 h.sl h.nl
 obtain⟨a,c,rfl,u⟩:=h.sl.rdL;obtain⟨a2,c2,rfl,_⟩:=h.sf.rdF;have aa:=h.c0;have ab:=h.c1;have ai:=h.nl;have ah:=h.nf;have y:=Db u;have x:=Db (OY qD L);have q:=Db s;obtain⟨r,o⟩:=ex (Qe L F);rw[<-o];have z:=Db o;clear h u s o;go_enter Tryz.func152,Tryz.ntmps152;go_wp2
 go_loop [3,4] (fun n i=>∃k:Nat,k<=L.length/\i = .int .i64 k/\n = .int .i64 ((Jn qD L k+1:Nat):Int)) (fun _ i=>L.length-(intOf i).toNat)
 case atStart=>exact⟨0,Aw _,rfl,rfl⟩
 case round=>
  obtain⟨k,hk,rfl,rfl⟩:=hrel;have af:=OB qD L k;by_cases t:k<L.length
  ·obtain⟨g,rfl,q0,q1⟩:=Da y k _ (Ac t);have d:=Db (Pp qD L k t);by_cases m:L[k].2<0
   ·have b:Hid (Jn qD L (k+1)=Jn qD L k+1):=by show _=_;rw[Da d,if_pos (show qD L[k]=true by simp[qD,m])]
    go_wp2
    go_round
    case rel=>exact⟨k+1,by omega,by go_num,by rw[Da b];go_num⟩
    case measure=>simp[intOf];omega
   ·have b:Hid (Jn qD L (k+1)=Jn qD L k):=by show _=_;rw[Da d,if_neg (show ¬qD L[k]=true by simp[qD];omega)];rfl
    go_wp2
    go_round
    case rel=>exact⟨k+1,by omega,by go_num,by rw[Da b]⟩
    case measure=>simp[intOf];omega
  ·obtain rfl:k=L.length:=by omega
   go_wp2_with fail
   go_loopw [3,5] (fun n i wr=>∃k:Nat,k<=F.length/\i = .int .i64 k/\n = .int .i64 ((1+L.countP qD+Kb L k:Nat):Int)/\wr=w) (fun _ i _=>F.length-(intOf i).toNat)
   case atStart=>exact⟨0,Aw _,rfl,by rw[Da x];congr 1;simp[Kb];omega,rfl⟩
   case round=>
    obtain⟨j,hj,rfl,rfl,rfl⟩:=hrel;have ag:=S3 L j;have ad:L.countP qD<=L.length:=Bj;by_cases ae:j<F.length
    ·have d:=Db (Zkr L j);have ac:L.countP (Dz j)<=L.length:=Bj;by_cases m:0<L.countP (Dz j)
     ·have b:Hid (Kb L (j+1)=Kb L j+1):=by show _=_;rw[Da d,if_pos m]
      go_wp2_with (go_at_call 113;refine(Da q _).mono ?_;rintro e w' ⟨rfl,l⟩;rw[l];clear l)
      go_roundw
      case rel=>exact⟨j+1,by omega,by go_num,by rw[Da b];go_num,trivial⟩
      case measure=>simp[intOf];omega
     ·have b:Hid (Kb L (j+1)=Kb L j):=by show _=_;rw[Da d,if_neg m];rfl
      go_wp2_with (go_at_call 113;refine(Da q _).mono ?_;rintro e w' ⟨rfl,l⟩;rw[l];clear l)
      go_roundw
      case rel=>exact⟨j+1,by omega,by go_num,by rw[Da b];go_num,trivial⟩
      case measure=>simp[intOf];omega
    ·obtain rfl:j=F.length:=by omega
     go_wp2;go_ret;exact⟨by rw[Da z];rfl,rfl⟩
def JH(L:List (By×Int))(F:LY):Nat->Nat
 | 0=>0
 | k+1=>JH L F k+if 0<L.countP (Dz (k:Int)) then ((F[k]?.getD ⟨#[]⟩).size+63)/64 else 0
theorem Ys{L:List (By×Int)}{F:LY}{j:Nat}{x:By}(h:0<L.countP (Dz (j:Int)))(a:F[j]?=some x):JH L F (j+1)=JH L F j+(x.size+63)/64:=by
 rw[JH,if_pos h,a];rfl
theorem W0{L:List (By×Int)}{F:LY}{j:Nat}(h:¬0<L.countP (Dz (j:Int))):JH L F (j+1)=JH L F j:=by
 rw[JH,if_neg h];rfl
theorem So(L:List (By×Int))(F:LY)(h:∀s∈F,s.size<=2000000)(k:Nat):JH L F k<=k*40000:=by
 induction k with
 | zero=>simp[JH]
 | succ k ih=>
  unfold JH;have:((F[k]?.getD ⟨#[]⟩).size+63)/64<=40000:=by
   cases hk:F[k]? with
   | none=>exact(by decide:((⟨#[]⟩:By).size+63)/64<=40000)
   | some x=>
    have:=h x (An hk);simp only[Option.getD_some];omega
  split<;>omega
def Kn(L:List (By×Int))(F:LY):Nat:=JH L F F.length
theorem TE(w:World)(l:Nat)(t y:Value)(L:List (By×Int))(F:LY)(h:La w l t y L F):
  Cl 52 #[.pointer (some ⟨l,0,none⟩)] w fun e w'=>e = .returned (.int .i64 (Kn L F:Nat))/\w'=w:=by
 have p:=fun f=>Pg w l t L f h.c0 h.sl h.nl
 obtain⟨a2,c2,rfl,s⟩:=h.sf.rdF;have aa:=h.c1;have ae:=h.nl;have ad:=h.nf;have m:=Db p;have u:=Db s;have o:=Db h.okf;obtain⟨r,d⟩:=ex (Kn L F);rw[<-d];have v:=Db d;clear h p d s;go_enter Tryz.func52,Tryz.ntmps52;go_wp2_with fail
 go_loopw [3,4] (fun n i wr=>∃k:Nat,k<=F.length/\i = .int .i64 k/\n = .int .i64 ((JH L F k:Nat):Int)/\wr=w) (fun _ i _=>F.length-(intOf i).toNat)
 case atStart=>exact⟨0,Aw _,rfl,rfl,rfl⟩
 case round=>
  obtain⟨j,hj,rfl,rfl,rfl⟩:=hrel;have ac:=So L F (Da o) j;by_cases x:j<F.length
  ·have ab:L.countP (Dz j)<=L.length:=Bj;have b:F[j]?=some F[j]:=Ac x;by_cases q:0<L.countP (Dz j)
   ·have c:Hid (JH L F (j+1)=JH L F j+(F[j].size+63)/64):=Ys q b;obtain⟨g,rfl,q0⟩:=Da u j _ b;have af:=Da o F[j] (Cq _);clear b;go_wp2_with (go_at_call 113;refine(Da m _).mono ?_;rintro e w' ⟨rfl,a⟩;rw[a];clear a)
    go_roundw
    case rel=>exact⟨j+1,by omega,by go_num,by rw[Da c];go_num,trivial⟩
    case measure=>simp[intOf];omega
   ·have c:Hid (JH L F (j+1)=JH L F j):=W0 q;clear b;go_wp2_with (go_at_call 113;refine(Da m _).mono ?_;rintro e w' ⟨rfl,a⟩;rw[a];clear a)
    go_roundw
    case rel=>exact⟨j+1,by omega,by go_num,by rw[Da c],trivial⟩
    case measure=>simp[intOf];omega
  ·obtain rfl:j=F.length:=by omega
   go_wp2;go_ret;exact⟨by rw[Da v];rfl,rfl⟩
def JJ(L:List (By×Int))(F:LY)(p:By)(n:Nat):Bool:=decide (L.countP (Dx (Jd p))<20/\L.length<100/\Qe L F+n<=60)
theorem Pa(w:World)(j:Nat)(m u:Value)(L:List (By×Int))(F:LY)(h:La w j m u L F)(p:By)(v:p.size<=2000000)(y:KL p)(n:Nat)(hn:n<=1):
  Cl 102 #[.pointer (some ⟨j,0,none⟩),.string p,.int .i64 n] w fun e w'=>e = .returned (.bool (JJ L F p n))/\w'=w:=by
 have q:=Uh p w v y;have t:=VE w j m L (Jd p) h.c0 h.sl h.nl h.ok;have s:=ZZ w j m u L F h;obtain⟨a,c,rfl,x⟩:=h.sl.rdL;have aa:=h.c0;have ae:=h.nl;have ad:=h.nf;have ab:L.countP (Dx (Jd p))<=L.length:=Bj;have ac:Qe L F<=4000001:=by
  have k:L.countP qD<=L.length:=Bj;have l:=S3 L F.length;unfold Qe;omega
 obtain⟨r,d⟩:=ex (JJ L F p n);rw[<-d];unfold JJ at d;have f:=Db q;have i:=Db t;have g:=Db s;clear h x q t s;by_cases k:L.countP (Dx (Jd p))<20
 ·by_cases l:L.length<100
  ·by_cases o:Qe L F+n<=60
   ·obtain rfl:r=true:=by rw[d];simp[k,l,o]
    clear d;go_enter Tryz.func102,Tryz.ntmps102;go_wp2_with (first|(go_at_call 148;refine(Da f).mono ?_;rintro e w' ⟨rfl,b⟩;rw[b];clear b)|(go_at_call 149;refine(Da i).mono ?_;rintro e w' ⟨rfl,b⟩;rw[b];clear b)|(go_at_call 152;refine(Da g).mono ?_;rintro e w' ⟨rfl,b⟩;rw[b];clear b));go_ret;exact⟨by simp;omega,rfl⟩
   ·obtain rfl:r=false:=by rw[d];simp[o]
    clear d;go_enter Tryz.func102,Tryz.ntmps102;go_wp2_with (first|(go_at_call 148;refine(Da f).mono ?_;rintro e w' ⟨rfl,b⟩;rw[b];clear b)|(go_at_call 149;refine(Da i).mono ?_;rintro e w' ⟨rfl,b⟩;rw[b];clear b)|(go_at_call 152;refine(Da g).mono ?_;rintro e w' ⟨rfl,b⟩;rw[b];clear b));go_ret;exact⟨by simp;omega,rfl⟩
  ·obtain rfl:r=false:=by rw[d];simp[l]
   clear d;go_enter Tryz.func102,Tryz.ntmps102;go_wp2_with (first|(go_at_call 148;refine(Da f).mono ?_;rintro e w' ⟨rfl,b⟩;rw[b];clear b)|(go_at_call 149;refine(Da i).mono ?_;rintro e w' ⟨rfl,b⟩;rw[b];clear b)|(go_at_call 152;refine(Da g).mono ?_;rintro e w' ⟨rfl,b⟩;rw[b];clear b));go_ret;exact⟨by simp,rfl⟩
 ·obtain rfl:r=false:=by rw[d];simp[k]
  clear d;go_enter Tryz.func102,Tryz.ntmps102;go_wp2_with (first|(go_at_call 148;refine(Da f).mono ?_;rintro e w' ⟨rfl,b⟩;rw[b];clear b)|(go_at_call 149;refine(Da i).mono ?_;rintro e w' ⟨rfl,b⟩;rw[b];clear b)|(go_at_call 152;refine(Da g).mono ?_;rintro e w' ⟨rfl,b⟩;rw[b];clear b));go_ret;exact⟨by simp,rfl⟩
end Go.Proofs.YtaieidcohdhgpaaGreatDoor
