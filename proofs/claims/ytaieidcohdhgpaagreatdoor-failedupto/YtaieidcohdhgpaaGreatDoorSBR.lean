/- Failed. -/
import Derived.Test.YtaieidcohdhgpaaGreatDoorSBQ
namespace Go.Proofs.YtaieidcohdhgpaaGreatDoor
set_option maxHeartbeats 40000000
set_option maxRecDepth 100000
open Go.RowKit
def JC(b:Nat->Option By):Nat->Nat
 | 0=>0
 | k+1=>JC b k+if (b k).isSome=true then 1 else 0
def JR(b:Nat->Option By):Nat->Nat
 | 0=>0
 | k+1=>JR b k+if (b k).isSome=true then (((b k).getD ⟨#[]⟩).size+63)/64 else 0
def idB(b:Nat->Option By)(k:Nat):List Nat:=(List.range k).filter (fun i=>(b i).isSome)
theorem ZlL(b:Nat->Option By):∀k,(idB b k).length=JC b k
 | 0=>rfl
 | k+1=>by
  unfold idB JC;rw[List.range_succ,List.filter_append,List.length_append,<-ZlL b k];unfold idB
  cases h:(b k).isSome<;>simp[h]
theorem ZlK(b:Nat->Option By):∀k,((idB b k).map (fun i=>(((b i).getD ⟨#[]⟩).size+63)/64)).sum=JR b k
 | 0=>rfl
 | k+1=>by
  unfold idB JR;rw[List.range_succ,List.filter_append,List.map_append,List.sum_append,<-ZlK b k];unfold idB
  cases h:(b k).isSome<;>simp[h]
theorem Zma(b:Nat->Option By):∀k,JC b k<=k
 | 0=>Nat.le_refl _
 | k+1=>by
  have:=Zma b k;unfold JC
  split<;>omega
section
variable{b:Nat->Option By}{G:Gh}{I:LF}{CI:IB}
def enB(G:Gh)(i:Nat):LY×VS:=([fn i],(atG G [fn i]).getD ⟨none,0⟩)
theorem SetT.perm(h:SetT b G I CI):List.Perm ((idB b 8).map (enB G)) G:=by
 have q:∀{l:List (LY×VS)},(l.map (·.1)).Nodup->l.Nodup:=fun {l} p=>by
  rw[List.nodup_iff_pairwise_ne,List.pairwise_map]at p;rw[List.nodup_iff_pairwise_ne];exact p.imp (fun {a b} t e=>t (by rw[e]))
 have n:∀i,i∈idB b 8->i<8/\∃s,b i=some s:=fun i c=>by
  obtain⟨d,r⟩:=List.mem_filter.1 c;exact⟨List.mem_range.1 d,Option.isSome_iff_exists.1 r⟩
 refine(List.perm_ext_iff_of_nodup (q ?_) (q h.fl.nd)).2 (fun x=>?_)
 ·rw[List.map_map,List.nodup_iff_pairwise_ne,List.pairwise_map];have:(idB b 8).Nodup:=List.nodup_range.filter _;rw[List.nodup_iff_pairwise_ne]at this;refine this.imp_of_mem (fun {i j} c v u e=>u ?_);have m:[fn i]=[fn j]:=e;injection m with m;exact UF (n i c).1 (n j v).1 m
 ·constructor
  ·intro k;obtain⟨i,c,rfl⟩:=List.mem_map.1 k;obtain⟨g,s,y⟩:=n i c;obtain⟨f,d,_⟩:=h.yes i g s y;unfold enB;rw[KX h.fl.nd d];exact d
  ·intro k;obtain⟨i,g,e⟩:=h.nm x k;have o:(x.1,x.2)∈G:=k;rw[e]at o;refine List.mem_map.2 ⟨i,List.mem_filter.2 ⟨List.mem_range.2 g,?_⟩,?_⟩
   ·cases hb:b i with
    | none=>exact absurd o (h.no i g hb _)
    | some s=>rfl
   ·unfold enB;rw[KX h.fl.nd o];exact Prod.ext e.symm rfl
theorem SetT.glen(h:SetT b G I CI):G.length=JC b 8:=by
 have:=h.perm.length_eq;rw[List.length_map,ZlL]at this;exact this.symm
theorem SetT.pnum(h:SetT b G I CI)(j:SrtI I):List.Perm (I.map (·.1)) (G.map (fun y=>y.2.f)):=by
 refine(List.perm_ext_iff_of_nodup j.nd ?_).2 (fun f=>?_)
 ·rw[List.nodup_iff_pairwise_ne,List.pairwise_map];have g:=h.fl.nd;rw[List.nodup_iff_pairwise_ne,List.pairwise_map]at g;refine g.imp_of_mem (fun {x y} d a k e=>k ?_);rw[h.fl.inj x d y a e]
 ·constructor
  ·intro c;obtain⟨x,d,rfl⟩:=List.mem_map.1 c;obtain⟨_,_,y,a,e⟩:=h.fl.back x d;exact List.mem_map.2 ⟨y,a,e⟩
  ·intro c;obtain⟨y,a,rfl⟩:=List.mem_map.1 c;obtain⟨r,i⟩:=h.fl.num y a;exact List.mem_map.2 ⟨_,i,rfl⟩
theorem SetT.usage(h:SetT b G I CI)(l:SrtI I):DO (I.map (·.2.l))=JR b 8:=by
 have c:DO (I.map (·.2.l))=((I.map (·.1)).map (fun f=>((CI f).size+63)/64)).sum:=by
  unfold DO;rw[List.map_map,List.map_map]
  congr 1
  refine List.map_congr_left (fun x m=>?_);show(x.2.l+63)/64=((CI x.1).size+63)/64;rw[(h.fl.back x m).2.1]
 rw[c,((h.pnum l).map _).sum_nat,List.map_map,<-(h.perm.map _).sum_nat,List.map_map,<-ZlK]
 congr 1
 refine List.map_congr_left (fun i k=>?_);obtain⟨g,j⟩:=List.mem_filter.1 k;obtain⟨s,a⟩:=Option.isSome_iff_exists.1 j;obtain⟨f,d,e⟩:=h.yes i (List.mem_range.1 g) s a;show((CI (enB G i).2.f).size+63)/64=_;unfold enB;rw[KX h.fl.nd d,a];show((CI (f:Int)).size+63)/64=_;rw[e];rfl
theorem SetT.elen(h:SetT b G I CI){w:World}{tb c:Nat}{V:NV}{E:NS}{p:Value}(g:TW w tb c V E p G I CI):(E c).length=JC b 8:=by
 have j:IsDir G c [] c := .inl ⟨rfl,rfl⟩;have k:=(g.d.srt [] c j).nodup;have m:=Qf ((E c).map (fun x=>([x.1],x.2))) G (by
  rw[List.nodup_iff_pairwise_ne,List.pairwise_map]at k ⊢;refine k.imp (fun {a b} l e=>l ?_);rw[Prod.mk.injEq]at e;have:=e.1;injection this) (fun x i=>by
  obtain⟨y,d,rfl⟩:=List.mem_map.1 i;exact(h.fl.root g d).1)
 have o:=Qf (G.map (·.1)) ((E c).map (fun x=>[x.1])) h.fl.nd (fun x i=>by
  obtain⟨y,d,rfl⟩:=List.mem_map.1 i;obtain⟨n,f,rfl,_⟩:=h.fl.fil y d;exact List.mem_map.2 ⟨_,(g.d.en [] c j n _).2 d,rfl⟩)
 rw[List.length_map]at m;rw[List.length_map,List.length_map]at o;have:=h.glen;omega
end
section
variable{w:World}{vb:Nat}{b:Nat->Option By}
def ReadL(w:World)(o:Option By)(e:Ending)(w':World):Prop:=
 ((o=none/\e = .returned (.tuple #[.slice none 0 0,.int .i64 3]))\/∃s x,o=some s/\e = .returned (.tuple #[.slice (some ⟨x,0,none⟩) s.size s.size,.int .i64 0])/\Sl w' 5 1 (.slice (some ⟨x,0,none⟩) s.size s.size) s.size (Dc s))/\Below w.heap.size w w'
theorem Zm7(s:By)(h:s.size<=1280):cutR s 0 1280=s:=by
 unfold cutR;have a:min (0:Int).toNat s.size=0:=by simp
 have c:min (1280:Int).toNat (s.size-0)=s.size:=by show min 1280 _=_;omega
 rw[a,c,Nat.zero_add];apply WideShapes.bytes_inj;rw[Lib.extract_data,List.drop_zero,Nat.sub_zero];exact List.take_of_length_le (Nat.le_of_eq Array.length_toList)
theorem readL(h:VlW w vb b){i:Nat}(j:i<8):Calls Tryz.prog 55 #[.pointer (some ⟨vb,0,none⟩),.string (pth i),.int .i64 0,.int .i64 1280] w (ReadL w (b i)):=by
 obtain⟨tb,G,I,CI,F,⟨J,V,E,K,o⟩,a⟩:=h;have ab:=a.fl.le;have ac:=a.fl.ilen o.si;have r:∀e w',Qp w G CI (pth i) 0 1280 e w'->ReadL w (b i) e w':=by
  rintro e w' ⟨q,y⟩;refine⟨?_,y⟩;have k:rdE G (pth i) 0 1280=DH G (pth i) true:=rfl
  cases hbi:b i with
  | none=>
   have n:=a.nofile j hbi;rcases q with⟨_,rfl⟩|⟨c,_⟩
   ·refine .inl ⟨rfl,?_⟩;rw[k,n]
   ·rw[k,n]at c;cases c
  | some s=>
   have c:=a.file j hbi;obtain⟨f,t,v,l⟩:=a.at j hbi;rcases q with⟨B,_⟩|⟨_,u,p,_,x,m,rfl,_,d⟩
   ·exact absurd (k.trans c) B
   ·rw[t]at p
    cases p
    have D:s.size<=1280:=by have:=a.fl.sz _ v;rw[<-l];exact this
    have z:CI (f:Int)=s:=l;rw[show CI (VS.mk none (f:Int)).f=s from z,Zm7 s D]at d;have A:m=s.size:=by
     rcases d.2 with⟨e,_⟩|⟨g,aa,L,e,_,_,_,_,h4⟩
     ·cases e
     ·have:=d.1;rw[Dg]at this;omega
    subst A;exact .inr ⟨s,x,rfl,rfl,d⟩
 exact(readV w vb tb F (pth i) 0 1280 (Qp w G CI (pth i) 0 1280) (fun e w' C=>by
  rcases (r e w' C).1 with⟨_,rfl⟩|⟨s,x,_,rfl,_⟩
  ·exact⟨_,_,_,_,rfl⟩
  ·exact⟨_,_,_,_,rfl⟩) (Zgb w tb J V E K G I CI o a.fl.gok (by omega) (by omega) a.fl.flok (fun x H=>(a.fl.csz H).1) (pth i) (by have:=(Kb j).2.2;omega) 0 1280 (by omega) (by omega))).mono r
theorem usageL(h:VlW w vb b):Calls Tryz.prog 34 #[.pointer (some ⟨vb,0,none⟩)] w fun e w'=>e = .returned (.int .i64 (JR b 8:Nat))/\Below w.heap.size w w':=by
 obtain⟨tb,G,I,CI,f,⟨rd,V,E,i,a⟩,c⟩:=h;have aa:=c.fl.le;have ab:=c.fl.ilen a.si;refine Znw w vb tb f _ (fun e w' d=>⟨_,d.1⟩) ?_;rw[<-c.usage a.si];exact Zea w tb _ i I a.t a.i (by omega) (fun x g=>by have:=(c.fl.csz g).2.1;omega)
theorem listL(h:VlW w vb b):Calls Tryz.prog 56 #[.pointer (some ⟨vb,0,none⟩),.string ⟨#[47]⟩] w fun e w'=>(∃a c,e = .returned (.tuple #[.slice a (JC b 8) c,.int .i64 0]))/\Below w.heap.size w w':=by
 obtain⟨tb,G,I,CI,t,⟨f,V,E,u,i⟩,d⟩:=h;have ab:=d.fl.le;have ac:=d.fl.ilen i.si;have j:Df ⟨#[47]⟩=[]:=by kernel_rfl
 have q:DQ ⟨#[47]⟩=true:=by kernel_rfl
 have s:thE G ⟨#[47]⟩=0:=by
  unfold thE DJ;rw[q,j]
  rfl
 have k:∀e w',Zmq w G I (Df ⟨#[47]⟩) (E f) e w'->(∃a c,e = .returned (.tuple #[.slice a (JC b 8) c,.int .i64 0]))/\Below w.heap.size w w':=by
  rintro e w' ⟨⟨a,n,c,es,rfl,l,m⟩,o⟩;refine⟨?_,o⟩;have p:n=JC b 8:=by
   rw[<-d.elen i,<-m.1];rcases l.2 with⟨e,h0⟩|⟨g,aa,L,e,_⟩
   ·simp only[Value.slice.injEq]at e;omega
   ·simp only[Value.slice.injEq]at e;exact e.2.1
  subst p;exact⟨a,c,rfl⟩
 exact(listV w vb tb t ⟨#[47]⟩ (Zmq w G I (Df ⟨#[47]⟩) (E f)) (fun e w' r=>by
  obtain⟨⟨a,c,rfl⟩,_⟩:=k e w' r;exact⟨_,_,_,_,rfl⟩) (Zj7 w tb f V E u G I CI i d.fl.gok (by omega) (by omega) d.fl.flok ⟨#[47]⟩ (by show 1<=_;omega) s f (.inl ⟨j,rfl⟩) (.inl j))).mono k
end
theorem ZkJ{b:Nat->Option By}(h:∀i,i<8->((b i).getD ⟨#[]⟩).size<=1280):∀k,k<=8->JR b k<=20*k
 | 0,_=>Nat.le_refl _
 | k+1,hk=>by
  have ih:=ZkJ h k (by omega);have:=h k (by omega);unfold JR
  split<;>omega
theorem VlW.sizes{w:World}{g:Nat}{b:Nat->Option By}(h:VlW w g b){i:Nat}(e:i<8):((b i).getD ⟨#[]⟩).size<=1280:=by
 obtain⟨tb,G,I,CI,_,_,a⟩:=h
 cases hb:b i with
 | none=>show 0<=1280;omega
 | some s=>
  obtain⟨f,c,d⟩:=a.yes i e s hb;have:=a.fl.sz _ c;show s.size<=1280;rw[<-d];exact this
theorem ZlV(w:World):(binOp .eql 59 (.slice none 0 0) (.slice none 0 0)).run Tryz.prog w = .ok (.bool true) w:=Lib.run_eql_slice_nil w 59 5 none 0 0 0 0 Tryz.underlying59
theorem Zkm(a:Addr)(l c:Nat)(w:World):(binOp .eql 59 (.slice (some a) l c) (.slice none 0 0)).run Tryz.prog w = .ok (.bool false) w:=Lib.run_eql_slice_nil w 59 5 (some a) l c 0 0 Tryz.underlying59
structure SetC(w:World)(sb so:Nat)(b:Nat->Option By)(vs:NV):Prop where
 cell:∀i,i<8->w.cell? ⟨sb,so+i,none⟩=some (vs i)
 at':∀i,i<8->FileW w (b i) (vs i)
 sz:∀i,i<8->((b i).getD ⟨#[]⟩).size<=1280
theorem SetC.below{w w':World}{c so:Nat}{b:Nat->Option By}{vs:NV}(h:SetC w c so b vs)(d:Below w.heap.size w w'):SetC w' c so b vs:=
 ⟨fun i a=>(d.cell (p:=⟨c,so+i,none⟩) (World.block_lt_of_cell? _ _ (h.cell i a))).trans (h.cell i a),fun i a=>(h.at' i a).kp (Kp62.below d),h.sz⟩
def HolP(w:World)(b b':Nat->Option By)(e:Ending)(w':World):Prop:=∃r:Bool,e = .returned (.bool r)/\(r=true↔∀i,i<8->b i=b' i)/\Below w.heap.size w w'
theorem HolP.no{w w':World}{b a:Nat->Option By}{k:Nat}(d:k<8)(h:¬b k=a k)(c:Below w.heap.size w w'):HolP w b a (.returned (.bool false)) w':=⟨false,rfl,⟨fun e=>(by cases e),fun e=>absurd (e k d) h⟩,c⟩
theorem Zfx{w:World}{A r so:Nat}{b j:Nat->Option By}{vs:NV}(h:VlW w A b)(Q:SetC w r so j vs):
  Calls Tryz.prog 29 #[.pointer (some ⟨r,so,none⟩),.pointer (some ⟨A,0,none⟩)] w (HolP w b j):=by
 have aa:Hid (∀i,i<8->((b i).getD ⟨#[]⟩).size<=1280):=fun i G=>h.sizes G
 have U:=Db Q;have V:=Db h;clear h Q;have ae:=ZlV;have af:=Zkm;go_enter Tryz.func29,Tryz.ntmps29;go_wp2
 go_loopw [5,6,7] (fun n us i wr=>∃k:Nat,k<=8/\n = .int .i64 (JC b k:Nat)/\us = .int .i64 (JR b k:Nat)/\i = .int .i64 k/\Hid (Below w.heap.size w wr)/\Hid (∀i,i<k->b i=j i)) (fun _ _ i _=>8-(intOf i).toNat)
 case atStart=>exact⟨0,by omega,rfl,rfl,rfl,Below.refl _ _,fun i G=>by omega⟩
 case round=>
  obtain⟨k,H,rfl,rfl,rfl,t,L⟩:=hrel;have y:=(Da V).below (Da t);have ah:=ZkJ (Da aa) k H;have ac:=Zma b k;by_cases m:k<8
  ·have ad:(k:Int)<8:=by omega
   have T:Hid (Calls Tryz.prog 72 #[.int .i64 k] wr fun e X=>e = .returned (.string (pth k))/\Hid (Calls Tryz.prog 55 #[.pointer (some ⟨A,0,none⟩),.string (pth k),.int .i64 0,.int .i64 1280] X fun e Y=>Hid (Below w.heap.size w Y)/\((b k=none/\e = .returned (.tuple #[.slice none 0 0,.int .i64 3]))\/∃s x,b k=some s/\e = .returned (.tuple #[.slice (some ⟨x,0,none⟩) s.size s.size,.int .i64 0])/\(convert 59 9 (.slice (some ⟨x,0,none⟩) s.size s.size)).run Tryz.prog Y.drew = .ok (.string s) Y.drew)/\
     ((j k=none/\Y.cell? ⟨r,so+k,none⟩=some (.slice none 0 0))\/∃s g,j k=some s/\s.size<=1280/\Y.cell? ⟨r,so+k,none⟩=some (.slice (some ⟨g,0,none⟩) s.size s.size)/\(convert 59 9 (.slice (some ⟨g,0,none⟩) s.size s.size)).run Tryz.prog Y.drew = .ok (.string s) Y.drew))):=by
    refine(ZdJ wr k m).mono ?_;rintro e X ⟨rfl,v⟩;refine⟨rfl,?_⟩;refine(readL (y.below v) m).mono ?_;rintro e Y ⟨hc,F⟩;have z:Below w.heap.size w X:=(Da t).trans (v.mono (Da t).size);have R:Below w.heap.size w Y:=z.trans (F.mono z.size);have I:=(Da U).below R;have O:Below Y.heap.size Y Y.drew:=(Below.refl _ _).drew;refine⟨R,?_,?_⟩
    ·rcases hc with⟨d,rfl⟩|⟨s,x,d,rfl,hS⟩
     ·exact .inl ⟨d,rfl⟩
     ·exact .inr ⟨s,x,d,rfl,UU (hS.kept (fun k H _=>O.block k H)) rfl⟩
    ·have N:=I.cell k m;rcases I.at' k m with⟨f,K⟩|⟨l,g,f,K,P⟩
     ·exact .inl ⟨f,by rw[<-K];exact N⟩
     ·have h2:l.size<=1280:=by
       have:=I.sz k m;rw[f]at this;exact this
      exact .inr ⟨l,g,f,h2,by rw[<-K];exact N,UU ⟨by rw[Dg,Nat.mul_one],.inr ⟨g,l.size,_,rfl,(O.block _ P.lt).trans P,Nat.le_refl _,by unfold maxLen;omega,by rw[Dg,Nat.mul_one],by rw[List.take_of_length_le (by rw[Dg];omega)]⟩⟩ rfl⟩
   have M:Hid (b k=j k->∀i,i<k+1->b i=j i):=fun e i G=>by
    rcases Nat.lt_or_ge i k with q|q
    ·exact Da L i q
    ·rw[show i=k by omega];exact e
   clear y;go_upto_region 9 with(first|(go_at_call 72;refine(Da T).mono ?_;rintro e X ⟨rfl,B⟩)|(go_at_call 55;refine(Da B).mono ?_;rintro e Y ⟨p,⟨d,rfl⟩|⟨s,x,d,rfl,v1⟩,⟨f,Z⟩|⟨l,g,f,ag,Z,v2⟩⟩))
   ·have D:JC b (k+1)=JC b k:=by
     show JC b k+(if (b k).isSome=true then 1 else 0)=_;rw[d];rfl
    have E:JR b (k+1)=JR b k:=by
     show JR b k+(if (b k).isSome=true then _ else 0)=_;rw[d];rfl
    have C:Hid (∀i,i<k+1->b i=j i):=M (by rw[d,f]);go_wp2
    go_roundw
    case rel=>exact⟨k+1,by omega,by rw[D],by rw[E],by go_num,p,C⟩
    case measure=>simp[intOf];omega
   ·have o:¬b k=j k:=by rw[d,f];exact fun e=>by cases e
    have u:=Db o;clear o d f;go_upto_region 14 with fail
    go_quiet (fail)
    go_wp2;go_ret;exact HolP.no m (Da u) (below_drewN (Da p) _)
   ·have o:¬b k=j k:=by rw[d,f];exact fun e=>by cases e
    have u:=Db o;clear o d f;go_wp2;go_ret;exact HolP.no m (Da u) (Da p)
   ·by_cases J:s=l
    ·subst J;have D:JC b (k+1)=JC b k+1:=by
      show JC b k+(if (b k).isSome=true then 1 else 0)=_;rw[d];rfl
     have E:JR b (k+1)=JR b k+(s.size+63)/64:=by
      show JR b k+(if (b k).isSome=true then _ else 0)=_;rw[d];rfl
     have C:Hid (∀i,i<k+1->b i=j i):=M (by rw[d,f]);go_upto_region 14 with fail
     go_region_held3 (fun W=>W.cell? ⟨r,so+k,none⟩=some (.slice (some ⟨g,0,none⟩) s.size s.size)/\(convert 59 9 (.slice (some ⟨x,0,none⟩) s.size s.size)).run Tryz.prog W = .ok (.string s) W/\(convert 59 9 (.slice (some ⟨g,0,none⟩) s.size s.size)).run Tryz.prog W = .ok (.string s) W) (go_keep) (fail)
     go_wp2;refine⟨⟨k+1,by omega,congrArg (Value.int .i64) (by rw[D];omega),congrArg (Value.int .i64) (by rw[E];omega),by go_num,(Da p).drew,C⟩,by simp[intOf];omega⟩
    ·have o:¬b k=j k:=by rw[d,f];exact fun e=>J (Option.some.inj e)
     have u:=Db o;have ab:(s.toList==l.toList)=false:=by
      rw[beq_eq_false_iff_ne,ByteArray.toList_eq,ByteArray.toList_eq];exact fun e=>J (ByteArray.ext (Array.toList_inj.mp e))
     clear o d f;go_upto_region 14 with fail
     go_region_held3 (fun W=>W.cell? ⟨r,so+k,none⟩=some (.slice (some ⟨g,0,none⟩) l.size l.size)/\(convert 59 9 (.slice (some ⟨x,0,none⟩) s.size s.size)).run Tryz.prog W = .ok (.string s) W/\(convert 59 9 (.slice (some ⟨g,0,none⟩) l.size l.size)).run Tryz.prog W = .ok (.string l) W) (go_keep) (fail)
     go_wp2;go_ret;exact HolP.no m (Da u) (Da p).drew
  ·obtain rfl:k=8:=by omega
   have S:Hid (Calls Tryz.prog 56 #[.pointer (some ⟨A,0,none⟩),.string ⟨#[47]⟩] wr fun e X=>∃a c,e = .returned (.tuple #[.slice a (JC b 8) c,.int .i64 0])/\Hid (Calls Tryz.prog 34 #[.pointer (some ⟨A,0,none⟩)] X fun e Y=>e = .returned (.int .i64 (JR b 8:Nat))/\Hid (Below w.heap.size w Y))):=by
    refine(listL y).mono ?_;rintro e X ⟨⟨a,c,rfl⟩,v⟩;refine⟨a,c,rfl,?_⟩;refine(usageL (y.below v)).mono ?_;rintro e Y ⟨rfl,F⟩;have z:Below w.heap.size w X:=(Da t).trans (v.mono (Da t).size);exact⟨rfl,z.trans (F.mono z.size)⟩
   clear y;go_wp2_with (first|(go_at_call 56;refine(Da S).mono ?_;rintro e X ⟨a,c,rfl,B⟩)|(go_at_call 34;refine(Da B).mono ?_;rintro e Y ⟨rfl,p⟩));go_ret;exact⟨true,by simp,⟨fun _=>Da L,fun _=>rfl⟩,Da p⟩
def RdI(w:World)(a:OA)(xs:List Int):Prop:=∀(j:Nat) v,xs[j]?=some v->∃g f,a=some ⟨g,f,none⟩/\w.cell? ⟨g,f+j,none⟩=some (.int .i64 v)
theorem LgI.pk{N d:Nat}{g w:World}{f tb a e:Nat}{b:Nat->Option By}{K:KS->Prop}(h:LgI N d g w f tb a e b K):PkgOk w:=by
 obtain⟨G,I,CI,⟨rd,V,E,vi,c⟩,_⟩:=h.tr;exact c.pk
def Znr(w:World)(e:Ending)(w':World):Prop:=e = .returned (.bool true)/\Below w.heap.size w w'
theorem At.ex{en:List Nat}{e:Nat}(h:0<en.length):∃j,At en e j:=by
 have m:∀n,n<en.length->(∀i x,n<=i->i+1<en.length->en[i]?=some x->e<x)->∃j,At en e j:=by
  intro n
  induction n with
  | zero=>exact fun d c=>⟨0,d,fun i x h=>by omega,c⟩
  | succ n ih=>
   intro d c;obtain⟨x,g⟩:∃x,en[n]?=some x:=⟨_,List.getElem?_eq_getElem (by omega)⟩;by_cases l:x<=e
   ·refine⟨n+1,d,fun i y aa a=>?_,c⟩;obtain rfl:i=n:=by omega
    rw[g]at a
    cases a
    exact l
   ·refine ih (by omega) (fun i y k f a=>?_);rcases Nat.lt_or_ge n i with q|q
    ·exact c i y (by omega) f a
    ·obtain rfl:i=n:=by omega
     rw[g]at a
     cases a
     omega
 exact m (en.length-1) (by omega) (fun i x k f=>by omega)
theorem FgI.first{w0 w:World}{vb tb db stb:Nat}(h:LgI 0 w0.heap.size w0 w vb tb db stb (fun _=>none) (KeptB (fun _=>none)))(l:FirstI w0.heap.size w vb stb db):FgI (fun _=>False) 0 w0.heap.size w0 w vb tb db stb (fun _=>none) [fun _=>none] [0]:=by
 obtain⟨p,o,q,d,c,f,g,i⟩:=l;refine⟨h.vol,h.tr,⟨ks0,p,o,q,_,_,[],[],Jf,d,c,f,⟨ZjH,c.2,fun x a=>(by cases a),rfl,fun x a=>(by cases a),rfl,rfl,⟨_,rfl,ZgW⟩,rfl,fun e k lost j m=>?_⟩,ZiL,Zlo,Nat.le_refl _,Nat.zero_le _,Nat.zero_le _,g,i,fun _ _ e=>e⟩,h.bel,h.lo⟩;have n:=m.lt;obtain rfl:j=0:=by simpa using n
 obtain rfl:e=0:=by simpa using k
 exact⟨0,_,.inl rfl,rfl,ks0,rfl,ZiL,Zlo,ZgW,Nat.le_refl _⟩
section
variable{X:Nat->Prop}{N n0:Nat}{w0 w w':World}{vb tb db stb:Nat}{b:Nat->Option By}{kb:List (Nat->Option By)}{en:List Nat}
theorem FgI.broken(h:FgI X N n0 w0 w vb tb db stb b kb en)(hN:N<=2000000){x:Nat}(k:en[en.length-1]?=some x)(e:Nat)(he:e<=x)(g:OA)(cl:Nat)(lost:List Bool)(D:RdT w g lost)(C:lost.length<=1000000000):
  ∃f i0 j0,At en e j0/\(i0=j0\/i0+1=j0)/\kb[i0]?=some f/\Calls Tryz.prog 31 #[.pointer (some ⟨vb,0,none⟩),.int .i64 e,.slice g lost.length cl] w fun r Z=>∃a l c,r = .returned (.slice a l c)/\Below w.heap.size w Z/\Hid (Calls Tryz.prog 27 #[.slice a l c] Z fun r Y=>∃m:Nat,r = .returned (.tuple #[.pointer (some ⟨m,0,none⟩),.int .i64 0])/\Below Z.heap.size Z Y/\∃tx dx sx,LgI (N+1) n0 w0 Y m tx dx sx f (KeptB f)):=by
 obtain⟨s,vk,M,O,vw,L,ps,ep,F,n,z,h3,d,a1,a2,a3,a4,a5,a6,a7,_⟩:=h.st;have o:=d.el;rw[k]at o;have e3:x=ep.length:=Option.some.inj o;obtain⟨j,y⟩:=At.ex (en:=en) (e:=e) (by have:=(List.getElem?_eq_some_iff.1 k).1;omega);obtain⟨i,f,E,G,s0,H,I,J,K,k7⟩:=d.brk e (by omega) lost j y;refine⟨f,i,j,y,E,G,?_⟩;refine(ZoO w vb tb db stb h.vol e g _ cl _ (Zi6 w db M O vw L s.D F ps ep n.st.disk z d.fl n.st.sw d.p64 (by omega) n.st.se d.epb e (by omega) g cl lost D C)).mono ?_;rintro r Z ⟨a,l,c,rfl,t,u⟩;refine⟨a,l,c,rfl,u,?_⟩;have p:=UK (F:=F) (ps:=ps) (st:=stE ep ps.length e) (lost:=lost) d.f64 (fun x k=>(d.p64 x k).2) (enE ep ps.length e);rw[<-H]at t p;have q:=h.lg.below u;refine(openX I J (by omega) K Z a l c t.1 p q.pk).mono ?_;rintro r Y ⟨m,rfl,_,B,A⟩;exact⟨m,rfl,B,A n0 w0 (N+1) q.bel h.lo.2.2.1 h.lo.2.2.2 (by omega)⟩
end
def Jg(f:NV):LVa:=(List.range 8).map f
theorem ZkX:∀(kv:List (NV)) (j i:Nat) (f:NV),kv[j]?=some f->i<8->(kv.flatMap Jg)[j*8+i]?=some (f i)
 | [],j,i,f,h,_=>by simp at h
 | g::kv,0,i,f,h,hi=>by
  simp at h;subst h;rw[List.flatMap_cons,Nat.zero_mul,Nat.zero_add,List.getElem?_append_left (by simp[Jg];exact hi)];unfold Jg;rw[List.getElem?_map,List.getElem?_range hi];rfl
 | g::kv,j+1,i,f,h,hi=>by
  have:=ZkX kv j i f (by simpa using h) hi;rw[List.flatMap_cons,List.getElem?_append_right (by simp[Jg];omega),<-this]
  congr 1
  simp[Jg];omega
structure KptW(w:World)(v:Value)(kb:List (Nat->Option By))(kv:List (NV)):Prop where
 len:kv.length=kb.length
 sl:Sl w 62 8 v kb.length (kv.flatMap Jg)
 fl:∀(j:Nat) b f,kb[j]?=some b->kv[j]?=some f->∀i,i<8->FileW w (b i) (f i)/\((b i).getD ⟨#[]⟩).size<=1280
section
variable{w w':World}{v:Value}{kb:List (Nat->Option By)}{kv:List (NV)}
theorem KptW.keep(h:KptW w v kb kv)(l:∀k t R,RowIs w k t R->(t=62/\Own v k\/t=5)->RowIs w' k t R):KptW w' v kb kv:=by
 refine⟨h.len,⟨h.sl.1,?_⟩,fun j b f c d i e=>⟨?_,(h.fl j b f c d i e).2⟩⟩
 ·rcases h.sl.2 with q|⟨g,m,L,q,n,a⟩
  ·exact .inl q
  ·exact .inr ⟨g,m,L,q,l _ _ _ n (.inl ⟨rfl,by rw[q];rfl⟩),a⟩
 ·rcases (h.fl j b f c d i e).1 with q|⟨s,g,o,a,p⟩
  ·exact .inl q
  ·exact .inr ⟨s,g,o,a,l _ _ _ p (.inr rfl)⟩
theorem KptW.kp(h:KptW w v kb kv)(a:Kp62 w w'):KptW w' v kb kv:=h.keep fun k t R c d=>a k t R c (d.elim (fun q => .inl q.1) (fun q => .inr (.inl q)))
theorem KptW.turn(h:KptW w v kb kv){a:Nat}(g:KpE a w w')(j:¬Own v a){f:LVa}(i:RowIs w a 62 f):KptW w' v kb kv:=h.keep fun k t R c d=>by
 refine g k t R c ?_ (fun e=>?_)
 ·rcases d with⟨rfl,_⟩|rfl<;>decide
 ·subst e;rcases d with⟨_,q⟩|rfl
  ·exact j q
  ·exact absurd (i.type c) (by decide)
theorem KptW.set{a:OA}{l c:Nat}(h:KptW w (.slice a l c) kb kv){j:Nat}{b:Nat->Option By}(m:kb[j]?=some b):∃g f,a=some ⟨g,0,none⟩/\l=kb.length/\w.rangeAt g (j*8) (Jg f)/\SetC w g (j*8) b f:=by
 have q:=(List.getElem?_eq_some_iff.1 m).1;obtain⟨f,n⟩:∃f,kv[j]?=some f:=⟨_,List.getElem?_eq_getElem (by rw[h.len];exact q)⟩;have r:=h.sl.len;rcases h.sl.2 with⟨_,h0⟩|⟨g,aa,L,e,p,q1,q2,q3,s⟩
 ·omega
 simp only[Value.slice.injEq]at e;obtain⟨rfl,_,rfl⟩:=e;have o:∀i,i<8->w.cell? ⟨g,j*8+i,none⟩=some (f i):=fun i d=>by
  have:=ZkX kv j i f n d;rw[<-s,List.getElem?_take]at this
  split at this
  ·rw[p.cell];exact this
  ·cases this
 refine⟨g,f,rfl,r,fun i u k=>?_,o,fun i d=>(h.fl j b f m n i d).1,fun i d=>(h.fl j b f m n i d).2⟩;unfold Jg at k;have d:i<8:=by have:=(List.getElem?_eq_some_iff.1 k).1;simpa using this
 rw[List.getElem?_map,List.getElem?_range d]at k;rw[<-k];exact o i d
end
theorem info62:(Tryz.prog.info? 62).map (fun i=>(i.zero,i.size,i.bytes))=some (some (.agg #[.slice none 0 0,.slice none 0 0,.slice none 0 0,.slice none 0 0,.slice none 0 0,.slice none 0 0,.slice none 0 0,.slice none 0 0]),8,192):=by kernel_rfl
theorem FileW.one{w:World}{o:Option By}{v:Value}(h:FileW w o v):v.oneCell'=true:=by
 rcases h with⟨_,rfl⟩|⟨s,g,_,rfl,_⟩<;>rfl
theorem appS{w:World}{v:Value}{kb:List (Nat->Option By)}{kv:List (NV)}(h:KptW w v kb kv)(hl:kb.length<=1000){b:Nat->Option By}{f:NV}(t:∀i,i<8->FileW w (b i) (f i)/\((b i).getD ⟨#[]⟩).size<=1280)(J:∀k R,Own v k->RowIs w k 5 R->False)(nb:Nat)(I:RowIs w nb 62 (Jg f)):
  ∃x w',(Builtin.append_ #[70,70] 70 #[v,.slice (some ⟨nb,0,none⟩) 1 1]).run Tryz.prog w = .ok x w'/\∃a n c,x = .slice a n c/\KptW w' (.slice a n c) (kb++[b]) (kv++[f])/\Fr (Own v) w w'/\Dk w v (.slice a n c):=by
 obtain⟨O,F,K,L,M⟩:=info_parts info62;obtain⟨x,w2,T,B,p,U⟩:=KH (P:=Tryz.prog) w 70 70 62 O _ 8 192 (by kernel_rfl) F K L M rfl (by decide) v kb.length _ h.sl ⟨nb,0,none⟩ 1 1 (Jg f) (by simp[Jg])
  (fun j u m=>by rw[Addr.add_lit,Nat.zero_add,I.cell];exact m) (fun u m=>by
   obtain⟨i,l,rfl⟩:=List.mem_map.1 m;exact(t i (List.mem_range.1 l)).1.one) (by unfold maxLen;omega) (by omega)
 obtain⟨a,n,c,rfl⟩:=B.shape;have y:Fr (Own v) w w2:=⟨p.os,p.tape,p.output,p.size,fun k H E=>p.block k H (fun e=>E e.symm)⟩;have z:∀{o:Option By} {u:Value},FileW w o u->FileW w2 o u:=fun m=>by
  rcases m with q|⟨s,g,Q,S,A⟩
  ·exact .inl q
  ·exact .inr ⟨s,g,Q,S,A.fr y (fun e=>J g _ e A)⟩
 refine⟨_,w2,T,a,n,c,rfl,⟨by rw[List.length_append,List.length_append,h.len];rfl,?_,fun j C D d r i l=>?_⟩,y,U⟩
 ·rw[List.flatMap_append,List.length_append];have e:[f].flatMap Jg=Jg f:=by simp
  rw[e];exact B
 ·rcases Nat.lt_or_ge j kb.length with q|q
  ·rw[List.getElem?_append_left q]at d;rw[List.getElem?_append_left (by rw[h.len];exact q)]at r;have:=h.fl j C D d r i l;exact⟨z this.1,this.2⟩
  ·have G:j=kb.length:=by have:=(List.getElem?_eq_some_iff.1 d).1;rw[List.length_append,List.length_singleton]at this;omega
   subst G;rw[List.getElem?_append_right (Nat.le_refl _),Nat.sub_self]at d;rw[List.getElem?_append_right (by rw[h.len];exact Nat.le_refl _),h.len,Nat.sub_self]at r
   cases d
   cases r
   exact⟨z (t i l).1,(t i l).2⟩
structure FlI(M n0:Nat)(w wr:World)(vb tb db stb sb:Nat)(b:Nat->Option By)(vs:NV)(vK vE:Value)(kb:List (Nat->Option By))(kv:List (NV))(en:List Nat):Prop where
 fg:FgI (Own vE) M n0 w wr vb tb db stb b kb en
 se:SetW n0 wr sb b vs
 kp:KptW wr vK kb kv
 en:Sl wr 3 1 vE en.length (en.map (fun m => .int .i64 (m:Nat)))
 ks:¬Own vK sb
 lo:∀k,Own vK k\/Own vE k->n0<=k
 le:kb.length<=M+1
section
variable{X:Nat->Prop}{N n0:Nat}{w0 w w':World}{vb tb db stb:Nat}{b:Nat->Option By}{kb:List (Nat->Option By)}{en:List Nat}
theorem FgI.fr62(h:FgI X N n0 w0 w vb tb db stb b kb en){Z:Nat->Prop}(c:Fr Z w w')(a:∀k t R,Z k->RowIs w k t R->t=62)(f:∀k,Z k->n0<=k):FgI X N n0 w0 w' vb tb db stb b kb en:=
 FgI.of (h.lg.fr62 c a f) h.st (fun k t R d g=>d.fr c (fun e=>by
  have:=a k t R e d;subst this
  revert g;decide))
theorem FgI.frX(h:FgI X N n0 w0 w vb tb db stb b kb en)(c:Fr X w w')(i:∀k t R,X k->RowIs w k t R->t=3)(o:∀k,X k->n0<=k):FgI X N n0 w0 w' vb tb db stb b kb en:=by
 obtain⟨l1,l2,O,l4⟩:=h.lo;obtain⟨G,I,p,⟨P,V,E,T,H⟩,L⟩:=h.tr;obtain⟨s,U,S,W,vw,Q,ps,ep,F,a,l,B,C,q,r,u,x,y,z,A,d⟩:=h.st;have f:∀{e:TypeId} {sz:Nat} {v:Value} {n:Nat} {xs:LVa},Sl w e sz v n xs->e≠3->Sl w' e sz v n xs:=fun m J=>m.fr c (fun g j e=>by
  obtain⟨R,D⟩:=m.type j;exact J (i _ _ _ e D))
 exact⟨RowIs.fr h.vol c (fun e=>absurd (i _ _ _ e h.vol) (by decide)),⟨G,I,p,⟨P,V,E,T,H.fr c (fun e=>by have:=o 0 e;omega) (fun k t R e K=>by rw[i k t R e K];decide)⟩,L⟩,
  ⟨s,U,S,W,vw,Q,ps,ep,F,⟨⟨a.st.row.fr c (fun e=>d _ (.inl rfl) e),⟨a.st.disk.1.fr c (fun e=>d _ (.inr (.inl rfl)) e),⟨f a.st.disk.2.1.1 (by decide),a.st.disk.2.1.2⟩,a.st.disk.2.2⟩,f a.st.sw (by decide),a.st.se.fr c (fun g j e=>d g (.inr (.inr (.inr (.inr j)))) e),a.st.ne,a.st.ns,a.st.nd,a.st.d1,a.st.d2,a.st.d3⟩,f a.sk (by decide),a.ok⟩,⟨f l.1 (by decide),l.2⟩,B,C,q,r,u,x,y,z,A,d⟩,Qt h.bel c o O,h.lo⟩
end
section
variable{M n0:Nat}{w wr Y:World}{vb tb db stb sb:Nat}{b:Nat->Option By}{vs:NV}{vK vE:Value}{kb:List (Nat->Option By)}{kv:List (NV)}{en:List Nat}
theorem FlI.ll(h:FlI M n0 w wr vb tb db stb sb b vs vK vE kb kv en):kb.length=en.length:=by
 obtain⟨s,vk,vf,vn,vw,ve,ps,ep,F,h1,h2,h3,a,_⟩:=h.fg.st;exact a.ll
theorem FlI.last(h:FlI M n0 w wr vb tb db stb sb b vs vK vE kb kv en):∃x,en[en.length-1]?=some x/\x<=2*M:=by
 obtain⟨s,vk,vf,vn,vw,ve,ps,ep,F,h1,h2,h3,c,a1,a2,a3,a4,a,_⟩:=h.fg.st;exact⟨_,c.el,a⟩
theorem FlI.turn(h:FlI M n0 w wr vb tb db stb sb b vs vK vE kb kv en)(c:Int)(i:In64 c):
  Calls Tryz.prog 25 #[.pointer (some ⟨sb,0,none⟩),.pointer (some ⟨vb,0,none⟩),.int .i64 c] wr fun e Y=>e = .returned (.bool true)/\∃a d,FlI M n0 w Y vb tb db stb sb a d vK vE kb kv en:=
 (h.fg.turn h.se c i).mono fun _ _ ⟨g,a,d,j,k,f⟩=>⟨g,a,d,j,k,h.kp.turn f h.ks h.se.row,h.en.kpS (f.s h.se.row) (by decide),h.ks,h.lo,h.le⟩
theorem FlI.sync(h:FlI M n0 w wr vb tb db stb sb b vs vK vE kb kv en)(hM:M<=900):
  Calls Tryz.prog 26 #[.pointer (some ⟨vb,0,none⟩)] wr fun e Y=>e = .returned (.int .i64 0)/\SetW n0 Y sb b vs/\Below n0 w Y/\∃x:Nat,Hid (∀Z,Below Y.heap.size Y Z->RowIs Z Y.heap.size 62 (Jg vs)->∃B F C a,(Builtin.append_ #[70,70] 70 #[vK,.slice (some ⟨Y.heap.size,0,none⟩) 1 1]).run Tryz.prog Z = .ok (.slice B F C) a/\
   Hid (Calls Tryz.prog 30 #[.pointer (some ⟨vb,0,none⟩)] a fun e V=>e = .returned (.int .i64 (x:Nat))/\V=a)/\Hid (∀V,Below a.heap.size a V->RowIs V a.heap.size 3 [.int .i64 (x:Nat)]->∃o u cE j,(Builtin.append_ #[53,53] 53 #[vE,.slice (some ⟨a.heap.size,0,none⟩) 1 1]).run Tryz.prog V = .ok (.slice o u cE) j/\Hid (∃kb' kv' en',FlI (M+1) n0 w j vb tb db stb sb b vs (.slice B F C) (.slice o u cE) kb' kv' en'))):=by
 have ac:∀k,Own vE k->k<wr.heap.size:=fun k c=>h.en.lt c
 have ao:n0<=wr.heap.size:=Nat.le_trans h.fg.lo.2.2.1 h.fg.bel.size;refine(h.fg.sync (by omega) ac).mono ?_;rintro e Y ⟨rfl,⟨m,v⟩,c,hE⟩;have I:=h.se.kp c;have D:=h.kp.kp c;have S:Sl Y 3 1 vE en.length _:=h.en.kept (fun k af ho=>hE k ho af);have ap:n0<=Y.heap.size:=Nat.le_trans v.lo.2.2.1 v.bel.size;refine⟨rfl,I,v.bel,m,fun Z n r=>?_⟩;have aj:∀i,i<8->((b i).getD ⟨#[]⟩).size<=1280:=fun i p=>v.lg.vl.sizes p
 have U:∀k R,Own vK k->RowIs Z k 5 R->False:=fun k R ho d=>by
  obtain⟨A,l⟩:=D.sl.type ho;have H:RowIs Z k 62 A:=(n.block _ l.lt).trans l;exact absurd (H.type d) (by decide)
 have E:=I.kp (Kp62.below n);obtain⟨v',a,r1,B,F,C,rfl,r2,z,r4⟩:=appS (D.kp (Kp62.below n)) (by have:=h.le;omega) (b:=b) (f:=vs) (fun i p=>⟨E.at' i p,aj i p⟩) U Y.heap.size r;have ae:=v.below n;have an:=n.size;have T:FgI (Own vE) (M+1) n0 w a vb tb db stb b (kb++[b]) (en++[m]):=ae.fr62 z (fun k t R ho d=>by
  obtain⟨A,l⟩:=D.sl.type ho;have H:RowIs Z k 62 A:=(n.block _ l.lt).trans l;exact(H.type d).symm) (fun k ho=>h.lo k (.inl ho))
 have ag:(en++[m])[(en++[m]).length-1]?=some m:=by rw[List.length_append];show(en++[m])[en.length]? = _;rw[List.getElem?_append_right (Nat.le_refl _),Nat.sub_self];rfl
 refine⟨B,F,C,a,r1,T.epochs ag,fun V y ah=>?_⟩;have am:=z.size;have al:=y.size;have aa:∀k,Own vE k->¬Own vK k:=fun k e1 e2=>by
  obtain⟨R1,K⟩:=S.type e1;obtain⟨R2,L⟩:=D.sl.type e2;exact absurd (K.type L) (by decide)
 have Q:Sl V 3 1 vE en.length (en.map (fun m => .int .i64 (m:Nat))):=((S.kept (fun k c _=>n.block k c)).fr z (fun g hg e=>aa g hg e)).kept (fun k c _=>y.block k c);have P:(en.map (fun m=>Value.int .i64 (m:Nat)))=(en.map (fun m=>((m:Nat):Int))).map (.int .i64):=by rw[List.map_map];rfl
 have ab:Sl V 3 1 vE (en.map (fun m=>((m:Nat):Int))).length ((en.map (fun m=>((m:Nat):Int))).map (.int .i64)):=by rw[<-P,List.length_map];exact Q
 obtain⟨v',j,p1,o,u,cE,rfl,p2,p3,G⟩:=appI V vE (en.map (fun m=>((m:Nat):Int))) ab a.heap.size m ah (by rw[List.length_map,<-h.ll];have:=h.le;omega);refine⟨o,u,cE,j,p1,kb++[b],kv++[vs],en++[m],?_⟩;have O:∀k t R,Own vE k->RowIs V k t R->t=3:=fun k t R ho d=>by
  obtain⟨A,l⟩:=Q.type ho;exact(l.type d).symm
 have ad:FgI (fun k=>Own vE k\/Own (.slice o u cE) k) (M+1) n0 w j vb tb db stb b (kb++[b]) (en++[m]):=by
  have q:FgI (fun k=>Own vE k\/Own (.slice o u cE) k) (M+1) n0 w V vb tb db stb b (kb++[b]) (en++[m]):=(T.below y).mean (fun k c=>by
   rcases c with q|q
   ·exact .inl q
   ·exact G k q)
  refine q.frX (p3.mono (fun k _ e => .inl e)) (fun k t R e d=>?_) (fun k e=>?_)
  ·rcases e with e|e
   ·exact O k t R e d
   ·rcases G k e with e|e
    ·exact O k t R e d
    ·have:=d.lt;omega
  ·rcases e with e|e
   ·exact h.lo k (.inr e)
   ·rcases G k e with e|e
    ·exact h.lo k (.inr e)
    ·omega
 have ak:∀k t R,RowIs V k t R->t≠3->RowIs j k t R:=fun k t R r J=>r.fr p3 (fun e=>J (O k t R e r))
 have W:Kp62 V j:=fun k t R r J=>ak k t R r (by rcases J with rfl|rfl|rfl<;>decide)
 have ai:SetW n0 a sb b vs:=by
  refine⟨E.row.fr z h.ks,fun i p=>?_,E.lo⟩;rcases E.at' i p with q|⟨s,g,K,L,q3⟩
  ·exact .inl q
  ·exact .inr ⟨s,g,K,L,q3.fr z (fun e=>U g _ e q3)⟩
 refine⟨ad.mean (fun k e => .inl (.inr e)),(ai.kp (Kp62.below y)).kp W,(r2.kp (Kp62.below y)).kp W,?_,fun e=>?_,fun k e=>?_,?_⟩
 ·rw[List.length_append,List.map_append];rw[List.length_map,List.map_append,<-P]at p2;exact p2
 ·rcases r4 sb e with e|e
  ·exact h.ks e
  ·have:=I.row.lt;omega
 ·rcases e with e|e
  ·rcases r4 k e with e|e
   ·exact h.lo k (.inl e)
   ·omega
  ·rcases G k e with e|e
   ·exact h.lo k (.inr e)
   ·omega
 ·rw[List.length_append,List.length_singleton];have:=h.le;omega
end
end Go.Proofs.YtaieidcohdhgpaaGreatDoor
