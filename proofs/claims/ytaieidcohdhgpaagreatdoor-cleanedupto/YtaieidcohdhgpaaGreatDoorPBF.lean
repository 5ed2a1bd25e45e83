/- Cleaned. -/
import Derived.Test.YtaieidcohdhgpaaGreatDoorPBE
namespace Go.Proofs.YtaieidcohdhgpaaGreatDoor
set_option maxHeartbeats 8000000
set_option maxRecDepth 100000
open Go.RowKit
theorem Env.puts_ind2{E:Env}{Q:Pl->Prop}(f:∀st r s,s.size=64->(∀y∈st.puts,y.1≠r)->Q st->Q (E.put st r s).2)(R:Nat->Nat)(g:∀a b,R a=R b->a=b)(B:NB)(d:∀x,(B x).size=64):
  ∀(st:Pl) (i:Nat) (xs:List Nat),(∀y∈st.puts,∀j,i<=j->j<i+xs.length->y.1≠R j)->Q st->Q (E.puts R B st i xs)
 | _,_,[],_,h=>h
 | st,i,x::xs,hf,h=>by
  refine Env.puts_ind2 f R g B d _ (i+1) xs (fun y c j h1 h2=>?_) (f st (R i) (B x) (d x) (fun y c=>hf y c i (Nat.le_refl _) (by rw[List.length_cons];omega)) h);rw[Env.put_puts]at c;rcases List.mem_append.1 c with q|q
  ·exact hf y q j (by omega) (by rw[List.length_cons];omega)
  ·rw[List.mem_singleton.1 q];exact fun e=>by have:=g _ _ e;omega
theorem Zhq{E:Env}{Q:Pl->Prop}(m:∀st r s,s.size=64->(∀y∈st.puts,y.1≠r)->Q st->Q (E.put st r s).2)(C:NB):∀(last:By) (st:Pl) (xs:List It),
  (∀x∈xs,x.k=1\/x.k=2\/x.k=3)->(∀x∈xs,x.k=2->(C x.f).size<=1280)->(∀x∈xs,x.f<60)->xs.Pairwise (fun x y=>x.k=2->y.k=2->x.f≠y.f)->(∀y∈st.puts,∀x∈xs,x.k=2->∀j,j<20->y.1≠Dd 4 x.f j)->Q st->Q (Du E C last st xs).2
 | _,_,[],_,_,_,_,_,h=>h
 | last,st,x::xs,hk,d,hf,hp,c,h=>by
  rw[List.pairwise_cons]at hp;have o:Q (Dy E C last st x).2/\∀y∈(Dy E C last st x).2.puts,y∈st.puts\/(x.k=2/\∃j,j<20/\y.1=Dd 4 x.f j):=by
   unfold Dy;rcases hk x (by simp) with e|e|e
   ·rw[if_pos e];exact⟨h,fun y c => .inl c⟩
   ·rw[if_neg (by omega),if_neg (by omega)];have hn:=KD (d x (by simp) e);refine⟨Env.puts_ind2 m _ (fun a b=>QL) _ (fun z=>Qe _ z) st 0 _ (fun y f j _ l=>?_) h,fun y f=>?_⟩
    ·rw[List.length_range]at l;exact c y f x (by simp) e j (by omega)
    ·rcases Env.puts_mem E _ _ st 0 _ y f with q|⟨j,_,k,u⟩
     ·exact .inl q
     ·rw[List.length_range]at k;exact .inr ⟨e,j,by omega,u⟩
   ·rw[if_neg (by omega),if_pos e];exact⟨h,fun y c => .inl c⟩
  refine Zhq m C (jn x.ns) _ xs (fun z d=>hk z (List.mem_cons_of_mem _ d)) (fun z g=>d z (List.mem_cons_of_mem _ g)) (fun z d=>hf z (List.mem_cons_of_mem _ d)) hp.2 (fun y f z g n j p e=>?_) o.1;rcases o.2 y f with q|⟨t,i,hi,k⟩
  ·exact c y q z (List.mem_cons_of_mem _ g) n j p e
  ·have h1:=hf x (by simp);have l:=hf z (List.mem_cons_of_mem _ g);exact hp.1 z g t n (Zfh (by omega) (by omega) (by omega) (by omega) (k.symm.trans e))
theorem ZhP{E:Env}{Q:Pl->Prop}(c:∀st r s,s.size=64->(∀y∈st.puts,y.1≠r)->Q st->Q (E.put st r s).2):∀(d below:Nat) (st:Pl) (s:By),IdxN d below st s->Q st->Q (DC E d below st s).2
 | 0,_,_,_,_,h=>h
 | d+1,below,st,s,hi,h=>by
  unfold DC
  split
  ·rename_i i;obtain⟨d',e,f,_⟩:=hi.next i E
   cases e
   have hb:=hi.bd;have aa:=hi.n1;refine ZhP c d _ _ _ f (Env.puts_ind2 c _ (fun a b=>QL) _ (fun x=>KZ _ _ _ x) _ _ _ (fun y k j _ g=>?_) h);rw[List.length_range]at g;exact hi.pk.fresh (by omega) y k j (by omega)
  ·exact h
theorem ItOk.pair{C:NB}{L:List It}(h:ItOk C L):L.Pairwise (fun x y=>x.k=2->y.k=2->x.f≠y.f):=by
 rw[List.pairwise_iff_getElem];intro i j c e d a b;exact h.fresh i j _ _ d (List.getElem?_eq_getElem c) (List.getElem?_eq_getElem e) a b
theorem ZjU{E:Env}{Q:Pl->Prop}(f:∀st r s,s.size=64->(∀y∈st.puts,y.1≠r)->Q st->Q (E.put st r s).2){C:NB}{L:List It}(c:ItOk C L)(d:Nat)(l:d<=1536)(h:Q ⟨d,[],[]⟩):Q (Jt E C ⟨d,[],[]⟩ L).2:=by
 have n:=Zhq f C ⟨#[]⟩ ⟨d,[],[]⟩ L c.kind c.size c.num c.pair (fun y g=>(by cases g)) h;obtain⟨t1,t2,t3,t4,p⟩:=KW E C ⟨#[]⟩ ⟨d,[],[]⟩ L (fun z k=>⟨c.path z k,c.size z k,c.kind z k⟩);have ab:=c.len;refine ZhP f _ _ _ _ (ZiY c E ⟨d,[],[]⟩ rfl rfl l) (Env.puts_ind2 f _ (fun a b=>QL) _ (fun x=>KZ _ _ _ x) _ _ _ (fun y g j _ m e=>?_) n);rw[List.length_range,ByteArray.size_append]at m;have aa:j<600:=by
  have:(⟨#[0]⟩:By).size=1:=rfl;omega
 rcases p y g with q|⟨x,o,_,i,hi,q⟩
 ·cases q
 ·have hf:=c.num x o;have:=ZcY (kk:=4) (kk':=3) (by omega) (by omega) (by omega) (by omega) (q.symm.trans e);omega
structure InvS(s:KS):Prop where
 ok:KsOk s
 cur:∀x∈s.es,x.2.toNat/16=s.tp/16->x.2.toNat<=s.tp
 inj:∀x∈s.es,∀y∈s.es,x.2=y.2->x=y
 tpc:0<Dg s.es (s.tp/16)
 fr:512<=DA (Dg s.es) 96
 lo:∀x∈s.es,16<=x.2.toNat
 tp:16<=s.tp
theorem InvS.free{s:KS}(h:InvS s):512<=16*Je (Dg s.es) (s.tp/16) 96:=by
 rw[Zlz _ (Zcp _) _ (by have:=h.ok.tp;omega) h.tpc];exact h.fr
theorem Uz{es:LI}{x:Int×Int}(h:x∈es):0<Dg es (x.2.toNat/16):=by
 unfold Dg;have:0<es.countP (fun y=>y.2.toNat/16==x.2.toNat/16):=List.countP_pos_iff.2 ⟨x,h,by simp⟩
 split<;>omega
theorem RI.not_es{s:KS}(a:InvS s){j o:Nat}{N:List Nat}(h:RI (Dg s.es) s.tp j o N){p:Nat}(c:p∈N)(r:Int):(r,(p:Int))∉s.es:=fun b=>by
 have aa:=a.ok.tp;obtain⟨m1,d⟩:=h.mem p c;rcases d with⟨e,f,_⟩|⟨_,f,_⟩
 ·have:=a.cur _ b (by simp only[Int.toNat_natCast];unfold J1 at e;omega);simp only[Int.toNat_natCast]at this;omega
 ·have:=Uz b;simp only[Int.toNat_natCast]at this;omega
structure PI(s:KS)(st:Pl):Prop where
 ri:∃j o,RI (Dg s.es) s.tp j o (st.ps.map (·.1))/\st.hd=16*((s.tp/16+j)%96)+o
 mem:∀y∈st.puts,y.2∈st.ps.map (·.1)\/((y.1:Int),(y.2:Int))∈s.es
 nd:(st.puts.map (·.2)).Nodup
 le:st.ps.length<=st.puts.length
 rol:(st.puts.map (·.1)).Nodup
theorem PI.put{s:KS}(f:InvS s){cl:Bool}{st:Pl}(h:PI s st)(hl:st.puts.length<512)(r:Nat)(b:By)(v:∀y∈st.puts,y.1≠r):PI s ((Di s.es cl s.tp s.D).put st r b).2:=by
 have C:=f.ok.tp;obtain⟨j,o,l,p⟩:=h.ri;have w:∀q:Nat,((st.puts++[(r,q)]).map (fun y:Nat×Nat=>y.1)).Nodup:=fun q=>by
  rw[List.map_append,List.nodup_append];refine⟨h.rol,by simp,fun a i b d e=>?_⟩;obtain⟨y,c,rfl⟩:=List.mem_map.1 i;simp only[List.map_cons,List.map_nil,List.mem_singleton]at d;exact v y c (e.trans d)
 unfold Env.put
 split
 ·rename_i q g;have n:((r:Int),(q:Int))∈s.es:=by
   unfold Env.stay at g
   split at g
   ·rename_i q' B
    split at g
    ·cases g;exact((f.ok.env cl).at_some B).1
    ·cases g
   ·cases g
  refine⟨⟨j,o,l,p⟩,fun y c=>?_,?_,by rw[List.length_append];have:=h.le;simp only[List.length_singleton];omega,w q⟩
  ·rcases List.mem_append.1 c with e|e
   ·exact h.mem y e
   ·rw[List.mem_singleton.1 e];exact .inr n
  ·rw[List.map_append,List.nodup_append];refine⟨h.nd,by simp,fun a i b d e=>?_⟩;obtain⟨y,c,rfl⟩:=List.mem_map.1 i;simp only[List.map_cons,List.map_nil,List.mem_singleton]at d;rw[d]at e;rcases h.mem y c with m|m
   ·rw[e]at m;exact l.not_es f m _ n
   ·rw[e]at m;have:=f.inj _ m _ n rfl;rw[Prod.mk.injEq]at this;exact v y c (by have:=this.1;omega)
 ·have A:(st.ps.map (·.1)).length<16*Je (Dg s.es) (s.tp/16) 96:=by rw[List.length_map];have:=h.le;have:=f.free;omega
  obtain⟨x,z,k,t⟩:=l.next C A;rw[<-p]at k t;have u:(st.ps++[(DI (Dg s.es) 96 st.hd%1536,b)]).map (·.1)=st.ps.map (·.1)++[DI (Dg s.es) 96 st.hd%1536]:=by rw[List.map_append];rfl
  refine⟨⟨x,z,?_,t⟩,fun y c=>?_,?_,?_,w _⟩
  ·show RI (Dg s.es) s.tp x z ((st.ps++[(DI (Dg s.es) 96 st.hd%1536,b)]).map (·.1));rw[u];exact k
  ·show y.2∈(st.ps++[(DI (Dg s.es) 96 st.hd%1536,b)]).map (·.1)\/_;rw[u];rcases List.mem_append.1 c with e|e
   ·exact(h.mem y e).imp (fun e=>List.mem_append_left _ e) id
   ·rw[List.mem_singleton.1 e];exact .inl (List.mem_append_right _ (List.mem_singleton.2 rfl))
  ·show((st.puts++[(r,DI (Dg s.es) 96 st.hd%1536)]).map (·.2)).Nodup;rw[List.map_append,List.nodup_append];refine⟨h.nd,by simp,fun a i b d e=>?_⟩;obtain⟨y,c,rfl⟩:=List.mem_map.1 i;simp only[List.map_cons,List.map_nil,List.mem_singleton]at d;rw[d]at e;rcases h.mem y c with m|m
   ·rw[e]at m;have:=k.nd';rw[List.nodup_append]at this;exact this.2.2 _ m _ (List.mem_singleton.2 rfl) rfl
   ·rw[e]at m;exact k.not_es f (List.mem_append_right _ (List.mem_singleton.2 rfl)) _ m
  ·show(st.ps++[_]).length<=(st.puts++[_]).length;rw[List.length_append,List.length_append];have:=h.le;simp only[List.length_singleton];omega
theorem PI.all{s:KS}(a:InvS s)(cl:Bool){C:NB}{L:List It}(e:ItOk C L)(c:(Dq s cl C L).2.puts.length<=512):PI s (Dq s cl C L).2:=by
 have g:=a.ok.tp;refine ZjU (E:=Di s.es cl s.tp s.D) (Q:=fun st=>st.puts.length<=512->PI s st) (fun st r b hb f h d=>?_) e (s.tp+1) (by omega) (fun _=>?_) c
 ·rw[Env.put_puts,List.length_append,List.length_singleton]at d;exact(h (by omega)).put a (by omega) r b f
 ·exact⟨⟨0,s.tp%16+1,RI.start _ _ g,by show s.tp+1=_;omega⟩,fun y i=>(by cases i),List.nodup_nil,Nat.le_refl _,List.nodup_nil⟩
theorem UV(E:Env)(fn:Nat)(d:By):∀(st:Pl) (i:Nat) (xs:List Nat),JH E fn d st i xs=JB E (Dd 4 fn) (dtB d) st i xs
 | _,_,[]=>rfl
 | st,i,x::xs=>by
  show DG _ _++JH E fn d _ (i+1) xs=DG _ _++JB E _ _ _ (i+1) xs;rw[UV E fn d _ (i+1) xs]
def SubP(F st:Pl):Prop:=(∀y∈st.puts,y∈F.puts)/\∀x∈st.ps,x∈F.ps
theorem Env.put_ps_sub(E:Env)(st:Pl)(r:Nat)(b:By):∀x∈st.ps,x∈(E.put st r b).2.ps:=fun x a=>by
 unfold Env.put
 split
 ·exact a
 ·exact List.mem_append_left _ a
theorem SubP.put{E:Env}{F st:Pl}{r:Nat}{b:By}(h:SubP F (E.put st r b).2):SubP F st:=
 ⟨fun y c=>h.1 y (by rw[Env.put_puts];exact List.mem_append_left _ c),fun x a=>h.2 x (E.put_ps_sub st r b x a)⟩
theorem SubP.puts{E:Env}{F:Pl}{R:Nat->Nat}{B:NB}:∀{st:Pl} {i:Nat} {xs:List Nat},SubP F (E.puts R B st i xs)->SubP F st
 | _,_,[],h=>h
 | _,_,_::_,h=>SubP.put (SubP.puts h)
theorem SubP.ent{E:Env}{F:Pl}{C:NB}{a:By}{st:Pl}{x:It}(h:SubP F (Dy E C a st x).2):SubP F st:=by
 unfold Dy at h
 split at h
 ·exact h
 ·split at h
  ·exact h
  ·exact SubP.puts h
theorem SubP.tab{E:Env}{F:Pl}{C:NB}:∀{last:By} {st:Pl} {xs:List It},SubP F (Du E C last st xs).2->SubP F st
 | _,_,[],h=>h
 | _,_,_::_,h=>SubP.ent (SubP.tab h)
theorem SubP.idx{E:Env}{F:Pl}:∀{d below:Nat} {st:Pl} {s:By},SubP F (DC E d below st s).2->SubP F st
 | 0,_,_,_,h=>h
 | d+1,below,st,s,h=>by
  unfold DC at h
  split at h
  ·exact SubP.puts (SubP.idx h)
  ·exact h
theorem SubP.row{E:Env}{F:Pl}{kk:UInt8}{a b:Nat}{st:Pl}{s:By}(h:SubP F (Dz E kk a b st s).2):SubP F st:=
 SubP.puts (R:=Dd kk.toNat b) (B:=Dw kk s a) (i:=0) (xs:=List.range ((s.size+a-1)/a)) h
def lk(h0:Nat)(st:Pl):Pl:=⟨h0,st.puts,[]⟩
structure Lock(E E':Env)(F:Pl):Prop where
 at':∀y∈F.puts,E'.at y.1=some y.2
 new:∀x∈F.ps,E'.D[x.1]?=some x.2
 old:∀r q,E.at r=some q->E'.D[q]?=E.D[q]?
 cl:E'.cl=false
section
variable{E E':Env}{F:Pl}
theorem Lock.put(K:Lock E E' F){st:Pl}{r:Nat}{b:By}(h:SubP F (E.put st r b).2)(c:Nat):E'.put (lk c st) r b=((E.put st r b).1,lk c (E.put st r b).2):=by
 have i:(r,(E.put st r b).1)∈F.puts:=h.1 _ (by rw[Env.put_puts];exact List.mem_append_right _ (List.mem_singleton.2 rfl));have f:=K.at' _ i;have d:E'.D[(E.put st r b).1]?=some b:=by
  cases hs:E.stay r b with
  | some q=>
   have a:(E.put st r b).1=q:=by unfold Env.put;rw[hs]
   rw[a];unfold Env.stay at hs
   split at hs
   ·rename_i q' j
    split at hs
    ·rename_i g
     cases hs
     rw[K.old r q j];exact g.1
    ·cases hs
   ·cases hs
  | none=>
   have a:E.put st r b=(DI E.nd 96 st.hd%1536,⟨DI E.nd 96 st.hd%1536+1,st.puts++[(r,DI E.nd 96 st.hd%1536)],st.ps++[(DI E.nd 96 st.hd%1536,b)]⟩):=by unfold Env.put;rw[hs]
   rw[a]at h ⊢;exact K.new _ (h.2 _ (List.mem_append_right _ (List.mem_singleton.2 rfl)))
 have k:E'.stay r b=some (E.put st r b).1:=by
  unfold Env.stay;rw[f];simp only;rw[if_pos ⟨d,fun e=>by rw[K.cl]at e;cases e.1⟩]
 show(match E'.stay r b with|some q=>_|none=>_)=_;rw[k];show(_,(⟨c,st.puts++[(r,(E.put st r b).1)],[]⟩:Pl))=_;unfold lk;rw[Env.put_puts]
theorem Lock.puts(K:Lock E E' F)(R:Nat->Nat)(B:NB)(a:Nat):∀(st:Pl) (i:Nat) (xs:List Nat),SubP F (E.puts R B st i xs)->E'.puts R B (lk a st) i xs=lk a (E.puts R B st i xs)/\JB E' R B (lk a st) i xs=JB E R B st i xs
 | _,_,[],_=>⟨rfl,rfl⟩
 | st,i,x::xs,h=>by
  have b:=K.put (SubP.puts h) a;obtain⟨c,d⟩:=K.puts R B a (E.put st (R i) (B x)).2 (i+1) xs h;constructor
  ·show E'.puts R B (E'.put (lk a st) (R i) (B x)).2 (i+1) xs=_;rw[b];exact c
  ·show DG (E'.put (lk a st) (R i) (B x)).1 _++JB E' R B (E'.put (lk a st) (R i) (B x)).2 (i+1) xs=_;rw[b];show DG (E.put st (R i) (B x)).1 _++JB E' R B (lk a (E.put st (R i) (B x)).2) (i+1) xs=_;rw[d];rfl
theorem Lock.ent(K:Lock E E' F)(C:NB)(a:By)(b:Nat)(st:Pl)(x:It)(h:SubP F (Dy E C a st x).2):Dy E' C a (lk b st) x=((Dy E C a st x).1,lk b (Dy E C a st x).2):=by
 unfold Dy at h ⊢
 split
 ·rfl
 ·rename_i e;rw[if_neg e]at h
  split
  ·rfl
  ·rename_i f;rw[if_neg f]at h;obtain⟨c,d⟩:=K.puts (Dd 4 x.f) (dtB (C x.f)) b st 0 (List.range (nBl (C x.f))) h;rw[c,UV,UV,d]
theorem Lock.tab(K:Lock E E' F)(C:NB)(a:Nat):∀(last:By) (st:Pl) (xs:List It),SubP F (Du E C last st xs).2->Du E' C last (lk a st) xs=((Du E C last st xs).1,lk a (Du E C last st xs).2)
 | _,_,[],_=>rfl
 | last,st,x::xs,h=>by
  have b:=K.ent C last a st x (SubP.tab h);have ih:=K.tab C a (jn x.ns) (Dy E C last st x).2 xs h;show((Dy E' C last (lk a st) x).1++(Du E' C (jn x.ns) (Dy E' C last (lk a st) x).2 xs).1,(Du E' C (jn x.ns) (Dy E' C last (lk a st) x).2 xs).2)=_;rw[b];show((Dy E C last st x).1++(Du E' C (jn x.ns) (lk a (Dy E C last st x).2) xs).1,(Du E' C (jn x.ns) (lk a (Dy E C last st x).2) xs).2)=_;rw[ih];rfl
theorem Lock.row(K:Lock E E' F)(kk:UInt8)(a b:Nat)(c:Nat)(st:Pl)(s:By)(h:SubP F (Dz E kk a b st s).2):Dz E' kk a b (lk c st) s=((Dz E kk a b st s).1,lk c (Dz E kk a b st s).2):=by
 obtain⟨d,e⟩:=K.puts (Dd kk.toNat b) (Dw kk s a) c st 0 (List.range ((s.size+a-1)/a)) h;unfold Dz;rw[d,e]
theorem Lock.idx(K:Lock E E' F)(a:Nat):∀(d below:Nat) (st:Pl) (s:By),SubP F (DC E d below st s).2->DC E' d below (lk a st) s=((DC E d below st s).1,lk a (DC E d below st s).2)
 | 0,_,_,_,_=>rfl
 | d+1,below,st,s,h=>by
  unfold DC at h ⊢
  split
  ·rename_i c;rw[if_pos c]at h;have b:=K.row 2 60 below a st s (SubP.idx h);rw[b];exact K.idx a d (below+1) _ _ h
  ·rfl
end
theorem Lock.keep{E b:Env}{F:Pl}(K:Lock E b F)(C:NB)(a:Nat)(st:Pl)(L:List It)(h:SubP F (Jt E C st L).2):Jt b C (lk a st) L=((Jt E C st L).1,lk a (Jt E C st L).2):=by
 obtain⟨T,f⟩:∃T,T=Du E C ⟨#[]⟩ st L:=⟨_,rfl⟩;obtain⟨R,c⟩:∃R,R=Dz E 3 63 0 T.2 (T.1++⟨#[0]⟩):=⟨_,rfl⟩;have e:Jt E C st L=DC E 8 1 R.2 R.1:=by rw[c,f];rfl
 rw[e]at h ⊢;have d:SubP F R.2:=SubP.idx h;have k:SubP F T.2:=by rw[c]at d;exact SubP.row d
 have i:=K.tab C a ⟨#[]⟩ st L (by rw[<-f];exact k);rw[<-f]at i;have g:=K.row 3 63 0 a T.2 (T.1++⟨#[0]⟩) (by rw[<-c];exact d);rw[<-c]at g;have j:Jt b C (lk a st) L=DC b 8 1 (lk a R.2) R.1:=by
  unfold Jt;rw[i];show DC b 8 1 (Dz b 3 63 0 (lk a T.2) (T.1++⟨#[0]⟩)).2 (Dz b 3 63 0 (lk a T.2) (T.1++⟨#[0]⟩)).1=_;rw[g]
 rw[j];exact K.idx a 8 1 R.2 R.1 h
theorem Un:∀(qs:LB) (D:LY) (p:Nat),p∉qs.map (·.1)->(Jv D qs)[p]?=D[p]?
 | [],_,_,_=>rfl
 | x::qs,D,p,h=>by
  rw[List.map_cons,List.mem_cons,not_or]at h;show(Jv (D.set x.1 x.2) qs)[p]? = _;rw[Un qs _ p h.2,List.getElem?_set_ne (fun e=>h.1 e.symm)]
theorem QN:∀(qs:LB) (D:LY),(Jv D qs).length=D.length
 | [],_=>rfl
 | x::qs,D=>by
  show(Jv (D.set x.1 x.2) qs).length=_;rw[QN qs,List.length_set]
theorem ZgB:∀(qs:LB) (D:LY),(qs.map (·.1)).Nodup->(∀x∈qs,x.1<D.length)->∀x∈qs,(Jv D qs)[x.1]?=some x.2
 | [],_,_,_,x,a=>by cases a
 | y::qs,D,hn,hl,x,a=>by
  rw[List.map_cons,List.nodup_cons]at hn;show(Jv (D.set y.1 y.2) qs)[x.1]? = _;rcases List.mem_cons.1 a with rfl|a
  ·rw[Un qs _ _ hn.1,List.getElem?_set_self (hl _ (by simp))]
  ·exact ZgB qs _ hn.2 (fun z b=>by rw[List.length_set];exact hl z (List.mem_cons_of_mem _ b)) x a
structure Stands(s:KS)(C:NB)(L:List It):Prop where
 ps:(Dq s false C L).2.ps=[]
 es:EsOf (Dq s false C L).2.puts s.es
 tp:rdP (Dq s false C L).1=s.tp
 tx:rdX (Dq s false C L).1=s.tx
theorem EsOf.at{b:List (Nat×Nat)}{es:LI}(h:EsOf b es)(g:(b.map (·.1)).Nodup)(cl:Bool)(j:Nat)(D:LY){y:Nat×Nat}(c:y∈b):(Di es cl j D).at y.1=some y.2:=by
 unfold Env.at;have f:((y.1:Int),(y.2:Int))∈es:=(h.2.2 _).2 ⟨y,c,rfl⟩
 cases hf:es.find? (fun x=>x.1==(y.1:Int)) with
 | none=>exact absurd f (fun e=>by have:=List.find?_eq_none.1 hf _ e;simp at this)
 | some z=>
  show(es.find? (fun x=>x.1==(y.1:Int))).map _=_;rw[hf];have d:=List.find?_some hf;obtain⟨u,i,rfl⟩:=(h.2.2 z).1 (List.mem_of_find?_eq_some hf);simp only[beq_iff_eq]at d;have:u.2=y.2:=Qx g (a:=u.1) (by exact i) (by rw[show u.1=y.1 by omega];exact c);simp[this]
theorem Stands.keep{mf:Nat}{s a:KS}(b:InvS s){C:NB}{L:List It}(t:ItOk C L){cl:Bool}(g:DJ mf s C L=Dq s cl C L)(G:(Dq s cl C L).2.puts.length<=512)
  (l:EsOf (DJ mf s C L).2.puts a.es) (w:a.tp=rdP (DJ mf s C L).1) (A:a.tx=rdX (DJ mf s C L).1) (B:a.D=(Jv s.D (DJ mf s C L).2.ps).set ((s.tn+1)%2) (ckB (s.tn+1) a.tp a.tx)):
  Stands a C L/\(Dq a false C L).1=(DJ mf s C L).1/\(Dq a false C L).2.puts=(DJ mf s C L).2.puts:=by
 have d:=PI.all b cl t G;have k:=QB t (Di s.es cl s.tp s.D) (b.ok.env cl) (s.tp+1) (by have:=b.ok.tp;omega);change ZoF (Dq s cl C L) at k;rw[<-g]at d k;obtain⟨j,o,i,_⟩:=d.ri;have E:∀x∈(DJ mf s C L).2.ps,16<=x.1:=fun x f=>by
  obtain⟨m1,K⟩:=i.mem x.1 (List.mem_map.2 ⟨x,f,rfl⟩);have aa:=b.tp;rcases K with⟨_,q,_⟩|⟨_,q,_⟩
  ·omega
  ·rcases Nat.lt_or_ge x.1 16 with e|e
   ·have v:x.1/16=0:=by omega
    rw[v]at q;have hn:=Zcp s.es 0;unfold Dg at q;simp at q;omega
   ·exact e
 have u:∀p,16<=p->a.D[p]?=(Jv s.D (DJ mf s C L).2.ps)[p]? := fun p d=>by rw[B,List.getElem?_set_ne (by omega)]
 have D:Lock (Di s.es cl s.tp s.D) (Di a.es false a.tp a.D) (DJ mf s C L).2:=by
  refine⟨fun y I=>l.at d.rol false _ _ I,fun x f=>?_,fun r q H=>?_,rfl⟩
  ·show a.D[x.1]? = _;rw[u _ (E x f)];exact ZgB _ _ i.nd' (fun z J=>by rw[b.ok.dl];exact(k.pl.2 z J).1) x f
  ·show a.D[q]?=s.D[q]?;have n:=((b.ok.env cl).at_some H).1;have m:=b.lo _ n;simp only[Int.toNat_natCast]at m;rw[u q m,Un _ _ _ (fun e=>i.not_es b e _ n)]
 have F:=D.keep C (a.tp+1) ⟨s.tp+1,[],[]⟩ L (by
  show SubP _ (Dq s cl C L).2;rw[<-g];exact⟨fun _ h=>h,fun _ h=>h⟩)
 have c:Dq a false C L=((DJ mf s C L).1,lk (a.tp+1) (DJ mf s C L).2):=by rw[g];exact F
 refine⟨⟨by rw[c];rfl,by rw[c];exact l,by rw[c];exact w.symm,by rw[c];exact A.symm⟩,by rw[c],by rw[c];rfl⟩
theorem fields207 : (Tryz.prog.fieldsOf 207).toList.map (fun f => (f.name, f.type, f.offset)) = [("Place", 3, 0), ("Block", 188, 1)] := by kernel_rfl
theorem ZnF:Tryz.prog.underlying 207=some (.struct (Tryz.prog.fieldsOf 207)):=by kernel_rfl
theorem Zog:Tryz.prog.stoodInHeld 207=false:=by kernel_rfl
theorem ZmJ:Tryz.prog.eqGuardType Tryz.prog.depth 207=false:=by kernel_rfl
theorem part3(w:World)(xs:Array Value)(k:Nat)(v:Value)(h:xs[k]?=some v):(part 3 xs k).run Tryz.prog w = .ok v w:=by
 simp[part,isAgg,run_underlying Tryz.underlying3,h]
theorem ZkU(w:World)(p:Nat)(s:By)(b:s.size=64):(part 188 (pcL p s).toArray 1).run Tryz.prog w = .ok (Dx s) w:=by
 obtain⟨i0,a,aa,c,ab⟩:=info_parts UK;have e:(pcL p s).toArray.extract 1 (1+64)=(Dc s).toArray:=by
  apply Array.ext';simp only[Array.toList_extract,List.extract_eq_take_drop];show List.take (1+64-1) (List.drop 1 (.int .i64 (p:Nat)::Dc s))=Dc s;rw[List.drop_succ_cons,List.drop_zero,List.take_of_length_le (by rw[Dh,b];decide)]
 simp[part,isAgg,run_underlying UB,sizeOf,typeInfo,a,c,Dx]
 first|exact e|(rw[e])|(simpa using e)
theorem list2{α : Type}{l:List α}(h:l.length=2):∃a b,l=[a,b]:=by
 match l,h with
 | [a,b],_=>exact⟨a,b,rfl⟩
theorem eqF2 {P : Program} (w : World) (d : Nat) (xs ys : Array Value) (f0 f1 : Field) (n0 : f0.name ≠ "_") (n1 : f1.name ≠ "_") (u0 u1 v0 v1 : Value) (r0 r1 : Bool)
  (hx0:(part f0.type xs f0.offset).run P w = .ok u0 w) (hy0:(part f0.type ys f0.offset).run P w = .ok v0 w) (e0:(Op.equalIn d f0.type u0 v0).run P w = .ok r0 w)
  (hx1:(part f1.type xs f1.offset).run P w = .ok u1 w) (hy1:(part f1.type ys f1.offset).run P w = .ok v1 w) (e1:(Op.equalIn d f1.type u1 v1).run P w = .ok r1 w):
  (Op.eqFields d xs ys [f0,f1]).run P w = .ok (r0 && r1) w:=by
 unfold Op.eqFields;rw[if_pos n0];simp only[Sem.run_bind,hx0,hy0,e0,Result.andThen_ok]
 cases r0
 ·simp
 ·simp only[Bool.not_true,Bool.false_eq_true,if_false];unfold Op.eqFields;rw[if_pos n1];simp only[Sem.run_bind,hx1,hy1,e1,Result.andThen_ok]
  cases r1
  ·simp
  ·simp[Op.eqFields]
theorem eql207(w:World)(a b:Nat)(s t:By)(k:s.size=64)(l:t.size=64):(binOp .eql 207 (pcV a s) (pcV b t)).run Tryz.prog w = .ok (.bool (decide (a=b/\s=t))) w:=by
 obtain⟨f,i⟩:∃f,f=(Tryz.prog.fieldsOf 207).toList:=⟨_,rfl⟩;have e:=fields207;rw[<-i]at e;obtain⟨q,r,j⟩:=list2 (show f.length=2 by have:=congrArg List.length e;simpa using this);rw[j]at e;simp only[List.map_cons,List.map_nil,List.cons.injEq,Prod.mk.injEq,and_true]at e;obtain⟨⟨y,t0,m⟩,⟨z,t1,n⟩⟩:=e;have o:∀(c:Nat) (u:By),(part 3 (pcL c u).toArray 0).run Tryz.prog w = .ok (.int .i64 (c:Nat)) w:=fun c u=>part3 w _ 0 _ (by simp[pcL])
 have v:(Op.equalIn 9999 3 (.int .i64 (a:Nat)) (.int .i64 (b:Nat))).run Tryz.prog w = .ok (((a:Nat):Int)==((b:Nat):Int)) w:=run_equalIn_int w 9998 3 .i64 .i64 _ _ Tryz.underlying3;have p:(Op.equalIn 9999 188 (Dx s) (Dx t)).run Tryz.prog w = .ok (decide (s=t)) w:=by
  rw[U9,U9,run_equalIn_bytes w 9997 188 5 64 UB Tryz.underlying5 (fun w=>by kernel_rfl) s.data.toList t.data.toList (by rw[Array.length_toList];exact k) (by rw[Array.length_toList];exact l)]
  congr 1
  rw[Bool.eq_iff_iff,beq_iff_eq,decide_eq_true_eq];exact⟨fun h=>WideShapes.bytes_inj h,fun h=>by rw[h]⟩
 have A:=ZkU w a s k;have B:=ZkU w b t l;have x:(Op.eqFields 9999 (pcL a s).toArray (pcL b t).toArray f).run Tryz.prog w = .ok (decide (a=b/\s=t)) w:=by
  rw[j,eqF2 w 9999 _ _ q r (by rw[y];decide) (by rw[z];decide) _ _ _ _ _ _ (by rw[t0,m];exact o a s) (by rw[t0,m];exact o b t) (by rw[t0];exact v) (by rw[t1,n];exact A) (by rw[t1,n];exact B) (by rw[t1];exact p)]
  congr 1
  rw[Bool.eq_iff_iff,Bool.and_eq_true,beq_iff_eq,decide_eq_true_eq,decide_eq_true_eq];constructor
  ·rintro⟨g,d⟩;exact⟨by omega,d⟩
  ·rintro⟨g,d⟩;exact⟨by omega,d⟩
 have g:=run_eql_struct (P:=Tryz.prog) w 207 (pcL a s).toArray (pcL b t).toArray;have d:=run_equalIn_struct (P:=Tryz.prog) w 9999 207 (pcL a s).toArray (pcL b t).toArray ZnF Zog;rw[<-i,x]at d;unfold pcV;rw[g,d]
 rfl
def ckR(s:By):By:=s.extract 5 64
def ckT(s:By):Nat:=DM (Dj (ckR s) 8).data.toList
def ckQ(s:By):By:=(ckR s).extract 8 (ckR s).size
theorem ckT_lt(s:By):ckT s<18446744073709551616:=by
 have:=QC (Dj (ckR s) 8).data.toList;rw[Array.length_toList,show(Dj (ckR s) 8).data.size=8 from Jc _ 8]at this;exact this
theorem ZkN(s:By):rdX s<18446744073709551616:=by
 have:=QC (Dj (s.extract 2 s.size) 8).data.toList;rw[Array.length_toList,show(Dj (s.extract 2 s.size) 8).data.size=8 from Jc _ 8]at this;exact this
def KM(i:Nat)(s:By):Bool:=decide (ckT s%2=i/\ckB (ckT s) (rdP (ckQ s)) (rdX (ckQ s))=s)
def Zes(w:World)(i:Nat)(s:By)(e:Ending)(w':World):Prop:=
 e = .returned (.tuple #[.agg #[.int .u64 (ckT s:Nat),.int .i64 (rdP (ckQ s):Nat),.int .u64 (rdX (ckQ s):Nat)],.bool (KM i s)])/\Below w.heap.size w w'
theorem Zfj(w:World)(E:Nat)(vf vw ve:Value)(a:OA)(l c:Nat)(D:LY)(h:DO w E vf (.slice a l c) vw ve D)(i:Nat)(s:By)(hi:D[i]?=some s):
  Calls Tryz.prog 201 #[.pointer (some ⟨E,0,none⟩),.int .i64 i] w (Zes w i s):=by
 have R:s.size=64:=h.2.1.2 s (List.mem_of_getElem? hi);obtain⟨W1,e1,x1,k1,s1,C⟩:=De w [.int .u64 0,.int .i64 0,.int .u64 0] 191;have an:DO W1 E vf (.slice a l c) vw ve D:=⟨k1 _ _ _ h.1,⟨h.2.1.1.kept (fun k Q _=>C.block k Q),h.2.1.2⟩,h.2.2⟩;obtain⟨T,H⟩:∃T,T=ckT s:=⟨_,rfl⟩;obtain⟨f,G⟩:∃T,T=rdP (ckQ s):=⟨_,rfl⟩;obtain⟨g,L⟩:∃T,T=rdX (ckQ s):=⟨_,rfl⟩;obtain⟨VB,aa⟩:∃V,V=Dx s:=⟨_,rfl⟩;obtain⟨VK,ac⟩:∃V,V=pcV (T%2) (ckB T f g):=⟨_,rfl⟩;obtain⟨VI,ab⟩:∃V,V=pcV i s:=⟨_,rfl⟩;obtain⟨OK,ag⟩:∃b,b=KM i s:=⟨_,rfl⟩;have aC:Hid (∀V x y,(eqGuard .eql 207 x y VK VI).run Tryz.prog V = .ok () V):=fun V x y=>by
  rw[ac,ab];exact run_eqGuard_agg (P:=Tryz.prog) V .eql 207 x y _ _ ZmJ
 have aD:Hid (∀V,(binOp .eql 207 VK VI).run Tryz.prog V = .ok (.bool OK) V):=fun V=>by
  rw[ac,ab,eql207 V _ _ _ _ (U5 _ _ _) R,ag,H,G,L];rfl
 have aA:Hid (Tryz.prog.built 207 [(0,.int .i64 (i:Nat)),(1,VB)]=some (pcL i s).toArray):=by rw[aa];exact Q1 i s R
 have aH:=Db ab;have am:=Db aa;have HA:Hid (Calls Tryz.prog 239 #[.pointer (some ⟨E,0,none⟩),.int .i64 i] W1 fun e X=>e = .returned VB/\∃Y Z,X.alloc (.cells (Dc (Dp 64)).toArray 188)=Y/\RowIs Y X.heap.size 188 (Dc (Dp 64))/\Y.setRow X.heap.size (Dc s).toArray=Z/\∃U,Z.alloc (.cells #[.slice (some ⟨X.heap.size,5,none⟩) 59 59] 287)=U/\
   Hid (Calls Tryz.prog 240 #[.pointer (some ⟨Z.heap.size,0,none⟩),.int .i64 8] U fun e r=>e = .returned (.int .u64 (T:Nat))/\Hid (Calls Tryz.prog 238 #[.pointer (some ⟨Z.heap.size,0,none⟩)] r fun e d=>e = .returned (.agg #[.int .i64 (f:Nat),.int .u64 (g:Nat)])/\∃q,d.alloc (.cells #[.int .u64 (T:Nat),.int .i64 (f:Nat),.int .u64 (g:Nat)] 191)=q/\
    q.cell? ⟨d.heap.size,0,none⟩=some (.int .u64 (T:Nat))/\q.cell? ⟨d.heap.size,1,none⟩=some (.int .i64 (f:Nat))/\q.cell? ⟨d.heap.size,2,none⟩=some (.int .u64 (g:Nat))/\q.rangeAt X.heap.size 0 (Dc s)/\
    Hid (Calls Tryz.prog 160 #[.agg #[.int .u64 (T:Nat),.int .i64 (f:Nat),.int .u64 (g:Nat)]] q.drew fun e m=>e = .returned VK/\(m.cell? ⟨d.heap.size,0,none⟩=some (.int .u64 (T:Nat))/\m.cell? ⟨d.heap.size,1,none⟩=some (.int .i64 (f:Nat))/\m.cell? ⟨d.heap.size,2,none⟩=some (.int .u64 (g:Nat))/\m.rangeAt X.heap.size 0 (Dc s))/\RowIs m w.heap.size 191 [.int .u64 0,.int .i64 0,.int .u64 0]/\Hid (Below w.heap.size w m)/\Hid (w.heap.size≠d.heap.size/\w.heap.size≠X.heap.size))))):=by
  refine(Qr W1 E vf vw ve a l c D an i s hi).mono ?_;rintro e X ⟨rfl,J⟩;obtain⟨Y,eY,xY,kY,sY,bY⟩:=De X (Dc (Dp 64)) 188;have aY:=J.size;have xZ:RowIs (Y.setRow X.heap.size (Dc s).toArray) X.heap.size 188 (Dc s):=setRow_heap Y _ _ _ 188 _ xY;have bZ:Below X.heap.size X (Y.setRow X.heap.size (Dc s).toArray):=bY.trans ⟨rfl,rfl,rfl,by simp,fun j hj=>setRow_other Y _ j _ (by omega)⟩;obtain⟨Z,B⟩:∃Z,Y.setRow X.heap.size (Dc s).toArray=Z:=⟨_,rfl⟩;rw[B]at xZ bZ;have sZ:Z.heap.size=X.heap.size+1:=by rw[<-B];simp[World.setRow,sY]
  obtain⟨U,eU,xU,kU,sU,bU⟩:=De Z [.slice (some ⟨X.heap.size,5,none⟩) 59 59] 287;have aP:Below w.heap.size w U:=C.trans ((J.mono (by omega)).trans ((bZ.mono (by omega)).trans (bU.mono (by omega))));have y1:RowIs U w.heap.size 191 [.int .u64 0,.int .i64 0,.int .u64 0]:=(bU.block _ (by omega)).trans ((bZ.block _ (by omega)).trans ((J.block _ x1.lt).trans x1));have yB:RowIs U X.heap.size 188 (Dc s):=kU _ _ _ xZ;have aO:RdB U (some ⟨X.heap.size,5,none⟩) 59 59 (ckR s):=by
   refine⟨by unfold ckR;rw[ByteArray.size_extract,R];rfl,fun e=>(by cases e),fun j v n=>⟨_,rfl,?_⟩⟩;rw[Addr.add_lit,yB.cell];unfold ckR at n;rw[Jn,List.getElem?_take]at n
   split at n
   ·rw[List.getElem?_drop]at n;exact n
   ·cases n
  have av:∀x,some (⟨X.heap.size,5,none⟩:Addr)=some x->x.block≠Z.heap.size:=fun x e=>by cases e;show X.heap.size≠Z.heap.size;omega
  refine⟨by rw[aa],Y,Z,eY,xY,B,U,eU,?_⟩;refine(Zcn U Z.heap.size _ 59 59 (ckR s) xU aO (Nat.le_refl _) av 8 (by omega) (by omega)).mono ?_;rintro e r ⟨rfl,a2,c2,q1,q2,q3,q4,u⟩;refine⟨by rw[H];rfl,?_⟩;have aN:∀x,a2=some x->x.block≠Z.heap.size:=fun x e=>by obtain⟨y,e2,e3⟩:=q4 x e;rw[<-e3];exact av y e2
  have aZ:=u.size;refine(UU r Z.heap.size a2 (59-8) c2 _ q1 q2 q3 aN (by omega)).mono ?_;rintro e d ⟨rfl,a3,c3,r1,r2,r3,r4,z⟩;obtain⟨q,aL,W,ax,a1,aK⟩:=De d [.int .u64 (T:Nat),.int .i64 (f:Nat),.int .u64 (g:Nat)] 191;have a0:=z.size;have aS:RowIs r X.heap.size 188 (Dc s):=yB.fr u (show ¬X.heap.size=Z.heap.size by omega);have aT:RowIs d X.heap.size 188 (Dc s):=aS.fr z (show ¬X.heap.size=Z.heap.size by omega);have ai:=ax _ _ _ aT;have aQ:RowIs r w.heap.size 191 _:=y1.fr u (show ¬w.heap.size=Z.heap.size by omega);have aR:RowIs d w.heap.size 191 _:=aQ.fr z (show ¬w.heap.size=Z.heap.size by omega);have ay:=ax _ _ _ aR;have aw:Below w.heap.size w q:=by
   have h1:Below w.heap.size U r:=⟨u.os,u.tape,u.output,u.size,fun k Q=>u.block k (by omega) (by omega)⟩;have h2:Below w.heap.size r d:=⟨z.os,z.tape,z.output,z.size,fun k Q=>z.block k (by omega) (by omega)⟩;exact aP.trans (h1.trans (h2.trans (aK.mono (by omega))))
  refine⟨by rw[G,L];rfl,q,aL,(W.cell 0).trans rfl,(W.cell 1).trans rfl,(W.cell 2).trans rfl,fun j v n=>by rw[ai.cell,Nat.zero_add];exact n,?_⟩;refine(Zee q.drew T f g (by rw[H];exact ckT_lt s) (by rw[G];exact ZkO _) (by rw[L];exact ZkN _)).mono ?_;rintro e m ⟨rfl,M⟩;have ad:Below q.heap.size q m:=⟨M.os,M.tape,M.output,M.size,M.block⟩;have z3:RowIs m d.heap.size 191 _:=(ad.block _ W.lt).trans W;have zB:RowIs m X.heap.size 188 (Dc s):=(ad.block _ ai.lt).trans ai;exact⟨by rw[ac],⟨(z3.cell 0).trans rfl,(z3.cell 1).trans rfl,(z3.cell 2).trans rfl,fun j v n=>by rw[zB.cell,Nat.zero_add];exact n⟩,(ad.block _ ay.lt).trans ay,aw.trans (ad.mono aw.size),by omega,by omega⟩
 have aq:(Dc s).length=64:=by rw[Dh,R]
 have af:=Db aq;have aB:=Db e1;have ak:Hid (Zes w i s=fun e w'=>e = .returned (.tuple #[.agg #[.int .u64 (T:Nat),.int .i64 (f:Nat),.int .u64 (g:Nat)],.bool OK])/\Below w.heap.size w w'):=by show _=_;unfold Zes;rw[H,G,L,ag]
 rw[Da ak];have aU:=Db (Zg5 (T:Nat) (f:Nat) (g:Nat));clear ak e1 x1 k1 s1 C an h hi H G L aa ac ab ag R aq;go_enter Tryz.func201,Tryz.ntmps201;go_upto_region 1 with fail;rw[show w.alloc (.cells #[.int .u64 0,.int .i64 0,.int .u64 0] 191)=W1 from Da aB];go_upto_region 2 with(first|(go_at_call 239;refine(Da HA).mono ?_;rintro e X ⟨rfl,Y,Z,hY,xY,B,U,hU,HB⟩;have HY:=Db hY;have aJ:=Db xY;have HZ:=Db B;have HU:=Db hU;clear hY xY B hU)|(refine JO rfl 188 rfl Kn ?_;rw[show X.alloc (.cells (Dc (Dp 64)).toArray 188)=Y from Da HY])|(refine wpList_store_row rfl 188 _ _ rfl X.heap.size (Dc s).toArray rfl (Da am) 188 _ (Da aJ) (by rw[D7];simp[Da af]) (by simp[Da af,Dh,Jq]) (KF _) ?_;rw[Da HZ]));go_upto_region 3 with fail;rw[show Z.alloc (.cells #[.slice (some ⟨X.heap.size,5,none⟩) 59 59] 287)=U from Da HU];go_upto_region 4 with(first|(go_at_call 240;refine(Da HB).mono ?_;rintro e r ⟨rfl,HC⟩)|(go_at_call 238;refine(Da HC).mono ?_;rintro e d ⟨rfl,q,ao,u0,u1,u2,ur,HP⟩;have aE:=Db ao;have aF:=Db ur;clear ao ur));rw[show d.alloc (.cells #[.int .u64 (T:Nat),.int .i64 (f:Nat),.int .u64 (g:Nat)] 191)=q from Da aE];refine wp_region_held_drew (S:=fun V=>V.cell? ⟨d.heap.size,0,none⟩=some (.int .u64 (T:Nat))/\V.cell? ⟨d.heap.size,1,none⟩=some (.int .i64 (f:Nat))/\V.cell? ⟨d.heap.size,2,none⟩=some (.int .u64 (g:Nat))/\V.rangeAt X.heap.size 0 (Dc s)) (by kernel_rfl) ⟨u0,u1,u2,Da aF⟩ (fun aX=>?_);refine tk 0 ?_;try simp only[pE];refine tk 1 ?_;try simp only[pE];refine tk 3 ?_;try simp only[pE];refine wpAnyH_take (i:=4) (v:=VB) rfl (by kernel_rfl) (by kernel_rfl) (by kernel_rfl) (fun _ _ _ h=>h) (by rw[Da am];exact yieldsIf_load_mid (by rfl) 188 _ rfl X.heap.size 0 rfl (Dc s) _ (fun X J=>J.2.2.2) JF rfl (by rw[D7,Da af])) (by assumption) ?_
 (try simp only[pE])
 refine wpAnyH_take (i:=5) (v:=VI) rfl (by kernel_rfl) (by kernel_rfl) (by kernel_rfl) (fun _ _ _ h=>h) (Or.inl ⟨by rfl,fun V _=>by rw[Da aH];exact Zct V 207 0 1 _ _ rfl (.int .i64 (i:Nat)) VB rfl rfl (Da aA)⟩) (by assumption) ?_
 (try simp only[pE])
 refine rk 2 (fun K F=>?_);go_simp;go_at_call 160;refine(Da HP).mono ?_;rintro e m ⟨rfl,O,A,aj,al⟩;go_wp2_with fail;refine F.out _ _ O (fun aV=>?_);clear F K
 (try simp only[pE])
 refine wpAnyH_take (i:=6) (v := .bool OK) rfl (by kernel_rfl) (by kernel_rfl) (by kernel_rfl) (fun _ _ _ h=>h) (Or.inl ⟨by rfl,fun V _=>Uc V .eql 207 _ _ _ rfl VK VI rfl rfl (Da aC V _ _) (Da aD V)⟩) (by assumption) ?_
 (try simp only[pE])
 obtain⟨ae,au⟩:=Da al;have b0:=A.cell 0;have C:=A.cell 1;have b2:=A.cell 2;have g0:=A.frozen 0;have g1:=A.frozen 1;have g2:=A.frozen 2;obtain⟨t,I⟩:∃V,((m.setCell ⟨w.heap.size,0,none⟩ (.int .u64 (T:Nat))).setCell ⟨w.heap.size,1,none⟩ (.int .i64 (f:Nat))).setCell ⟨w.heap.size,2,none⟩ (.int .u64 (g:Nat))=V:=⟨_,rfl⟩;have x5:RowIs t w.heap.size 191 [.int .u64 (T:Nat),.int .i64 (f:Nat),.int .u64 (g:Nat)]:=by
  rw[<-I];exact((A.set 0 (.int .u64 (T:Nat))).set 1 (.int .i64 (f:Nat))).set 2 (.int .u64 (g:Nat))
 have ap:Below w.heap.size w t:=by
  rw[<-I];exact(((Da aj).setCell (p:=⟨w.heap.size,0,none⟩) (Nat.le_refl _) _).setCell (p:=⟨w.heap.size,1,none⟩) (Nat.le_refl _) _).setCell (p:=⟨w.heap.size,2,none⟩) (Nat.le_refl _) _
 have ar:Fr (fun k=>k=w.heap.size) m t:=by
  rw[<-I];exact(((Fr.refl (fun k=>k=w.heap.size) m).set ⟨w.heap.size,0,none⟩ (.int .u64 (T:Nat)) rfl).set ⟨w.heap.size,1,none⟩ (.int .i64 (f:Nat)) rfl).set ⟨w.heap.size,2,none⟩ (.int .u64 (g:Nat)) rfl
 have N:∀(k o:Nat) (v:Value),k≠w.heap.size->m.cell? ⟨k,o,none⟩=some v->t.cell? ⟨k,o,none⟩=some v:=fun k o v Q n=>(World.cell?_of_block (a:=⟨k,o,none⟩) (ar.block k (World.block_lt_of_cell? _ _ n) Q)).trans n
 have aM:t.cell? ⟨d.heap.size,0,none⟩=some (.int .u64 (T:Nat))/\t.cell? ⟨d.heap.size,1,none⟩=some (.int .i64 (f:Nat))/\t.cell? ⟨d.heap.size,2,none⟩=some (.int .u64 (g:Nat))/\t.rangeAt X.heap.size 0 (Dc s):=
  ⟨N _ _ _ ae.symm O.1,N _ _ _ ae.symm O.2.1,N _ _ _ ae.symm O.2.2.1,fun j v n=>N _ _ _ au.symm (O.2.2.2 j v n)⟩
 have aG:=Db I;have aI:=Db x5;have az:=Db ap;clear I x5 ap ar N ae au A aj al;refine rk 7 (fun K F=>?_);go_simp;rw[Da aG];refine F.out _ _ aM (fun aW=>?_);clear F K
 (try simp only[pE])
 refine tk 8 ?_;try simp only[pE];refine wpAnyH_done (by kernel_rfl) ?_ _;clear b0 C b2 g0 g1 g2;go_wp2;have ah:=Da aI;have r0:=ah.cell 0;have r1:=ah.cell 1;have r2:=ah.cell 2;exact bodyPost_ret (v := .tuple #[.agg #[.int .u64 (T:Nat),.int .i64 (f:Nat),.int .u64 (g:Nat)],.bool OK]) (by simp[results,Tryz.results201,go_sem,r0,r1,r2]) rfl ⟨rfl,Da az⟩
end Go.Proofs.YtaieidcohdhgpaaGreatDoor
