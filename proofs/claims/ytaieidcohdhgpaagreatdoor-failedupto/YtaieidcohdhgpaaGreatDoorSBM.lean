/- Failed. -/
import Derived.Test.YtaieidcohdhgpaaGreatDoorSBL
namespace Go.Proofs.YtaieidcohdhgpaaGreatDoor
set_option maxHeartbeats 40000000
set_option maxRecDepth 100000
open Go.RowKit
theorem Qe(mf:Nat)(s:KS)(C:NB)(L:List It):∃cl,DE mf s C L=Dq s cl C L/\(cl=false->¬DY (ndP (Dq s false C L).2.puts) 96<mf):=by
 unfold DE
 split
 ·exact⟨true,rfl,fun e=>by cases e⟩
 ·rename_i h;exact⟨false,rfl,fun _=>h⟩
theorem ZhP:∀{l:List (Nat×Nat)},(l.map (·.2)).Nodup->∀{a b:Nat×Nat},a∈l->b∈l->a.2=b.2->a=b
 | [],_,a,_,h,_,_=>by cases h
 | x::l,hn,a,b,ha,hb,e=>by
  rw[List.map_cons,List.nodup_cons]at hn;rcases List.mem_cons.1 ha with f|g
  ·rcases List.mem_cons.1 hb with c|d
   ·rw[f,c]
   ·exact absurd (List.mem_map.2 ⟨b,d,by rw[<-f];exact e.symm⟩) hn.1
  ·rcases List.mem_cons.1 hb with c|d
   ·exact absurd (List.mem_map.2 ⟨a,g,by rw[<-c];exact e⟩) hn.1
   ·exact ZhP hn.2 g d e
theorem RI.ge{s:KS}(b:InvS s){j o:Nat}{N:List Nat}(h:RI (Dj s.es) s.tp j o N){p:Nat}(c:p∈N):16<=p/\p<1536:=by
 obtain⟨d,f⟩:=h.mem p c;have aa:=b.tp;refine⟨?_,d⟩;rcases f with⟨_,q,_⟩|⟨_,q,_⟩
 ·omega
 ·rcases Nat.lt_or_ge p 16 with e|e
  ·have a:p/16=0:=by omega
   rw[a]at q;unfold Dj at q;simp at q;omega
  ·exact e
structure KStep(mf:Nat)(C:NB)(L:List It)(s s':KS):Prop where
 ne:(DE mf s C L).2.ps≠[]
 es:EsOf (DE mf s C L).2.puts s'.es
 tp:s'.tp=rdP (DE mf s C L).1
 tx:s'.tx=rdX (DE mf s C L).1
 tn:s'.tn=s.tn+1
 D:s'.D=(D9 s.D (DE mf s C L).2.ps).set ((s.tn+1)%2) (ckB (s.tn+1) s'.tp s'.tx)
theorem KNext.cases{mf:Nat}{C:NB}{L:List It}{s s':KS}(h:KNext mf C L s s'):((DE mf s C L).2.ps=[]/\s'=s)\/KStep mf C L s s':=
 h.imp id (fun ⟨a,b,c,d,e,f⟩=>⟨a,b,c,d,e,f⟩)
section
variable{mf:Nat}{C C0:NB}{L L0:List It}{s s':KS}
theorem KStep.w(i:KStep mf C L s s')(c:InvS s)(h:FlatL C L):InvW s':=by
 obtain⟨cl,t,_⟩:=Qe mf s C L;have hl:=h.puts s cl;have k:=PI.all c cl h.ok (by omega);have m:=Qz h.ok (Dh s.es cl s.tp s.D) (c.ok.env cl) (s.tp+1) (by have:=c.ok.tp;omega);change ZoW (Dq s cl C L) at m;obtain⟨_,_,_,_,_,_,u⟩:=Zjm c.ok cl h.ok;have d:=i.es;have n:=i.tp;have l:=i.D;rw[t]at d n l;obtain⟨j,o,p,_⟩:=k.ri;refine⟨⟨d.1,by rw[d.2.1];omega,by rw[n];exact u,by rw[l,List.length_set,Qk,c.ok.dl],fun x f=>?_⟩,fun x f y g e=>?_,fun x f=>?_⟩
 ·obtain⟨y,g,rfl⟩:=(d.2.2 x).1 f;exact⟨y.2,rfl,m.pl.1 y g⟩
 ·obtain⟨a,q,rfl⟩:=(d.2.2 x).1 f;obtain⟨b,r,rfl⟩:=(d.2.2 y).1 g;have:a=b:=ZhP k.nd q r (by have e':((a.2:Nat):Int)=((b.2:Nat):Int):=e;omega);rw[this]
 ·obtain⟨y,g,rfl⟩:=(d.2.2 x).1 f;rcases k.mem y g with e|e
  ·have:=(p.ge c e).1
   simpa using this
  ·exact c.lo _ e
theorem KStep.stands(a:KStep mf C L s s')(c:InvS s)(b:FlatL C L):Stands s' C L:=by
 obtain⟨cl,d,_⟩:=Qe mf s C L;exact(Stands.keep c b.ok d (by have:=b.puts s cl;omega) a.es a.tp a.tx a.D).1
theorem FlatL.bd(h:FlatL C L):FBd C L:=fun x a=>⟨h.ok.path x a,h.ok.num x a,h.sz x a⟩
theorem UA{E:Env}(h:EnvOk E)(r:Nat):plE E r<65536:=by
 unfold plE
 cases e:E.at r with
 | none=>show 0<_;omega
 | some q=>have:=(h.at_some e).2;show q<_;omega
theorem ZmH{b k f i:Nat}(h1:b<60000)(h2:k<60000)(h3:f<60000)(h4:i<60000):Dt b k≠Dd 4 f i:=by
 unfold Dt Dd
 split<;>omega
theorem OnD.row{t:By}{B:Nat}(h:OnD s C0 L0 t B)(d:FlatL C0 L0){b k:Nat}(f:b<60000)(g:k<60000){p:Int}(m:(((Dt b k:Nat):Int),p)∈s.es):b<=B/\k<nR (Dh s.es false s.tp s.D) t b/\p=((plE (Dh s.es false s.tp s.D) (Dt b k):Nat):Int):=by
 rcases (h.es _).1 m with⟨z,j,i,hi,e⟩|⟨a,n,c,l,e⟩
 ·rw[Prod.mk.injEq]at e;have hn:=KE (d.sz z j);exact absurd (show Dt b k=Dd 4 z.f i by have:=e.1;omega) (ZmH f g (by have:=d.num z j;omega) (by omega))
 ·rw[Prod.mk.injEq]at e;have h8:=h.rows.b8;have aa:=h.rows.ns a c;obtain⟨rfl,rfl⟩:=ZgK f (by omega) g (by omega) (show Dt b k=Dt a n by have:=e.1;omega);exact⟨c,l,e.2⟩
theorem KStep.top(l:KStep mf C L s s')(d:InvS s)(i:FlatL C L)(X:Stands s C0 L0)(u:FlatL C0 L0):s'.tp∈(DE mf s C L).2.ps.map (·.1):=by
 have M:=l.w d i;obtain⟨t1,c,f,_⟩:=(l.stands d i).on M i.ok i.k2;obtain⟨t0,T,t,_⟩:=X.on d.w u.ok u.k2;obtain⟨cl,N,_⟩:=Qe mf s C L;have F:=PI.all d cl i.ok (by have:=i.puts s cl;omega);rw[<-N]at F;obtain⟨j,o,D,_⟩:=F.ri;refine Classical.byContradiction fun Z=>?_
 have b1:=f.rows.b8;have ht:((Dt c 0:Nat):Int)=((Dt c 0:Nat):Int)/\(((Dt c 0:Nat):Int),((s'.tp:Nat):Int))∈s'.es:=⟨rfl,(f.es _).2 (.inr ⟨c,0,Nat.le_refl _,by have:=f.rows.top;omega,by rw[<-f.tp]⟩)⟩;have ac:(((Dt c 0:Nat):Int),((s'.tp:Nat):Int))∈s.es:=by
  obtain⟨y,g,e⟩:=(l.es.2.2 _).1 ht.2;rw[Prod.mk.injEq]at e;rcases F.mem y g with q|q
  ·exact absurd (by rw[show s'.tp=y.2 by have:=e.2;omega];exact q) Z
  ·rw[e.1,e.2];exact q
 obtain⟨V,_,hP⟩:=t.row u (by omega) (by omega) ac;have W:∀p:Nat,∀r:Int,(r,(p:Int))∈s.es->s'.D[p]?=s.D[p]? := fun p r v=>by
  have U:=d.lo _ v;simp only[Int.toNat_natCast]at U;rw[l.D,List.getElem?_set_ne (by omega),QD _ _ _ (fun e=>D.not_es d e _ v)]
 have P:∀b k,b<=T->k<nR (Dh s.es false s.tp s.D) t0 b->(((Dt b k:Nat):Int),((plE (Dh s.es false s.tp s.D) (Dt b k):Nat):Int))∈s.es:=fun b k m a=>(t.es _).2 (.inr ⟨b,k,m,a,rfl⟩)
 have S:=ZhH t.rows f.rows V (fun b k m a=>W _ _ (P b k m a)) (by
  show plE _ (Dt c 0)=plE _ (Dt c 0);rw[<-f.tp];omega)
 obtain⟨r,hr⟩:=Zf5 (t1:=t1) (t0:=t0) (n:=nR (Dh s'.es false s'.tp s'.D) t1 0) (by have:=f.rows.n0;have e:rwR (Dh s'.es false s'.tp s'.D) t1 0=t1:=rfl;rw[e]at this;omega) (fun k a=>(S c 0 (by omega) k a).2.2);have aa:BL (DX (Dh s'.es false s'.tp s'.D) C ⟨#[]⟩ L)++0::r=BL (DX (Dh s.es false s.tp s.D) C0 ⟨#[]⟩ L0)++0::List.replicate (63*nR (Dh s'.es false s'.tp s'.D) t1 0) 0:=by
  have J:∀s:By,BL (s++⟨#[0]⟩)=BL s++[0]:=fun s=>Jb _ _
  have O:=hr;rw[show BL t1=BL (DX (Dh s'.es false s'.tp s'.D) C ⟨#[]⟩ L++⟨#[0]⟩) from congrArg BL f.tab,show BL t0=BL (DX (Dh s.es false s.tp s.D) C0 ⟨#[]⟩ L0++⟨#[0]⟩) from congrArg BL t.tab,J,J,List.append_assoc,List.append_assoc]at O;exact O
 obtain⟨_,i2,i3⟩:=ZgF (fun r=>UA (M.ok.env false) r) (fun r=>UA (d.ok.env false) r) L L0 _ _ _ _ i.bd u.bd aa;obtain⟨x,H⟩:=List.exists_mem_of_ne_nil _ l.ne;have K:x.1∈(DE mf s C L).2.ps.map (·.1):=List.mem_map.2 ⟨x,H,rfl⟩;have G:∃r,(r,x.1)∈(DE mf s C L).2.puts:=by
  rw[N]at H ⊢;refine Zfu (E:=Dh s.es cl s.tp s.D) (Q:=fun st=>∀x∈st.ps,∃r,(r,x.1)∈st.puts) (fun st r b m h y g=>?_) C ⟨s.tp+1,[],[]⟩ L (fun y g=>(by cases g)) x H;rw[Env.put_puts];unfold Env.put at g ⊢
  split at g
  ·obtain⟨I,B⟩:=h y g;exact⟨I,List.mem_append_left _ B⟩
  ·rcases List.mem_append.1 g with e|e
   ·obtain⟨I,B⟩:=h y e;exact⟨I,List.mem_append_left _ B⟩
   ·rw[List.mem_singleton.1 e];exact⟨r,List.mem_append_right _ (List.mem_singleton.2 rfl)⟩
 obtain⟨r1,G⟩:=G;have ab:(((r1:Nat):Int),((x.1:Nat):Int))∈s'.es:=(l.es.2.2 _).2 ⟨_,G,rfl⟩;rcases (f.es _).1 ab with⟨z,R,k,a,e⟩|⟨b,k,m,a,e⟩
 ·rw[Prod.mk.injEq]at e;rw[i3 z R k a]at e;have v:(z.f,(C z.f).size)∈L0.map (fun x=>(x.f,(C0 x.f).size)):=by rw[<-i2];exact List.mem_map.2 ⟨z,R,rfl⟩
  obtain⟨w,ad,A⟩:=List.mem_map.1 v;rw[Prod.mk.injEq]at A;have Y:k<nBl (C0 w.f):=by unfold nBl at a ⊢;rw[A.2];exact a
  have:=(t.es (((Dd 4 w.f k:Nat):Int),((plE (Dh s.es false s.tp s.D) (Dd 4 w.f k):Nat):Int))).2 (.inl ⟨w,ad,k,Y,rfl⟩);rw[A.1,<-e.2]at this;exact D.not_es d K _ this
 ·rw[Prod.mk.injEq]at e;obtain⟨k1,k2,_⟩:=S (c-b) b (by omega) k a;have ae:plE (Dh s'.es false s'.tp s'.D) (Dt b k)=plE (Dh s.es false s.tp s.D) (Dt b k):=k2;have:=P b k (by omega) k1;rw[<-ae,<-e.2]at this;exact D.not_es d K _ this
theorem KStep.inv(hm:512<=mf)(g:KStep mf C L s s')(a:InvS s)(c:FlatL C L)(n:Stands s C0 L0)(m:FlatL C0 L0):InvS s':=by
 have f:=g.w a c;have k:=g.top a c n m;obtain⟨cl,F,G⟩:=Qe mf s C L;have J:=c.puts s cl;have u:=PI.all a cl c.ok (by omega);obtain⟨st0,r,b,R,i,A,p4⟩:=Zjm a.ok cl c.ok;have h:=g.es;have v:=g.tp;rw[F]at h v k;rw[<-v]at i A;obtain⟨j,o,d,H⟩:=u.ri;have ad:=a.ok.tp;have ae:=f.ok.tp;have w:(((r:Nat):Int),((s'.tp:Nat):Int))∈s'.es:=(h.2.2 _).2 ⟨_,A,rfl⟩;have I:(Dq s cl C L).2.hd=s'.tp+1:=by
  rw[R,i]
  cases hs:(Dh s.es cl s.tp s.D).stay r b with
  | none=>unfold Env.put;rw[hs]
  | some q=>
   exfalso;have D:((Dh s.es cl s.tp s.D).put st0 r b).1=q:=by unfold Env.put;rw[hs]
   have E:((r:Int),(q:Int))∈s.es:=by
    unfold Env.stay at hs
    split at hs
    ·rename_i q' N
     split at hs
     ·cases hs;exact((a.ok.env cl).at_some N).1
     ·cases hs
    ·cases hs
   rw[D]at i;rw[i]at k;exact d.not_es a k _ E
 have aa:=d.jl;have ab:=d.o1;have ac:=d.o2;rw[I]at H;refine⟨f.ok,fun x P M=>?_,f.inj,Uz w,?_,f.lo,?_⟩
 ·obtain⟨y,Q,rfl⟩:=(h.2.2 x).1 P;simp only[Int.toNat_natCast]at M ⊢;rcases u.mem y Q with e|e
  ·obtain⟨m1,z⟩:=d.mem _ e;have K:J6 (s.tp/16) y.2=j:=by unfold J6;omega
   rw[K]at z;rcases z with⟨l,_,B⟩|⟨_,_,B⟩
   ·have:=B l;omega
   ·have:y.2%16<o:=by omega
    omega
  ·have p:=a.cur _ e;have t:=Uz e;simp only[Int.toNat_natCast]at p t;rcases d.fr with⟨l,S⟩|⟨l,S⟩
   ·have:=p (by omega);omega
   ·rw[show y.2/16=(s.tp/16+j)%96 by omega]at t;omega
 ·rw[h.nd]
  cases cl with
  | false=>have:=G rfl;omega
  | true=>
   have O:s.es.length<=255:=by rw[n.es.2.1];exact m.puts s false
   exact Zkr a c.ok J O
 ·have:=f.lo _ w
  simpa using this
theorem Stays.stands(m:InvS s)(o:FlatL C L)(N:Stands s C0 L0)(t:FlatL C0 L0)(F:(Dq s false C L).2.ps=[]):Stands s C L:=by
 obtain⟨t1,l,a⟩:=Stays.on m.w o.ok o.k2 F;obtain⟨t0,B,j,Y⟩:=N.on m.w t.ok t.k2;have S:=PI.all m false o.ok (by have:=o.puts s false;omega);have v:=m.ok.env false;have b1:=a.rows.b8;have V:=(a.on l (Nat.le_refl _) 0 (by have:=a.rows.top;omega)).1;obtain⟨M,_,_⟩:=j.row t (b:=l) (k:=0) (by omega) (by omega) (v.at_some V).1;have X:=ZhH j.rows a.rows M (fun _ _ _ _=>rfl) rfl;obtain⟨r,T⟩:=Zf5 (t1:=t1) (t0:=t0) (n:=nR (Dh s.es false s.tp s.D) t1 0) (by have:=a.rows.n0;have e:rwR (Dh s.es false s.tp s.D) t1 0=t1:=rfl;rw[e]at this;omega) (fun k f=>(X l 0 (by omega) k f).2.2);have q:∀s:By,BL (s++⟨#[0]⟩)=BL s++[0]:=fun s=>Jb _ _
 have U:BL (DX (Dh s.es false s.tp s.D) C ⟨#[]⟩ L)++0::r=BL (DX (Dh s.es false s.tp s.D) C0 ⟨#[]⟩ L0)++0::List.replicate (63*nR (Dh s.es false s.tp s.D) t1 0) 0:=by
  have G:=T;rw[show BL t1=BL (DX (Dh s.es false s.tp s.D) C ⟨#[]⟩ L++⟨#[0]⟩) from congrArg BL a.tab,show BL t0=BL (DX (Dh s.es false s.tp s.D) C0 ⟨#[]⟩ L0++⟨#[0]⟩) from congrArg BL j.tab,q,q,List.append_assoc,List.append_assoc]at G;exact G
 obtain⟨W,H,_⟩:=ZgF (fun r=>UA v r) (fun r=>UA v r) L L0 _ _ _ _ o.bd t.bd U;have K:t1=t0:=KQ (by rw[show BL t1=BL (DX (Dh s.es false s.tp s.D) C ⟨#[]⟩ L++⟨#[0]⟩) from congrArg BL a.tab,show BL t0=BL (DX (Dh s.es false s.tp s.D) C0 ⟨#[]⟩ L0++⟨#[0]⟩) from congrArg BL j.tab,q,q,W]);subst K;have J:l=B:=by
  rcases Nat.lt_or_ge l B with h|h
  ·have:=Y.mn l h;have:=a.rows.top;omega
  ·omega
 subst J;have P:∀z∈L,∃c∈L0,c.f=z.f/\nBl (C0 c.f)=nBl (C z.f):=fun z g=>by
  have A:(z.f,(C z.f).size)∈L0.map (fun x=>(x.f,(C0 x.f).size)):=by rw[<-H];exact List.mem_map.2 ⟨z,g,rfl⟩
  obtain⟨c,i,d⟩:=List.mem_map.1 A;rw[Prod.mk.injEq]at d;exact⟨c,i,d.1,by unfold nBl;rw[d.2]⟩
 have Q:∀z∈L0,∃c∈L,c.f=z.f/\nBl (C c.f)=nBl (C0 z.f):=fun z g=>by
  have A:(z.f,(C0 z.f).size)∈L.map (fun x=>(x.f,(C x.f).size)):=by rw[H];exact List.mem_map.2 ⟨z,g,rfl⟩
  obtain⟨c,i,d⟩:=List.mem_map.1 A;rw[Prod.mk.injEq]at d;exact⟨c,i,d.1,by unfold nBl;rw[d.2]⟩
 have E:∀x,x∈s.es↔∃y∈(Dq s false C L).2.puts,x=((y.1:Int),(y.2:Int)):=fun x=>by
  rw[j.es];constructor
  ·rintro(⟨z,g,k,f,rfl⟩|⟨b,k,w,f,rfl⟩)
   ·obtain⟨c,i,u,I⟩:=Q z g;refine⟨_,(a.puts _).2 (.inl ⟨c,i,k,by omega,rfl⟩),?_⟩;rw[u]
   ·exact⟨_,(a.puts _).2 (.inr ⟨b,k,w,f,rfl⟩),rfl⟩
  ·rintro⟨y,p,rfl⟩;rcases (a.puts y).1 p with⟨z,g,k,f,rfl⟩|⟨b,k,w,f,rfl⟩
   ·obtain⟨c,i,u,I⟩:=P z g;refine .inl ⟨c,i,k,by omega,?_⟩;rw[u]
   ·exact .inr ⟨b,k,w,f,rfl⟩
 have O:s.es.length=(Dq s false C L).2.puts.length:=by
  have R:((Dq s false C L).2.puts.map (fun y=>((y.1:Int),(y.2:Int)))).Nodup:=by
   have D:=S.rol;rw[List.nodup_iff_pairwise_ne,List.pairwise_map]at D ⊢;refine D.imp (fun h e=>h ?_);rw[Prod.mk.injEq]at e;have:=e.1;omega
  have:=(List.perm_ext_iff_of_nodup m.ok.srt.nodup R).2 (fun x=>by
   rw[E x,List.mem_map];exact⟨fun ⟨y,p,e⟩=>⟨y,p,e.symm⟩,fun ⟨y,p,e⟩=>⟨y,p,e.symm⟩⟩)
  have:=this.length_eq
  rwa [List.length_map]at this
 exact⟨F,⟨m.ok.srt,O,E⟩,a.tp.trans j.tp.symm,a.tx.trans j.tx.symm⟩
theorem SrtR.key{es:LI}(h:SrtR es){x y:Int×Int}(d:x∈es)(f:y∈es)(e:x.1=y.1):x=y:=by
 obtain⟨i,c⟩:=List.mem_iff_getElem?.1 d;obtain⟨j,b⟩:=List.mem_iff_getElem?.1 f;rcases Nat.lt_trichotomy i j with a|a|a
 ·have:=h i j x y a c b;rw[e,KC]at this;cases this
 ·subst a;rw[c]at b;exact Option.some.inj b
 ·have:=h j i y x a b c;rw[e,KC]at this;cases this
theorem EnvOk.mem_at{E:Env}(h:EnvOk E){r q:Nat}(b:((r:Int),(q:Int))∈E.eb):E.at r=some q:=by
 cases e:E.at r with
 | none=>
  unfold Env.at at e;rw[Option.map_eq_none_iff]at e;have:=List.find?_eq_none.1 e _ b;simp at this
 | some q'=>
  have a:=h.srt.key b (h.at_some e).1 rfl;rw[Prod.mk.injEq]at a;have:=a.2;exact congrArg some (by omega)
theorem ZfW(b:InvS s)(a:FlatL C L)(h:(Dq s true C L).2.ps=[]):(Dq s false C L).2.ps=[]/\(Dq s false C L).2.puts=(Dq s true C L).2.puts:=by
 have i:=PI.all b true a.ok (by have:=a.puts s true;omega);have f:Lock (Dh s.es true s.tp s.D) (Dh s.es false s.tp s.D) (Dq s true C L).2:=by
  refine⟨fun y j=>?_,fun x c=>?_,fun r q _=>rfl,rfl⟩
  ·refine(b.ok.env false).mem_at ?_;rcases i.mem y j with e|e
   ·rw[h]at e;cases e
   ·exact e
  ·rw[h]at c;cases c
 have g:=f.keep C (s.tp+1) ⟨s.tp+1,[],[]⟩ L ⟨fun _ h=>h,fun _ h=>h⟩;have d:Dq s false C L=((Dq s true C L).1,lk (s.tp+1) (Dq s true C L).2):=g;rw[d];exact⟨rfl,rfl⟩
theorem KNext.ok(j:512<=mf)(i:KNext mf C L s s')(b:InvS s)(a:FlatL C L)(e:Stands s C0 L0)(d:FlatL C0 L0):InvS s'/\Stands s' C L/\s'.tn<=s.tn+1/\(DE mf s C L).2.ps.length<=255:=by
 obtain⟨cl,f,aa⟩:=Qe mf s C L;have g:(DE mf s C L).2.ps.length<=255:=by
  have c:=a.puts s cl;have h2:=(PI.all b cl a.ok (by omega)).le;rw[f];omega
 rcases i.cases with⟨c,rfl⟩|h
 ·refine⟨b,Stays.stands b a e d ?_,by omega,g⟩;rw[f]at c
  cases cl with
  | false=>exact c
  | true=>exact(ZfW b a c).1
 ·exact⟨h.inv j b a e d,h.stands b a,by rw[h.tn];exact Nat.le_refl _,g⟩
end
theorem BL_ckB(T p x:Nat):∃Z:List UInt8,Z.length=41/\BL (ckB T p x)=1::(BL J9++(Dz T 8++(DU p x++Z))):=by
 have f:BL (ckS T p x)=BL J9++(Dz T 8++DU p x):=by
  unfold ckS;have b:BL (Ja T 8)=Dz T 8:=Kx _;rw[Jb,Jb,b,Zjb,List.append_assoc]
 have a:(BL J9++(Dz T 8++DU p x)).length=22:=by
  rw[List.length_append,List.length_append,D5,J4];rfl
 have d:BL (ckA T p x)=1::((BL J9++(Dz T 8++DU p x))++List.replicate 41 0):=by
  unfold ckA;rw[Jb,KI,f,List.take_append,List.take_of_length_le (by omega),a,List.take_replicate]
  rfl
 unfold ckB;obtain⟨N,e⟩:∃N,N=Dp ((ckA T p x).extract 0 56):=⟨_,rfl⟩;rw[<-e];have c:BL (Ja N 8)=Dz N 8:=Kx _;refine⟨List.replicate 33 0++Dz N 8,by rw[List.length_append,D5,List.length_replicate],?_⟩;rw[Jb,c,J3,d,List.drop_zero,show 56-0=55+1 from rfl,List.take_succ_cons,List.take_append,List.take_of_length_le (by omega),a,List.take_replicate,show min (55-22) 41=33 from rfl];simp only[List.cons_append,List.append_assoc]
theorem Zi1{T p x:Nat}(d:T<18446744073709551616)(f:p<65536)(h:x<18446744073709551616):ckT (ckB T p x)=T/\rdP (ckQ (ckB T p x))=p/\rdX (ckQ (ckB T p x))=x:=by
 obtain⟨Z,a,e⟩:=BL_ckB T p x;have g:(BL J9).length=4:=rfl;have c:BL (ckR (ckB T p x))=Dz T 8++(DU p x++Z):=by
  unfold ckR;rw[J3,e,show(5:Nat)=4+1 from rfl,List.drop_succ_cons,List.drop_left' g];refine List.take_of_length_le ?_;rw[List.length_append,List.length_append,D5,J4,a]
  decide
 have i:(ckR (ckB T p x)).size=59:=by rw[<-DW,c,List.length_append,List.length_append,D5,J4,a]
 have b:BL (ckQ (ckB T p x))=DU p x++Z:=by
  unfold ckQ;rw[J3,c,i,List.drop_left' (D5 8 T)];refine List.take_of_length_le ?_;rw[List.length_append,J4,a]
  decide
 have hq:(ckQ (ckB T p x)).size=51:=by rw[<-DW,b,List.length_append,J4,a]
 refine⟨?_,?_,?_⟩
 ·show DL (BL (Di (ckR (ckB T p x)) 8))=T;rw[KI,c,List.append_assoc,List.take_left' (D5 8 T)];exact Kh 8 T d
 ·rw[Zk5 _ (by omega),b];unfold DU;rw[List.append_assoc,List.take_left' (D5 2 p)];exact Kh 2 p f
 ·rw[ZnB _ (by omega),b];unfold DU;rw[List.append_assoc,List.drop_left' (D5 2 p),List.take_left' (D5 8 x)];exact Kh 8 x h
theorem ck_ok{T p x:Nat}(d:T<18446744073709551616)(e:p<65536)(f:x<18446744073709551616):KM (T%2) (ckB T p x)=true:=by
 obtain⟨a,b,c⟩:=Zi1 d e f;unfold KM;rw[a,b,c];simp
structure InvC(s:KS):Prop where
 tx:s.tx<18446744073709551616
 tn:1<=s.tn
 own:s.D[s.tn%2]?=some (ckB s.tn s.tp s.tx)
 old:∃p x,p<65536/\x<18446744073709551616/\s.D[(s.tn+1)%2]?=some (ckB (s.tn-1) p x)
theorem InvC.last{s:KS}(h:InvC s)(ab:s.tp<1536)(aa:s.tn+1<18446744073709551616):∃s0 s1,s.D[0]?=some s0/\s.D[1]?=some s1/\KP s0 s1=some (s.tn,s.tp,s.tx):=by
 obtain⟨p,x,k,l,ho⟩:=h.old;have h1:=h.tn;obtain⟨f,g,i⟩:=Zi1 (T:=s.tn) (p:=s.tp) (x:=s.tx) (by omega) (by omega) h.tx;obtain⟨j,b2,b3⟩:=Zi1 (T:=s.tn-1) (p:=p) (x:=x) (by omega) k l;have a:=ck_ok (T:=s.tn) (p:=s.tp) (x:=s.tx) (by omega) (by omega) h.tx;have b:=ck_ok (T:=s.tn-1) (p:=p) (x:=x) (by omega) k l;rcases Nat.mod_two_eq_zero_or_one s.tn with e|e
 ·have c:(s.tn+1)%2=1:=by omega
  have d:(s.tn-1)%2=1:=by omega
  refine⟨_,_,by rw[<-e];exact h.own,by rw[<-c];exact ho,?_⟩;rw[e]at a;rw[d]at b;unfold KP;rw[if_pos ⟨a,b⟩,f,g,i,j,if_pos (by omega)]
 ·have c:(s.tn+1)%2=0:=by omega
  have d:(s.tn-1)%2=0:=by omega
  refine⟨_,_,by rw[<-c];exact ho,by rw[<-e];exact h.own,?_⟩;rw[e]at a;rw[d]at b;unfold KP;rw[if_pos ⟨b,a⟩,f,g,i,j,if_neg (by omega),if_pos (by omega)]
theorem KStep.ck{i:Nat}{C:NB}{L:List It}{s c:KS}(b:KStep i C L s c)(a:InvS s)(d:FlatL C L)(h:InvC s):InvC c:=by
 obtain⟨cl,l,_⟩:=Qe i s C L;have f:=PI.all a cl d.ok (by have:=d.puts s cl;omega);rw[<-l]at f;obtain⟨j,o,k,_⟩:=f.ri;have g:=b.tn;have m:c.tx<18446744073709551616:=by rw[b.tx];exact Zk3 _
 refine⟨m,by omega,?_,s.tp,s.tx,by have:=a.ok.tp;omega,h.tx,?_⟩
 ·rw[b.D,g,List.getElem?_set_self (by rw[Qk,a.ok.dl];omega)]
 ·rw[b.D,g,List.getElem?_set_ne (by omega),QD _ _ _ (fun e=>by have:=(k.ge a e).1;omega),show(s.tn+1+1)%2=s.tn%2 by omega,show s.tn+1-1=s.tn by omega];exact h.own
theorem KNext.ck{e:Nat}{C:NB}{L:List It}{s a:KS}(d:KNext e C L s a)(c:InvS s)(b:FlatL C L)(h:InvC s):InvC a:=by
 rcases d.cases with⟨_,rfl⟩|k
 ·exact h
 ·exact k.ck c b h
def ks0:KS:=⟨Jk,16,Dp DB,1,Jf⟩
theorem ZjH:Jf.length=1536:=by unfold Jf;rw[List.length_set,List.length_set,Qk,Ks]
theorem Zoz:Jf[16]?=some DB:=by
 unfold Jf;rw[List.getElem?_set_ne (by omega),List.getElem?_set_ne (by omega)];exact ZgD [(16,DB)] J1 (by simp) (fun x a=>by rw[List.mem_singleton.1 a,Ks];decide) (16,DB) (by simp)
theorem Zom(st:Pl):(Dh Jk false 16 Jf).put st (Dd 3 0 0) DB=(16,⟨st.hd,st.puts++[(Dd 3 0 0,16)],st.ps⟩):=by
 have a:(Dh Jk false 16 Jf).stay (Dd 3 0 0) DB=some 16:=by
  unfold Env.stay;have:(Dh Jk false 16 Jf).at (Dd 3 0 0)=some 16:=by simp[Env.at,Dh,Jk]
  rw[this];show(if _ then _ else _)=_;rw[if_pos];exact⟨Zoz,fun e=>by cases e.1⟩
 unfold Env.put;rw[a]
theorem ZmS(C:NB):Dq ks0 false C []=(DG 16 (Dp DB),⟨17,[(Dd 3 0 0,16)],[]⟩):=by
 have a:Dy (Dh Jk false 16 Jf) 3 63 0 ⟨17,[],[]⟩ (⟨#[]⟩++⟨#[0]⟩)=(DG 16 (Dp DB),⟨17,[(Dd 3 0 0,16)],[]⟩):=by
  rw[Q2];unfold Dy;rw[show((⟨#[0]⟩:By).size+63-1)/63=1 from rfl];show(DG ((Dh Jk false 16 Jf).put ⟨17,[],[]⟩ (Dd 3 0 0) DB).1 (Dp DB)++⟨#[]⟩,((Dh Jk false 16 Jf).put ⟨17,[],[]⟩ (Dd 3 0 0) DB).2)=_;rw[Ky,Zom]
  rfl
 show DF (Dh Jk false 16 Jf) 8 1 (Dy (Dh Jk false 16 Jf) 3 63 0 ⟨17,[],[]⟩ (⟨#[]⟩++⟨#[0]⟩)).2 (Dy (Dh Jk false 16 Jf) 3 63 0 ⟨17,[],[]⟩ (⟨#[]⟩++⟨#[0]⟩)).1=_;rw[a];unfold DF;rw[if_neg (by rw[K3];omega)]
theorem Qm(x:Int×Int)(h:x∈ks0.es):x=(((Dd 3 0 0:Nat):Int),((16:Nat):Int)):=List.mem_singleton.1 h
theorem Zln:SrtR ks0.es:=fun j k x y aa hj a=>by
 have:=(List.getElem?_eq_some_iff.1 a).1;have hl:ks0.es.length=1:=rfl;omega
theorem ZiL:InvS ks0:=by
 refine⟨⟨Zln,by show 1<=_;omega,by show 16<1536;omega,ZjH,fun x a=>?_⟩,fun x a _=>?_,fun x a y b _=>?_,?_,?_,fun x a=>?_,Nat.le_refl _⟩
 ·rw[Qm x a];exact⟨16,rfl,by omega⟩
 ·rw[Qm x a];exact Nat.le_refl _
 ·rw[Qm x a,Qm y b]
 ·exact Uz (x:=(((Dd 3 0 0:Nat):Int),((16:Nat):Int))) (es:=ks0.es) (List.mem_singleton.2 rfl)
 ·show 512<=DY (Dj Jk) 96;rw[show DY (Dj Jk) 96=1504 from free0];omega
 ·rw[Qm x a];exact Nat.le_refl _
theorem Zka(C:NB):Stands ks0 C []:=by
 have e:=ZmS C;refine⟨by rw[e],⟨Zln,by rw[e];rfl,fun x=>?_⟩,by rw[e];exact UO _ _ (by omega),by rw[e];exact ZiE _ _ (KA _)⟩;rw[e];constructor
 ·intro a;exact⟨_,List.mem_singleton.2 rfl,Qm x a⟩
 ·rintro⟨y,b,rfl⟩;rw[List.mem_singleton.1 b];exact List.mem_singleton.2 rfl
theorem Zlo:InvC ks0:=by
 have a:ks0.tx<18446744073709551616:=by show Dp DB<_;exact KA DB
 have b:Dp DB<18446744073709551616:=KA DB;refine⟨a,by show 1<=1;omega,?_,16,Dp DB,by omega,b,?_⟩
 ·show Jf[1]?=some (ckB 1 16 (Dp DB));unfold Jf;rw[List.getElem?_set_ne (by omega),List.getElem?_set_self (by rw[Qk,Ks];omega)]
 ·show Jf[0]?=some (ckB 0 16 (Dp DB));unfold Jf;rw[List.getElem?_set_self (by rw[List.length_set,Qk,Ks];omega)]
structure TreeOf(C:NB)(L:List It)(G:Gh)(I:LF)(CI:IB):Prop where
 g:G=L.map (fun x=>(x.ns,(⟨none,(x.f:Int)⟩:VS)))
 il:I.length=L.length
 i1:∀x∈I,x.2.f=1/\∃z∈L,x.1=(z.f:Int)/\x.2.l=(C z.f).size
 i2:∀z∈L,∃r,((z.f:Int),r)∈I
 c:∀z∈L,CI z.f=C z.f
theorem Vd(l:List Nat)(h:∀n∈l,n<=1280):DO l<=l.length*20:=by
 induction l with
 | nil=>simp[DO]
 | cons a l ih=>
  have h1:=h a (by simp);have b:=ih (fun n c=>h n (List.mem_cons_of_mem _ c));unfold DO at b ⊢;rw[List.map_cons,List.sum_cons,List.length_cons];omega
theorem Ziz{L:List It}{k:Nat}(h:k<L.length):L.take (k+1)=L.take k++[gi L k]:=by
 rw[List.take_add_one,(Kj h).1];rfl
theorem TreeOf.may{C:NB}{L:List It}(c:FlatL C L){k:Nat}(l:k<L.length){G:Gh}{I:LF}{s:IB}(h:TreeOf C (L.take k) G I s):ZnO G I (jn (gi L k).ns) (gi L k).f (C (gi L k).f).size:=by
 obtain⟨v,i⟩:=Kj l;obtain⟨n,en,hn⟩:=c.ns _ i;obtain⟨H,J,p3⟩:=c.path i;have ae:=c.le;have aa:G.length<=k:=by rw[h.g,List.length_map,List.length_take];omega
 have ab:I.length<=k:=by rw[h.il,List.length_take];omega
 have f:∀x∈L.take k,x∈L:=fun x a=>List.mem_of_mem_take a
 have d:∀x∈G,∃z∈L.take k,x=(z.ns,(⟨none,(z.f:Int)⟩:VS)):=fun x a=>by
  rw[h.g]at a;obtain⟨z,b,e⟩:=List.mem_map.1 a;exact⟨z,b,e.symm⟩
 have r:∀x∈I,x.2.l<=1280:=fun x a=>by
  obtain⟨_,z,b,_,e⟩:=h.i1 x a;rw[e];exact c.sz z (f z b)
 have g:(L.take (k+1)).map (·.ns) |>.Nodup:=by
  have:=c.nd;rw[<-List.take_append_drop (k+1) L,List.map_append,List.nodup_append]at this;exact this.1
 have B:atG G (gi L k).ns=none:=by
  unfold atG;rw[Option.map_eq_none_iff,List.find?_eq_none];intro x a;obtain⟨z,b,rfl⟩:=d x a;rw[Ziz l,List.map_append,List.nodup_append]at g;have:=g.2.2 z.ns (List.mem_map.2 ⟨z,b,rfl⟩) (gi L k).ns (by simp)
  simpa using this
 have A:GOk G:=by
  refine⟨fun x a=>?_,fun x a=>?_,fun x a=>?_,?_,fun ns n u a => .inl ?_⟩
  ·obtain⟨z,b,rfl⟩:=d x a;exact(c.nms (f z b)).1
  ·obtain⟨z,b,rfl⟩:=d x a;exact(c.nms (f z b)).2.1
  ·obtain⟨z,b,rfl⟩:=d x a;exact(c.nms (f z b)).2.2
  ·rw[h.g,List.map_map];rw[Ziz l,List.map_append,List.nodup_append]at g;exact g.1
  ·obtain⟨z,b,e⟩:=d _ a;obtain⟨m,t,_⟩:=c.ns z (f z b);rw[Prod.mk.injEq,t]at e;have:=congrArg List.length e.1;rw[List.length_append]at this
   simpa using this
 refine⟨A,by omega,by omega,fun x a=>by have:=r x a;omega,by omega,?_,?_,fun x a e=>?_,fun I1 o da dc w y q=>?_⟩
 ·unfold lgE;rw[if_neg (by rw[J];decide),H];unfold Jj;rw[B,en];show(if ahG G []≠0 then _ else _)=_;rw[if_neg (by simp[ahG]),if_neg (by simp)]
 ·unfold JD;have ac:G.countP (qIn (Df (jn (gi L k).ns)).dropLast)<=G.length:=List.countP_le_length;have D:cD G []=1:=by
   unfold cD;rw[List.countP_eq_zero.2 (fun x a=>by obtain⟨z,b,rfl⟩:=d x a;simp)]
  rw[D];exact decide_eq_true ⟨⟨by omega,by omega⟩,by omega⟩
 ·obtain⟨_,z,b,e1,_⟩:=h.i1 x a;obtain⟨j,E,p⟩:=List.mem_iff_getElem.1 b;rw[List.length_take]at E;rw[List.getElem_take]at p;have:=c.fresh v (List.getElem?_eq_some_iff.2 ⟨by omega,p⟩) (by omega);omega
 ·have ad:o.length<=8:=by rw[q.1,w];omega
  have:=Vd (o.map (·.2.l)) (fun m F=>by
   obtain⟨x,a,rfl⟩:=List.mem_map.1 F;rcases (q.2 x).1 a with rfl|⟨a,_⟩
   ·exact c.sz _ i
   ·rcases (y x).1 a with rfl|a
    ·exact Nat.zero_le _
    ·exact r x a)
  rw[List.length_map]at this;omega
theorem TreeOf.add{C:NB}{L:List It}(o:FlatL C L){k:Nat}(p:k<L.length){G:Gh}{I:LF}{i:IB}(h:TreeOf C (L.take k) G I i){f l:LF}{d:IB}{q:OA}{s:Nat}(v:f.length=I.length+1)
  (n:∀x,x∈f↔x=(((gi L k).f:Int),⟨none,0,0,1⟩)\/x∈I) (c:Jm f l ((gi L k).f:Int) ⟨q,(C (gi L k).f).size,s,1⟩) (w:d (gi L k).f=C (gi L k).f) (y:∀x∈I,d x.1=i x.1):
  TreeOf C (L.take (k+1)) (G++[(Df (jn (gi L k).ns),⟨none,((gi L k).f:Int)⟩)]) l d:=by
 obtain⟨t,u⟩:=Kj p;obtain⟨E,_⟩:=o.path u;have D:∀z∈L.take k,z.f≠(gi L k).f:=fun z a e=>by
  obtain⟨j,A,m⟩:=List.mem_iff_getElem.1 a;rw[List.length_take]at A;rw[List.getElem_take]at m;have:=o.fresh t (List.getElem?_eq_some_iff.2 ⟨by omega,m⟩) e.symm;omega
 rw[Ziz p];refine⟨by rw[h.g,E,List.map_append];rfl,by rw[c.1,v,h.il,List.length_append];rfl,fun x b=>?_,fun z a=>?_,fun z a=>?_⟩
 ·rcases (c.2 x).1 b with rfl|⟨b,B⟩
  ·exact⟨rfl,_,by simp,rfl,rfl⟩
  ·rcases (n x).1 b with rfl|b
   ·exact absurd rfl B
   ·obtain⟨F,z,a,H⟩:=h.i1 x b;exact⟨F,z,List.mem_append_left _ a,H⟩
 ·rcases List.mem_append.1 a with a|a
  ·obtain⟨r,g⟩:=h.i2 z a;exact⟨r,(c.2 _).2 (.inr ⟨(n _).2 (.inr g),by have:=D z a;simp;omega⟩)⟩
  ·rw[List.mem_singleton.1 a];exact⟨_,(c.2 _).2 (.inl rfl)⟩
 ·rcases List.mem_append.1 a with a|a
  ·obtain⟨r,g⟩:=h.i2 z a;rw[y _ g];exact h.c z a
  ·rw[List.mem_singleton.1 a];exact w
def sBF(E:Env)(C:NB)(L:List It)(z k:Nat):By:=⟨(BL (DX E C (Kv (fun j=>jn (gi L j).ns) k) (L.drop k))++(0::List.replicate z 0)).toArray⟩
theorem QZ(E:Env)(C:NB)(L:List It)(z k:Nat):BL (sBF E C L z k)=BL (DX E C (Kv (fun j=>jn (gi L j).ns) k) (L.drop k))++(0::List.replicate z 0):=Kx _
theorem ZhC(E:Env)(C:NB):∀(last:By) (L:List It),(∀x∈L,(jn x.ns).size<=100/\(C x.f).size<=1280)->(DX E C last L).size<=306*L.length
 | _,[],_=>Nat.zero_le _
 | last,x::xs,h=>by
  have ih:=ZhC E C (jn x.ns) xs (fun y e=>h y (List.mem_cons_of_mem _ e));obtain⟨h1,a⟩:=h x (by simp);have h3:=KE a;have ht:=Zh9 last (jn x.ns);have c:(⟨(DN (fun k=>DU (plE E (Dd 4 x.f k)) (Dp (dtB (C x.f) k))) (nBl (C x.f))).toArray⟩:By).size=10*nBl (C x.f):=by
   rw[<-DW,Kx,KK (fun k=>J4 _ _)]
  have d:(Ja (C x.f).size 2).size=2:=by rw[<-DW];exact(congrArg List.length (Kx _)).trans (D5 2 _)
  have b:(⟨#[UInt8.ofNat x.f]⟩:By).size=1:=rfl;show(J5 E C last x++DX E C (jn x.ns) xs).size<=_;unfold J5;rw[ByteArray.size_append,ByteArray.size_append,ByteArray.size_append,ByteArray.size_append,ByteArray.size_append,c,d,b,ZlZ,List.length_cons];omega
def ReadOn(W w0:World)(n0 rb db:Nat)(s:KS)(C:NB)(L:List It)(va0 vt0:Value)(e:Ending)(w':World):Prop:=
 ∃q,Zhl W w0 n0 rb db s.tp s.tx va0 vt0 (TreeOf C L) q e w'/\(∀y:Nat×Nat,y∈q.ins↔((y.1:Int),(y.2:Int))∈s.es)/\∀p,q.tk p=true->∃r:Int,(r,(p:Int))∈s.es
theorem Zn5{s:KS}(hI:InvS s){C:NB}{L:List It}(n:FlatL C L){t:By}{B:Nat}(w:OnD s C L t B)
  (W w0:World) (F V H:Nat) (Z vt:Value) (h:RdS w0 F V H 0 0 J7 Z vt W) {vf vw ve:Value} {a:OA} {l c:Nat} (hD:DS w0 H vf (.slice a l c) vw ve s.D) (ak:H<F/\∀k,Own (.slice a l c) k->k<F) (h0:0<F) (aA:PkgOk W):
  Calls Tryz.prog 136 #[.pointer (some ⟨V,0,none⟩),.agg #[.int .i64 (s.tp:Nat),.int .u64 (s.tx:Nat)]] W (ReadOn W w0 F V H s C L Z vt):=by
 obtain⟨E,hE⟩:∃E,E=Dh s.es false s.tp s.D:=⟨_,rfl⟩;have ad:=hI.ok.env false;rw[<-hE]at ad;have u:=w.rows;have an:=w.tab;have af:=w.dat;have U:=w.es;have ac:=w.tp;have ap:=w.tx;have aF:=w.ts;rw[<-hE]at u an af U ac ap;obtain⟨R,hR⟩:∃R,R=rwR E t:=⟨_,rfl⟩;obtain⟨N,S⟩:∃N,N=nR E t:=⟨_,rfl⟩;have av:R 0=t:=by rw[hR];rfl
 obtain⟨P,T⟩:∃P:Nat->Nat->Nat,P=fun b k=>plE E (Dt b k):=⟨_,rfl⟩
 obtain⟨X,hX⟩:∃X:Nat->Nat->Nat,X=fun b k=>Dp (Dv (kkR b) (rwR E t b) (szR b) k):=⟨_,rfl⟩
 rw[<-T,<-hX,<-hR,<-S]at u;have aE:=u.top;obtain⟨o,am⟩:∃o,o=Ji N P (cbT R) B 0 J7:=⟨_,rfl⟩;obtain⟨J,aa⟩:=ZjE u;obtain⟨z,aq,aG⟩:=Zkh u;rw[<-am]at J aa aq;have al:=u.ns;have ar:=u.b8;have aw:∀r,plE E r<1536:=fun r=>by
  unfold plE
  cases e:E.at r with
  | none=>show 0<_;omega
  | some q=>exact(ad.at_some e).2
 have aD:=n.le;have ab:∀k,k<=L.length->∀i,(k<L.length->i<=nBl (C (gi L k).f))->(k=L.length->i=0)->∀r,MR E C L t B k i r->((r:Int),(plE E r:Int))∈s.es:=fun k g i A aj r hr=>by
  rcases hr with⟨b,j,d,f,rfl⟩|⟨k',i',d,rfl⟩
  ·exact(U _).2 (.inr ⟨b,j,d,f,rfl⟩)
  ·refine(U _).2 (.inl ⟨gi L k',(Kj (L:=L) (k:=k') ?_).2,i',?_,rfl⟩)
   ·rcases d with d|⟨d,f⟩
    ·omega
    ·rcases Nat.lt_or_ge k L.length with e|e
     ·omega
     ·have:=aj (by omega);omega
   ·rcases d with d|⟨d,f⟩
    ·exact d.2
    ·subst d;rcases Nat.lt_or_ge k' L.length with e|e
     ·have:=A e;omega
     ·have:=aj (by omega);omega
 have au:QI E (MR E C L t B 0 0) 8000 o:=by
  refine⟨fun y=>⟨fun D=>?_,fun ⟨D,e⟩=>?_⟩,fun p K=>?_,?_⟩
  ·obtain⟨b,k,d,f,rfl⟩:=J.g1 y D;rw[aa b d,S]at f;rw[T];exact⟨.inl ⟨b,k,d,f,rfl⟩,rfl⟩
  ·rcases D with⟨b,k,d,f,m⟩|⟨k',i',d,_⟩
   ·have:=J.g6 b k d (by rw[aa b d,S];exact f);rw[T]at this;have ey:y=(Dt b k,plE E (Dt b k)):=Prod.ext m (by rw[e,m]);rw[ey];exact this
   ·omega
  ·rcases J.g2 p K with⟨b,k,d,f,m⟩|⟨b,d,f,m,h4⟩
   ·rw[aa b d,S]at f;rw[T]at m;exact⟨_,.inl ⟨b,k,d,f,rfl⟩,m⟩
   ·omega
  ·rw[J.g7];have d:JS o.tn (B+1)<=JS (fun _=>1000) (B+1):=ZiA _ (fun k g=>Nat.le_trans (J.g3 k (by omega)) (al k (by omega)));rw[ZcV]at d;omega
 have ae:=fun k g=>au.files n k g
 have az:∀b,b<=B->nR E t b<=1000:=fun b hb=>by rw[<-S];exact al b hb
 have aB:sBF E C L z 0=o.t:=KQ (by
  rw[QZ,aq,av,an,Jb];show BL (DX E C ⟨#[]⟩ (L.drop 0))++([0]++List.replicate z 0)=_;rw[List.drop_zero,<-List.append_assoc];rfl)
 have ao:(s.tp:Int)=((P B 0:Nat):Int)/\s.tp=P B 0/\s.tx=X B 0:=by rw[T,hX];exact⟨congrArg _ ac,ac,ap⟩
 have ay:=Zk2 W w0 F V H 0 0 J7 Z vt h hD ak h0 aA s.tp s.tx o B (fun Y Z vt hY=>by
   have ai:=Zgn u w0 F V H s.tp s.tx hD ak B (Nat.le_refl _) 0 J7 Z vt Y (by omega) (Good.start N P _ B (B+1)) (TnI.start N B) hY;rw[<-am,<-ao.2.1,<-ao.2.2]at ai;exact ai)
  L.length (sBF E C L z) (fun j=>jn (gi L j).ns) (fun j=>(gi L j).f) (fun j=>C (gi L j).f) (fun j i=>plE E (Dd 4 (gi L j).f i)) (rdF E C L o) rfl (fun k g=>rfl) aB
  (fun k g=>by
   have d:=ZhC E C (Kv (fun j=>jn (gi L j).ns) k) (L.drop k) (fun x O=>⟨by have:=(n.path (List.mem_of_mem_drop O)).2.2;omega,n.sz x (List.mem_of_mem_drop O)⟩);rw[List.length_drop]at d;rw[<-DW,QZ,List.length_append,DW,List.length_cons,List.length_replicate];omega)
  (fun k g=>by have:=(n.path (Kj g).2).2.2;omega)
  (fun k g=>by
   obtain⟨g1,g2⟩:=Kj g;refine EnBy.of (E:=E) (C:=C) ?_ (by have:=(n.path g2).2.2;omega) (n.num _ g2) (n.sz _ g2) aw (fun i A=>af _ g2 i A);rw[QZ,QZ,<-List.append_assoc]
   congr 1
   have v:L.drop k=gi L k::L.drop (k+1):=by
    obtain⟨ax,e⟩:=List.getElem?_eq_some_iff.1 g1;rw[<-e];exact List.drop_eq_getElem_cons ax
   rw[v];exact Jb _ _)
  (fun k g i A=>by
   have M:=(ae k (by omega)).fil i;have ag:=MR.fresh (E:=E) (t:=t) n ar az g A;refine⟨?_,fun y D e=>?_,?_⟩
   ·cases ht:(D3 (rdF E C L o k) (gi L k).f (fun i=>plE E (Dd 4 (gi L k).f i)) i).tk (plE E (Dd 4 (gi L k).f i)) with
    | false=>rfl
    | true=>
     exfalso;obtain⟨r,d,f⟩:=M.tk _ ht;have m1:=ab k (by omega) i (fun _=>by omega) (fun e=>by omega) r d;have m2:(((Dd 4 (gi L k).f i:Nat):Int),((plE E (Dd 4 (gi L k).f i):Nat):Int))∈s.es:=(U _).2 (.inl ⟨gi L k,(Kj g).2,i,A,rfl⟩);have:=hI.inj _ m1 _ m2 (by show((_:Nat):Int)=((_:Nat):Int);rw[f]);rw[Prod.mk.injEq]at this;have Q:r=Dd 4 (gi L k).f i:=by have:=this.1;omega
     rw[Q]at d;exact ag d
   ·obtain⟨d,_⟩:=(M.ins y).1 D;rw[e]at d;exact ag d
   ·have:=M.len;have:=KE (n.sz _ (Kj g).2);show(D3 (rdF E C L o k) (gi L k).f (fun i=>plE E (Dd 4 (gi L k).f i)) i).ins.length<=9999;have aC:i<nBl (C (gi L k).f):=A;omega)
  (by
   rw[KI,QZ,List.drop_of_length_le (Nat.le_refl _)]
   rfl)
  (fun k=>TreeOf C (L.take k)) ⟨rfl,rfl,fun x O=>(by cases O),fun z hz=>(by simp at hz),fun z hz=>(by simp at hz)⟩
  (fun k g G I CI hT=>⟨hT.may n g,fun I1 I2 C2 da dc d f m h4 h5=>hT.add n g d f m h4 h5⟩)
 refine ay.mono ?_;intro e w' K;have M:=ae L.length (Nat.le_refl _);refine⟨rdF E C L o L.length,?_,fun y=>?_,fun p K=>?_⟩
 ·rw[List.take_length]at K;exact K
 ·rw[M.ins];constructor
  ·rintro⟨d,f⟩;rw[f];exact ab L.length (Nat.le_refl _) 0 (fun _=>Nat.zero_le _) (fun _=>rfl) _ d
  ·intro D;rcases (U _).1 D with⟨x,O,k,d,f⟩|⟨b,k,d,f,m⟩
   ·rw[Prod.mk.injEq]at f;have v:y.1=Dd 4 x.f k:=by have:=f.1;omega
    have Q:y.2=plE E (Dd 4 x.f k):=by have:=f.2;omega
    refine⟨.inr ?_,by rw[v,Q]⟩;obtain⟨j,hj,ej⟩:=List.mem_iff_getElem.1 O;have ah:gi L j=x:=by unfold gi;rw[List.getElem?_eq_getElem hj,ej];rfl
    exact⟨j,k,.inl ⟨hj,by rw[ah];exact d⟩,by rw[ah,v]⟩
   ·rw[Prod.mk.injEq]at m;have v:y.1=Dt b k:=by have:=m.1;omega
    have Q:y.2=plE E (Dt b k):=by have:=m.2;omega
    exact⟨.inl ⟨b,k,d,f,v⟩,by rw[v,Q]⟩
 ·obtain⟨r,d,f⟩:=M.tk p K;rw[f];exact⟨(r:Int),ab L.length (Nat.le_refl _) 0 (fun _=>Nat.zero_le _) (fun _=>rfl) _ d⟩
end Go.Proofs.YtaieidcohdhgpaaGreatDoor
