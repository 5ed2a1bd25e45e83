/- Told. -/
import Derived.Test.YtaieidcohdhgpaaGreatDoorYAT
namespace Go.Proofs.YtaieidcohdhgpaaGreatDoor
set_option maxHeartbeats 40000000
set_option maxRecDepth 100000
open Go.RowKit
def US(E:FZ)(st:Pl)(s:By):Prop:=∃st0 r b,st=(E.put st0 r b).2/\(s.size<=10->s=DI (E.put st0 r b).1 (Dp b))
theorem TR(E:FZ)(kk:UInt8)(a b:Nat)(st:Pl)(s:By)(hn:1<=(s.size+a-1)/a):US E (Dy E kk a b st s).2 (Dy E kk a b st s).1:=by
 obtain⟨n,c⟩:∃n,(s.size+a-1)/a=n+1:=⟨(s.size+a-1)/a-1,by omega⟩;have d:=QQ E kk a b st s;refine⟨E.puts (Dd kk.toNat b) (Dx kk s a) st 0 (List.range n),Dd kk.toNat b n,Dx kk s a n,?_,λhs=>?_⟩
 ·unfold Dy;rw[c,Cp];have e:=FZ.puts_snoc E (Dd kk.toNat b) (Dx kk s a) st 0 (List.range n) n;rw[Av,AU]at e;exact e
 ·rw[c]at d;obtain rfl:n=0:=by omega
  unfold Dy;rw[c];show DI _ _++⟨#[]⟩=_;rw[Kv]
  rfl
theorem TE(E:FZ):∀(d below:Nat) (st:Pl) (s:By),US E st s->US E (DH E d below st s).2 (DH E d below st s).1
 |0,_,_,_,h=>h
 |d+1,below,st,s,h=>by
  unfold DH
  split
  ·exact TE E d _ _ _ (TR E 2 60 below st s (by omega))
  ·exact h
theorem Rc{s:KS}(g:Hr s)(cl:Bool){C:NB}{L:List It}(k:GD C L):∃st0 r b,(Dv s cl C L).2=((Dl s.es cl s.tp s.D).put st0 r b).2/\GA (Dv s cl C L).1=((Dl s.es cl s.tp s.D).put st0 r b).1/\(r,GA (Dv s cl C L).1)∈(Dv s cl C L).2.puts/\GA (Dv s cl C L).1<1536:=by
 have c:=QU k (Dl s.es cl s.tp s.D) (g.env cl) (s.tp+1) (by have:=g.tp;omega);change MA (Dv s cl C L) at c;have j:US (Dl s.es cl s.tp s.D) (Dv s cl C L).2 (Dv s cl C L).1:=TE _ 8 1 _ _ (TR _ 3 63 0 _ _ (by
  rw[Ai,show(⟨#[0]⟩:By).size=1 from rfl];omega))
 obtain⟨st0,r,b,d,h⟩:=j;have i:=h (by rw[c.n3];exact Aa _);have f:(r,((Dl s.es cl s.tp s.D).put st0 r b).1)∈(Dv s cl C L).2.puts:=by
  rw[d,FZ.put_puts];exact BZ _ (Ad.2 rfl)
 have e:=c.pl.1 _ f;have a:GA (Dv s cl C L).1=((Dl s.es cl s.tp s.D).put st0 r b).1:=by
  rw[i];exact UZ _ _ (by have:((Dl s.es cl s.tp s.D).put st0 r b).1<1536:=e;omega)
 exact⟨st0,r,b,d,a,by rw[a];exact f,by rw[a];exact e⟩
theorem puts_len(E:FZ)(R:Nat->Nat)(B:NB):∀(st:Pl) (i:Nat) (xs:List Nat),(E.puts R B st i xs).puts.length=st.puts.length+xs.length
 |st,i,[]=>rfl
 |st,i,x::xs=>by
  show(E.puts R B (E.put st (R i) (B x)).2 (i+1) xs).puts.length=_;rw[puts_len E R B _ (i+1) xs,FZ.put_puts,Ab,Be,Al];omega
theorem VU(E:FZ)(kk:UInt8)(a b:Nat)(st:Pl)(s:By):(Dy E kk a b st s).2.puts.length=st.puts.length+(s.size+a-1)/a:=by
 unfold Dy;rw[puts_len,AU]
theorem Vx(E:FZ):∀(d below:Nat) (st:Pl) (s:By) (m:Nat),s.size=10*m->1<=m->(DH E d below st s).2.puts.length+1<=st.puts.length+m
 |0,_,st,s,m,h,a=>by show st.puts.length+1<=_;omega
 |d+1,below,st,s,m,h,hm=>by
  unfold DH
  split
  ·have a:=VU E 2 60 below st s;have b:=QQ E 2 60 below st s;have ih:=Vx E d (below+1) (Dy E 2 60 below st s).2 (Dy E 2 60 below st s).1 _ b (by omega);omega
  ·show st.puts.length+1<=_;omega
theorem F6.puts{C:NB}{L:List It}(h:F6 C L)(s:KS)(cl:Bool):(Dv s cl C L).2.puts.length<=255:=by
 have c:=h.ok;have aa:=h.le;obtain⟨E,k⟩:=ex (Dl s.es cl s.tp s.D);obtain⟨T,f⟩:=ex (Du E C ⟨#[]⟩ ⟨s.tp+1,[],[]⟩ L);obtain⟨t,g⟩:∃t:By,t=T.1++⟨#[0]⟩:=⟨_,rfl⟩;obtain⟨R,e⟩:=ex (Dy E 3 63 0 T.2 t);have j:Dv s cl C L=DH E 8 1 R.2 R.1:=by rw[e,g,f,k];rfl
 obtain⟨m,i,_,_,_⟩:=Qq E C ⟨#[]⟩ ⟨s.tp+1,[],[]⟩ L (λz a=>⟨c.path z a,c.size z a,c.kind z a⟩);rw[<-f]at m i;have l:(⟨s.tp+1,[],[]⟩:Pl).puts.length=0:=rfl;rw[l]at i;have d:=VU E 3 63 0 T.2 t;have b:=QQ E 3 63 0 T.2 t;rw[<-e]at d b;have a:t.size=T.1.size+1:=by rw[g];exact Ai
 rw[j];generalize hn:(t.size+63-1)/63=n at d b
 have h3:=Vx E 8 1 R.2 R.1 n b (by omega);omega
theorem RC(c:Nat)(p:Nat->Bool):(List.range 96).countP p=(List.range 96).countP (λi=>p ((c+i)%96)):=by
 have d:(List.range 96).countP (λi=>p ((c+i)%96))=((List.range 96).map (λj=>(c+j)%96)).countP p:=by rw[List.countP_map];rfl
 rw[d];refine((UC _ _ ?_ (λx h=>?_) (by simp)).countP_eq _).symm
 ·rw[AJ,Bl];refine List.Pairwise.imp_of_mem (R:=λa b=>a≠b) (λ{a b} f g aa e=>?_) (AJ.1 Fv);rw[A4]at f g;omega
 ·obtain⟨y,hy,rfl⟩:=As.1 h;exact A4.2 (by omega)
theorem Wn{α : Type}(p a b c d : α -> Bool):∀(l:List α),(∀x∈l,p x=true->a x=true\/b x=true\/c x=true\/d x=true)->l.countP p<=l.countP a+l.countP b+l.countP c+l.countP d
 |[],_=>by simp
 |x::l,h=>by
  have ih:=Wn p a b c d l (λy i=>h y (AF _ i));have g:=h x (by simp);simp only[EE];by_cases f:p x=true
  ·rcases g f with e|e|e|e<;>simp only[f,e,if_true]<;>omega
  ·simp only[f];simp only[FT,if_false];omega
theorem Xk(f:Nat->Int):∀k,DY f k=16*(List.range k).countP (λj=>decide (f j=0))
 |0=>rfl
 |k+1=>by
  unfold DY;rw[Xk f k,Cp,CS,CE];by_cases e:f k=0<;>simp[e]<;>omega
theorem Zin(es:LI)(n:Nat):es.countP (λx=>decide (x.2.toNat/16<n+1))=es.countP (λx=>decide (x.2.toNat/16<n))+es.countP (λx=>x.2.toNat/16==n):=by
 induction es with
 |nil=>rfl
 |cons x l ih=>
  simp only[EE,ih];by_cases c:x.2.toNat/16<n
  ·have a:x.2.toNat/16<n+1:=by omega
   have b:¬x.2.toNat/16=n:=by omega
   simp[c,a,b];omega
  ·by_cases b:x.2.toNat/16=n
   ·have a:x.2.toNat/16<n+1:=by omega
    simp[b];omega
   ·have a:¬x.2.toNat/16<n+1:=by omega
    simp[c,a,b]
theorem WD(es:LI):∀n,9*(List.range n).countP (λj=>decide (8<Dh es j))<=(if n=0 then 0 else 2)+es.countP (λx=>decide (x.2.toNat/16<n))
 |0=>by simp
 |n+1=>by
  have ih:=WD es n;rw[Cp,CS,CE,Zin,show(if n+1=0 then 0 else 2)=2 from if_neg (by omega)];by_cases h:8<Dh es n
  ·rw[show decide (8<Dh es n)=true from Cr h,if_pos rfl];unfold Dh at h;by_cases a:n=0
   ·rw[if_pos a]at h ih;omega
   ·rw[if_neg a]at h ih;omega
  ·rw[show decide (8<Dh es n)=false from Cm h,if_neg (by decide)];by_cases a:n=0
   ·rw[if_pos a]at ih;omega
   ·rw[if_neg a]at ih;omega
theorem VL(e:Nat->Int)(c d:Nat):∀k,(List.range k).countP (λi=>decide (0<i/\e ((c+i)%96)<=0/\i<=d))<=Jg e c (min k (d+1))
 |0=>by simp
 |k+1=>by
  have ih:=VL e c d k;rw[Cp,CS,CE];by_cases f:k<=d
  ·rw[show min k (d+1)=k by omega]at ih;rw[show min (k+1) (d+1)=k+1 by omega]
   conv=>rhs;unfold Jg
   by_cases h:0<k/\e ((c+k)%96)<=0
   ·rw[if_pos h,if_pos (by simp;exact⟨h.1,h.2,f⟩)];omega
   ·rw[if_neg h,if_neg (by simp;intro a b;exact absurd ⟨a,b⟩ h)];omega
  ·rw[show min k (d+1)=d+1 by omega]at ih;rw[show min (k+1) (d+1)=d+1 by omega,if_neg (by simp;intro a b;omega)];omega
theorem Zn6(s:KS)(C:NB)(L:List It):∀y∈(Dv s true C L).2.puts,y.2∈(Dv s true C L).2.ps.map (·.1)\/y.2/16=s.tp/16\/8<Dh s.es (y.2/16):=by
 refine Wf (E:=Dl s.es true s.tp s.D) (Q:=λst=>∀y∈st.puts,y.2∈st.ps.map (·.1)\/y.2/16=s.tp/16\/8<Dh s.es (y.2/16)) (λst r b hb h y c=>?_) C ⟨s.tp+1,[],[]⟩ L (λy c=>(by cases c));unfold FZ.put at c ⊢
 split at c
 ·rename_i q a;rcases Aq.1 c with e|e
  ·exact h y e
  ·rw[Ad.1 e];right;unfold FZ.stay at a
   split at a
   ·split at a
    ·rename_i q' aa g
     cases a
     have f:¬(q/16≠s.tp/16/\Dh s.es (q/16)<=8):=λe=>g.2 ⟨rfl,e.1,e.2⟩
     by_cases d:q/16=s.tp/16
     ·exact .inl d
     ·refine .inr ?_;show 8<Dh s.es (q/16);have:=λe=>f ⟨d,e⟩
      omega
    ·cases a
   ·cases a
 ·rename_i a;show y.2∈List.map (λx:Nat×By=>x.1) (st.ps++[_])\/_;rw[Bq];rcases Aq.1 c with e|e
  ·exact(h y e).imp (λe=>Bn _ e) id
  ·rw[Ad.1 e];exact .inl (BZ _ (Ad.2 rfl))
theorem ZkM{s:KS}(g:Gs s){C:NB}{L:List It}(D:GD C L)(hl:(Dv s true C L).2.puts.length<=255)(ab:s.es.length<=255):512<=DY (I6 (Dv s true C L).2.puts) 96:=by
 have m:=PI.all g true D (by omega);have w:=Zn6 s C L;have ad:=g.ok.tp;obtain⟨j,o,a,_⟩:=m.ri;have ac:=m.le;obtain⟨c,b⟩:=ex (s.tp/16);have aa:c<96:=by omega
 rw[Xk];have z:=List.length_eq_countP_add_countP (p:=λj=>decide (I6 (Dv s true C L).2.puts j=0)) (l:=List.range 96);rw[AU]at z;have v:=Wn (λi=>decide (¬(decide (I6 (Dv s true C L).2.puts ((c+i)%96)=0)=true))) (λi=>decide (i=0)) (λi=>decide ((c+i)%96=0)) (λi=>decide (8<Dh s.es ((c+i)%96))) (λi=>decide (0<i/\Dh s.es ((c+i)%96)<=0/\i<=j)) (List.range 96) (λi B h=>by
  rw[A4]at B;simp only[AH]at h ⊢;by_cases f:(c+i)%96=0
  ·exact .inr (.inl f)
  ·have E:0<(Dv s true C L).2.puts.countP (λy=>y.2/16==(c+i)%96):=by
    unfold I6 at h;rw[if_neg f]at h;omega
   obtain⟨y,F,A⟩:=List.countP_pos_iff.1 E;have k:y.2/16=(c+i)%96:=by simpa using A
   rcases w y F with e|e|e
   ·obtain⟨m1,d⟩:=a.mem _ e;rw[<-b]at d;have ho:Ka c y.2=i:=by unfold Ka;omega
    rw[ho]at d;rcases d with⟨q,_⟩|⟨I,J,q3⟩
    ·exact .inl q
    ·exact .inr (.inr (.inr ⟨I,by rw[<-k];exact J,by omega⟩))
   ·exact .inl (by omega)
   ·exact .inr (.inr (.inl (by rw[<-k];exact e))))
 have r:=RC c (λj=>decide (¬(decide (I6 (Dv s true C L).2.puts j=0)=true)));have t:=RC c (λj=>decide (j=0));have u:=RC c (λj=>decide (8<Dh s.es j));have G:(List.range 96).countP (λi=>decide (i=0))=1:=by decide
 have H:=WD s.es 96;have ae:s.es.countP (λx=>decide (x.2.toNat/16<96))<=s.es.length:=B2;have k4:=VL (Dh s.es) c j 96;have k5:Jg (Dh s.es) c (min 96 (j+1))<=Jg (Dh s.es) c j+1:=by
  have:=a.jl;rw[show min 96 (j+1)=j+1 by omega];show Jg (Dh s.es) c j+(if _ then 1 else 0)<=_
  split<;>omega
 have n:=a.cnt;rw[<-b,AL]at n;rw[if_neg (by omega)]at H;rw[<-r,<-t,<-u,G]at v;have k7:16*Jg (Dh s.es) c j<=255:=by omega
 clear n r t u b;generalize (List.range 96).countP (λj=>decide (8<Dh s.es j))=a1 at *
 generalize (List.range 96).countP (λi=>decide (0<i/\Dh s.es ((c+i)%96)<=0/\i<=j))=a2 at *
 omega
theorem Um(mf:Nat)(s:KS)(C:NB)(L:List It):∃cl,DF mf s C L=Dv s cl C L/\(cl=false->¬DY (I6 (Dv s false C L).2.puts) 96<mf):=by
 unfold DF
 split
 ·exact⟨true,rfl,λe=>by cases e⟩
 ·rename_i h;exact⟨false,rfl,λ_=>h⟩
theorem VM:∀{l:List (Nat×Nat)},(l.map (·.2)).Nodup->∀{a b:Nat×Nat},a∈l->b∈l->a.2=b.2->a=b
 |[],_,a,_,h,_,_=>by cases h
 |x::l,hn,a,b,ha,hb,e=>by
  rw[BI,Cw]at hn;rcases AC.1 ha with f|g
  ·rcases AC.1 hb with c|d
   ·rw[f,c]
   ·exact absurd (As.2 ⟨b,d,by rw[<-f];exact e.symm⟩) hn.1
  ·rcases AC.1 hb with c|d
   ·exact absurd (As.2 ⟨a,g,by rw[<-c];exact e⟩) hn.1
   ·exact VM hn.2 g d e
theorem RI.ge{s:KS}(b:Gs s){j o:Nat}{N:List Nat}(h:RI (Dh s.es) s.tp j o N){p:Nat}(c:p∈N):16<=p/\p<1536:=by
 obtain⟨d,f⟩:=h.mem p c;have aa:=b.tp;refine⟨?_,d⟩;rcases f with⟨_,q,_⟩|⟨_,q,_⟩
 ·omega
 ·rcases Bh p 16 with e|e
  ·have a:p/16=0:=by omega
   rw[a]at q;unfold Dh at q;simp at q;omega
  ·exact e
structure GZ(mf:Nat)(C:NB)(L:List It)(s s':KS):Prop where
 ne:(DF mf s C L).2.ps≠[]
 es:Hk (DF mf s C L).2.puts s'.es
 tp:s'.tp=GA (DF mf s C L).1
 tx:s'.tx=GE (DF mf s C L).1
 tn:s'.tn=s.tn+1
 D:s'.D=(Jw s.D (DF mf s C L).2.ps).set ((s.tn+1)%2) (Gv (s.tn+1) s'.tp s'.tx)
theorem IH.cases{mf:Nat}{C:NB}{L:List It}{s s':KS}(h:IH mf C L s s'):((DF mf s C L).2.ps=[]/\s'=s)\/GZ mf C L s s':=
 h.imp id (λ⟨a,b,c,d,e,f⟩=>⟨a,b,c,d,e,f⟩)
section
variable{mf:Nat}{C C0:NB}{L L0:List It}{s s':KS}
theorem GZ.w(i:GZ mf C L s s')(c:Gs s)(h:F6 C L):LW s':=by
 obtain⟨cl,t,_⟩:=Um mf s C L;have hl:=h.puts s cl;have k:=PI.all c cl h.ok (by omega);have m:=QU h.ok (Dl s.es cl s.tp s.D) (c.ok.env cl) (s.tp+1) (by have:=c.ok.tp;omega);change MA (Dv s cl C L) at m;obtain⟨_,_,_,_,_,_,u⟩:=Rc c.ok cl h.ok;have d:=i.es;have n:=i.tp;have l:=i.D;rw[t]at d n l;obtain⟨j,o,p,_⟩:=k.ri;refine⟨⟨d.1,by rw[d.2.1];omega,by rw[n];exact u,by rw[l,Ce,QR,c.ok.dl],λx f=>?_⟩,λx f y g e=>?_,λx f=>?_⟩
 ·obtain⟨y,g,rfl⟩:=(d.2.2 x).1 f;exact⟨y.2,rfl,m.pl.1 y g⟩
 ·obtain⟨a,q,rfl⟩:=(d.2.2 x).1 f;obtain⟨b,r,rfl⟩:=(d.2.2 y).1 g;have:a=b:=VM k.nd q r (by have e':((a.2:Nat):Int)=((b.2:Nat):Int):=e;omega);rw[this]
 ·obtain⟨y,g,rfl⟩:=(d.2.2 x).1 f;rcases k.mem y g with e|e
  ·have:=(p.ge c e).1
   simpa using this
  ·exact c.lo _ e
theorem GZ.stands(a:GZ mf C L s s')(c:Gs s)(b:F6 C L):Gi s' C L:=by
 obtain⟨cl,d,_⟩:=Um mf s C L;exact(Gi.keep c b.ok d (by have:=b.puts s cl;omega) a.es a.tp a.tx a.D).1
theorem GZ.inv'(hm:512<=mf)(i:GZ mf C L s s')(a:Gs s)(d:F6 C L)(k:s'.tp∈(DF mf s C L).2.ps.map (·.1))(M:s.es.length<=255):Gs s':=by
 have f:=i.w a d;obtain⟨cl,D,E⟩:=Um mf s C L;have H:=d.puts s cl;have p:=PI.all a cl d.ok (by omega);obtain⟨st0,r,b,P,h,w,p4⟩:=Rc a.ok cl d.ok;have g:=i.es;have t:=i.tp;rw[D]at g t k;rw[<-t]at h w;obtain⟨j,o,c,F⟩:=p.ri;have ad:=a.ok.tp;have ae:=f.ok.tp;have u:(((r:Nat):Int),((s'.tp:Nat):Int))∈s'.es:=(g.2.2 _).2 ⟨_,w,rfl⟩;have G:(Dv s cl C L).2.hd=s'.tp+1:=by
  rw[P,h]
  cases hs:(Dl s.es cl s.tp s.D).stay r b with
  |none=>unfold FZ.put;rw[hs]
  |some q=>
   exfalso;have A:((Dl s.es cl s.tp s.D).put st0 r b).1=q:=by unfold FZ.put;rw[hs]
   have B:((r:Int),(q:Int))∈s.es:=by
    unfold FZ.stay at hs
    split at hs
    ·rename_i q' K
     split at hs
     ·cases hs;exact((a.ok.env cl).at_some K).1
     ·cases hs
    ·cases hs
   rw[A]at h;rw[h]at k;exact c.not_es a k _ B
 have aa:=c.jl;have ab:=c.o1;have ac:=c.o2;rw[G]at F;refine⟨f.ok,λx N J=>?_,f.inj,UQ u,?_,f.lo,?_⟩
 ·obtain⟨y,O,rfl⟩:=(g.2.2 x).1 N;simp only[Bp]at J ⊢;rcases p.mem y O with e|e
  ·obtain⟨m1,v⟩:=c.mem _ e;have I:Ka (s.tp/16) y.2=j:=by unfold Ka;omega
   rw[I]at v;rcases v with⟨l,_,z⟩|⟨_,_,z⟩
   ·have:=z l;omega
   ·have:y.2%16<o:=by omega
    omega
  ·have m:=a.cur _ e;have n:=UQ e;simp only[Bp]at m n;rcases c.fr with⟨l,Q⟩|⟨l,Q⟩
   ·have:=m (by omega);omega
   ·rw[show y.2/16=(s.tp/16+j)%96 by omega]at n;omega
 ·rw[g.nd]
  cases cl with
  |false=>have:=E rfl;omega
  |true=>
   exact ZkM a d.ok H M
 ·have:=f.lo _ u;simp only[Bp]at this;omega
end
theorem BL_ckB(T p x:Nat):∃Z:List UInt8,Z.length=41/\BL (Gv T p x)=1::(BL Kd++(DD T 8++(D7 p x++Z))):=by
 have f:BL (Mw T p x)=BL Kd++(DD T 8++D7 p x):=by
  unfold Mw;have b:BL (Ja T 8)=DD T 8:=K3 _;rw[Jy,Jy,b,Pz,Ax]
 have a:(BL Kd++(DD T 8++D7 p x)).length=22:=by
  rw[Ab,Ab,Jd,KP];rfl
 have d:BL (Ie T p x)=1::((BL Kd++(DD T 8++D7 p x))++List.replicate 41 0):=by
  unfold Ie;rw[Jy,KW,f,Ca,Ag (by omega),a,BM]
  rfl
 unfold Gv;obtain⟨N,e⟩:=ex (Dp ((Ie T p x).extract 0 56));rw[<-e];have c:BL (Ja N 8)=DD N 8:=K3 _;refine⟨List.replicate 33 0++DD N 8,by rw[Ab,Jd,Bj],?_⟩;rw[Jy,c,J8,d,BV,show 56-0=55+1 from rfl,E4,Ca,Ag (by omega),a,BM,show min (55-22) 41=33 from rfl];simp only[AN,Ax]
theorem PG{T p x:Nat}(d:T<18446744073709551616)(f:p<65536)(h:x<18446744073709551616):IZ (Gv T p x)=T/\GA (Im (Gv T p x))=p/\GE (Im (Gv T p x))=x:=by
 obtain⟨Z,a,e⟩:=BL_ckB T p x;have g:(BL Kd).length=4:=rfl;have c:BL (Ld (Gv T p x))=DD T 8++(D7 p x++Z):=by
  unfold Ld;rw[J8,e,show(5:Nat)=4+1 from rfl,C6,Er g];refine Ag ?_;rw[Ab,Ab,Jd,KP,a]
  decide
 have i:(Ld (Gv T p x)).size=59:=by rw[<-DK,c,Ab,Ab,Jd,KP,a]
 have b:BL (Im (Gv T p x))=D7 p x++Z:=by
  unfold Im;rw[J8,c,i,Er (Jd 8 T)];refine Ag ?_;rw[Ab,KP,a]
  decide
 have hq:(Im (Gv T p x)).size=51:=by rw[<-DK,b,Ab,KP,a]
 refine⟨?_,?_,?_⟩
 ·show DQ (BL (Di (Ld (Gv T p x)) 8))=T;rw[KW,c,Ax,BY (Jd 8 T)];exact KO 8 T d
 ·rw[Pn _ (by omega),b];unfold D7;rw[Ax,BY (Jd 2 p)];exact KO 2 p f
 ·rw[Sg _ (by omega),b];unfold D7;rw[Ax,Er (Jd 2 p),BY (Jd 8 x)];exact KO 8 x h
theorem ck_ok{T p x:Nat}(d:T<18446744073709551616)(e:p<65536)(f:x<18446744073709551616):KZ (T%2) (Gv T p x)=true:=by
 obtain⟨a,b,c⟩:=PG d e f;unfold KZ;rw[a,b,c];simp
structure Iq(s:KS):Prop where
 tx:s.tx<18446744073709551616
 tn:1<=s.tn
 own:s.D[s.tn%2]?=some (Gv s.tn s.tp s.tx)
 old:∃p x,p<65536/\x<18446744073709551616/\s.D[(s.tn+1)%2]?=some (Gv (s.tn-1) p x)
theorem Iq.last{s:KS}(h:Iq s)(ab:s.tp<1536)(aa:s.tn+1<18446744073709551616):∃s0 s1,s.D[0]?=some s0/\s.D[1]?=some s1/\K5 s0 s1=some (s.tn,s.tp,s.tx):=by
 obtain⟨p,x,k,l,ho⟩:=h.old;have h1:=h.tn;obtain⟨f,g,i⟩:=PG (T:=s.tn) (p:=s.tp) (x:=s.tx) (by omega) (by omega) h.tx;obtain⟨j,b2,b3⟩:=PG (T:=s.tn-1) (p:=p) (x:=x) (by omega) k l;have a:=ck_ok (T:=s.tn) (p:=s.tp) (x:=s.tx) (by omega) (by omega) h.tx;have b:=ck_ok (T:=s.tn-1) (p:=p) (x:=x) (by omega) k l;rcases Nat.mod_two_eq_zero_or_one s.tn with e|e
 ·have c:(s.tn+1)%2=1:=by omega
  have d:(s.tn-1)%2=1:=by omega
  refine⟨_,_,by rw[<-e];exact h.own,by rw[<-c];exact ho,?_⟩;rw[e]at a;rw[d]at b;unfold K5;rw[if_pos ⟨a,b⟩,f,g,i,j,if_pos (by omega)]
 ·have c:(s.tn+1)%2=0:=by omega
  have d:(s.tn-1)%2=0:=by omega
  refine⟨_,_,by rw[<-c];exact ho,by rw[<-e];exact h.own,?_⟩;rw[e]at a;rw[d]at b;unfold K5;rw[if_pos ⟨b,a⟩,f,g,i,j,if_neg (by omega),if_pos (by omega)]
def IX:KS:=⟨Jn,16,Dp DC,1,Jj⟩
theorem Z5:Jj.length=1536:=by unfold Jj;rw[Ce,Ce,QR,J9]
theorem YM:Jj[16]?=some DC:=by
 unfold Jj;rw[AB (by omega),AB (by omega)];exact Rf [(16,DC)] DR (by simp) (λx a=>by rw[Ad.1 a,J9];decide) (16,DC) (by simp)
theorem Yk(st:Pl):(Dl Jn false 16 Jj).put st (Dd 3 0 0) DC=(16,⟨st.hd,st.puts++[(Dd 3 0 0,16)],st.ps⟩):=by
 have a:(Dl Jn false 16 Jj).stay (Dd 3 0 0) DC=some 16:=by
  unfold FZ.stay;have:(Dl Jn false 16 Jj).at (Dd 3 0 0)=some 16:=by simp[FZ.at,Dl,Jn]
  rw[this];show(if _ then _ else _)=_;rw[if_pos];exact⟨YM,λe=>by cases e.1⟩
 unfold FZ.put;rw[a]
theorem ZnJ(C:NB):Dv IX false C []=(DI 16 (Dp DC),⟨17,[(Dd 3 0 0,16)],[]⟩):=by
 have a:Dy (Dl Jn false 16 Jj) 3 63 0 ⟨17,[],[]⟩ (⟨#[]⟩++⟨#[0]⟩)=(DI 16 (Dp DC),⟨17,[(Dd 3 0 0,16)],[]⟩):=by
  rw[Ud];unfold Dy;rw[show((⟨#[0]⟩:By).size+63-1)/63=1 from rfl];show(DI ((Dl Jn false 16 Jj).put ⟨17,[],[]⟩ (Dd 3 0 0) DC).1 (Dp DC)++⟨#[]⟩,((Dl Jn false 16 Jj).put ⟨17,[],[]⟩ (Dd 3 0 0) DC).2)=_;rw[Kv,Yk]
  rfl
 show DH (Dl Jn false 16 Jj) 8 1 (Dy (Dl Jn false 16 Jj) 3 63 0 ⟨17,[],[]⟩ (⟨#[]⟩++⟨#[0]⟩)).2 (Dy (Dl Jn false 16 Jj) 3 63 0 ⟨17,[],[]⟩ (⟨#[]⟩++⟨#[0]⟩)).1=_;rw[a];unfold DH;rw[if_neg (by rw[Qf];omega)]
theorem Qy(x:Int×Int)(h:x∈IX.es):x=(((Dd 3 0 0:Nat):Int),((16:Nat):Int)):=Ad.1 h
theorem Te:Gy IX.es:=λj k x y aa hj a=>by
 have:=(Ae.1 a).1;have hl:IX.es.length=1:=rfl;omega
theorem Yj:Gs IX:=by
 refine⟨⟨Te,by show 1<=_;omega,by show 16<1536;omega,Z5,λx a=>?_⟩,λx a _=>?_,λx a y b _=>?_,?_,?_,λx a=>?_,by show 15<=16;omega⟩
 ·rw[Qy x a];exact⟨16,rfl,by omega⟩
 ·rw[Qy x a];exact Aa _
 ·rw[Qy x a,Qy y b]
 ·exact UQ (x:=(((Dd 3 0 0:Nat):Int),((16:Nat):Int))) (es:=IX.es) (Ad.2 rfl)
 ·show 512<=DY (Dh Jn) 96;rw[show DY (Dh Jn) 96=1504 from Ma];omega
 ·rw[Qy x a];exact Aa _
theorem Zkw(C:NB):Gi IX C []:=by
 have e:=ZnJ C;refine⟨by rw[e],⟨Te,by rw[e];rfl,λx=>?_⟩,by rw[e];exact UZ _ _ (by omega),by rw[e];exact PP _ _ (KJ _)⟩;rw[e];constructor
 ·intro a;exact⟨_,Ad.2 rfl,Qy x a⟩
 ·rintro⟨y,b,rfl⟩;rw[Ad.1 b];exact Ad.2 rfl
theorem ks0_ck:Iq IX:=by
 have a:IX.tx<18446744073709551616:=by show Dp DC<_;exact KJ DC
 have b:Dp DC<18446744073709551616:=KJ DC;refine⟨a,by show 1<=1;omega,?_,16,Dp DC,by omega,b,?_⟩
 ·show Jj[1]?=some (Gv 1 16 (Dp DC));unfold Jj;rw[AB (by omega),BC (by rw[QR,J9];omega)]
 ·show Jj[0]?=some (Gv 0 16 (Dp DC));unfold Jj;rw[BC (by rw[Ce,QR,J9];omega)]
structure Gg(C:NB)(L:List It)(G:Gh)(I:LF)(CI:IB):Prop where
 g:G=L.map (λx=>(x.ns,(⟨none,(x.f:Int)⟩:VS)))
 il:I.length=L.length
 i1:∀x∈I,x.2.f=1/\∃z∈L,x.1=(z.f:Int)/\x.2.l=(C z.f).size
 i2:∀z∈L,∃r,((z.f:Int),r)∈I
 c:∀z∈L,CI z.f=C z.f
theorem N5(l:List Nat)(h:∀n∈l,n<=1280):DO l<=l.length*20:=by
 induction l with
 |nil=>simp[DO]
 |cons a l ih=>
  have h1:=h a (by simp);have b:=ih (λn c=>h n (AF _ c));unfold DO at b ⊢;rw[BI,List.sum_cons,Al];omega
theorem PR{L:List It}{k:Nat}(h:k<L.length):L.take (k+1)=L.take k++[gi L k]:=by
 rw[BK,(Kr h).1];rfl
theorem Gg.may{C:NB}{L:List It}(c:F6 C L){k:Nat}(l:k<L.length){G:Gh}{I:LF}{r:IB}(h:Gg C (L.take k) G I r):Pk G I (jn (gi L k).ns) (gi L k).f (C (gi L k).f).size:=by
 obtain⟨v,i⟩:=Kr l;obtain⟨n,t,hn⟩:=c.ns _ i;obtain⟨H,J,p3⟩:=c.path i;have ae:=c.le;have aa:G.length<=k:=by rw[h.g,AL,An];omega
 have ab:I.length<=k:=by rw[h.il,An];omega
 have f:∀x∈L.take k,x∈L:=λx a=>Bv a
 have d:∀x∈G,∃z∈L.take k,x=(z.ns,(⟨none,(z.f:Int)⟩:VS)):=λx a=>by
  rw[h.g]at a;obtain⟨z,b,e⟩:=As.1 a;exact⟨z,b,e.symm⟩
 have q:∀x∈I,x.2.l<=1280:=λx a=>by
  obtain⟨_,z,b,_,e⟩:=h.i1 x a;rw[e];exact c.sz z (f z b)
 have g:(L.take (k+1)).map (·.ns) |>.Nodup:=by
  have:=c.nd;rw[<-Co (k+1) L,Bq,Ch]at this;exact this.1
 have B:Gl G (gi L k).ns=none:=by
  unfold Gl;rw[EI,Eg];intro x a;obtain⟨z,b,rfl⟩:=d x a;rw[PR l,Bq,Ch]at g;have:=g.2.2 z.ns (As.2 ⟨z,b,rfl⟩) (gi L k).ns (by simp)
  simpa using this
 have A:Gk G:=by
  refine⟨λx a=>?_,λx a=>?_,λx a=>?_,?_,λns n u a => .inl ?_⟩
  ·obtain⟨z,b,rfl⟩:=d x a;exact(c.nms (f z b)).1
  ·obtain⟨z,b,rfl⟩:=d x a;exact(c.nms (f z b)).2.1
  ·obtain⟨z,b,rfl⟩:=d x a;exact(c.nms (f z b)).2.2
  ·rw[h.g,Ci];rw[PR l,Bq,Ch]at g;exact g.1
  ·obtain⟨z,b,e⟩:=d _ a;obtain⟨m,s,_⟩:=c.ns z (f z b);rw[A9,s]at e;have:=Cu List.length e.1;rw[Ab]at this
   simpa using this
 refine⟨A,by omega,by omega,λx a=>by have:=q x a;omega,by omega,?_,?_,λx a e=>?_,λI1 I2 da dc w y p=>?_⟩
 ·unfold Ho;rw[if_neg (by rw[J];decide),H];unfold Jk;rw[B,t];show(if GO G []≠0 then _ else _)=_;rw[if_neg (by simp[GO]),if_neg (by simp)]
 ·unfold Jh;have ac:G.countP (He (Df (jn (gi L k).ns)).dropLast)<=G.length:=B2;have D:cD G []=1:=by
   unfold cD;rw[Ex.2 (λx a=>by obtain⟨z,b,rfl⟩:=d x a;simp)]
  rw[D];exact Cr ⟨⟨by omega,by omega⟩,by omega⟩
 ·obtain⟨_,z,b,e1,_⟩:=h.i1 x a;obtain⟨j,E,o⟩:=CU.1 b;rw[An]at E;rw[FW]at o;have:=c.fresh v (Ae.2 ⟨by omega,o⟩) (by omega);omega
 ·have ad:I2.length<=8:=by rw[p.1,w];omega
  have:=N5 (I2.map (·.2.l)) (λm F=>by
   obtain⟨x,a,rfl⟩:=As.1 F;rcases(p.2 x).1 a with rfl|⟨a,_⟩
   ·exact c.sz _ i
   ·rcases(y x).1 a with rfl|a
    ·exact Au _
    ·exact q x a)
  rw[AL]at this;omega
theorem Gg.add{C:NB}{L:List It}(l:F6 C L){k:Nat}(m:k<L.length){G:Gh}{I:LF}{f:IB}(h:Gg C (L.take k) G I f){I1 I2:LF}{C2:IB}{da:OA}{dc:Nat}(p:I1.length=I.length+1)(i:∀x,x∈I1↔x=(((gi L k).f:Int),⟨none,0,0,1⟩)\/x∈I)(c:F7 I1 I2 ((gi L k).f:Int) ⟨da,(C (gi L k).f).size,dc,1⟩)(q:C2 (gi L k).f=C (gi L k).f)(s:∀x∈I,C2 x.1=f x.1):
  Gg C (L.take (k+1)) (G++[(Df (jn (gi L k).ns),⟨none,((gi L k).f:Int)⟩)]) I2 C2:=by
 obtain⟨n,o⟩:=Kr m;obtain⟨w,_⟩:=l.path o;have v:∀z∈L.take k,z.f≠(gi L k).f:=λz a e=>by
  obtain⟨j,t,g⟩:=CU.1 a;rw[An]at t;rw[FW]at g;have:=l.fresh n (Ae.2 ⟨by omega,g⟩) e.symm;omega
 rw[PR m];refine⟨by rw[h.g,w,Bq];rfl,by rw[c.1,p,h.il,Ab];rfl,λx b=>?_,λz a=>?_,λz a=>?_⟩
 ·rcases(c.2 x).1 b with rfl|⟨b,u⟩
  ·exact⟨rfl,_,by simp,rfl,rfl⟩
  ·rcases(i x).1 b with rfl|b
   ·exact absurd rfl u
   ·obtain⟨y,z,a,A⟩:=h.i1 x b;exact⟨y,z,Bn _ a,A⟩
 ·rcases Aq.1 a with a|a
  ·obtain⟨r,d⟩:=h.i2 z a;exact⟨r,(c.2 _).2 (.inr ⟨(i _).2 (.inr d),by have:=v z a;simp;omega⟩)⟩
  ·rw[Ad.1 a];exact⟨_,(c.2 _).2 (.inl rfl)⟩
 ·rcases Aq.1 a with a|a
  ·obtain⟨r,d⟩:=h.i2 z a;rw[s _ d];exact h.c z a
  ·rw[Ad.1 a];exact q
def OO(E:FZ)(C:NB)(L:List It)(z k:Nat):By:=⟨(BL (KR E C (KD (λj=>jn (gi L j).ns) k) (L.drop k))++(0::List.replicate z 0)).toArray⟩
theorem Ua(E:FZ)(C:NB)(L:List It)(z k:Nat):BL (OO E C L z k)=BL (KR E C (KD (λj=>jn (gi L j).ns) k) (L.drop k))++(0::List.replicate z 0):=K3 _
theorem VY(E:FZ)(C:NB):∀(last:By) (L:List It),(∀x∈L,(jn x.ns).size<=100/\(C x.f).size<=1280)->(KR E C last L).size<=306*L.length
 |_,[],_=>Au _
 |last,x::xs,h=>by
  have ih:=VY E C (jn x.ns) xs (λy e=>h y (AF _ e));obtain⟨h1,a⟩:=h x (by simp);have h3:=K7 a;have ht:=Vq last (jn x.ns);have c:(⟨(D5 (λk=>D7 (Gf E (Dd 4 x.f k)) (Dp (Gn (C x.f) k))) (Gu (C x.f))).toArray⟩:By).size=10*Gu (C x.f):=by
   rw[<-DK,K3,Qv (λk=>KP _ _)]
  have d:(Ja (C x.f).size 2).size=2:=by rw[<-DK];exact(Cu List.length (K3 _)).trans (Jd 2 _)
  have b:(⟨#[UInt8.ofNat x.f]⟩:By).size=1:=rfl;show(Ql E C last x++KR E C (jn x.ns) xs).size<=_;unfold Ql;rw[Ai,Ai,Ai,Ai,Ai,c,d,b,Zmy,Al];omega
def MG(W w0:World)(n0 rb db:Nat)(s:KS)(C:NB)(L:List It)(va0 vt0:Value)(e:Ending)(w':World):Prop:=
 ∃q,PZ W w0 n0 rb db s.tp s.tx va0 vt0 (Gg C L) q e w'/\(∀y:Nat×Nat,y∈q.ins↔((y.1:Int),(y.2:Int))∈s.es)/\∀p,q.tk p=true->∃r:Int,(r,(p:Int))∈s.es
theorem YA{s:KS}(hI:Gs s){C:NB}{L:List It}(n:F6 C L){t:By}{B:Nat}(w:XH s C L t B)(W w0:World)(F V H:Nat)(Z vt:Value)(h:Gc w0 F V H 0 0 Kb Z vt W){vf vw ve:Value}{a:OA}{l c:Nat}(hD:DU w0 H vf (.slice a l c) vw ve s.D)(ak:H<F/\∀k,Own (.slice a l c) k->k<F)(h0:0<F)(aA:Gd W):
  Cl 136 #[.pointer (some ⟨V,0,none⟩),.agg #[.int .i64 (s.tp:Nat),.int .u64 (s.tx:Nat)]] W (MG W w0 F V H s C L Z vt):=by
 obtain⟨E,hE⟩:=ex (Dl s.es false s.tp s.D);have ad:=hI.ok.env false;rw[<-hE]at ad;have u:=w.rows;have an:=w.tab;have af:=w.dat;have U:=w.es;have ac:=w.tp;have ap:=w.tx;have aF:=w.ts;rw[<-hE]at u an af U ac ap;obtain⟨R,hR⟩:=ex (GJ E t);obtain⟨N,S⟩:=ex (nR E t);have av:R 0=t:=by rw[hR];rfl
 obtain⟨P,T⟩:∃P:Nat->Nat->Nat,P=λb k=>Gf E (Dz b k):=⟨_,rfl⟩
 obtain⟨X,hX⟩:∃X:Nat->Nat->Nat,X=λb k=>Dp (Dx (IU b) (GJ E t b) (Hs b) k):=⟨_,rfl⟩
 rw[<-T,<-hX,<-hR,<-S]at u;have aE:=u.top;obtain⟨o,am⟩:=ex (Jl N P (IC R) B 0 Kb);obtain⟨J,aa⟩:=TC u;obtain⟨z,aq,aG⟩:=ZkD u;rw[<-am]at J aa aq;have al:=u.ns;have ar:=u.b8;have aw:∀r,Gf E r<1536:=λr=>by
  unfold Gf
  cases e:E.at r with
  |none=>show 0<_;omega
  |some q=>exact(ad.at_some e).2
 have aD:=n.le;have ab:∀k,k<=L.length->∀i,(k<L.length->i<=Gu (C (gi L k).f))->(k=L.length->i=0)->∀r,MR E C L t B k i r->((r:Int),(Gf E r:Int))∈s.es:=λk g i A aj r hr=>by
  rcases hr with⟨b,j,d,f,rfl⟩|⟨k',i',d,rfl⟩
  ·exact(U _).2 (.inr ⟨b,j,d,f,rfl⟩)
  ·refine(U _).2 (.inl ⟨gi L k',(Kr (L:=L) (k:=k') ?_).2,i',?_,rfl⟩)
   ·rcases d with d|⟨d,f⟩
    ·omega
    ·rcases Bh k L.length with e|e
     ·omega
     ·have:=aj (by omega);omega
   ·rcases d with d|⟨d,f⟩
    ·exact d.2
    ·subst d;rcases Bh k' L.length with e|e
     ·have:=A e;omega
     ·have:=aj (by omega);omega
 have au:QI E (MR E C L t B 0 0) 8000 o:=by
  refine⟨λy=>⟨λD=>?_,λ⟨D,e⟩=>?_⟩,λp K=>?_,?_⟩
  ·obtain⟨b,k,d,f,rfl⟩:=J.g1 y D;rw[aa b d,S]at f;rw[T];exact⟨.inl ⟨b,k,d,f,rfl⟩,rfl⟩
  ·rcases D with⟨b,k,d,f,m⟩|⟨k',i',d,_⟩
   ·have:=J.g6 b k d (by rw[aa b d,S];exact f);rw[T]at this;have ey:y=(Dz b k,Gf E (Dz b k)):=FP m (by rw[e,m]);rw[ey];exact this
   ·omega
  ·rcases J.g2 p K with⟨b,k,d,f,m⟩|⟨b,d,f,m,h4⟩
   ·rw[aa b d,S]at f;rw[T]at m;exact⟨_,.inl ⟨b,k,d,f,rfl⟩,m⟩
   ·omega
  ·rw[J.g7];have d:JY o.tn (B+1)<=JY (λ_=>1000) (B+1):=PQ _ (λk g=>Af (J.g3 k (by omega)) (al k (by omega)));rw[Ou]at d;omega
 have ae:=λk g=>au.files n k g
 have az:∀b,b<=B->nR E t b<=1000:=λb hb=>by rw[<-S];exact al b hb
 have aB:OO E C L z 0=o.t:=Ku (by
  rw[Ua,aq,av,an,Jy];show BL (KR E C ⟨#[]⟩ (L.drop 0))++([0]++List.replicate z 0)=_;rw[BV,<-Ax];rfl)
 have ao:(s.tp:Int)=((P B 0:Nat):Int)/\s.tp=P B 0/\s.tx=X B 0:=by rw[T,hX];exact⟨Cu _ ac,ac,ap⟩
 have ay:=Zly W w0 F V H 0 0 Kb Z vt h hD ak h0 aA s.tp s.tx o B (λY Z vt hY=>by
   have ai:=Ws u w0 F V H s.tp s.tx hD ak B (Aa _) 0 Kb Z vt Y (by omega) (Gw.start N P _ B (B+1)) (Lv.start N B) hY;rw[<-am,<-ao.2.1,<-ao.2.2]at ai;exact ai)
  L.length (OO E C L z) (λj=>jn (gi L j).ns) (λj=>(gi L j).f) (λj=>C (gi L j).f) (λj i=>Gf E (Dd 4 (gi L j).f i)) (MN E C L o) rfl (λk g=>rfl) aB
  (λk g=>by
   have d:=VY E C (KD (λj=>jn (gi L j).ns) k) (L.drop k) (λx O=>⟨by have:=(n.path (BG O)).2.2;omega,n.sz x (BG O)⟩);rw[Az]at d;rw[<-DK,Ua,Ab,DK,Al,Bj];omega)
  (λk g=>by have:=(n.path (Kr g).2).2.2;omega)
  (λk g=>by
   obtain⟨g1,g2⟩:=Kr g;refine Lf.of (E:=E) (C:=C) ?_ (by have:=(n.path g2).2.2;omega) (n.num _ g2) (n.sz _ g2) aw (λi A=>af _ g2 i A);rw[Ua,Ua,<-Ax]
   congr 1
   have v:L.drop k=gi L k::L.drop (k+1):=by
    obtain⟨ax,e⟩:=Ae.1 g1;rw[<-e];exact BN ax
   rw[v];exact Jy _ _)
  (λk g i A=>by
   have M:=(ae k (by omega)).fil i;have ag:=MR.fresh (E:=E) (t:=t) n ar az g A;refine⟨?_,λy D e=>?_,?_⟩
   ·cases ht:(D3 (MN E C L o k) (gi L k).f (λi=>Gf E (Dd 4 (gi L k).f i)) i).tk (Gf E (Dd 4 (gi L k).f i)) with
    |false=>rfl
    |true=>
     exfalso;obtain⟨r,d,f⟩:=M.tk _ ht;have m1:=ab k (by omega) i (λ_=>by omega) (λe=>by omega) r d;have m2:(((Dd 4 (gi L k).f i:Nat):Int),((Gf E (Dd 4 (gi L k).f i):Nat):Int))∈s.es:=(U _).2 (.inl ⟨gi L k,(Kr g).2,i,A,rfl⟩);have:=hI.inj _ m1 _ m2 (by show((_:Nat):Int)=((_:Nat):Int);rw[f]);rw[A9]at this;have Q:r=Dd 4 (gi L k).f i:=by have:=this.1;omega
     rw[Q]at d;exact ag d
   ·obtain⟨d,_⟩:=(M.ins y).1 D;rw[e]at d;exact ag d
   ·have:=M.len;have:=K7 (n.sz _ (Kr g).2);show(D3 (MN E C L o k) (gi L k).f (λi=>Gf E (Dd 4 (gi L k).f i)) i).ins.length<=9999;have aC:i<Gu (C (gi L k).f):=A;omega)
  (by
   rw[KW,Ua,CN (Aa _)]
   rfl)
  (λk=>Gg C (L.take k)) ⟨rfl,rfl,λx O=>(by cases O),λz hz=>(by simp at hz),λz hz=>(by simp at hz)⟩
  (λk g G I CI hT=>⟨hT.may n g,λI1 I2 C2 da dc d f m h4 h5=>hT.add n g d f m h4 h5⟩)
 refine ay.mono ?_;intro e w' K;have M:=ae L.length (Aa _);refine⟨MN E C L o L.length,?_,λy=>?_,λp K=>?_⟩
 ·rw[Cy]at K;exact K
 ·rw[M.ins];constructor
  ·rintro⟨d,f⟩;rw[f];exact ab L.length (Aa _) 0 (λ_=>Au _) (λ_=>rfl) _ d
  ·intro D;rcases(U _).1 D with⟨x,O,k,d,f⟩|⟨b,k,d,f,m⟩
   ·rw[A9]at f;have v:y.1=Dd 4 x.f k:=by have:=f.1;omega
    have Q:y.2=Gf E (Dd 4 x.f k):=by have:=f.2;omega
    refine⟨.inr ?_,by rw[v,Q]⟩;obtain⟨j,hj,ej⟩:=CU.1 O;have ah:gi L j=x:=by unfold gi;rw[Ac hj,ej];rfl
    exact⟨j,k,.inl ⟨hj,by rw[ah];exact d⟩,by rw[ah,v]⟩
   ·rw[A9]at m;have v:y.1=Dz b k:=by have:=m.1;omega
    have Q:y.2=Gf E (Dz b k):=by have:=m.2;omega
    exact⟨.inl ⟨b,k,d,f,v⟩,by rw[v,Q]⟩
 ·obtain⟨r,d,f⟩:=M.tk p K;rw[f];exact⟨(r:Int),ab L.length (Aa _) 0 (λ_=>Au _) (λ_=>rfl) _ d⟩
def DT(G:Gh)(rd:Nat)(E:NS)(ns:LY):List Ek:=
 if ns=[] then(E rd).map Jb else
 match Gl G ns with
 |some ⟨some ⟨b,_,_⟩,_⟩=>(E b).map Jb
 |_=>[]
def La(I:LF)(n:Nat):Value:=
 match I.find? (λx=>x.1==(n:Int)) with
 |some x => .slice x.2.a x.2.l x.2.c
 |none => .slice none 0 0
theorem Gm.key{es:LF}(h:Gm es){x y:Int×VF}(d:x∈es)(f:y∈es)(e:x.1=y.1):x=y:=by
 obtain⟨i,c⟩:=CD.1 d;obtain⟨j,b⟩:=CD.1 f;rcases CB i j with a|a|a
 ·have:=h i j x y a c b;rw[e,Qb]at this;cases this
 ·subst a;rw[c]at b;exact BR b
 ·have:=h j i y x a b c;rw[e,Qb]at this;cases this
theorem Vb{I:LF}(h:Gm I){n:Nat}{r:VF}(b:((n:Int),r)∈I):La I n=.slice r.a r.l r.c:=by
 unfold La
 cases e:I.find? (λx=>x.1==(n:Int)) with
 |none=>
  have:=Eg.1 e _ b;simp at this
 |some x=>
  have a:=FH e;simp only[EF]at a;have:=h.key (Ej e) b a;rw[this]
theorem TW.wk{w:World}{tb rd:Nat}{V:NV}{E:NS}{vi:Value}{G:Gh}{I:LF}{CI:IB}(h:TW w tb rd V E vi G I CI)(c:Gk G)(e:G.length<=10000)(l:I.length<=10000)(i:∀x∈G,x.2.p=none->∃(n:Nat) (r:VF),x.2.f=n/\n<60/\((n:Int),r)∈I):LP w tb rd V E vi G I CI (DT G rd E) (La I):=by
 refine⟨h,c,e,l,λns b a=>?_,λx k j=>?_⟩
 ·unfold DT;rcases a with⟨rfl,rfl⟩|a
  ·rw[if_pos rfl]
  ·rw[if_neg (c.ne _ a),KL c.nd a]
 ·obtain⟨n,r,f,g,d⟩:=i x k j;exact⟨n,r,f,g,d,Vb h.si d⟩
def Iu(x:By×VS):It:=⟨[x.1],2,x.2.f.toNat⟩
theorem Wb(a:LY->F3->List It×F3):∀(l:LS) (S:F3),(∀x∈l,x.2.p=none)->(∀x∈l,S x.2.f.toNat=false)->(l.map (λx=>x.2.f.toNat)).Nodup->(Gx a [] (l.map Jb) S).1=l.map Iu
 |[],_,_,_,_=>rfl
 |x::l,S,h1,h2,h3=>by
  have f:=h1 x (by simp);have g:=h2 x (by simp);have c:Jb x=(x.1,some x.2.f.toNat):=by unfold Jb;rw[f];rfl
  have d:GX a [] S (Jb x)=([⟨[x.1],2,x.2.f.toNat⟩],S.add x.2.f.toNat):=by
   rw[c];unfold GX;show(if S x.2.f.toNat=true then _ else _)=_;rw[g,if_neg (by decide)]
   rfl
  rw[BI,Cw]at h3;show(GX a [] S (Jb x)).1++(Gx a [] (l.map Jb) (GX a [] S (Jb x)).2).1=_;rw[d];show [_]++(Gx a [] (l.map Jb) (S.add x.2.f.toNat)).1=_;rw[Wb a l (S.add x.2.f.toNat) (λy b=>h1 y (AF _ b)) (λy b=>?_) h3.2]
  ·rfl
  ·unfold F3.add;rw[if_neg (λe=>h3.1 (As.2 ⟨y,b,e⟩))];exact h2 y (AF _ b)
theorem Qh{α : Type}:∀(J K:List α),J.Nodup->(∀x∈J,x∈K)->J.length<=K.length
 |[],K,_,_=>Au _
 |a::J,K,hnd,hs=>by
  rw[Cw]at hnd;obtain⟨s,t,rfl⟩:=List.append_of_mem (hs a (by simp));have ih:=Qh J (s++t) hnd.2 (λx b=>by
   rcases Aq.1 (hs x (by simp[b])) with h|h
   ·exact Bn _ h
   ·rcases AC.1 h with rfl|h
    ·exact absurd b hnd.1
    ·exact BZ _ h)
  simp only[Ab,Al]at ih ⊢;omega
structure Ix(G:Gh)(I:LF)(CI:IB):Prop where
 fil:∀x∈G,∃n,∃f:Nat,x=([n],⟨none,(f:Int)⟩)/\DL n=true/\f<60
 nd:(G.map (·.1)).Nodup
 inj:∀x∈G,∀y∈G,x.2.f=y.2.f->x=y
 le:G.length<=8
 num:∀x∈G,∃r,(x.2.f,r)∈I
 sz:∀x∈G,(CI x.2.f).size<=1280
 back:∀x∈I,x.2.f=1/\x.2.l=(CI x.1).size/\∃y∈G,y.2.f=x.1
theorem Ix.gok{G:Gh}{I:LF}{CI:IB}(h:Ix G I CI):Gk G:=by
 refine⟨λx a=>?_,λx a=>?_,λx a=>?_,h.nd,λns n u b=>?_⟩
 ·obtain⟨n,f,rfl,ho,_⟩:=h.fil x a;exact λm b=>by rw[Ad.1 b];exact ho
 ·obtain⟨n,f,rfl,ho,_⟩:=h.fil x a;exact λe=>by cases e
 ·obtain⟨n,f,rfl,ho,_⟩:=h.fil x a;show 1<=6;omega
 ·obtain⟨m,f,e,ho,_⟩:=h.fil _ b;rw[A9]at e;have:=Cu List.length e.1;simp at this;exact .inl this
section
variable{w:World}{tb rd:Nat}{V:NV}{E:NS}{vi:Value}{G:Gh}{I:LF}{CI:IB}
theorem Ix.root(h:Ix G I CI)(c:TW w tb rd V E vi G I CI){x:By×VS}(g:x∈E rd):([x.1],x.2)∈G/\x.2.p=none/\DL x.1=true/\∃f:Nat,x.2=⟨none,(f:Int)⟩/\f<60:=by
 have a:=(c.d.en [] rd (.inl ⟨rfl,rfl⟩) x.1 x.2).1 g;rw[AD]at a;obtain⟨n,f,e,ho,d⟩:=h.fil _ a;rw[A9]at e;have b:x.1=n:=by have:=e.1;injection this
 exact⟨a,by rw[e.2],by rw[b];exact ho,f,e.2,d⟩
theorem Ix.its(h:Ix G I CI)(c:TW w tb rd V E vi G I CI):Dt (DT G rd E)=(E rd).map Iu:=by
 have p:FY G rd [] rd:=.inl ⟨rfl,rfl⟩;have d:=(c.d.srt [] rd p).nodup;show(Gx (DV (DT G rd E) 6) [] (DT G rd E []) (λ_=>false)).1=_;have e:DT G rd E []=(E rd).map Jb:=by unfold DT;rw[if_pos rfl]
 rw[e];refine Wb _ _ _ (λx q=>(h.root c q).2.1) (λ_ _=>rfl) ?_;rw[AJ,Bl]at d ⊢;refine d.imp_of_mem (λ{a b} m o n e=>n ?_);obtain⟨i,_,_,f,j,_⟩:=h.root c m;obtain⟨k,_,_,g,l,_⟩:=h.root c o;have:=h.inj _ i _ k (by show a.2.f=b.2.f;rw[j,l]at e ⊢;show(f:Int)=(g:Int);have e2:(f:Int).toNat=(g:Int).toNat:=e;omega);rw[A9]at this;have:=this.1;injection this
theorem Ix.len(h:Ix G I CI)(c:TW w tb rd V E vi G I CI):(E rd).length<=8:=by
 have g:FY G rd [] rd:=.inl ⟨rfl,rfl⟩;have d:=(c.d.srt [] rd g).nodup;have:=Qh ((E rd).map (λx=>([x.1],x.2))) G (by
  rw[AJ,Bl]at d ⊢;refine d.imp (λ{a b} f e=>f ?_);rw[A9]at e;have:=e.1;injection this) (λx i=>by
  obtain⟨y,j,rfl⟩:=As.1 i;exact(h.root c j).1)
 rw[AL]at this;have:=h.le;omega
theorem Ix.keep(h:Ix G I CI)(c:TW w tb rd V E vi G I CI):F6 (λn=>CI (n:Int)) ((E rd).map Iu)/\IP w tb rd V E vi G I CI (DT G rd E) (La I) (λn=>CI (n:Int)):=by
 have k:FY G rd [] rd:=.inl ⟨rfl,rfl⟩;have p:=(c.d.srt [] rd k).nodup;have s:F6 (λn=>CI (n:Int)) ((E rd).map Iu):=by
  refine⟨λx d=>?_,λx d=>?_,?_,?_,by rw[AL];exact h.len c,λx d=>?_,λx d=>?_⟩
  ·obtain⟨y,i,rfl⟩:=As.1 d;rfl
  ·obtain⟨y,i,rfl⟩:=As.1 d;exact⟨y.1,rfl,(h.root c i).2.2.1⟩
  ·rw[Ci,AJ,Bl];rw[AJ,Bl]at p;refine p.imp (λ{a b} q e=>q ?_);have m:[a.1]=[b.1]:=e;injection m
  ·rw[Ci,AJ,Bl];rw[AJ,Bl]at p;refine p.imp_of_mem (λ{a b} v A q e=>q ?_);obtain⟨l,_,_,f,j,_⟩:=h.root c v;obtain⟨t,_,_,g,u,_⟩:=h.root c A;have m:a.2.f.toNat=b.2.f.toNat:=e;have:=h.inj _ l _ t (by show a.2.f=b.2.f;rw[j,u]at m ⊢;show(f:Int)=(g:Int);have e2:(f:Int).toNat=(g:Int).toNat:=m;omega);rw[A9]at this;have:=this.1;injection this
  ·obtain⟨y,i,rfl⟩:=As.1 d;obtain⟨l,_,_,f,j,_⟩:=h.root c i;have:=h.sz _ l;show(CI ((y.2.f.toNat:Nat):Int)).size<=_;have e:((y.2.f.toNat:Nat):Int)=y.2.f:=by rw[j];simp
   rw[e];exact this
  ·obtain⟨y,i,rfl⟩:=As.1 d;obtain⟨l,_,_,f,j,o⟩:=h.root c i;show y.2.f.toNat<60;rw[j];simpa using o
 have aa:I.length<=8:=by
  have:=Qh (I.map (·.1)) (G.map (λy=>y.2.f)) c.si.nd (λx d=>by
   obtain⟨y,i,rfl⟩:=As.1 d;obtain⟨_,_,z,B,e⟩:=h.back y i;exact As.2 ⟨z,B,e⟩)
  rw[AL,AL]at this;have:=h.le;omega
 refine⟨s,c.wk h.gok (by have:=h.le;omega) (by omega) (λx d _=>?_),by rw[h.its c];exact s.ok,λy i _=>?_⟩
 ·obtain⟨n,f,rfl,_,o⟩:=h.fil x d;obtain⟨r,k⟩:=h.num _ d;exact⟨f,r,rfl,o,k⟩
 ·rw[h.its c]at i;obtain⟨x,d,rfl⟩:=As.1 i;obtain⟨l,_,_,f,j,o⟩:=h.root c d;obtain⟨r,k⟩:=h.num _ l;have e:((x.2.f.toNat:Nat):Int)=x.2.f:=by rw[j];simp
  have ab:((x.2.f.toNat:Nat):Int)=x.2.f/\(x.2.f,r)∈I:=⟨e,k⟩;refine⟨r.a,r.l,r.c,Vb c.si (by show(((x.2.f.toNat:Nat):Int),r)∈I;rw[e];exact k),?_⟩;have:=c.dat _ k;show Sl w 5 1 (.slice r.a r.l r.c) r.l (Dc (CI ((x.2.f.toNat:Nat):Int)));rw[e];exact this
end
theorem Ge.ext{a b:LS}(g:Ge a)(k:Ge b)(h:∀x,x∈a↔x∈b):a=b:=by
 have m:∀{l:LS},Ge l->l.Nodup:=λ{l} q=>by
  have:=q.nodup;rw[AJ,Bl]at this;rw[AJ];exact this.imp (λ{a b} p e=>p (by rw[e]))
 have r:List.Perm a b:=(Cv (m g) (m k)).2 h;refine Fb (le:=λx y=>Hf x.1 y.1=true) (λx y _ _ n o=>?_) ?_ ?_ r
 ·have:=Oe n o;rw[KM]at this;cases this
 ·rw[Bk];exact λi j c f d=>g i j _ _ d (Ac c) (Ac f)
 ·rw[Bk];exact λi j c f d=>k i j _ _ d (Ac c) (Ac f)
theorem Gg.flt{C:NB}{L:List It}(c:F6 C L){G:Gh}{I:LF}{CI:IB}(h:Gg C L G I CI):Ix G I CI:=by
 have f:=h.g;have d:∀x∈G,∃z∈L,x=(z.ns,(⟨none,(z.f:Int)⟩:VS)):=λx b=>by
  rw[f]at b;obtain⟨z,a,rfl⟩:=As.1 b;exact⟨z,a,rfl⟩
 have aa:=c.fd;refine⟨λx b=>?_,?_,λx b y r e=>?_,by rw[f,AL];exact c.le,λx b=>?_,λx b=>?_,λx b=>?_⟩
 ·obtain⟨z,a,rfl⟩:=d x b;obtain⟨n,p,ho⟩:=c.ns z a;exact⟨n,z.f,by rw[p],ho,c.num z a⟩
 ·rw[f,Ci];exact c.nd
 ·obtain⟨z,a,rfl⟩:=d x b;obtain⟨u,q,rfl⟩:=d y r;have e':((z.f:Nat):Int)=((u.f:Nat):Int):=e;obtain⟨i,l⟩:=CD.1 a;obtain⟨j,g⟩:=CD.1 q;have:=c.fresh l g (by omega);subst this;rw[l]at g;rw[BR g]
 ·obtain⟨z,a,rfl⟩:=d x b;exact h.i2 z a
 ·obtain⟨z,a,rfl⟩:=d x b;show(CI (z.f:Int)).size<=_;rw[h.c z a];exact c.sz z a
 ·obtain⟨m,z,a,k,o⟩:=h.i1 x b;refine⟨m,by rw[o,k,h.c z a],(z.ns,⟨none,(z.f:Int)⟩),?_,k.symm⟩;rw[f];exact As.2 ⟨z,a,rfl⟩
theorem Gg.same{C:NB}{es:LS}(n:Ge es)(g:∀x∈es,∃f:Nat,x.2=⟨none,(f:Int)⟩){G:Gh}{I:LF}{CI:IB}(h:Gg C (es.map Iu) G I CI){w:World}{tb rd:Nat}{V:NV}{E:NS}{vi:Value}(d:TW w tb rd V E vi G I CI):E rd=es:=by
 have j:FY G rd [] rd:=.inl ⟨rfl,rfl⟩;refine(d.d.srt [] rd j).ext n (λx=>?_);have i:=d.d.en [] rd j x.1 x.2;rw[AD]at i;refine i.trans ?_;rw[h.g,Ci];constructor
 ·intro a;obtain⟨y,k,e⟩:=As.1 a;obtain⟨f,c⟩:=g y k;have b:([y.1],(⟨none,((y.2.f.toNat:Nat):Int)⟩:VS))=([x.1],x.2):=e;rw[A9]at b;have l:y.1=x.1:=by have:=b.1;injection this
  have m:y.2=x.2:=by rw[<-b.2,c];simp
  have:x=y:=FP l.symm m.symm;rw[this];exact k
 ·intro a;obtain⟨f,c⟩:=g x a;refine As.2 ⟨x,a,?_⟩;show([x.1],(⟨none,((x.2.f.toNat:Nat):Int)⟩:VS))=([x.1],x.2);rw[c];simp
open Tryz
theorem Yg(w:World)(tb:Nat)(p:By)(d f:Nat)(da:OA)(g dc:Nat)(R:Ending->World->Prop)(t:d=1->∀W,Bw w W->Cl 122 #[.pointer (some ⟨tb,0,none⟩),.string p] W λe X=>∃x:Int,e=.returned (.int .i64 x)/\R (.returned (.bool (x==0))) X)(u:d=2->∀W,Bw w W->Cl 157 #[.pointer (some ⟨tb,0,none⟩),.agg #[.string p,.int .u8 2,.int .i64 (f:Nat),.slice da g dc]] W λe X=>∃b:Bool,e=.returned (.bool b)/\R e X)(v:d=3->∀W,Bw w W->Cl 158 #[.pointer (some ⟨tb,0,none⟩),.agg #[.string p,.int .u8 3,.int .i64 (f:Nat),.slice da g dc]] W λe X=>∃b:Bool,e=.returned (.bool b)/\R e X)(y:d≠1->d≠2->d≠3->∀W,Bw w W->R (.returned (.bool false)) W):
  Cl 97 #[.pointer (some ⟨tb,0,none⟩),.agg #[.string p,.int .u8 (d:Nat),.int .i64 (f:Nat),.slice da g dc]] w R:=by
 obtain⟨n,s,q,r,E,o⟩:=De w [.string p,.int .u8 (d:Nat),.int .i64 (f:Nat),.slice da g dc] 141;have C:=Db s;have c0:=(q.cell 0).trans (show _=some (Value.string p) from rfl);have c1:=(q.cell 1).trans (show _=some (Value.int .u8 (d:Nat)) from rfl);have c2:=(q.cell 2).trans (show _=some (Value.int .i64 (f:Nat)) from rfl);have c3:=(q.cell 3).trans (show _=some (Value.slice da g dc) from rfl);have h:=Db (λe=>t e n o);have i:=Db (λe=>u e n o);have j:=Db (λe=>v e n o);have k:=Db (λa b c=>y a b c n o);clear s q r E o t u v y;go_enter func97,ntmps97;go_upto_region 1 with fail;rw[show w.alloc (.cells #[.string p,.int .u8 (d:Nat),.int .i64 (f:Nat),.slice da g dc] 141)=n from Da C];by_cases r:d=1
 ·have l:=Db (Da h r);have z:(d:Int)=1:=by omega
  clear h i j k;go_wp2_with(go_at_call 122;refine(Da l).mono ?_;rintro e X⟨x,rfl,m⟩);exact m
 have aa:¬(d:Int)=1:=by omega
 by_cases A:d=2
 ·have l:=Db (Da i A);have z:(d:Int)=2:=by omega
  clear h i j k;go_wp2_with(go_at_call 157;refine(Da l).mono ?_;rintro e X⟨x,rfl,m⟩);exact m
 have ab:¬(d:Int)=2:=by omega
 by_cases B:d=3
 ·have l:=Db (Da j B);have z:(d:Int)=3:=by omega
  clear h i j k;go_wp2_with(go_at_call 158;refine(Da l).mono ?_;rintro e X⟨x,rfl,m⟩);exact m
 have ac:¬(d:Int)=3:=by omega
 have D:=Da k r A B;clear h i j k;go_wp2;exact D
def Le(G:Gh)(I:LF)(p:By)(f dl:Nat):Prop:=Pk G I p f dl/\f<60/\dl<=1280
def UE(w:World)(tb:Nat)(G:Gh)(I:LF)(C:IB)(p:By)(f:Nat)(da:OA)(dl dc:Nat)(s:By)(e:Ending)(w':World):Prop:=
 (∃b:Bool,e=.returned (.bool b))/\Fr (DM tb w) w w'/\(e=.returned (.bool true)->Ho G p=0/\Jh G I (Df p).dropLast=true/\f<60/\(∀x∈I,x.1≠(f:Int))/\dl<=1280/\∃I1 I2 C2,I1.length=I.length+1/\(∀x,x∈I1↔x=((f:Int),⟨none,0,0,1⟩)\/x∈I)/\F7 I1 I2 (f:Int) ⟨da,dl,dc,1⟩/\DO (I2.map (·.2.l))<=160/\PS w' tb (G++[(Df p,⟨none,(f:Int)⟩)]) I2 C2/\C2 f=s/\∀x∈I,C2 x.1=C x.1)/\(e=.returned (.bool false)->¬Le G I p f dl)
theorem Zjv(w:World)(tb:Nat)(G:Gh)(I:LF)(C:IB)(h:PS w tb G I C)(hG:Gk G)(aI:G.length<=9000)(aJ:I.length<=9000)(an:∀x∈I,x.2.l<=2000000)(p:By)(hp:p.size<=2000000)(f:Nat)(da:OA)(g dc:Nat)(s:By)(am:Sl w 5 1 (.slice da g dc) g (Dc s)):
  Cl 157 #[.pointer (some ⟨tb,0,none⟩),.agg #[.string p,.int .u8 2,.int .i64 (f:Nat),.slice da g dc]] w (UE w tb G I C p f da g dc s):=by
 obtain⟨rd,V,E,vi,h⟩:=h;obtain⟨O,e1,x1,k1,s1,P⟩:=De w [.string p,.int .u8 2,.int .i64 (f:Nat),.slice da g dc] 141;have Q:∀{X},Bw w X->TW X tb rd V E vi G I C:=λj=>h.below j (Aa _)
 have aZ:=h.t.lt;have M:Hid (∀X,¬Le G I p f g->Bw w X->UE w tb G I C p f da g dc s (.returned (.bool false)) X):=λX hn hX=>⟨⟨false,rfl⟩,Fr.of_below hX,(λe=>by cases e),λ_=>hn⟩
 have aU:¬((f:Int)<0):=by omega
 have aq:=Db e1;have c0:=(x1.cell 0).trans (show _=some (Value.string p) from rfl);by_cases R:Ho G p=0
 rotate_left
 ·have H:Hid (Cl 181 #[.pointer (some ⟨tb,0,none⟩),.string p] O λe X=>e=.returned (.tuple #[DB,.int .i64 (Ho G p)])/\Hid (∀o,UE w tb G I C p f da g dc s (.returned (.bool false)) (X.alloc o))):=by
   refine(UA O tb rd V E vi G I C (Q P) hG (by omega) p hp).mono ?_;rintro e X⟨(⟨_,rfl⟩|⟨e0,_⟩),j⟩
   ·have ag:Bw w X:=P.trans (j.mono (by omega));exact⟨rfl,λo=>Da M _ (λm=>R m.1.lg) (ag.alloc ag.size o)⟩
   ·exact absurd e0 R
  obtain⟨el,az⟩:=ex (Ho G p);rw[<-az]at H R;clear az e1 x1 k1 s1 P am Q h an hG;go_enter func157,ntmps157;go_upto_region 1 with fail;rw[show w.alloc (.cells #[.string p,.int .u8 2,.int .i64 (f:Nat),.slice da g dc] 141)=O from Da aq];unfold DB Dj at H;go_wp2_with(go_at_call 181;refine(Da H).mono ?_;rintro e X⟨rfl,HP⟩);go_ret;exact Da HP _
 have H:Hid (Cl 181 #[.pointer (some ⟨tb,0,none⟩),.string p] O λe X=>∃n v,e=.returned (.tuple #[Dj (some ⟨v,0,none⟩) n false ⟨none,0⟩,.int .i64 0])/\∃Y,X.alloc (.cells (DG (some ⟨v,0,none⟩) n false ⟨none,0⟩).toArray 262)=Y/\FX Y w.heap.size 141 [.string p,.int .u8 2,.int .i64 (f:Nat),.slice da g dc]/\Hid (FX Y X.heap.size 262 (DG (some ⟨v,0,none⟩) n false ⟨none,0⟩))/\Hid (Bw w Y/\w.heap.size+1<=X.heap.size/\Y.heap.size=X.heap.size+1)/\
   Hid (f<60->g<=1280->(∀x∈I,x.1≠(f:Int))->∀Z,Bw w Z->Cl 185 #[.pointer (some ⟨tb,0,none⟩),Dj (some ⟨v,0,none⟩) n false ⟨none,0⟩,.int .i64 (f:Nat),.slice da g dc] Z λe U=>∃x:Int,e=.returned (.int .i64 x)/\Hid (UE w tb G I C p f da g dc s (.returned (.bool (x==0))) U))):=by
  refine(UA O tb rd V E vi G I C (Q P) hG (by omega) p hp).mono ?_;rintro e X⟨(⟨aN,_⟩|⟨_,aE,ds,n,v,al,aL,aw,rfl⟩),j⟩
  ·exact absurd R aN
  ·obtain⟨Y,eY,xY,kY,sY,bY⟩:=De X (DG (some ⟨v,0,none⟩) n false ⟨none,0⟩) 262;have aR:=j.size;have ag:Bw w X:=P.trans (j.mono (by omega));have aK:FX X w.heap.size 141 _:=(j.block _ x1.lt).trans x1;refine⟨n,v,rfl,Y,eY,kY _ _ _ aK,xY,⟨ag.trans (bY.mono ag.size),by omega,sY⟩,λai ak hf Z u=>?_⟩;have S:=(Qt aE (Ro aE (by rw[al];simp))).2;have S:Iw (Df p)/\(Df p).length<=6:=⟨S.1,S.2.2⟩;have aF:(Df p).dropLast=ds:=by rw[al];simp
   rw[al]at aw S;have aX:n.size<=12:=by
    have y:=S.1 n (by simp);unfold DL at y;simp only[A6,AH]at y;exact y.1.2
   refine(RV Z tb rd V E vi G I C (Q u) hG aI aJ an ds v aL n (by omega) S aw (f:Int) hf da g dc (by omega) s (am.kept (λk q _=>u.block k q))).mono ?_;rintro e U (⟨aM,rfl,ad⟩|⟨hm,_,aB,I1,I2,q1,q2,q3,(⟨rfl,a0⟩|⟨rfl,q0,C2,q4,q5,q6⟩)⟩)
   ·exact⟨8,rfl,Da M _ (λm=>by have:=m.1.may;rw[aF,aM]at this;cases this) (u.trans (ad.mono u.size))⟩
   ·exact⟨9,rfl,⟨false,rfl⟩,Fr.prog u aB,(λe=>by cases e),λ_ m=>by have:=m.1.use I1 I2 da dc q1 q2 q3;omega⟩
   ·exact⟨0,rfl,⟨true,rfl⟩,Fr.prog u aB,λ_=>⟨R,by rw[aF];exact hm,ai,hf,ak,I1,I2,C2,q1,q2,q3,q0,by rw[al];exact q4,q5,q6⟩,λe=>by cases e⟩
 have L:Hid (∀X,Bw w X->Cl 175 #[.pointer (some ⟨tb,1,none⟩),.int .i64 (f:Nat)] X λe Y=>∃(a9:OA) (l9 c9:Nat) (f9:Int) (b:Bool),e=.returned (.tuple #[.agg #[.slice a9 l9 c9,.int .i64 f9],.bool b])/\Hid (b=false->∀x∈I,x.1≠(f:Int))/\Hid (b=true->¬Le G I p f g)/\Bw X Y):=λX hX=>by
  have hT:=Q hX;refine(LN X tb 1 vi I (f:Int) ((hT.t.cell 1).trans rfl) hT.i (by omega) hT.si).mono ?_;rintro e Y⟨r,b,rfl,aA,j⟩;refine⟨r.a,r.l,r.c,r.f,b,rfl,λax=>?_,λay m=>?_,j⟩
  ·rcases aA with⟨e9,_⟩|⟨_,_,hn⟩
   ·rw[e9]at ax;cases ax
   ·exact hn
  ·rcases aA with⟨_,hm⟩|⟨e9,_⟩
   ·exact m.1.fr _ hm rfl
   ·rw[e9]at ay;cases ay
 clear e1 x1 k1 s1 P R am Q h an hG;go_enter func157,ntmps157;go_upto_region 1 with fail;rw[show w.alloc (.cells #[.string p,.int .u8 2,.int .i64 (f:Nat),.slice da g dc] 141)=O from Da aq];unfold Dj at H;go_upto_region 2 with(go_at_call 181;refine(Da H).mono ?_;rintro e X⟨n,v,rfl,Y,hY,y1,au,ah,J⟩;have HY:=Db hY;clear hY H c0);rw[show X.alloc (.cells (DG (some ⟨v,0,none⟩) n false ⟨none,0⟩).toArray 262)=Y from Da HY];have c2:=(y1.cell 2).trans (show _=some (Value.int .i64 (f:Nat)) from rfl);have c3:=(y1.cell 3).trans (show _=some (Value.slice da g dc) from rfl);have ar:=Db y1;clear y1;by_cases aT:60<=f\/1280<g
 ·have K:=Db (Da M Y (λm=>by have:=m.2;omega) (Da ah).1);have aQ:(60:Int)<=(f:Int)\/¬(60:Int)<=(f:Int)/\(1280:Int)<(g:Int):=by omega
  clear ah ar au J L M;rcases aQ with hw|⟨hw,a1⟩
  ·go_wp2;go_ret;exact Da K
  ·go_wp2;go_ret;exact Da K
 have ai:f<60:=by omega
 have ak:g<=1280:=by omega
 have aV:¬((60:Int)<=(f:Int)):=by omega
 have aS:¬((1280:Int)<(g:Int)):=by omega
 go_upto_region 4 with fail;obtain⟨i,aO,aP⟩:=Da ah;have aa:Hid (∀V,V.heap=Y.heap->V.os=Y.os->V.tape=Y.tape->V.output=Y.output->Bw w V):=λV a b c d=>⟨b.trans i.os,c.trans i.tape,d.trans i.output,by rw[a];exact i.size,λk q=>by rw[a];exact i.block k q⟩
 have T:Hid (∀V o,V.heap=(Y.alloc o).heap->V.os=Y.os->V.tape=Y.tape->V.output=Y.output->Bw w V):=λV o a b c d=>by
  have y:=i.trans ((Ak w.heap.size Y).alloc i.size o);exact⟨b.trans i.os,c.trans i.tape,d.trans i.output,by rw[a];exact y.size,λk q=>by rw[a];exact y.block k q⟩
 have ab:Hid (∀V l,Bw V l->V.os=Y.os->V.tape=Y.tape->V.output=Y.output->(V.heap=Y.heap\/∃o,V.heap=(Y.alloc o).heap)->FX l w.heap.size 141 [.string p,.int .u8 2,.int .i64 (f:Nat),.slice da g dc]/\FX l X.heap.size 262 (DG (some ⟨v,0,none⟩) n false ⟨none,0⟩)/\Bw w l):=λV l j ho ht hu hV=>by
  have y:=Da ar;have h5:=Da au;rcases hV with e|⟨o,e⟩
  ·have q:∀k,k<Y.heap.size->l.heap[k]?=Y.heap[k]? := λk q=>(j.block k (by rw[e];exact q)).trans (by rw[e])
   have ae:=j.size;rw[e]at ae;exact⟨(q _ y.lt).trans y,(q _ h5.lt).trans h5,j.os.trans (ho.trans i.os),j.tape.trans (ht.trans i.tape),j.output.trans (hu.trans i.output),Af i.size ae,λk af=>(q k (AY af i.size)).trans (i.block k af)⟩
  ·have q:∀k,k<Y.heap.size->l.heap[k]?=Y.heap[k]? := λk q=>(j.block k (by rw[e];simp;omega)).trans (by rw[e];exact BH Y o k q)
   have ae:=j.size;rw[e]at ae;simp at ae;exact⟨(q _ y.lt).trans y,(q _ h5.lt).trans h5,j.os.trans (ho.trans i.os),j.tape.trans (ht.trans i.tape),j.output.trans (hu.trans i.output),by have:=i.size;omega,λk af=>(q k (AY af i.size)).trans (i.block k af)⟩
 have ac:Hid (∀V l,Bw V l->V.heap=(Y.alloc (.cells #[.slice none 0 0,.int .i64 0] 217)).heap->FX l Y.heap.size 217 [.slice none 0 0,.int .i64 0]):=λV l j e=>(j.block _ (by rw[e];simp)).trans (by rw[e];exact B9 Y _)
 have aC:¬Y.heap.size=w.heap.size:=by omega
 have aD:¬Y.heap.size=X.heap.size:=by omega
 clear i aO aP
 go_region_held3 (λW=>W.cell? ⟨w.heap.size,2,none⟩=some (.int .i64 (f:Nat))) (go_keep) (first|(go_at_call 175;refine(Da L _ (by first|exact Da aa _ rfl rfl rfl rfl|exact Da T _ _ rfl rfl rfl rfl)).mono ?_;rintro e l⟨a9,l9,c9,f9,b9,rfl,ap,ao,ad⟩;have hz:=Da ab _ l ad rfl rfl rfl (by first|exact .inl rfl|exact .inr ⟨_,rfl⟩);have aj:=(hz.1.cell 2).trans (show _=some (Value.int .i64 (f:Nat)) from rfl);have aY:=hz.1.lt;have aW:=hz.2.1.lt;(try have zn:=Da ac _ l ad rfl);(try have n0:=zn.cell 0);(try have n1:=zn.cell 1);(try have n2:=zn.frozen 0);(try have n3:=zn.frozen 1);have N:=Db hz;clear hz ad;(try clear zn)))
 ·obtain⟨Z,u⟩:∃Z,l.alloc (.cells #[.slice a9 l9 c9,.int .i64 f9] 217)=Z:=⟨_,rfl⟩;rw[u];have bZ:Bw l Z:=by rw[<-u];exact(Ak _ l).alloc (Aa _) _
  obtain⟨B,D,F⟩:=Da N;have z:FX Z w.heap.size 141 _:=(bZ.block _ B.lt).trans B;have t:FX Z X.heap.size 262 _:=(bZ.block _ D.lt).trans D;have A:Bw w Z:=F.trans (bZ.mono F.size);have c0:=t.cell 0;have c1:=t.cell 1;have aG:=t.cell 2;have aH:=t.cell 3;have c4:=t.cell 4;have d2:=(z.cell 2).trans (show _=some (Value.int .i64 (f:Nat)) from rfl);have d3:=(z.cell 3).trans (show _=some (Value.slice da g dc) from rfl)
  cases b9
  ·have HM:=Db (Da J ai ak (Da ap rfl) Z A);clear z t B D F A J N ab ac T aa L c2 c3 aj;go_wp2_with(go_at_call 185;refine(Da HM).mono ?_;rintro e U⟨x,rfl,HP⟩);go_ret;exact Da HP
  ·have K:=Db (Da M Z (Da ao rfl) A);clear z t B D F A J N ab ac T aa L c2 c3 aj;go_wp2;go_ret;exact Da K
 ·obtain⟨Z,u⟩:∃Z,(l.setCell ⟨Y.heap.size,0,none⟩ (.slice a9 l9 c9)).setCell ⟨Y.heap.size,1,none⟩ (.int .i64 f9)=Z:=⟨_,rfl⟩;rw[u];obtain⟨B,D,F⟩:=Da N;have av:w.heap.size<=Y.heap.size:=(Da ah).1.size;have z:FX Z w.heap.size 141 [.string p,.int .u8 2,.int .i64 (f:Nat),.slice da g dc]:=by rw[<-u];exact(Aw _ _ _ _ (show w.heap.size≠Y.heap.size from λe=>aC e.symm)).trans ((Aw _ _ _ _ (show w.heap.size≠Y.heap.size from λe=>aC e.symm)).trans B)
  have t:FX Z X.heap.size 262 (DG (some ⟨v,0,none⟩) n false ⟨none,0⟩):=by rw[<-u];exact(Aw _ _ _ _ (show X.heap.size≠Y.heap.size from λe=>aD e.symm)).trans ((Aw _ _ _ _ (show X.heap.size≠Y.heap.size from λe=>aD e.symm)).trans D)
  have A:Bw w Z:=by rw[<-u];exact(F.setCell (p:=⟨Y.heap.size,0,none⟩) av _).setCell (p:=⟨Y.heap.size,1,none⟩) av _
  have c0:=t.cell 0;have c1:=t.cell 1;have aG:=t.cell 2;have aH:=t.cell 3;have c4:=t.cell 4;have d2:=(z.cell 2).trans (show _=some (Value.int .i64 (f:Nat)) from rfl);have d3:=(z.cell 3).trans (show _=some (Value.slice da g dc) from rfl)
  cases b9
  ·have HM:=Db (Da J ai ak (Da ap rfl) Z A);clear z t B D F A J N ab ac T aa L c2 c3 aj;go_wp2_with(go_at_call 185;refine(Da HM).mono ?_;rintro e U⟨x,rfl,HP⟩);go_ret;exact Da HP
  ·have K:=Db (Da M Z (Da ao rfl) A);clear z t B D F A J N ab ac T aa L c2 c3 aj;go_wp2;go_ret;exact Da K
def O6(w:World)(tb:Nat)(G:Gh)(I:LF)(C:IB)(p:By)(f:Nat)(e:Ending)(w':World):Prop:=
 (∃b:Bool,e=.returned (.bool b))/\Fr (DM tb w) w w'/\(e=.returned (.bool true)->Ho G p=0/\KB G (Df p).dropLast=true/\∃r I',((f:Int),r)∈I/\F7 I I' (f:Int) ⟨r.a,r.l,r.c,r.f+1⟩/\PS w' tb (G++[(Df p,⟨none,(f:Int)⟩)]) I' C)
theorem Zju(w:World)(tb:Nat)(G:Gh)(I:LF)(C:IB)(h:PS w tb G I C)(hG:Gk G)(aG:G.length<=9000)(aH:I.length<=9000)(af:∀x∈I,0<=x.2.f/\x.2.f<=10000)(p:By)(hp:p.size<=2000000)(f:Nat)(da:OA)(z dc:Nat):
  Cl 158 #[.pointer (some ⟨tb,0,none⟩),.agg #[.string p,.int .u8 3,.int .i64 (f:Nat),.slice da z dc]] w (O6 w tb G I C p f):=by
 obtain⟨rd,V,E,vi,h⟩:=h;obtain⟨W1,e1,x1,k1,s1,b1⟩:=De w [.string p,.int .u8 3,.int .i64 (f:Nat),.slice da z dc] 141;have ab:∀{X},Bw w X->TW X tb rd V E vi G I C:=λi=>h.below i (Aa _)
 have aL:=h.t.lt;have Q:Hid (∀X,Bw w X->O6 w tb G I C p f (.returned (.bool false)) X):=λX hX=>⟨⟨false,rfl⟩,Fr.of_below hX,λe=>by cases e⟩
 have aq:=Db e1;have c0:=(x1.cell 0).trans (show _=some (Value.string p) from rfl);have ae:Hid (Cl 181 #[.pointer (some ⟨tb,0,none⟩),.string p] W1 λe X=>∃(d:OA) (n:By) (R:Int),e=.returned (.tuple #[Dj d n false ⟨none,0⟩,.int .i64 R])/\∃Y,X.alloc (.cells (DG d n false ⟨none,0⟩).toArray 262)=Y/\FX Y w.heap.size 141 [.string p,.int .u8 3,.int .i64 (f:Nat),.slice da z dc]/\Hid (FX Y X.heap.size 262 (DG d n false ⟨none,0⟩))/\Hid (Bw w Y/\w.heap.size+1<=X.heap.size/\Y.heap.size=X.heap.size+1)/\
   Hid (R=0->(∃r,((f:Int),r)∈I)->∀Z,Bw w Z->Cl 192 #[.pointer (some ⟨tb,0,none⟩),Dj d n false ⟨none,0⟩,.int .i64 (f:Nat)] Z λe U=>∃x:Int,e=.returned (.int .i64 x)/\Hid (O6 w tb G I C p f (.returned (.bool (x==0))) U))):=by
  refine(UA W1 tb rd V E vi G I C (ab b1) hG (by omega) p hp).mono ?_;intro e X ap;have i:=ap.2;have aI:=i.size;have ad:Bw w X:=b1.trans (i.mono (by omega));have aj:FX X w.heap.size 141 _:=(i.block _ x1.lt).trans x1;rcases ap.1 with⟨aA,rfl⟩|⟨h0,aB,ds,n,db,ac,ax,al,rfl⟩
  ·obtain⟨Y,eY,xY,kY,sY,bY⟩:=De X (DG none ⟨#[]⟩ false ⟨none,0⟩) 262;exact⟨none,⟨#[]⟩,_,rfl,Y,eY,kY _ _ _ aj,xY,⟨ad.trans (bY.mono ad.size),by omega,sY⟩,λe0=>absurd e0 aA⟩
  ·obtain⟨Y,eY,xY,kY,sY,bY⟩:=De X (DG (some ⟨db,0,none⟩) n false ⟨none,0⟩) 262;refine⟨some ⟨db,0,none⟩,n,0,rfl,Y,eY,kY _ _ _ aj,xY,⟨ad.trans (bY.mono ad.size),by omega,sY⟩,λ_ ⟨r,hr⟩ Z s=>?_⟩;have aC:(Df p).dropLast=ds:=by rw[ac];simp
   have aF:=Of aB ac;rw[ac]at al;refine(XD Z tb rd V E vi G I C (ab s) hG (by omega) (by omega) ds db ax n aF al (f:Int) r hr (af _ hr).1 (af _ hr).2).mono ?_;rintro e U (⟨_,rfl,S⟩|⟨hm,rfl,az,V',E',I',q1,q2⟩)
   ·exact⟨8,rfl,Da Q _ (s.trans (S.mono s.size))⟩
   ·exact⟨0,rfl,⟨true,rfl⟩,Fr.prog s az,λ_=>⟨h0,by rw[aC];exact hm,r,I',hr,q2,by rw[ac];exact⟨rd,V',E',vi,q1⟩⟩⟩
 have K:Hid (∀X,Bw w X->Cl 175 #[.pointer (some ⟨tb,1,none⟩),.int .i64 (f:Nat)] X λe Y=>∃(a9:OA) (l9 c9:Nat) (f9:Int) (b:Bool),e=.returned (.tuple #[.agg #[.slice a9 l9 c9,.int .i64 f9],.bool b])/\Hid (b=true->∃r,((f:Int),r)∈I)/\Bw X Y):=λX hX=>by
  have hT:=ab hX;refine(LN X tb 1 vi I (f:Int) ((hT.t.cell 1).trans rfl) hT.i (by omega) hT.si).mono ?_;rintro e Y⟨r,b,rfl,ay,i⟩;refine⟨r.a,r.l,r.c,r.f,b,rfl,λam=>?_,i⟩;rcases ay with⟨_,hm⟩|⟨e9,_⟩
  ·exact⟨r,hm⟩
  ·rw[e9]at am;cases am
 clear e1 x1 k1 s1 b1 ab h hG af;go_enter func158,ntmps158;go_upto_region 1 with fail;rw[show w.alloc (.cells #[.string p,.int .u8 3,.int .i64 (f:Nat),.slice da z dc] 141)=W1 from Da aq];unfold Dj at ae;go_upto_region 2 with(go_at_call 181;refine(Da ae).mono ?_;rintro e X⟨d,n,R,rfl,Y,hY,y1,au,ai,A⟩;have HY:=Db hY;clear hY ae c0);rw[show X.alloc (.cells (DG d n false ⟨none,0⟩).toArray 262)=Y from Da HY];have N:=(y1.cell 2).trans (show _=some (Value.int .i64 (f:Nat)) from rfl);have O:=(y1.cell 3).trans (show _=some (Value.slice da z dc) from rfl);have ar:=Db y1;clear y1;obtain⟨g,aD,aE⟩:=Da ai;have F:Hid (∀V,V.heap=Y.heap->V.os=Y.os->V.tape=Y.tape->V.output=Y.output->Bw w V):=λV a b c d=>⟨b.trans g.os,c.trans g.tape,d.trans g.output,by rw[a];exact g.size,λk m=>by rw[a];exact g.block k m⟩
 have D:Hid (∀V o,V.heap=(Y.alloc o).heap->V.os=Y.os->V.tape=Y.tape->V.output=Y.output->Bw w V):=λV o a b c d=>by
  have M:=g.trans ((Ak w.heap.size Y).alloc g.size o);exact⟨b.trans g.os,c.trans g.tape,d.trans g.output,by rw[a];exact M.size,λk m=>by rw[a];exact M.block k m⟩
 have H:Hid (∀V j,Bw V j->V.os=Y.os->V.tape=Y.tape->V.output=Y.output->(V.heap=Y.heap\/∃o,V.heap=(Y.alloc o).heap)->FX j w.heap.size 141 [.string p,.int .u8 3,.int .i64 (f:Nat),.slice da z dc]/\FX j X.heap.size 262 (DG d n false ⟨none,0⟩)/\Bw w j):=λV j i ho ht hu hV=>by
  have M:=Da ar;have h5:=Da au;rcases hV with e|⟨o,e⟩
  ·have m:∀k,k<Y.heap.size->j.heap[k]?=Y.heap[k]? := λk m=>(i.block k (by rw[e];exact m)).trans (by rw[e])
   have T:=i.size;rw[e]at T;exact⟨(m _ M.lt).trans M,(m _ h5.lt).trans h5,i.os.trans (ho.trans g.os),i.tape.trans (ht.trans g.tape),i.output.trans (hu.trans g.output),Af g.size T,λk aa=>(m k (AY aa g.size)).trans (g.block k aa)⟩
  ·have m:∀k,k<Y.heap.size->j.heap[k]?=Y.heap[k]? := λk m=>(i.block k (by rw[e];simp;omega)).trans (by rw[e];exact BH Y o k m)
   have T:=i.size;rw[e]at T;simp at T;exact⟨(m _ M.lt).trans M,(m _ h5.lt).trans h5,i.os.trans (ho.trans g.os),i.tape.trans (ht.trans g.tape),i.output.trans (hu.trans g.output),by have:=g.size;omega,λk aa=>(m k (AY aa g.size)).trans (g.block k aa)⟩
 have L:Hid (∀V j,Bw V j->V.heap=(Y.alloc (.cells #[.slice none 0 0,.int .i64 0] 217)).heap->FX j Y.heap.size 217 [.slice none 0 0,.int .i64 0]):=λV j i e=>(i.block _ (by rw[e];simp)).trans (by rw[e];exact B9 Y _)
 have an:¬Y.heap.size=w.heap.size:=by omega
 have ao:¬Y.heap.size=X.heap.size:=by omega
 clear g aD aE
 go_region_held3 (λW=>W.cell? ⟨w.heap.size,2,none⟩=some (.int .i64 (f:Nat))) (go_keep) (first|(go_at_call 175;refine(Da K _ (by first|exact Da F _ rfl rfl rfl rfl|exact Da D _ _ rfl rfl rfl rfl)).mono ?_;rintro e j⟨a9,l9,c9,f9,b9,rfl,ah,S⟩;have hz:=Da H _ j S rfl rfl rfl (by first|exact .inl rfl|exact .inr ⟨_,rfl⟩);have P:=(hz.1.cell 2).trans (show _=some (Value.int .i64 (f:Nat)) from rfl);have aK:=hz.1.lt;have aJ:=hz.2.1.lt;(try have zn:=Da L _ j S rfl);(try have n0:=zn.cell 0);(try have n1:=zn.cell 1);(try have n2:=zn.frozen 0);(try have n3:=zn.frozen 1);have B:=Db hz;clear hz S;(try clear zn)))
 ·obtain⟨Z,s⟩:∃Z,j.alloc (.cells #[.slice a9 l9 c9,.int .i64 f9] 217)=Z:=⟨_,rfl⟩;rw[s];have bZ:Bw j Z:=by rw[<-s];exact(Ak _ j).alloc (Aa _) _
  obtain⟨u,v,y⟩:=Da B;have t:FX Z w.heap.size 141 _:=(bZ.block _ u.lt).trans u;have l:FX Z X.heap.size 262 _:=(bZ.block _ v.lt).trans v;have q:Bw w Z:=y.trans (bZ.mono y.size);have c0:=l.cell 0;have c1:=l.cell 1;have av:=l.cell 2;have aw:=l.cell 3;have c4:=l.cell 4;have d2:=(t.cell 2).trans (show _=some (Value.int .i64 (f:Nat)) from rfl);have d3:=(t.cell 3).trans (show _=some (Value.slice da z dc) from rfl);by_cases ag:R=0
  ·cases b9
   ·have J:=Db (Da Q Z q);clear t l u v y q A B H L D F K N O P;go_wp2;go_ret;exact Da J
   ·have HM:=Db (Da A ag (Da ah rfl) Z q);clear t l u v y q A B H L D F K N O P;go_wp2_with(go_at_call 192;refine(Da HM).mono ?_;rintro e U⟨x,rfl,HP⟩);go_ret;exact Da HP
  ·have J:=Db (Da Q Z q);clear t l u v y q A B H L D F K N O P;go_wp2;go_ret;exact Da J
 ·obtain⟨Z,s⟩:∃Z,(j.setCell ⟨Y.heap.size,0,none⟩ (.slice a9 l9 c9)).setCell ⟨Y.heap.size,1,none⟩ (.int .i64 f9)=Z:=⟨_,rfl⟩;rw[s];obtain⟨u,v,y⟩:=Da B;have ak:w.heap.size<=Y.heap.size:=(Da ai).1.size;have t:FX Z w.heap.size 141 [.string p,.int .u8 3,.int .i64 (f:Nat),.slice da z dc]:=by rw[<-s];exact(Aw _ _ _ _ (show w.heap.size≠Y.heap.size from λe=>an e.symm)).trans ((Aw _ _ _ _ (show w.heap.size≠Y.heap.size from λe=>an e.symm)).trans u)
  have l:FX Z X.heap.size 262 (DG d n false ⟨none,0⟩):=by rw[<-s];exact(Aw _ _ _ _ (show X.heap.size≠Y.heap.size from λe=>ao e.symm)).trans ((Aw _ _ _ _ (show X.heap.size≠Y.heap.size from λe=>ao e.symm)).trans v)
  have q:Bw w Z:=by rw[<-s];exact(y.setCell (p:=⟨Y.heap.size,0,none⟩) ak _).setCell (p:=⟨Y.heap.size,1,none⟩) ak _
  have c0:=l.cell 0;have c1:=l.cell 1;have av:=l.cell 2;have aw:=l.cell 3;have c4:=l.cell 4;have d2:=(t.cell 2).trans (show _=some (Value.int .i64 (f:Nat)) from rfl);have d3:=(t.cell 3).trans (show _=some (Value.slice da z dc) from rfl);by_cases ag:R=0
  ·cases b9
   ·have J:=Db (Da Q Z q);clear t l u v y q A B H L D F K N O P;go_wp2;go_ret;exact Da J
   ·have HM:=Db (Da A ag (Da ah rfl) Z q);clear t l u v y q A B H L D F K N O P;go_wp2_with(go_at_call 192;refine(Da HM).mono ?_;rintro e U⟨x,rfl,HP⟩);go_ret;exact Da HP
  ·have J:=Db (Da Q Z q);clear t l u v y q A B H L D F K N O P;go_wp2;go_ret;exact Da J
end Go.Proofs.YtaieidcohdhgpaaGreatDoor
