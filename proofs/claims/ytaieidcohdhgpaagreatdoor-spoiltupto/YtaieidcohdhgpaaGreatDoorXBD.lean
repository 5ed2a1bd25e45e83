/- Spoilt. -/
import Derived.Test.YtaieidcohdhgpaaGreatDoorXBC
namespace Go.Proofs.YtaieidcohdhgpaaGreatDoor
set_option maxHeartbeats 40000000
set_option maxRecDepth 100000
open Go.RowKit
def UY(E:F3)(st:Pl)(s:By):Prop:=∃st0 r b,st=(E.put st0 r b).2/\(s.size<=10->s=DI (E.put st0 r b).1 (Dl b))
theorem Tw(E:F3)(kk:UInt8)(a b:Nat)(st:Pl)(s:By)(hn:1<=(s.size+a-1)/a):UY E (Dz E kk a b st s).2 (Dz E kk a b st s).1:=by
 obtain⟨n,c⟩:∃n,(s.size+a-1)/a=n+1:=⟨(s.size+a-1)/a-1,by omega⟩;have d:=Ql E kk a b st s;refine⟨E.puts (Dd kk.toNat b) (Dw kk s a) st 0 (List.range n),Dd kk.toNat b n,Dw kk s a n,?_,fun hs=>?_⟩
 ·unfold Dz;rw[c,Cu];have e:=F3.puts_snoc E (Dd kk.toNat b) (Dw kk s a) st 0 (List.range n) n;rw[Av,A2]at e;exact e
 ·rw[c]at d;obtain rfl:n=0:=by omega
  unfold Dz;rw[c];show DI _ _++⟨#[]⟩=_;rw[KC]
  rfl
theorem TO(E:F3):∀(d below:Nat) (st:Pl) (s:By),UY E st s->UY E (DE E d below st s).2 (DE E d below st s).1
 | 0,_,_,_,h=>h
 | d+1,below,st,s,h=>by
  unfold DE
  split
  ·exact TO E d _ _ _ (Tw E 2 60 below st s (by omega))
  ·exact h
theorem T1{s:KS}(g:Hh s)(cl:Bool){C:NB}{L:List It}(k:GQ C L):∃st0 r b,(Do s cl C L).2=((Dk s.es cl s.tp s.D).put st0 r b).2/\Gu (Do s cl C L).1=((Dk s.es cl s.tp s.D).put st0 r b).1/\(r,Gu (Do s cl C L).1)∈(Do s cl C L).2.puts/\Gu (Do s cl C L).1<1536:=by
 have c:=Ul k (Dk s.es cl s.tp s.D) (g.env cl) (s.tp+1) (by have:=g.tp;omega);change IY (Do s cl C L) at c;have j:UY (Dk s.es cl s.tp s.D) (Do s cl C L).2 (Do s cl C L).1:=TO _ 8 1 _ _ (Tw _ 3 63 0 _ _ (by
  rw[Ai,show(⟨#[0]⟩:By).size=1 from rfl];omega))
 obtain⟨st0,r,b,d,h⟩:=j;have i:=h (by rw[c.n3];exact Aa _);have f:(r,((Dk s.es cl s.tp s.D).put st0 r b).1)∈(Do s cl C L).2.puts:=by
  rw[d,F3.put_puts];exact Bo _ (Ab.2 rfl)
 have e:=c.pl.1 _ f;have a:Gu (Do s cl C L).1=((Dk s.es cl s.tp s.D).put st0 r b).1:=by
  rw[i];exact Uc _ _ (by have:((Dk s.es cl s.tp s.D).put st0 r b).1<1536:=e;omega)
 exact⟨st0,r,b,d,a,by rw[a];exact f,by rw[a];exact e⟩
theorem puts_len(E:F3)(R:Nat->Nat)(B:NB):∀(st:Pl) (i:Nat) (xs:List Nat),(E.puts R B st i xs).puts.length=st.puts.length+xs.length
 | st,i,[]=>rfl
 | st,i,x::xs=>by
  show(E.puts R B (E.put st (R i) (B x)).2 (i+1) xs).puts.length=_;rw[puts_len E R B _ (i+1) xs,F3.put_puts,Ad,Ba,Aq];omega
theorem Oa(E:F3)(kk:UInt8)(a b:Nat)(st:Pl)(s:By):(Dz E kk a b st s).2.puts.length=st.puts.length+(s.size+a-1)/a:=by
 unfold Dz;rw[puts_len,A2]
theorem Rd(E:F3):∀(d below:Nat) (st:Pl) (s:By) (m:Nat),s.size=10*m->1<=m->(DE E d below st s).2.puts.length+1<=st.puts.length+m
 | 0,_,st,s,m,h,a=>by show st.puts.length+1<=_;omega
 | d+1,below,st,s,m,h,hm=>by
  unfold DE
  split
  ·have a:=Oa E 2 60 below st s;have b:=Ql E 2 60 below st s;have ih:=Rd E d (below+1) (Dz E 2 60 below st s).2 (Dz E 2 60 below st s).1 _ b (by omega);omega
  ·show st.puts.length+1<=_;omega
theorem F7.puts{C:NB}{L:List It}(h:F7 C L)(s:KS)(cl:Bool):(Do s cl C L).2.puts.length<=255:=by
 have c:=h.ok;have aa:=h.le;obtain⟨E,k⟩:=ex (Dk s.es cl s.tp s.D);obtain⟨T,f⟩:=ex (Dr E C ⟨#[]⟩ ⟨s.tp+1,[],[]⟩ L);obtain⟨t,g⟩:∃t:By,t=T.1++⟨#[0]⟩:=⟨_,rfl⟩;obtain⟨R,e⟩:=ex (Dz E 3 63 0 T.2 t);have j:Do s cl C L=DE E 8 1 R.2 R.1:=by rw[e,g,f,k];rfl
 obtain⟨t1,i,_,_,_⟩:=KP E C ⟨#[]⟩ ⟨s.tp+1,[],[]⟩ L (fun z a=>⟨c.path z a,c.size z a,c.kind z a⟩);rw[<-f]at t1 i;have l:(⟨s.tp+1,[],[]⟩:Pl).puts.length=0:=rfl;rw[l]at i;have d:=Oa E 3 63 0 T.2 t;have b:=Ql E 3 63 0 T.2 t;rw[<-e]at d b;have a:t.size=T.1.size+1:=by rw[g];exact Ai
 rw[j];generalize hn:(t.size+63-1)/63=n at d b
 have h3:=Rd E 8 1 R.2 R.1 n b (by omega);omega
theorem RC(c:Nat)(p:Nat->Bool):(List.range 96).countP p=(List.range 96).countP (fun i=>p ((c+i)%96)):=by
 have d:(List.range 96).countP (fun i=>p ((c+i)%96))=((List.range 96).map (fun j=>(c+j)%96)).countP p:=by rw[List.countP_map];rfl
 rw[d];refine((UJ _ _ ?_ (fun x h=>?_) (by simp)).countP_eq _).symm
 ·rw[AM,Bg];refine List.Pairwise.imp_of_mem (R:=fun a b=>a≠b) (fun {a b} f g aa e=>?_) (AM.1 List.nodup_range);rw[BI]at f g;omega
 ·obtain⟨y,hy,rfl⟩:=Au.1 h;exact BI.2 (by omega)
theorem Ws{α : Type}(p a b c d : α -> Bool):∀(l:List α),(∀x∈l,p x=true->a x=true\/b x=true\/c x=true\/d x=true)->l.countP p<=l.countP a+l.countP b+l.countP c+l.countP d
 | [],_=>by simp
 | x::l,h=>by
  have ih:=Ws p a b c d l (fun y i=>h y (AF _ i));have g:=h x (by simp);simp only[CU];by_cases f:p x=true
  ·rcases g f with e|e|e|e<;>simp only[f,e,if_true]<;>omega
  ·simp only[f];simp only[FU,if_false];omega
theorem WY(f:Nat->Int):∀k,DS f k=16*(List.range k).countP (fun j=>decide (f j=0))
 | 0=>rfl
 | k+1=>by
  unfold DS;rw[WY f k,Cu,CS,CA];by_cases e:f k=0<;>simp[e]<;>omega
theorem Ziq(es:LI)(n:Nat):es.countP (fun x=>decide (x.2.toNat/16<n+1))=es.countP (fun x=>decide (x.2.toNat/16<n))+es.countP (fun x=>x.2.toNat/16==n):=by
 induction es with
 | nil=>rfl
 | cons x l ih=>
  simp only[CU,ih];by_cases c:x.2.toNat/16<n
  ·have a:x.2.toNat/16<n+1:=by omega
   have b:¬x.2.toNat/16=n:=by omega
   simp[c,a,b];omega
  ·by_cases b:x.2.toNat/16=n
   ·have a:x.2.toNat/16<n+1:=by omega
    simp[b];omega
   ·have a:¬x.2.toNat/16<n+1:=by omega
    simp[c,a,b]
theorem VZ(es:LI):∀n,9*(List.range n).countP (fun j=>decide (8<Dj es j))<=(if n=0 then 0 else 2)+es.countP (fun x=>decide (x.2.toNat/16<n))
 | 0=>by simp
 | n+1=>by
  have ih:=VZ es n;rw[Cu,CS,CA,Ziq,show(if n+1=0 then 0 else 2)=2 from if_neg (by omega)];by_cases h:8<Dj es n
  ·rw[show decide (8<Dj es n)=true from Cs h,if_pos rfl];unfold Dj at h;by_cases a:n=0
   ·rw[if_pos a]at h ih;omega
   ·rw[if_neg a]at h ih;omega
  ·rw[show decide (8<Dj es n)=false from B2 h,if_neg (by decide)];by_cases a:n=0
   ·rw[if_pos a]at ih;omega
   ·rw[if_neg a]at ih;omega
theorem VM(e:Nat->Int)(c d:Nat):∀k,(List.range k).countP (fun i=>decide (0<i/\e ((c+i)%96)<=0/\i<=d))<=Jj e c (min k (d+1))
 | 0=>by simp
 | k+1=>by
  have ih:=VM e c d k;rw[Cu,CS,CA];by_cases f:k<=d
  ·rw[show min k (d+1)=k by omega]at ih;rw[show min (k+1) (d+1)=k+1 by omega]
   conv=>rhs;unfold Jj
   by_cases h:0<k/\e ((c+k)%96)<=0
   ·rw[if_pos h,if_pos (by simp;exact⟨h.1,h.2,f⟩)];omega
   ·rw[if_neg h,if_neg (by simp;intro a b;exact absurd ⟨a,b⟩ h)];omega
  ·rw[show min k (d+1)=d+1 by omega]at ih;rw[show min (k+1) (d+1)=d+1 by omega,if_neg (by simp;intro a b;omega)];omega
theorem ZE(s:KS)(C:NB)(L:List It):∀y∈(Do s true C L).2.puts,y.2∈(Do s true C L).2.ps.map (·.1)\/y.2/16=s.tp/16\/8<Dj s.es (y.2/16):=by
 refine Re (E:=Dk s.es true s.tp s.D) (Q:=fun st=>∀y∈st.puts,y.2∈st.ps.map (·.1)\/y.2/16=s.tp/16\/8<Dj s.es (y.2/16)) (fun st r b hb h y c=>?_) C ⟨s.tp+1,[],[]⟩ L (fun y c=>(by cases c));unfold F3.put at c ⊢
 split at c
 ·rename_i q a;rcases Ap.1 c with e|e
  ·exact h y e
  ·rw[Ab.1 e];right;unfold F3.stay at a
   split at a
   ·split at a
    ·rename_i q' aa g
     cases a
     have f:¬(q/16≠s.tp/16/\Dj s.es (q/16)<=8):=fun e=>g.2 ⟨rfl,e.1,e.2⟩
     by_cases d:q/16=s.tp/16
     ·exact .inl d
     ·refine .inr ?_;show 8<Dj s.es (q/16);have:=fun e=>f ⟨d,e⟩
      omega
    ·cases a
   ·cases a
 ·rename_i a;show y.2∈List.map (fun x:Nat×By=>x.1) (st.ps++[_])\/_;rw[Bp];rcases Ap.1 c with e|e
  ·exact(h y e).imp (fun e=>A0 _ e) id
  ·rw[Ab.1 e];exact .inl (Bo _ (Ab.2 rfl))
theorem ZkG{s:KS}(g:Gf s){C:NB}{L:List It}(D:GQ C L)(hl:(Do s true C L).2.puts.length<=255)(ab:s.es.length<=255):512<=DS (IM (Do s true C L).2.puts) 96:=by
 have m:=PI.all g true D (by omega);have w:=ZE s C L;have ad:=g.ok.tp;obtain⟨j,o,a,_⟩:=m.ri;have ac:=m.le;obtain⟨c,b⟩:=ex (s.tp/16);have aa:c<96:=by omega
 rw[WY];have z:=List.length_eq_countP_add_countP (p:=fun j=>decide (IM (Do s true C L).2.puts j=0)) (l:=List.range 96);rw[A2]at z;have v:=Ws (fun i=>decide (¬(decide (IM (Do s true C L).2.puts ((c+i)%96)=0)=true))) (fun i=>decide (i=0)) (fun i=>decide ((c+i)%96=0)) (fun i=>decide (8<Dj s.es ((c+i)%96))) (fun i=>decide (0<i/\Dj s.es ((c+i)%96)<=0/\i<=j)) (List.range 96) (fun i B h=>by
  rw[BI]at B;simp only[AJ]at h ⊢;by_cases f:(c+i)%96=0
  ·exact .inr (.inl f)
  ·have E:0<(Do s true C L).2.puts.countP (fun y=>y.2/16==(c+i)%96):=by
    unfold IM at h;rw[if_neg f]at h;omega
   obtain⟨y,F,A⟩:=List.countP_pos_iff.1 E;have k:y.2/16=(c+i)%96:=by simpa using A
   rcases w y F with e|e|e
   ·obtain⟨m1,d⟩:=a.mem _ e;rw[<-b]at d;have ho:J9 c y.2=i:=by unfold J9;omega
    rw[ho]at d;rcases d with⟨q,_⟩|⟨I,J,q3⟩
    ·exact .inl q
    ·exact .inr (.inr (.inr ⟨I,by rw[<-k];exact J,by omega⟩))
   ·exact .inl (by omega)
   ·exact .inr (.inr (.inl (by rw[<-k];exact e))))
 have r:=RC c (fun j=>decide (¬(decide (IM (Do s true C L).2.puts j=0)=true)));have t:=RC c (fun j=>decide (j=0));have u:=RC c (fun j=>decide (8<Dj s.es j));have G:(List.range 96).countP (fun i=>decide (i=0))=1:=by decide
 have H:=VZ s.es 96;have ae:s.es.countP (fun x=>decide (x.2.toNat/16<96))<=s.es.length:=BT;have k4:=VM (Dj s.es) c j 96;have k5:Jj (Dj s.es) c (min 96 (j+1))<=Jj (Dj s.es) c j+1:=by
  have:=a.jl;rw[show min 96 (j+1)=j+1 by omega];show Jj (Dj s.es) c j+(if _ then 1 else 0)<=_
  split<;>omega
 have n:=a.cnt;rw[<-b,AK]at n;rw[if_neg (by omega)]at H;rw[<-r,<-t,<-u,G]at v;have k7:16*Jj (Dj s.es) c j<=255:=by omega
 clear n r t u b;generalize (List.range 96).countP (fun j=>decide (8<Dj s.es j))=a1 at *
 generalize (List.range 96).countP (fun i=>decide (0<i/\Dj s.es ((c+i)%96)<=0/\i<=j))=a2 at *
 omega
theorem QD(mf:Nat)(s:KS)(C:NB)(L:List It):∃cl,DK mf s C L=Do s cl C L/\(cl=false->¬DS (IM (Do s false C L).2.puts) 96<mf):=by
 unfold DK
 split
 ·exact⟨true,rfl,fun e=>by cases e⟩
 ·rename_i h;exact⟨false,rfl,fun _=>h⟩
theorem VN:∀{l:List (Nat×Nat)},(l.map (·.2)).Nodup->∀{a b:Nat×Nat},a∈l->b∈l->a.2=b.2->a=b
 | [],_,a,_,h,_,_=>by cases h
 | x::l,hn,a,b,ha,hb,e=>by
  rw[Br,Cv]at hn;rcases AE.1 ha with f|g
  ·rcases AE.1 hb with c|d
   ·rw[f,c]
   ·exact absurd (Au.2 ⟨b,d,by rw[<-f];exact e.symm⟩) hn.1
  ·rcases AE.1 hb with c|d
   ·exact absurd (Au.2 ⟨a,g,by rw[<-c];exact e⟩) hn.1
   ·exact VN hn.2 g d e
theorem RI.ge{s:KS}(b:Gf s){j o:Nat}{N:List Nat}(h:RI (Dj s.es) s.tp j o N){p:Nat}(c:p∈N):16<=p/\p<1536:=by
 obtain⟨d,f⟩:=h.mem p c;have aa:=b.tp;refine⟨?_,d⟩;rcases f with⟨_,q,_⟩|⟨_,q,_⟩
 ·omega
 ·rcases AO p 16 with e|e
  ·have a:p/16=0:=by omega
   rw[a]at q;unfold Dj at q;simp at q;omega
  ·exact e
structure GT(mf:Nat)(C:NB)(L:List It)(s s':KS):Prop where
 ne:(DK mf s C L).2.ps≠[]
 es:Hb (DK mf s C L).2.puts s'.es
 tp:s'.tp=Gu (DK mf s C L).1
 tx:s'.tx=GD (DK mf s C L).1
 tn:s'.tn=s.tn+1
 D:s'.D=(JD s.D (DK mf s C L).2.ps).set ((s.tn+1)%2) (GO (s.tn+1) s'.tp s'.tx)
theorem Hd.cases{mf:Nat}{C:NB}{L:List It}{s s':KS}(h:Hd mf C L s s'):((DK mf s C L).2.ps=[]/\s'=s)\/GT mf C L s s':=
 h.imp id (fun ⟨a,b,c,d,e,f⟩=>⟨a,b,c,d,e,f⟩)
section
variable{mf:Nat}{C C0:NB}{L L0:List It}{s s':KS}
theorem GT.w(i:GT mf C L s s')(c:Gf s)(h:F7 C L):LE s':=by
 obtain⟨cl,t,_⟩:=QD mf s C L;have hl:=h.puts s cl;have k:=PI.all c cl h.ok (by omega);have m:=Ul h.ok (Dk s.es cl s.tp s.D) (c.ok.env cl) (s.tp+1) (by have:=c.ok.tp;omega);change IY (Do s cl C L) at m;obtain⟨_,_,_,_,_,_,u⟩:=T1 c.ok cl h.ok;have d:=i.es;have n:=i.tp;have l:=i.D;rw[t]at d n l;obtain⟨j,o,p,_⟩:=k.ri;refine⟨⟨d.1,by rw[d.2.1];omega,by rw[n];exact u,by rw[l,Bq,QR,c.ok.dl],fun x f=>?_⟩,fun x f y g e=>?_,fun x f=>?_⟩
 ·obtain⟨y,g,rfl⟩:=(d.2.2 x).1 f;exact⟨y.2,rfl,m.pl.1 y g⟩
 ·obtain⟨a,q,rfl⟩:=(d.2.2 x).1 f;obtain⟨b,r,rfl⟩:=(d.2.2 y).1 g;have:a=b:=VN k.nd q r (by have e':((a.2:Nat):Int)=((b.2:Nat):Int):=e;omega);rw[this]
 ·obtain⟨y,g,rfl⟩:=(d.2.2 x).1 f;rcases k.mem y g with e|e
  ·have:=(p.ge c e).1
   simpa using this
  ·exact c.lo _ e
theorem GT.stands(a:GT mf C L s s')(c:Gf s)(b:F7 C L):Ge s' C L:=by
 obtain⟨cl,d,_⟩:=QD mf s C L;exact(Ge.keep c b.ok d (by have:=b.puts s cl;omega) a.es a.tp a.tx a.D).1
theorem F7.bd(h:F7 C L):OB C L:=fun x a=>⟨h.ok.path x a,h.ok.num x a,h.sz x a⟩
theorem UW{E:F3}(h:Gv E)(r:Nat):F9 E r<65536:=by
 unfold F9
 cases e:E.at r with
 | none=>show 0<_;omega
 | some q=>have:=(h.at_some e).2;show q<_;omega
theorem Zu{b k f i:Nat}(h1:b<60000)(h2:k<60000)(h3:f<60000)(h4:i<60000):Dy b k≠Dd 4 f i:=by
 unfold Dy Dd
 split<;>omega
theorem MH.row{t:By}{B:Nat}(h:MH s C0 L0 t B)(d:F7 C0 L0){b k:Nat}(f:b<60000)(g:k<60000){p:Int}(m:(((Dy b k:Nat):Int),p)∈s.es):b<=B/\k<nR (Dk s.es false s.tp s.D) t b/\p=((F9 (Dk s.es false s.tp s.D) (Dy b k):Nat):Int):=by
 rcases (h.es _).1 m with⟨z,j,i,hi,e⟩|⟨a,n,c,l,e⟩
 ·rw[AT]at e;have hn:=Qd (d.sz z j);exact absurd (show Dy b k=Dd 4 z.f i by have:=e.1;omega) (Zu f g (by have:=d.num z j;omega) (by omega))
 ·rw[AT]at e;have h8:=h.rows.b8;have aa:=h.rows.ns a c;obtain⟨rfl,rfl⟩:=Tv f (by omega) g (by omega) (show Dy b k=Dy a n by have:=e.1;omega);exact⟨c,l,e.2⟩
theorem GT.top(l:GT mf C L s s')(d:Gf s)(i:F7 C L)(X:Ge s C0 L0)(u:F7 C0 L0):s'.tp∈(DK mf s C L).2.ps.map (·.1):=by
 have M:=l.w d i;obtain⟨t1,c,f,_⟩:=(l.stands d i).on M i.ok i.k2;obtain⟨t0,T,t,_⟩:=X.on d.w u.ok u.k2;obtain⟨cl,N,_⟩:=QD mf s C L;have F:=PI.all d cl i.ok (by have:=i.puts s cl;omega);rw[<-N]at F;obtain⟨j,o,D,_⟩:=F.ri;refine Classical.byContradiction fun Z=>?_
 have b1:=f.rows.b8;have ht:((Dy c 0:Nat):Int)=((Dy c 0:Nat):Int)/\(((Dy c 0:Nat):Int),((s'.tp:Nat):Int))∈s'.es:=⟨rfl,(f.es _).2 (.inr ⟨c,0,Aa _,by have:=f.rows.top;omega,by rw[<-f.tp]⟩)⟩;have ac:(((Dy c 0:Nat):Int),((s'.tp:Nat):Int))∈s.es:=by
  obtain⟨y,g,e⟩:=(l.es.2.2 _).1 ht.2;rw[AT]at e;rcases F.mem y g with q|q
  ·exact absurd (by rw[show s'.tp=y.2 by have:=e.2;omega];exact q) Z
  ·rw[e.1,e.2];exact q
 obtain⟨V,_,hP⟩:=t.row u (by omega) (by omega) ac;have W:∀p:Nat,∀r:Int,(r,(p:Int))∈s.es->s'.D[p]?=s.D[p]? := fun p r v=>by
  have U:=d.lo _ v;simp only[Bz]at U;rw[l.D,As (by omega),UI _ _ _ (fun e=>D.not_es d e _ v)]
 have P:∀b k,b<=T->k<nR (Dk s.es false s.tp s.D) t0 b->(((Dy b k:Nat):Int),((F9 (Dk s.es false s.tp s.D) (Dy b k):Nat):Int))∈s.es:=fun b k m a=>(t.es _).2 (.inr ⟨b,k,m,a,rfl⟩)
 have S:=VW t.rows f.rows V (fun b k m a=>W _ _ (P b k m a)) (by
  show F9 _ (Dy c 0)=F9 _ (Dy c 0);rw[<-f.tp];omega)
 obtain⟨r,hr⟩:=Rt (t1:=t1) (t0:=t0) (n:=nR (Dk s'.es false s'.tp s'.D) t1 0) (by have:=f.rows.n0;have e:GN (Dk s'.es false s'.tp s'.D) t1 0=t1:=rfl;rw[e]at this;omega) (fun k a=>(S c 0 (by omega) k a).2.2);have aa:BL (DW (Dk s'.es false s'.tp s'.D) C ⟨#[]⟩ L)++0::r=BL (DW (Dk s.es false s.tp s.D) C0 ⟨#[]⟩ L0)++0::List.replicate (63*nR (Dk s'.es false s'.tp s'.D) t1 0) 0:=by
  have J:∀s:By,BL (s++⟨#[0]⟩)=BL s++[0]:=fun s=>DO _ _
  have O:=hr;rw[show BL t1=BL (DW (Dk s'.es false s'.tp s'.D) C ⟨#[]⟩ L++⟨#[0]⟩) from Ca BL f.tab,show BL t0=BL (DW (Dk s.es false s.tp s.D) C0 ⟨#[]⟩ L0++⟨#[0]⟩) from Ca BL t.tab,J,J,Ar,Ar]at O;exact O
 obtain⟨_,i2,i3⟩:=P8 (fun r=>UW (M.ok.env false) r) (fun r=>UW (d.ok.env false) r) L L0 _ _ _ _ i.bd u.bd aa;obtain⟨x,H⟩:=List.exists_mem_of_ne_nil _ l.ne;have K:x.1∈(DK mf s C L).2.ps.map (·.1):=Au.2 ⟨x,H,rfl⟩;have G:∃r,(r,x.1)∈(DK mf s C L).2.puts:=by
  rw[N]at H ⊢;refine Re (E:=Dk s.es cl s.tp s.D) (Q:=fun st=>∀x∈st.ps,∃r,(r,x.1)∈st.puts) (fun st r b m h y g=>?_) C ⟨s.tp+1,[],[]⟩ L (fun y g=>(by cases g)) x H;rw[F3.put_puts];unfold F3.put at g ⊢
  split at g
  ·obtain⟨I,B⟩:=h y g;exact⟨I,A0 _ B⟩
  ·rcases Ap.1 g with e|e
   ·obtain⟨I,B⟩:=h y e;exact⟨I,A0 _ B⟩
   ·rw[Ab.1 e];exact⟨r,Bo _ (Ab.2 rfl)⟩
 obtain⟨r1,G⟩:=G;have ab:(((r1:Nat):Int),((x.1:Nat):Int))∈s'.es:=(l.es.2.2 _).2 ⟨_,G,rfl⟩;rcases (f.es _).1 ab with⟨z,R,k,a,e⟩|⟨b,k,m,a,e⟩
 ·rw[AT]at e;rw[i3 z R k a]at e;have v:(z.f,(C z.f).size)∈L0.map (fun x=>(x.f,(C0 x.f).size)):=by rw[<-i2];exact Au.2 ⟨z,R,rfl⟩
  obtain⟨w,ad,A⟩:=Au.1 v;rw[AT]at A;have Y:k<Gg (C0 w.f):=by unfold Gg at a ⊢;rw[A.2];exact a
  have:=(t.es (((Dd 4 w.f k:Nat):Int),((F9 (Dk s.es false s.tp s.D) (Dd 4 w.f k):Nat):Int))).2 (.inl ⟨w,ad,k,Y,rfl⟩);rw[A.1,<-e.2]at this;exact D.not_es d K _ this
 ·rw[AT]at e;obtain⟨k1,k2,_⟩:=S (c-b) b (by omega) k a;have ae:F9 (Dk s'.es false s'.tp s'.D) (Dy b k)=F9 (Dk s.es false s.tp s.D) (Dy b k):=k2;have:=P b k (by omega) k1;rw[<-ae,<-e.2]at this;exact D.not_es d K _ this
theorem GT.inv'(hm:512<=mf)(i:GT mf C L s s')(a:Gf s)(d:F7 C L)(k:s'.tp∈(DK mf s C L).2.ps.map (·.1))(M:s.es.length<=255):Gf s':=by
 have f:=i.w a d;obtain⟨cl,D,E⟩:=QD mf s C L;have H:=d.puts s cl;have p:=PI.all a cl d.ok (by omega);obtain⟨st0,r,b,P,h,w,p4⟩:=T1 a.ok cl d.ok;have g:=i.es;have t:=i.tp;rw[D]at g t k;rw[<-t]at h w;obtain⟨j,o,c,F⟩:=p.ri;have ad:=a.ok.tp;have ae:=f.ok.tp;have u:(((r:Nat):Int),((s'.tp:Nat):Int))∈s'.es:=(g.2.2 _).2 ⟨_,w,rfl⟩;have G:(Do s cl C L).2.hd=s'.tp+1:=by
  rw[P,h]
  cases hs:(Dk s.es cl s.tp s.D).stay r b with
  | none=>unfold F3.put;rw[hs]
  | some q=>
   exfalso;have A:((Dk s.es cl s.tp s.D).put st0 r b).1=q:=by unfold F3.put;rw[hs]
   have B:((r:Int),(q:Int))∈s.es:=by
    unfold F3.stay at hs
    split at hs
    ·rename_i q' K
     split at hs
     ·cases hs;exact((a.ok.env cl).at_some K).1
     ·cases hs
    ·cases hs
   rw[A]at h;rw[h]at k;exact c.not_es a k _ B
 have aa:=c.jl;have ab:=c.o1;have ac:=c.o2;rw[G]at F;refine⟨f.ok,fun x N J=>?_,f.inj,Q4 u,?_,f.lo,?_⟩
 ·obtain⟨y,O,rfl⟩:=(g.2.2 x).1 N;simp only[Bz]at J ⊢;rcases p.mem y O with e|e
  ·obtain⟨m1,v⟩:=c.mem _ e;have I:J9 (s.tp/16) y.2=j:=by unfold J9;omega
   rw[I]at v;rcases v with⟨l,_,z⟩|⟨_,_,z⟩
   ·have:=z l;omega
   ·have:y.2%16<o:=by omega
    omega
  ·have m:=a.cur _ e;have n:=Q4 e;simp only[Bz]at m n;rcases c.fr with⟨l,Q⟩|⟨l,Q⟩
   ·have:=m (by omega);omega
   ·rw[show y.2/16=(s.tp/16+j)%96 by omega]at n;omega
 ·rw[g.nd]
  cases cl with
  | false=>have:=E rfl;omega
  | true=>
   exact ZkG a d.ok H M
 ·have:=f.lo _ u;simp only[Bz]at this;omega
theorem GT.inv(f:512<=mf)(d:GT mf C L s s')(c:Gf s)(a:F7 C L)(e:Ge s C0 L0)(b:F7 C0 L0):Gf s':=
 d.inv' f c a (d.top c a e b) (by rw[e.es.2.1];exact b.puts s false)
theorem Stays.stands(m:Gf s)(o:F7 C L)(N:Ge s C0 L0)(t:F7 C0 L0)(F:(Do s false C L).2.ps=[]):Ge s C L:=by
 obtain⟨t1,l,a⟩:=Stays.on m.w o.ok o.k2 F;obtain⟨t0,B,j,Y⟩:=N.on m.w t.ok t.k2;have S:=PI.all m false o.ok (by have:=o.puts s false;omega);have v:=m.ok.env false;have b1:=a.rows.b8;have V:=(a.on l (Aa _) 0 (by have:=a.rows.top;omega)).1;obtain⟨M,_,_⟩:=j.row t (b:=l) (k:=0) (by omega) (by omega) (v.at_some V).1;have X:=VW j.rows a.rows M (fun _ _ _ _=>rfl) rfl;obtain⟨r,T⟩:=Rt (t1:=t1) (t0:=t0) (n:=nR (Dk s.es false s.tp s.D) t1 0) (by have:=a.rows.n0;have e:GN (Dk s.es false s.tp s.D) t1 0=t1:=rfl;rw[e]at this;omega) (fun k f=>(X l 0 (by omega) k f).2.2);have q:∀s:By,BL (s++⟨#[0]⟩)=BL s++[0]:=fun s=>DO _ _
 have U:BL (DW (Dk s.es false s.tp s.D) C ⟨#[]⟩ L)++0::r=BL (DW (Dk s.es false s.tp s.D) C0 ⟨#[]⟩ L0)++0::List.replicate (63*nR (Dk s.es false s.tp s.D) t1 0) 0:=by
  have G:=T;rw[show BL t1=BL (DW (Dk s.es false s.tp s.D) C ⟨#[]⟩ L++⟨#[0]⟩) from Ca BL a.tab,show BL t0=BL (DW (Dk s.es false s.tp s.D) C0 ⟨#[]⟩ L0++⟨#[0]⟩) from Ca BL j.tab,q,q,Ar,Ar]at G;exact G
 obtain⟨W,H,_⟩:=P8 (fun r=>UW v r) (fun r=>UW v r) L L0 _ _ _ _ o.bd t.bd U;have K:t1=t0:=Kn (by rw[show BL t1=BL (DW (Dk s.es false s.tp s.D) C ⟨#[]⟩ L++⟨#[0]⟩) from Ca BL a.tab,show BL t0=BL (DW (Dk s.es false s.tp s.D) C0 ⟨#[]⟩ L0++⟨#[0]⟩) from Ca BL j.tab,q,q,W]);subst K;have J:l=B:=by
  rcases AO l B with h|h
  ·have:=Y.mn l h;have:=a.rows.top;omega
  ·omega
 subst J;have P:∀z∈L,∃c∈L0,c.f=z.f/\Gg (C0 c.f)=Gg (C z.f):=fun z g=>by
  have A:(z.f,(C z.f).size)∈L0.map (fun x=>(x.f,(C0 x.f).size)):=by rw[<-H];exact Au.2 ⟨z,g,rfl⟩
  obtain⟨c,i,d⟩:=Au.1 A;rw[AT]at d;exact⟨c,i,d.1,by unfold Gg;rw[d.2]⟩
 have Q:∀z∈L0,∃c∈L,c.f=z.f/\Gg (C c.f)=Gg (C0 z.f):=fun z g=>by
  have A:(z.f,(C0 z.f).size)∈L.map (fun x=>(x.f,(C x.f).size)):=by rw[H];exact Au.2 ⟨z,g,rfl⟩
  obtain⟨c,i,d⟩:=Au.1 A;rw[AT]at d;exact⟨c,i,d.1,by unfold Gg;rw[d.2]⟩
 have E:∀x,x∈s.es↔∃y∈(Do s false C L).2.puts,x=((y.1:Int),(y.2:Int)):=fun x=>by
  rw[j.es];constructor
  ·rintro(⟨z,g,k,f,rfl⟩|⟨b,k,w,f,rfl⟩)
   ·obtain⟨c,i,u,I⟩:=Q z g;refine⟨_,(a.puts _).2 (.inl ⟨c,i,k,by omega,rfl⟩),?_⟩;rw[u]
   ·exact⟨_,(a.puts _).2 (.inr ⟨b,k,w,f,rfl⟩),rfl⟩
  ·rintro⟨y,p,rfl⟩;rcases (a.puts y).1 p with⟨z,g,k,f,rfl⟩|⟨b,k,w,f,rfl⟩
   ·obtain⟨c,i,u,I⟩:=P z g;refine .inl ⟨c,i,k,by omega,?_⟩;rw[u]
   ·exact .inr ⟨b,k,w,f,rfl⟩
 have O:s.es.length=(Do s false C L).2.puts.length:=by
  have R:((Do s false C L).2.puts.map (fun y=>((y.1:Int),(y.2:Int)))).Nodup:=by
   have D:=S.rol;rw[AM,Bg]at D ⊢;refine D.imp (fun h e=>h ?_);rw[AT]at e;have:=e.1;omega
  have:=(Cn m.ok.srt.nodup R).2 (fun x=>by
   rw[E x,Au];exact⟨fun ⟨y,p,e⟩=>⟨y,p,e.symm⟩,fun ⟨y,p,e⟩=>⟨y,p,e.symm⟩⟩)
  have:=this.length_eq
  rwa [AK]at this
 exact⟨F,⟨m.ok.srt,O,E⟩,a.tp.trans j.tp.symm,a.tx.trans j.tx.symm⟩
theorem Gz.key{es:LI}(h:Gz es){x y:Int×Int}(d:x∈es)(f:y∈es)(e:x.1=y.1):x=y:=by
 obtain⟨i,c⟩:=Cd.1 d;obtain⟨j,b⟩:=Cd.1 f;rcases Cz i j with a|a|a
 ·have:=h i j x y a c b;rw[e,Kq]at this;cases this
 ·subst a;rw[c]at b;exact BV b
 ·have:=h j i y x a b c;rw[e,Kq]at this;cases this
theorem Gv.mem_at{E:F3}(h:Gv E){r q:Nat}(b:((r:Int),(q:Int))∈E.eb):E.at r=some q:=by
 cases e:E.at r with
 | none=>
  unfold F3.at at e;rw[Ef]at e;have:=CR.1 e _ b;simp at this
 | some q'=>
  have a:=h.srt.key b (h.at_some e).1 rfl;rw[AT]at a;have:=a.2;exact Ca some (by omega)
theorem Zgf(b:Gf s)(a:F7 C L)(h:(Do s true C L).2.ps=[]):(Do s false C L).2.ps=[]/\(Do s false C L).2.puts=(Do s true C L).2.puts:=by
 have i:=PI.all b true a.ok (by have:=a.puts s true;omega);have f:Hg (Dk s.es true s.tp s.D) (Dk s.es false s.tp s.D) (Do s true C L).2:=by
  refine⟨fun y j=>?_,fun x c=>?_,fun r q _=>rfl,rfl⟩
  ·refine(b.ok.env false).mem_at ?_;rcases i.mem y j with e|e
   ·rw[h]at e;cases e
   ·exact e
  ·rw[h]at c;cases c
 have g:=f.keep C (s.tp+1) ⟨s.tp+1,[],[]⟩ L ⟨fun _ h=>h,fun _ h=>h⟩;have d:Do s false C L=((Do s true C L).1,lk (s.tp+1) (Do s true C L).2):=g;rw[d];exact⟨rfl,rfl⟩
theorem Hd.ok(j:512<=mf)(i:Hd mf C L s s')(b:Gf s)(a:F7 C L)(e:Ge s C0 L0)(d:F7 C0 L0):Gf s'/\Ge s' C L/\s'.tn<=s.tn+1/\(DK mf s C L).2.ps.length<=255:=by
 obtain⟨cl,f,aa⟩:=QD mf s C L;have g:(DK mf s C L).2.ps.length<=255:=by
  have c:=a.puts s cl;have h2:=(PI.all b cl a.ok (by omega)).le;rw[f];omega
 rcases i.cases with⟨c,rfl⟩|h
 ·refine⟨b,Stays.stands b a e d ?_,by omega,g⟩;rw[f]at c
  cases cl with
  | false=>exact c
  | true=>exact(Zgf b a c).1
 ·exact⟨h.inv j b a e d,h.stands b a,by rw[h.tn];exact Aa _,g⟩
end
theorem BL_ckB(T p x:Nat):∃Z:List UInt8,Z.length=41/\BL (GO T p x)=1::(BL Ke++(DC T 8++(DT p x++Z))):=by
 have f:BL (Mo T p x)=BL Ke++(DC T 8++DT p x):=by
  unfold Mo;have b:BL (Je T 8)=DC T 8:=Kt _;rw[DO,DO,b,Ub,Ar]
 have a:(BL Ke++(DC T 8++DT p x)).length=22:=by
  rw[Ad,Ad,D4,JK];rfl
 have d:BL (Hr T p x)=1::((BL Ke++(DC T 8++DT p x))++List.replicate 41 0):=by
  unfold Hr;rw[DO,KR,f,BN,Ah (by omega),a,BM]
  rfl
 unfold GO;obtain⟨N,e⟩:=ex (Dl ((Hr T p x).extract 0 56));rw[<-e];have c:BL (Je N 8)=DC N 8:=Kt _;refine⟨List.replicate 33 0++DC N 8,by rw[Ad,D4,Bk],?_⟩;rw[DO,c,JV,d,BY,show 56-0=55+1 from rfl,Ew,BN,Ah (by omega),a,BM,show min (55-22) 41=33 from rfl];simp only[AI,Ar]
theorem Py{T p x:Nat}(d:T<18446744073709551616)(f:p<65536)(h:x<18446744073709551616):IE (GO T p x)=T/\Gu (Ij (GO T p x))=p/\GD (Ij (GO T p x))=x:=by
 obtain⟨Z,a,e⟩:=BL_ckB T p x;have g:(BL Ke).length=4:=rfl;have c:BL (IW (GO T p x))=DC T 8++(DT p x++Z):=by
  unfold IW;rw[JV,e,show(5:Nat)=4+1 from rfl,CK,CQ g];refine Ah ?_;rw[Ad,Ad,D4,JK,a]
  decide
 have i:(IW (GO T p x)).size=59:=by rw[<-DZ,c,Ad,Ad,D4,JK,a]
 have b:BL (Ij (GO T p x))=DT p x++Z:=by
  unfold Ij;rw[JV,c,i,CQ (D4 8 T)];refine Ah ?_;rw[Ad,JK,a]
  decide
 have hq:(Ij (GO T p x)).size=51:=by rw[<-DZ,b,Ad,JK,a]
 refine⟨?_,?_,?_⟩
 ·show DA (BL (Dg (IW (GO T p x)) 8))=T;rw[KR,c,Ar,BP (D4 8 T)];exact Kr 8 T d
 ·rw[Ph _ (by omega),b];unfold DT;rw[Ar,BP (D4 2 p)];exact Kr 2 p f
 ·rw[Sn _ (by omega),b];unfold DT;rw[Ar,CQ (D4 2 p),BP (D4 8 x)];exact Kr 8 x h
theorem ck_ok{T p x:Nat}(d:T<18446744073709551616)(e:p<65536)(f:x<18446744073709551616):Kh (T%2) (GO T p x)=true:=by
 obtain⟨a,b,c⟩:=Py d e f;unfold Kh;rw[a,b,c];simp
structure GW(s:KS):Prop where
 tx:s.tx<18446744073709551616
 tn:1<=s.tn
 own:s.D[s.tn%2]?=some (GO s.tn s.tp s.tx)
 old:∃p x,p<65536/\x<18446744073709551616/\s.D[(s.tn+1)%2]?=some (GO (s.tn-1) p x)
theorem GW.last{s:KS}(h:GW s)(ab:s.tp<1536)(aa:s.tn+1<18446744073709551616):∃s0 s1,s.D[0]?=some s0/\s.D[1]?=some s1/\J4 s0 s1=some (s.tn,s.tp,s.tx):=by
 obtain⟨p,x,k,l,ho⟩:=h.old;have h1:=h.tn;obtain⟨f,g,i⟩:=Py (T:=s.tn) (p:=s.tp) (x:=s.tx) (by omega) (by omega) h.tx;obtain⟨j,b2,b3⟩:=Py (T:=s.tn-1) (p:=p) (x:=x) (by omega) k l;have a:=ck_ok (T:=s.tn) (p:=s.tp) (x:=s.tx) (by omega) (by omega) h.tx;have b:=ck_ok (T:=s.tn-1) (p:=p) (x:=x) (by omega) k l;rcases Nat.mod_two_eq_zero_or_one s.tn with e|e
 ·have c:(s.tn+1)%2=1:=by omega
  have d:(s.tn-1)%2=1:=by omega
  refine⟨_,_,by rw[<-e];exact h.own,by rw[<-c];exact ho,?_⟩;rw[e]at a;rw[d]at b;unfold J4;rw[if_pos ⟨a,b⟩,f,g,i,j,if_pos (by omega)]
 ·have c:(s.tn+1)%2=0:=by omega
  have d:(s.tn-1)%2=0:=by omega
  refine⟨_,_,by rw[<-c];exact ho,by rw[<-e];exact h.own,?_⟩;rw[e]at a;rw[d]at b;unfold J4;rw[if_pos ⟨b,a⟩,f,g,i,j,if_neg (by omega),if_pos (by omega)]
theorem GT.ck{i:Nat}{C:NB}{L:List It}{s c:KS}(b:GT i C L s c)(a:Gf s)(d:F7 C L)(h:GW s):GW c:=by
 obtain⟨cl,l,_⟩:=QD i s C L;have f:=PI.all a cl d.ok (by have:=d.puts s cl;omega);rw[<-l]at f;obtain⟨j,o,k,_⟩:=f.ri;have g:=b.tn;have m:c.tx<18446744073709551616:=by rw[b.tx];exact S0 _
 refine⟨m,by omega,?_,s.tp,s.tx,by have:=a.ok.tp;omega,h.tx,?_⟩
 ·rw[b.D,g,Bf (by rw[QR,a.ok.dl];omega)]
 ·rw[b.D,g,As (by omega),UI _ _ _ (fun e=>by have:=(k.ge a e).1;omega),show(s.tn+1+1)%2=s.tn%2 by omega,show s.tn+1-1=s.tn by omega];exact h.own
theorem Hd.ck{e:Nat}{C:NB}{L:List It}{s a:KS}(d:Hd e C L s a)(c:Gf s)(b:F7 C L)(h:GW s):GW a:=by
 rcases d.cases with⟨_,rfl⟩|k
 ·exact h
 ·exact k.ck c b h
def IG:KS:=⟨Jq,16,Dl DG,1,Jn⟩
theorem ZP:Jn.length=1536:=by unfold Jn;rw[Bq,Bq,QR,Kx]
theorem Yz:Jn[16]?=some DG:=by
 unfold Jn;rw[As (by omega),As (by omega)];exact P6 [(16,DG)] J3 (by simp) (fun x a=>by rw[Ab.1 a,Kx];decide) (16,DG) (by simp)
theorem XZ(st:Pl):(Dk Jq false 16 Jn).put st (Dd 3 0 0) DG=(16,⟨st.hd,st.puts++[(Dd 3 0 0,16)],st.ps⟩):=by
 have a:(Dk Jq false 16 Jn).stay (Dd 3 0 0) DG=some 16:=by
  unfold F3.stay;have:(Dk Jq false 16 Jn).at (Dd 3 0 0)=some 16:=by simp[F3.at,Dk,Jq]
  rw[this];show(if _ then _ else _)=_;rw[if_pos];exact⟨Yz,fun e=>by cases e.1⟩
 unfold F3.put;rw[a]
theorem Zg(C:NB):Do IG false C []=(DI 16 (Dl DG),⟨17,[(Dd 3 0 0,16)],[]⟩):=by
 have a:Dz (Dk Jq false 16 Jn) 3 63 0 ⟨17,[],[]⟩ (⟨#[]⟩++⟨#[0]⟩)=(DI 16 (Dl DG),⟨17,[(Dd 3 0 0,16)],[]⟩):=by
  rw[Uh];unfold Dz;rw[show((⟨#[0]⟩:By).size+63-1)/63=1 from rfl];show(DI ((Dk Jq false 16 Jn).put ⟨17,[],[]⟩ (Dd 3 0 0) DG).1 (Dl DG)++⟨#[]⟩,((Dk Jq false 16 Jn).put ⟨17,[],[]⟩ (Dd 3 0 0) DG).2)=_;rw[KC,XZ]
  rfl
 show DE (Dk Jq false 16 Jn) 8 1 (Dz (Dk Jq false 16 Jn) 3 63 0 ⟨17,[],[]⟩ (⟨#[]⟩++⟨#[0]⟩)).2 (Dz (Dk Jq false 16 Jn) 3 63 0 ⟨17,[],[]⟩ (⟨#[]⟩++⟨#[0]⟩)).1=_;rw[a];unfold DE;rw[if_neg (by rw[K5];omega)]
theorem Qv(x:Int×Int)(h:x∈IG.es):x=(((Dd 3 0 0:Nat):Int),((16:Nat):Int)):=Ab.1 h
theorem Te:Gz IG.es:=fun j k x y aa hj a=>by
 have:=(Ae.1 a).1;have hl:IG.es.length=1:=rfl;omega
theorem XY:Gf IG:=by
 refine⟨⟨Te,by show 1<=_;omega,by show 16<1536;omega,ZP,fun x a=>?_⟩,fun x a _=>?_,fun x a y b _=>?_,?_,?_,fun x a=>?_,by show 15<=16;omega⟩
 ·rw[Qv x a];exact⟨16,rfl,by omega⟩
 ·rw[Qv x a];exact Aa _
 ·rw[Qv x a,Qv y b]
 ·exact Q4 (x:=(((Dd 3 0 0:Nat):Int),((16:Nat):Int))) (es:=IG.es) (Ab.2 rfl)
 ·show 512<=DS (Dj Jq) 96;rw[show DS (Dj Jq) 96=1504 from LQ];omega
 ·rw[Qv x a];exact Aa _
theorem Zkp(C:NB):Ge IG C []:=by
 have e:=Zg C;refine⟨by rw[e],⟨Te,by rw[e];rfl,fun x=>?_⟩,by rw[e];exact Uc _ _ (by omega),by rw[e];exact Vb _ _ (JS _)⟩;rw[e];constructor
 ·intro a;exact⟨_,Ab.2 rfl,Qv x a⟩
 ·rintro⟨y,b,rfl⟩;rw[Ab.1 b];exact Ab.2 rfl
theorem ks0_ck:GW IG:=by
 have a:IG.tx<18446744073709551616:=by show Dl DG<_;exact JS DG
 have b:Dl DG<18446744073709551616:=JS DG;refine⟨a,by show 1<=1;omega,?_,16,Dl DG,by omega,b,?_⟩
 ·show Jn[1]?=some (GO 1 16 (Dl DG));unfold Jn;rw[As (by omega),Bf (by rw[QR,Kx];omega)]
 ·show Jn[0]?=some (GO 0 16 (Dl DG));unfold Jn;rw[Bf (by rw[Bq,QR,Kx];omega)]
structure Gx(C:NB)(L:List It)(G:Gh)(I:LF)(CI:IB):Prop where
 g:G=L.map (fun x=>(x.ns,(⟨none,(x.f:Int)⟩:VS)))
 il:I.length=L.length
 i1:∀x∈I,x.2.f=1/\∃z∈L,x.1=(z.f:Int)/\x.2.l=(C z.f).size
 i2:∀z∈L,∃r,((z.f:Int),r)∈I
 c:∀z∈L,CI z.f=C z.f
theorem Oe(l:List Nat)(h:∀n∈l,n<=1280):DN l<=l.length*20:=by
 induction l with
 | nil=>simp[DN]
 | cons a l ih=>
  have h1:=h a (by simp);have b:=ih (fun n c=>h n (AF _ c));unfold DN at b ⊢;rw[Br,FA,Aq];omega
theorem PF{L:List It}{k:Nat}(h:k<L.length):L.take (k+1)=L.take k++[gi L k]:=by
 rw[BZ,(Kc h).1];rfl
theorem Gx.may{C:NB}{L:List It}(c:F7 C L){k:Nat}(l:k<L.length){G:Gh}{I:LF}{s:IB}(h:Gx C (L.take k) G I s):SB G I (jn (gi L k).ns) (gi L k).f (C (gi L k).f).size:=by
 obtain⟨w,i⟩:=Kc l;obtain⟨n,v,hn⟩:=c.ns _ i;obtain⟨J,K,p3⟩:=c.path i;have ae:=c.le;have aa:G.length<=k:=by rw[h.g,AK,Am];omega
 have ab:I.length<=k:=by rw[h.il,Am];omega
 have f:∀x∈L.take k,x∈L:=fun x a=>BE a
 have d:∀x∈G,∃z∈L.take k,x=(z.ns,(⟨none,(z.f:Int)⟩:VS)):=fun x a=>by
  rw[h.g]at a;obtain⟨z,b,e⟩:=Au.1 a;exact⟨z,b,e.symm⟩
 have r:∀x∈I,x.2.l<=1280:=fun x a=>by
  obtain⟨_,z,b,_,e⟩:=h.i1 x a;rw[e];exact c.sz z (f z b)
 have g:(L.take (k+1)).map (·.ns) |>.Nodup:=by
  have:=c.nd;rw[<-B8 (k+1) L,Bp,Ci]at this;exact this.1
 have D:Gr G (gi L k).ns=none:=by
  unfold Gr;rw[Ef,CR];intro x a;obtain⟨z,b,rfl⟩:=d x a;rw[PF l,Bp,Ci]at g;have:=g.2.2 z.ns (Au.2 ⟨z,b,rfl⟩) (gi L k).ns (by simp)
  simpa using this
 have B:Gt G:=by
  refine⟨fun x a=>?_,fun x a=>?_,fun x a=>?_,?_,fun ns n u a => .inl ?_⟩
  ·obtain⟨z,b,rfl⟩:=d x a;exact(c.nms (f z b)).1
  ·obtain⟨z,b,rfl⟩:=d x a;exact(c.nms (f z b)).2.1
  ·obtain⟨z,b,rfl⟩:=d x a;exact(c.nms (f z b)).2.2
  ·rw[h.g,Ce];rw[PF l,Bp,Ci]at g;exact g.1
  ·obtain⟨z,b,e⟩:=d _ a;obtain⟨m,t,_⟩:=c.ns z (f z b);rw[AT,t]at e;have:=Ca List.length e.1;rw[Ad]at this
   simpa using this
 refine⟨B,by omega,by omega,fun x a=>by have:=r x a;omega,by omega,?_,?_,fun x a e=>?_,fun I1 o da dc y A q=>?_⟩
 ·unfold Hz;rw[if_neg (by rw[K];decide),J];unfold Jo;rw[D,v];show(if GV G []≠0 then _ else _)=_;rw[if_neg (by simp[GV]),if_neg (by simp)]
 ·unfold Jp;have ac:G.countP (Hk (Df (jn (gi L k).ns)).dropLast)<=G.length:=BT;have E:cD G []=1:=by
   unfold cD;rw[C9.2 (fun x a=>by obtain⟨z,b,rfl⟩:=d x a;simp)]
  rw[E];exact Cs ⟨⟨by omega,by omega⟩,by omega⟩
 ·obtain⟨_,z,b,e1,_⟩:=h.i1 x a;obtain⟨j,F,p⟩:=CW.1 b;rw[Am]at F;rw[FZ]at p;have:=c.fresh w (Ae.2 ⟨by omega,p⟩) (by omega);omega
 ·have ad:o.length<=8:=by rw[q.1,y];omega
  have:=Oe (o.map (·.2.l)) (fun m H=>by
   obtain⟨x,a,rfl⟩:=Au.1 H;rcases (q.2 x).1 a with rfl|⟨a,_⟩
   ·exact c.sz _ i
   ·rcases (A x).1 a with rfl|a
    ·exact Aw _
    ·exact r x a)
  rw[AK]at this;omega
theorem Gx.add{C:NB}{L:List It}(o:F7 C L){k:Nat}(p:k<L.length){G:Gh}{I:LF}{i:IB}(h:Gx C (L.take k) G I i){f l:LF}{d:IB}{q:OA}{s:Nat}(v:f.length=I.length+1)
  (n:∀x,x∈f↔x=(((gi L k).f:Int),⟨none,0,0,1⟩)\/x∈I) (c:Gq f l ((gi L k).f:Int) ⟨q,(C (gi L k).f).size,s,1⟩) (w:d (gi L k).f=C (gi L k).f) (y:∀x∈I,d x.1=i x.1):
  Gx C (L.take (k+1)) (G++[(Df (jn (gi L k).ns),⟨none,((gi L k).f:Int)⟩)]) l d:=by
 obtain⟨t,u⟩:=Kc p;obtain⟨E,_⟩:=o.path u;have D:∀z∈L.take k,z.f≠(gi L k).f:=fun z a e=>by
  obtain⟨j,A,m⟩:=CW.1 a;rw[Am]at A;rw[FZ]at m;have:=o.fresh t (Ae.2 ⟨by omega,m⟩) e.symm;omega
 rw[PF p];refine⟨by rw[h.g,E,Bp];rfl,by rw[c.1,v,h.il,Ad];rfl,fun x b=>?_,fun z a=>?_,fun z a=>?_⟩
 ·rcases (c.2 x).1 b with rfl|⟨b,B⟩
  ·exact⟨rfl,_,by simp,rfl,rfl⟩
  ·rcases (n x).1 b with rfl|b
   ·exact absurd rfl B
   ·obtain⟨F,z,a,H⟩:=h.i1 x b;exact⟨F,z,A0 _ a,H⟩
 ·rcases Ap.1 a with a|a
  ·obtain⟨r,g⟩:=h.i2 z a;exact⟨r,(c.2 _).2 (.inr ⟨(n _).2 (.inr g),by have:=D z a;simp;omega⟩)⟩
  ·rw[Ab.1 a];exact⟨_,(c.2 _).2 (.inl rfl)⟩
 ·rcases Ap.1 a with a|a
  ·obtain⟨r,g⟩:=h.i2 z a;rw[y _ g];exact h.c z a
  ·rw[Ab.1 a];exact w
def Lt(E:F3)(C:NB)(L:List It)(z k:Nat):By:=⟨(BL (DW E C (Qp (fun j=>jn (gi L j).ns) k) (L.drop k))++(0::List.replicate z 0)).toArray⟩
theorem Q9(E:F3)(C:NB)(L:List It)(z k:Nat):BL (Lt E C L z k)=BL (DW E C (Qp (fun j=>jn (gi L j).ns) k) (L.drop k))++(0::List.replicate z 0):=Kt _
theorem Ve(E:F3)(C:NB)(L:List It)(z:Nat){k:Nat}(h:L.length<=k):DA (BL (Dg (Lt E C L z k) 1))=0:=by
 rw[KR,Q9,Cq h]
 rfl
theorem Qs{D:LY}{E:F3}{C:NB}{L:List It}(d:F7 C L)(I:∀r,F9 E r<1536)(F:∀x∈L,∀k,k<Gg (C x.f)->16<=F9 E (Dd 4 x.f k)/\F9 E (Dd 4 x.f k)<1536/\D[F9 E (Dd 4 x.f k)]?=some (Gl (C x.f) k))(z:Nat){k:Nat}(G:k<L.length){s g:By}(K:s=Lt E C L z k)(H:g=Qp (fun j=>jn (gi L j).ns) k):
  DA (BL (Dg s 1))=2/\DA (BL (Dg (eS s) 1))<=g.size/\eP g s=jn (gi L k).ns/\eF s=(gi L k).f/\eL s=(C (gi L k).f).size/\(∀i,i<Gg (C (gi L k).f)->eQ s i=F9 E (Dd 4 (gi L k).f i))/\(eL s+63)/64=Gg (C (gi L k).f)/\Dv (eR s) (Gg (C (gi L k).f))=Lt E C L z (k+1):=by
 obtain⟨B,a⟩:=Kc G;have o:LH D (Lt E C L z k) (Qp (fun j=>jn (gi L j).ns) k) (jn (gi L k).ns) (gi L k).f (C (gi L k).f) (fun i=>F9 E (Dd 4 (gi L k).f i)) (Lt E C L z (k+1)):=by
  refine LH.of (E:=E) (C:=C) ?_ (by have:=(d.path a).2.2;omega) (d.num _ a) (d.sz _ a) I (fun i f=>F _ a i f);rw[Q9,Q9,<-Ar]
  congr 1
  have A:L.drop k=gi L k::L.drop (k+1):=by
   obtain⟨J,e⟩:=Ae.1 B;rw[<-e];exact CO J
  rw[A];exact DO _ _
 rw[<-K,<-H]at o;obtain⟨t,u,M,v,s6,sm,n,N,_,_,w2,U,V,W,X,O,w,y,P,Q,_,R,S,T⟩:=o;have b:eS s=t:=w2.symm;have h:eS t=u:=U.symm;have l:eS u=M:=V.symm;have c:LR s=v:=by unfold LR;rw[b,h,l,y];exact W.symm
 have m:eS v=s6:=X.symm;have p:eL s=(C (gi L k).f).size:=by unfold eL;rw[c,m];exact R
 have q:eR s=s6.extract 2 s6.size:=by unfold eR;rw[c,m]
 exact⟨O,by rw[b,w];exact N,by unfold eP;rw[b,h,l,w,y];exact P,by unfold eF;rw[c];exact Q,p,fun i f=>by unfold eQ;rw[q];exact(S i f).1,by rw[p];unfold Gg;rfl,by rw[q];exact T.symm⟩
theorem SD{q:F5}{f:Nat}{P a:Nat->Nat}:∀K,(∀i,i<K->P i=a i/\∀y∈(Ky q f a i).ins,y.1≠Dd 4 f i)->Jf q f P K=Ky q f a K
 | 0,_=>rfl
 | K+1,h=>by
  have e:Jf q f P (K+1)=((Jf q f P K).take (P K)).putO (Dd 4 f K) (P K):=rfl;rw[e,SD K (fun i hi=>h i (by omega)),(h K (by omega)).1];exact F5.putO_new (q:=(Ky q f a K).take (a K)) (h K (by omega)).2
theorem Sw{D:LY}{P:Nat->Nat}{d:By}:∀n,(∀k,k<n->D[P k]?=some (Gl d k))->CB (fun k=>(D[P k]?).getD (Di 64)) n=KA d n
 | 0,_=>rfl
 | n+1,h=>by
  show CB _ n++_=KA d n++_;rw[Sw n (fun k hk=>h k (by omega))];show KA d n++(D[P n]?).getD (Di 64)=_;rw[h n (by omega)]
  rfl
def Mx(A:Prop)(T:F5->By->By->Gh->LF->(IB)->Prop)(D:LY)(tp tx:Nat):Prop:=∀(W w0:World) (n0 rb db:Nat) (va vt:Value),Gd w0 n0 rb db 0 0 D2 va vt W->∀{vf vw ve:Value} {a:OA} {l c:Nat},DV w0 db vf (.slice a l c) vw ve D->(db<n0/\∀k,F2 (.slice a l c) k->k<n0)->0<n0->Gs W->
 Cl 136 #[.pointer (some ⟨rb,0,none⟩),.agg #[.int .i64 (tp:Nat),.int .u64 (tx:Nat)]] W (UO A T W w0 n0 rb db tp tx va vt)
theorem Y9{s:KS}(hI:Gf s){C:NB}{L:List It}(F:F7 C L){t:By}{B:Nat}(O:MH s C L t B):∃T,Mx True T s.D s.tp s.tx/\∀q x Y G I K,T q x Y G I K->DA (BL (Dg x 1))=0->Gx C L G I K/\(∀y:Nat×Nat,y∈q.ins↔((y.1:Int),(y.2:Int))∈s.es)/\∀p,q.tk p=true->∃r:Int,(r,(p:Int))∈s.es:=by
 obtain⟨E,hE⟩:=ex (Dk s.es false s.tp s.D);have ag:=hI.ok.env false;rw[<-hE]at ag;have M:=O.rows;have ar:=O.tab;have S:=O.dat;have aa:=O.es;have au:=O.tp;have aE:=O.tx;have aH:=O.ts;rw[<-hE]at M ar S aa au aE;obtain⟨R,hR⟩:=ex (GN E t);obtain⟨N,hN⟩:=ex (nR E t);have ay:R 0=t:=by rw[hR];rfl
 obtain⟨P,hP⟩:∃P:Nat->Nat->Nat,P=fun b k=>F9 E (Dy b k):=⟨_,rfl⟩
 obtain⟨X,hX⟩:∃X:Nat->Nat->Nat,X=fun b k=>Dl (Dw (G0 b) (GN E t b) (GR b) k):=⟨_,rfl⟩
 rw[<-hP,<-hX,<-hR,<-hN]at M;have aG:=M.top;obtain⟨w,ap⟩:=ex (JB N P (I5 R) B 0 D2);obtain⟨Z,ac⟩:=PU M;obtain⟨z,av,aJ⟩:=Ww M;rw[<-ap]at Z ac av;have ao:=M.ns;have aw:=M.b8;have ad:∀r,F9 E r<1536:=fun r=>by
  unfold F9
  cases e:E.at r with
  | none=>show 0<_;omega
  | some q=>exact(ag.at_some e).2
 have aF:=F.le;have af:∀k,k<=L.length->∀i,(k<L.length->i<=Gg (C (gi L k).f))->(k=L.length->i=0)->∀r,MR E C L t B k i r->((r:Int),(F9 E r:Int))∈s.es:=fun k v i u am r hr=>by
  rcases hr with⟨b,j,f,g,rfl⟩|⟨k',i',f,rfl⟩
  ·exact(aa _).2 (.inr ⟨b,j,f,g,rfl⟩)
  ·refine(aa _).2 (.inl ⟨gi L k',(Kc (L:=L) (k:=k') ?_).2,i',?_,rfl⟩)
   ·rcases f with f|⟨f,g⟩
    ·omega
    ·rcases AO k L.length with e|e
     ·omega
     ·have:=am (by omega);omega
   ·rcases f with f|⟨f,g⟩
    ·exact f.2
    ·subst f;rcases AO k' L.length with e|e
     ·have:=u e;omega
     ·have:=am (by omega);omega
 have ax:QI E (MR E C L t B 0 0) 8000 w:=by
  refine⟨fun y=>⟨fun V=>?_,fun ⟨V,e⟩=>?_⟩,fun p hp=>?_,?_⟩
  ·obtain⟨b,k,f,g,rfl⟩:=Z.g1 y V;rw[ac b f,hN]at g;rw[hP];exact⟨.inl ⟨b,k,f,g,rfl⟩,rfl⟩
  ·rcases V with⟨b,k,f,g,H⟩|⟨k',i',f,_⟩
   ·have:=Z.g6 b k f (by rw[ac b f,hN];exact g);rw[hP]at this;have ey:y=(Dy b k,F9 E (Dy b k)):=FP H (by rw[e,H]);rw[ey];exact this
   ·omega
  ·rcases Z.g2 p hp with⟨b,k,f,g,H⟩|⟨b,f,g,H,h4⟩
   ·rw[ac b f,hN]at g;rw[hP]at H;exact⟨_,.inl ⟨b,k,f,g,rfl⟩,H⟩
   ·omega
  ·rw[Z.g7];have f:Ka w.tn (B+1)<=Ka (fun _=>1000) (B+1):=Tb _ (fun k v=>Ag (Z.g3 k (by omega)) (ao k (by omega)));rw[Rs]at f;omega
 have ah:=fun k v=>ax.files F k v
 have aA:∀b,b<=B->nR E t b<=1000:=fun b hb=>by rw[<-hN];exact ao b hb
 have aD:Lt E C L z 0=w.t:=Kn (by
  rw[Q9,av,ay,ar,DO];show BL (DW E C ⟨#[]⟩ (L.drop 0))++([0]++List.replicate z 0)=_;rw[BY,<-Ar];rfl)
 have aq:Jb s.D 1537 s.tp D2=some (B,w):=by
  have:=Rb M B (Aa _) 1537 0 D2 (by omega) (by omega) (GI.start N P _ B (B+1)) (I6.start N B);rw[<-ap,hP]at this;rw[au];exact this
 have hu:=Pp D2;have ai:∀k,k<L.length->∀i,i<Gg (C (gi L k).f)->(Ky (LM E C L w k) (gi L k).f (fun i=>F9 E (Dd 4 (gi L k).f i)) i).tk (F9 E (Dd 4 (gi L k).f i))=false/\∀y∈(Ky (LM E C L w k) (gi L k).f (fun i=>F9 E (Dd 4 (gi L k).f i)) i).ins,y.1≠Dd 4 (gi L k).f i:=fun k v i u=>by
  have hq:=(ah k (by omega)).fil i;have ak:=MR.fresh (E:=E) (t:=t) F aw aA v u;refine⟨?_,fun y V e=>?_⟩
  ·cases ht:(Ky (LM E C L w k) (gi L k).f (fun i=>F9 E (Dd 4 (gi L k).f i)) i).tk (F9 E (Dd 4 (gi L k).f i)) with
   | false=>rfl
   | true=>
    exfalso;obtain⟨r,f,g⟩:=hq.tk _ ht;have m1:=af k (by omega) i (fun _=>by omega) (fun e=>by omega) r f;have m2:(((Dd 4 (gi L k).f i:Nat):Int),((F9 E (Dd 4 (gi L k).f i):Nat):Int))∈s.es:=(aa _).2 (.inl ⟨gi L k,(Kc v).2,i,u,rfl⟩);have:=hI.inj _ m1 _ m2 (by show((_:Nat):Int)=((_:Nat):Int);rw[g]);rw[AT]at this;have J:r=Dd 4 (gi L k).f i:=by have:=this.1;omega
    rw[J]at f;exact ak f
  ·obtain⟨f,_⟩:=(hq.ins y).1 V;rw[e]at f;exact ak f
 have aj:∀(k:Nat) (x:By),k<L.length->eF x=(gi L k).f->(∀i,i<Gg (C (gi L k).f)->eQ x i=F9 E (Dd 4 (gi L k).f i))->∀n,n<=Gg (C (gi L k).f)->Jf (LM E C L w k) (eF x) (eQ x) n=Ky (LM E C L w k) (gi L k).f (fun i=>F9 E (Dd 4 (gi L k).f i)) n:=fun k x v f g n hn=>by
  rw[f];exact SD n (fun i u=>⟨g i (by omega),(ai k v i (by omega)).2⟩)
 refine⟨fun q x Y G I K=>∃k,k<=L.length/\q=LM E C L w k/\x=Lt E C L z k/\Y=Qp (fun j=>jn (gi L j).ns) k/\Gx C (L.take k) G I K,fun W w0 n0 rb db va vt h vf vw ve a l c hD an h0 aC=>?_,?_⟩;refine Tu True _ (D:=s.D) ?_ ?_ ?_ W w0 n0 rb db 0 0 D2 va vt h hD an h0 aC s.tp s.tx (Jb s.D 1537 s.tp D2) (fun X va vt hX=>Rm w0 n0 rb db s.tp s.tx hD an 1537 0 s.tp s.tx D2 X va vt GM.start (by omega) hX) (fun b q' e=>⟨?_,Vm hD.2.1.2 e⟩) (fun e=>by rw[aq]at e;cases e)
 ·rintro q x Y G I K kd p fn l d q' s' G' I' C' ⟨k,v,rfl,o,U,Q⟩ ⟨A,_,J⟩ ae ab hA;rcases AO k L.length with m|m
  ·obtain⟨u1,_,u3,u4,u5,u6,u7,u8⟩:=Qs F ad S z m o U;have k2:kd=2:=A.trans u1;obtain⟨p1,_,p3⟩:=J ab;obtain⟨p4,p5⟩:=p3 k2;obtain⟨d1,d2,d3⟩:=ae k2;obtain⟨rfl,I1,da,dc,a1,a2,a3,a4,a5⟩:=hA k2;rw[u7,u5,Sw (P:=eQ x) (d:=C (gi L k).f) _ (fun i u=>by rw[u6 i u];exact(S _ (Kc m).2 i u).2.2)]at d3;have hd:d=C (gi L k).f:=Kn (by rw[d3,JV,BY,EH];exact ZmJ _);rw[d1,u4]at a2 a3 a4 ⊢;rw[d2,u5]at a3;rw[hd]at a4;refine⟨k+1,m,?_,by rw[p5,u7];exact u8,by rw[p1];exact u3,by rw[p1,u3];exact Q.add F m a1 a2 a3 a4 a5⟩;rw[p4,u7];exact aj k x m u4 u6 _ (Aa _)
  ·exact absurd (by rw[A,o];exact Ve E C L z m) ab
 ·rintro q x Y G I K ⟨k,v,rfl,o,U,Q⟩ ⟨az,hn⟩;rcases AO k L.length with m|m
  ·obtain⟨u1,u2,u3,u4,u5,u6,u7,u8⟩:=Qs F ad S z m o U;rcases hn with hn|hn
   ·omega
   ·refine absurd (fun i u=>?_) hn;rw[u7]at u;obtain⟨m1,m2,_⟩:=S _ (Kc m).2 i u;rw[aj k x m u4 u6 i (by omega),u6 i u];exact⟨m1,m2,(ai k m i u).1⟩
  ·exact absurd (by rw[o];exact Ve E C L z m) az
 ·rintro q x Y G I K kd p fn l d q' s' ⟨k,v,rfl,o,U,Q⟩ ⟨A,_,J⟩ ae ab aB;rcases AO k L.length with m|m
  ·obtain⟨u1,_,u3,u4,u5,u6,u7,u8⟩:=Qs F ad S z m o U;have k2:kd=2:=A.trans u1;obtain⟨d1,d2,_⟩:=ae k2;refine absurd ?_ (aB k2);rw[(J ab).1,u3,d1,u4,d2,u5];exact⟨Q.may F m,F.num _ (Kc m).2,F.sz _ (Kc m).2⟩
  ·exact absurd (by rw[A,o];exact Ve E C L z m) ab
 ·rw[aq]at e
  cases e
  exact⟨0,Aw _,rfl,aD.symm,rfl,⟨rfl,rfl,fun x o=>(by cases o),fun z hz=>(by simp at hz),fun z hz=>(by simp at hz)⟩⟩
 rintro q x Y G I K ⟨k,v,rfl,o,U,Q⟩ aI;obtain rfl:k=L.length:=by
  rcases AO k L.length with m|m
  ·have:=(Qs F ad S z m o U).1;omega
  ·omega
 rw[CT]at Q;have hq:=ah L.length (Aa _);refine⟨Q,fun y=>?_,fun p hp=>?_⟩
 ·rw[hq.ins];constructor
  ·rintro⟨f,g⟩;rw[g];exact af L.length (Aa _) 0 (fun _=>Aw _) (fun _=>rfl) _ f
  ·intro V;rcases (aa _).1 V with⟨x,o,k,f,g⟩|⟨b,k,f,g,H⟩
   ·rw[AT]at g;have A:y.1=Dd 4 x.f k:=by have:=g.1;omega
    have J:y.2=F9 E (Dd 4 x.f k):=by have:=g.2;omega
    refine⟨.inr ?_,by rw[A,J]⟩;obtain⟨j,hj,ej⟩:=CW.1 o;have al:gi L j=x:=by unfold gi;rw[Ac hj,ej];rfl
    exact⟨j,k,.inl ⟨hj,by rw[al];exact f⟩,by rw[al,A]⟩
   ·rw[AT]at H;have A:y.1=Dy b k:=by have:=H.1;omega
    have J:y.2=F9 E (Dy b k):=by have:=H.2;omega
    exact⟨.inl ⟨b,k,f,g,A⟩,by rw[A,J]⟩
 ·obtain⟨r,f,g⟩:=hq.tk p hp;rw[g];exact⟨(r:Int),af L.length (Aa _) 0 (fun _=>Aw _) (fun _=>rfl) _ f⟩
end Go.Proofs.YtaieidcohdhgpaaGreatDoor
