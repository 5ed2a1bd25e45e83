/- Dumps. -/
import Derived.Test.YtaieidcohdhgpaaGreatDoorZAN
import Derived.Lib.SlBytesConst
namespace Go.Proofs.YtaieidcohdhgpaaGreatDoor
set_option maxHeartbeats 40000000
set_option maxRecDepth 100000
open Go.RowKit
theorem RA:(Tryz.prog.info? 188).map (fun i=>(i.zero,i.size,i.bytes))=some (some (DG (Du 64)),64,64):=by kernel_rfl
theorem Rh:Tryz.prog.underlying 186=some (.slice 188):=by kernel_rfl
theorem ZkM(D:LY):∀u∈JW D,u.oneCell'=true:=fun u a=>by
 obtain⟨s,_,h⟩:=Cz.1 a;exact Qi s u h
theorem Sl.empty(w:World)(b:Nat)(h:FH w b 188 []):Sl w 188 64 (.slice (some ⟨b,0,none⟩) 0 0) 0 []:=⟨rfl,.inr ⟨b,0,[],rfl,h,Aa _,Aw _,rfl,rfl⟩⟩
theorem Lx(x:Addr)(n c:Nat)(w:World):(binOp .eql 186 (.slice (some x) n c) (.slice none 0 0)).run Tryz.prog w = .ok (.bool false) w:=by kernel_rfl
theorem Zi0(w:World)(y:Value)(D:LY)(h:Hc w y D)(B:0<D.length)(hl:D.length<=1000000):
  Cl 141 #[y] w fun e w'=>∃a d b,e = .returned (.slice a d b)/\Hc w' (.slice a d b) D/\Bw w w'/\∀g,Own (.slice a d b) g->w.heap.size<=g:=by
 obtain⟨g,c,L,rfl,l,o,hc,ab,C⟩:=h.row B;obtain⟨K,F,H,I,J⟩:=Bn RA;obtain⟨W,p,s,q,r,m⟩:=De w [] 188;have ac:=l.lt;obtain⟨v',z,t,i,v,x⟩:=JZ (P:=Tryz.prog) W 186 186 188 K _ 64 64 Rh F H I J (by show(Dd (Du 64)).toArray.size=64;simp[Dj,Kr]) (by decide) (.slice (some ⟨w.heap.size,0,none⟩) 0 0) 0 [] (Sl.empty W _ s) ⟨g,0,none⟩ D.length c (JW D) (PQ h.2)
  (fun j u f=>by
   rw[AF,Au,(q _ _ _ l).cell];rw[<-o,Ap]at f
   split at f
   ·exact f
   ·cases f) (ZkM D) (by unfold maxLen;omega) (by omega)
 obtain⟨a,d,b,rfl⟩:=i.shape;have E:Hid (Hc z (.slice a d b) D/\Bw w z/\∀g,Own (.slice a d b) g->w.heap.size<=g):=by
  refine⟨⟨by rw[AJ,Au]at i;exact i,h.2⟩,m.grown v m.size (fun k e=>?_),fun k G=>?_⟩
  ·simp[Value.ownBlock]at e;omega
  ·rcases x k G with n|n
   ·simp[Value.ownBlock]at n;omega
   ·omega
 have A:=Db p;have aa:=Db r;clear h l o C s q m i v x p r;have hq:=Lx ⟨g,0,none⟩ D.length c;go_enter Tryz.func141,Tryz.ntmps141;rw[<-Da A]at t;go_wp2_with (at_builtin;refine Aj _ rfl _ _ 186 186 rfl _ _ rfl rfl _ _ t ?_);go_ret;exact⟨a,d,b,rfl,Da E⟩
def Te(w:World)(db:Nat)(vn:Value)(D:LY)(e:Ending)(w':World):Prop:=
 e = .returned (.tuple #[])/\∃vf',Kt w' db vf' vn (.slice none 0 0) (.slice none 0 0) D/\Hc w' vf' D/\Fr (fun k=>k=db) w w'/\(∀g,Own vf' g->w.heap.size<=g)
theorem T8(w:World)(b:Nat)(q j vw p:Value)(D:LY)(h:Kt w b q j vw p D)(n:¬Own j b):
  Cl 161 #[.pointer (some ⟨b,0,none⟩)] w (Te w b j D):=by
 have t:=Zi0 w j D h.2.1 (by rw[h.2.2];decide) (by rw[h.2.2];decide);obtain⟨a,l,c,rfl⟩:=h.2.1.1.shape;have B:=h.1.lt;have x:Hid (Cl 141 #[.slice a l c] w fun e w'=>∃d g f,e = .returned (.slice d g f)/\FH w' b 204 [q,.slice a l c,vw,p]/\Hid (Te w b (.slice a l c) D (.returned (.tuple #[])) (((w'.setCell ⟨b,0,none⟩ (.slice d g f)).setCell ⟨b,2,none⟩ (.slice none 0 0)).setCell ⟨b,3,none⟩ (.slice none 0 0)))):=t.mono fun e w' ⟨d,g,f,z,r,m,s⟩=>by
  have u:FH w' b 204 [q,.slice a l c,vw,p]:=(m.block _ B).trans h.1;have v:Hc w' (.slice a l c) D:=⟨h.2.1.1.kept (fun k A _=>m.block k A),h.2.1.2⟩;have o:¬Own (.slice d g f) b:=fun e=>by have:=s _ e;omega
  refine⟨d,g,f,z,u,rfl,.slice d g f,⟨by simpa using ((u.set 0 (.slice d g f)).set 2 (.slice none 0 0)).set 3 (.slice none 0 0),⟨((v.1.setCell ⟨b,0,none⟩ _ n).setCell ⟨b,2,none⟩ _ n).setCell ⟨b,3,none⟩ _ n,v.2⟩,h.2.2⟩,⟨((r.1.setCell ⟨b,0,none⟩ _ o).setCell ⟨b,2,none⟩ _ o).setCell ⟨b,3,none⟩ _ o,r.2⟩,?_,s⟩;exact((Fr.set (X:=fun k=>k=b) (Fr.of_below m) ⟨b,0,none⟩ _ rfl).set ⟨b,2,none⟩ _ rfl).set ⟨b,3,none⟩ _ rfl
 have c1:w.cell? ⟨b,1,none⟩=some (.slice a l c):=(h.1.cell 1).trans rfl;clear h t;go_enter Tryz.func161,Tryz.ntmps161;go_wp2_with (go_at_call 141;refine(Da x).mono ?_;rintro e w' ⟨d,g,f,rfl,i,y⟩;have m0:=i.cell 0;have f0:=i.frozen 0;have m2:=i.cell 2;have f2:=i.frozen 2;have m3:=i.cell 3;have f3:=i.frozen 3)
 go_end0
 exact Da y
def VG(w:World)(vn:Value)(D:LY)(e:Ending)(w':World):Prop:=
 e = .returned (.pointer (some ⟨w.heap.size,0,none⟩))/\∃vf',Kt w' w.heap.size vf' vn (.slice none 0 0) (.slice none 0 0) D/\Hc w' vf' D/\Bw w w'/\(∀g,Own vf' g->w.heap.size<g)
theorem ZhH(w:World)(d:Value)(D:LY)(h:Hc w d D)(u:D.length=1536):
  Cl 134 #[d] w (VG w d D):=by
 obtain⟨W,j,n,y,z,b⟩:=De w [.slice none 0 0,d,.slice none 0 0,.slice none 0 0] 204;have m:¬Own d w.heap.size:=fun e=>by have:=h.1.lt e;omega
 have o:Hid (Cl 161 #[.pointer (some ⟨w.heap.size,0,none⟩)] W fun e w'=>e = .returned (.tuple #[])/\Hid (VG w d D (.returned (.pointer (some ⟨w.heap.size,0,none⟩))) w')):=(T8 W w.heap.size (.slice none 0 0) d (.slice none 0 0) (.slice none 0 0) D ⟨n,⟨h.1.kept (fun k i _=>b.block k i),h.2⟩,u⟩ m).mono fun e w' ⟨v,A,r,s,f,t⟩=>
  ⟨v,rfl,A,r,s,⟨f.os.trans b.os,f.tape.trans b.tape,f.output.trans b.output,Ae b.size f.size,fun k i=>(f.block k (by omega) (by omega)).trans (b.block k i)⟩,fun g x=>by have:=t g x;omega⟩
 have q:=Db j;obtain⟨a,l,c,rfl⟩:=h.1.shape;clear h n y z b m j;go_enter Tryz.func134,Tryz.ntmps134;go_wp2_with (go_at_call 161;rw[show w.alloc (.cells #[.slice none 0 0,.slice a l c,.slice none 0 0,.slice none 0 0] 204)=W from Da q];refine(Da o).mono ?_;rintro e w' ⟨rfl,p⟩);go_ret;exact Da p
theorem VY:∀n,JW (List.replicate n (Du 64))=List.replicate (n*64) (.int .u8 0)
 | 0=>rfl
 | n+1=>by
  have ih:=VY n;unfold JW at ih ⊢;rw[Fm,AW,ih,UE,List.replicate_append_replicate]
  congr 1;omega
theorem Zkq(n:Nat):(madeCells (DG (Du 64)).cells (n*64)).toList=List.replicate (n*64) (.int .u8 0):=by
 apply CR;intro j;have d:(DG (Du 64)).cells.size=64:=by rw[Ns];simp[Dj,Kr]
 by_cases b:j<n*64
 ·rw[List.getElem?_replicate,if_pos b];simp only[madeCells,Array.toList_map,Be,Array.toList_range,Ej b,Cn]
  congr 1
  have a:j%(DG (Du 64)).cells.size<(DG (Du 64)).cells.size:=Nat.mod_lt _ (by rw[d];decide);rw[getElem!_pos (DG (Du 64)).cells (j%(DG (Du 64)).cells.size) a];simp only[Ns,List.getElem_toArray];have c:=List.getElem_of_eq (UE 64) (i:=j%(Dd (Du 64)).toArray.size) (by simpa [Ns] using a);rw[c,List.getElem_replicate]
 ·rw[Bv (by simp[madeCells];omega),Bv (by simp;omega)]
def D6:LY:=List.replicate 1536 (Du 64)
theorem ND:D6.length=1536:=C5
theorem Zj8:∀s∈D6,s.size=64:=fun s a=>by rw[(List.mem_replicate.1 a).2,Kr]
def Rq(w:World)(e:Ending)(w':World):Prop:=
 ∃db vf' vn',e = .returned (.pointer (some ⟨db,0,none⟩))/\w.heap.size<=db/\Kt w' db vf' vn' (.slice none 0 0) (.slice none 0 0) D6/\Hc w' vf' D6/\Bw w w'/\(∀g,Own vf' g->w.heap.size<=g/\g≠db)/\(∀g,Own vn' g->w.heap.size<=g/\g≠db)/\(∀g,Own vn' g->¬Own vf' g)
theorem ZV(w:World):Cl 98 #[] w (Rq w):=by
 obtain⟨u,q,r,s,t⟩:=Bn RA;have j:Hid (∀W:World,W.ownsRow 0 188 64 (.slice (some ⟨w.heap.size,0,none⟩) 1536 1536) 1536 (madeCells (DG (Du 64)).cells (1536*64)).toList->w.grownBy W none->Cl 134 #[.slice (some ⟨w.heap.size,0,none⟩) 1536 1536] W fun e w'=>∃c,e = .returned (.pointer (some ⟨c,0,none⟩))/\Hid (Rq w (.returned (.pointer (some ⟨c,0,none⟩))) w')):=fun W m n=>by
  have d:=Sl.of_owns m;rw[Zkq 1536,<-VY]at d;have b:=UC n;have aa:=d.lt (g:=w.heap.size) rfl;have o:Hc W (.slice (some ⟨w.heap.size,0,none⟩) 1536 1536) D6:=⟨by rw[ND];exact d,Zj8⟩;refine(ZhH W _ D6 o ND).mono ?_;rintro e w' ⟨rfl,z,v,x,y,i⟩;refine⟨W.heap.size,rfl,W.heap.size,z,_,rfl,b.size,v,x,b.trans (y.mono b.size),fun g a=>?_,fun g a=>?_,fun g a p=>?_⟩
  ·have:=i g a;have:=b.size;omega
  ·simp[Own,Value.ownBlock]at a;omega
  ·simp[Own,Value.ownBlock]at a;have:=i g p;omega
 go_enter Tryz.func98,Tryz.ntmps98;go_wp2_with (first|(at_make;refine CY _ rfl _ _ 186 rfl 0 188 u (DG (Du 64)) 64 Rh q r s _ _ _ _ 1536 rfl rfl rfl rfl (by rw[t];decide) (by unfold maxLen;decide) (Aw _) ?_;intro w1 h f;have k:=Db (Da j w1 h f);clear h f)|(go_at_call 134;refine(Da k).mono ?_;rintro e w' ⟨c,rfl,l⟩));go_ret;exact Da l
theorem Ziw(x:Int):0<=IntKind.u64.wrap x/\IntKind.u64.wrap x<18446744073709551616:=by
 simp[IntKind.wrap,IntKind.bits,IntKind.signed];omega
theorem Rv(l:List UInt8):0<=KI l/\KI l<18446744073709551616:=by
 rcases List.eq_nil_or_concat l with rfl|⟨l',b,rfl⟩
 ·decide
 ·rw[List.concat_eq_append,T5];exact Ziw _
def D5(s:By):Nat:=(KI s.data.toList).toNat
theorem U9(s:By):KI s.data.toList=((D5 s:Nat):Int):=by unfold D5;have:=(Rv s.data.toList).1;omega
theorem OG(s:By):D5 s<18446744073709551616:=by unfold D5;have:=Rv s.data.toList;omega
def I8(b:Nat)(w:World)(v:Value)(s:By):Prop:=cP b w v s\/∃x l,v = .slice (some x) l l/\Ge w (some x) l l s
theorem I8.below{b:Nat}{w w':World}{v:Value}{s:By}(h:I8 b w v s)(a:Bw w w'):I8 b w' v s:=by
 rcases h with h|⟨x,l,rfl,h⟩
 ·exact .inl (h.below a)
 ·exact .inr ⟨x,l,rfl,h.below a⟩
theorem NT(w:World)(b:Nat)(q:b<=w.heap.size)(v:Value)(s:By)(h:I8 b w v s)(a:Addr)(m c:Nat)(t:By)(z:t.size=m)(A:∀j u,(Dd t)[j]?=some u->w.cell? (a.add j)=some u)(E:s.size+m<=4000000)(aa:0<m:=by omega):
  ∃d i f w',(Builtin.append_ #[59,59] 59 #[v,.slice (some a) m c]).run Tryz.prog w = .ok (.slice d i f) w'/\cP b w' (.slice d i f) (s++t)/\Fr (Own v) w w'/\Dh w v (.slice d i f):=by
 rcases h with h|⟨x,l,rfl,h⟩
 ·exact Kj w b q v s h a m c t z A E
 ·obtain⟨L,C,I,J,K⟩:=Bn Qc;have F:=h.1;obtain⟨v',N,M,B,o⟩:=run_append_arg_grows (P:=Tryz.prog) w 59 59 5 L _ 1 1 Tryz.underlying59 C I J K rfl (by decide) x l l (Dd s) (by rw[Dj];omega)
   (fun j u G=>by obtain⟨y,e,H⟩:=h.2.2 j u G;cases e;exact H) a m c (Dd t) (by rw[Dj];omega) A (by omega) (by unfold maxLen;omega) (by omega)
  have p:=Sl.of_owns B;obtain⟨d,i,f,rfl⟩:=p.shape;have r:∀g,Own (.slice d i f) g->w.heap.size<=g:=fun g n=>(B.lt g n).1
  refine⟨d,i,f,N,M,⟨?_,fun g n=>Ae q (r g n)⟩,⟨o.os,o.tape,o.output,o.size,fun k D _=>o.block k D (by simp)⟩,fun g n => .inr (r g n)⟩;rw[KF,show(s++t).size=l+m by rw[Ai,z,<-F]];exact p
theorem Zd6(w:World)(b:Nat)(hb:b<=w.heap.size)(a:OA)(l c:Nat)(s:By)(h:I8 b w (.slice a l c) s)(x:Nat)(V:x<18446744073709551616)(m:Nat)(hm:m<=8)(S:0<m)(hs:s.size<=2000000):
  Cl 212 #[.slice a l c,.int .u64 x,.int .i64 m] w fun e w'=>∃f o n,e = .returned (.slice f o n)/\cP b w' (.slice f o n) (s++⟨(DK x m).toArray⟩)/\Fr (Own (.slice a l c)) w w'/\Dh w (.slice a l c) (.slice f o n):=by
 have H:=Db h;clear h;go_enter Tryz.func212,Tryz.ntmps212;go_wp2
 go_loopw [0,1,8] (fun v y i wr=>∃(k y':Nat) (f:OA) (o n:Nat),k<=m/\i = .int .i64 k/\y = .int .u64 y'/\v = .slice f o n/\y'<18446744073709551616/\Hid (I8 b wr v (s++⟨((DK x m).take k).toArray⟩)/\(0<k->cP b wr v (s++⟨((DK x m).take k).toArray⟩)))/\Hid (DK y' (m-k)=(DK x m).drop k)/\Hid (Fr (Own (.slice a l c)) w wr/\Dh w (.slice a l c) v)) (fun _ _ i _=>m-(intOf i).toNat)
 case atStart=>exact⟨0,x,a,l,c,Aw _,rfl,rfl,rfl,V,⟨by show I8 _ _ _ _;rw[Co,K2];exact Da H,fun h=>absurd h (Nat.lt_irrefl 0)⟩,rfl,Fr.refl _ _,fun g r => .inl r⟩
 case round=>
  obtain⟨k,y,f,o,n,P,rfl,rfl,rfl,hy,t,M,p⟩:=hrel;by_cases R:k<m
  ·have I:IntKind.u8.wrap (y:Int)=((UInt8.ofNat y).toNat:Int):=Ka y;have aa:=(Da p).1.size;obtain⟨W,F,J,Q,T,q⟩:=De wr [.int .u8 (IntKind.u8.wrap (y:Int))] 5;obtain⟨A,K,B,Y,G,E,C,D⟩:=NT W b (by omega) _ _ ((Da t).1.below q) ⟨wr.heap.size,0,none⟩ 1 1 ⟨#[UInt8.ofNat y]⟩ rfl (fun j u U=>by rw[AF,Au,J.cell,I];exact U) (by rw[Ai];show s.size+(List.toArray _).size+1<=_;simp;omega);have z:=Db E;have L:Hid (Fr (Own (.slice a l c)) w Y/\Dh w (.slice a l c) (.slice A K B)):=by
    refine⟨((Da p).1.then (Fr.of_below (X:=Own (.slice a l c)) q) (fun k _ h=>h)).then C (fun k P e=>((Da p).2 k e).elim id (fun h=>by omega)),fun g r=>?_⟩;rcases D g r with d|d
    ·exact(Da p).2 g d
    ·exact .inr (by omega)
   have N:=Db F;clear E C D J Q T q F I;rw[<-Da N]at G;go_wp2_with (at_builtin;refine Aj _ rfl _ _ 59 59 rfl _ _ rfl rfl _ _ G ?_)
   go_roundw
   case rel=>
    obtain⟨d,O⟩:=TY R (Da M);exact⟨k+1,y/256,A,K,B,by omega,by go_num,by go_num,rfl,by omega,⟨by show I8 _ _ _ _;rw[d,<-Ox];exact .inl (Da z),fun _=>by show cP _ _ _ _;rw[d,<-Ox];exact Da z⟩,O,L⟩
   case measure=>simp[intOf];omega
  ·obtain rfl:k=m:=by omega
   go_wp2;go_ret;have d:=(Da t).2 S;rw[AI (by rw[Qz];exact Aa _)]at d;exact⟨f,o,n,rfl,d,Da p⟩
def Qb:By:=⟨#[115,105,108,116]⟩
def Jv(x m:Nat):By:=⟨(DK x m).toArray⟩
def My(turn p x:Nat):By:=Qb++Jv turn 8++D3 p x
def Ho(turn p x:Nat):By:=⟨#[1]⟩++Dt (My turn p x) 63
def GQ(turn p x:Nat):By:=(Ho turn p x).extract 0 56++Jv (D5 ((Ho turn p x).extract 0 56)) 8
theorem Ql(x m:Nat):(Jv x m).size=m:=TX x m
theorem Ne(p x:Nat):(D3 p x).size=10:=by show(List.toArray _).size=10;simp[Qz]
theorem XH(a p x:Nat):(My a p x).size=22:=by unfold My;rw[Ai,Ai,Ql,Ne];rfl
theorem QV(a p x:Nat):(Ho a p x).size=64:=by unfold Ho;rw[Ai,J6];rfl
theorem OX(a p x:Nat):(GQ a p x).size=64:=by unfold GQ;rw[Ai,Am,QV,Ql];rfl
theorem ck_spl(a p x:Nat):FM (Dd (Ho a p x)) 56 (Dd (Jv (D5 ((Ho a p x).extract 0 56)) 8))=Dd (GQ a p x):=by
 unfold FM GQ;rw[KF,KD,Bf (by rw[Dj,Dj,QV,Ql];decide)];simp
theorem Zgt{P:Program}{d:Array Oper}{f:List Oper}{o:Oper}{a:Act}{w:World}{Q:Exit->Act->World->Prop}(g:o.guard=none)(t:TypeId)(i j:Nat)(x y:Operand)(ho:o.op = .build t #[(i,x),(j,y)])(u v:Value)(k:a.eval x=u)(l:a.eval y=v){b:Array Value}(c:P.built t [(i,u),(j,v)]=some b)
  (h:wpList P d Q f (a.put o.dst (.agg b)) w):wpList P d Q (o::f) a w:=by
 have e:((#[(i,x),(j,y)]:Array (Nat×Operand)).map fun (i,x)=>(i,a.eval x)).toList=[(i,u),(j,v)]:=by simp[k,l]
 refine wpList_build g t _ ho ?_ ?_
 ·rw[e,c];rfl
 ·rw[e,c];exact h
def Yu(w:World)(turn p x:Nat)(e:Ending)(w':World):Prop:=e = .returned (H0 (turn%2) (GQ turn p x))/\Bw w w'
theorem VO(w:World)(d p x:Nat)(ht:d<18446744073709551616)(hp:p<65536)(hx:x<18446744073709551616):
  Cl 160 #[.agg #[.int .u64 d,.int .i64 p,.int .u64 x]] w (Yu w d p x):=by
 obtain⟨z,al,aa,aU,ay,an⟩:=De w [.int .u64 d,.int .i64 p,.int .u64 x] 191;obtain⟨f,am,ac,Y,aW,ao⟩:=De z (FW 0 (Du 64)) 207;obtain⟨i,L⟩:∃X,f.alloc (.cells (Dd Qb).toArray 5 (4,5))=X:=⟨_,rfl⟩;have V:Bw f i:=by rw[<-L];exact(Ag _ _).alloc (Aa _) _
 have aX:i.heap.size=f.heap.size+1:=by rw[<-L];simp
 have Z:∀b t' R,FH f b t' R->FH i b t' R:=fun b t' R h=>(V.block _ h.lt).trans h
 have av:i.heap[f.heap.size]?=some (.cells (Dd Qb).toArray 5 (4,5)):=by rw[<-L];exact Bs f _
 have az:Bw w i:=an.trans ((ao.mono (by omega)).trans (V.mono (by omega)));have H:=Z _ _ _ (Y _ _ _ aa);have ad:=Z _ _ _ ac;have aw:Ge i (some ⟨f.heap.size,0,none⟩) 4 4 Qb:=by
  refine⟨rfl,fun e=>(by cases e),fun j v I=>⟨_,rfl,?_⟩⟩;rw[AF,Au];simp only[World.cell?,av]
  simpa using I
 have ak:I8 f.heap.size i (.slice (some ⟨f.heap.size,0,none⟩) 4 4) Qb := .inr ⟨_,_,rfl,aw⟩;have ae:Hid (Cl 212 #[.slice (some ⟨f.heap.size,0,none⟩) 4 4,.int .u64 d,.int .i64 8] i fun e w'=>∃r t s,e = .returned (.slice r t s)/\FH w' w.heap.size 191 [.int .u64 d,.int .i64 p,.int .u64 x]/\FH w' z.heap.size 207 (FW 0 (Du 64))/\Hid (cP f.heap.size w' (.slice r t s) (Qb++Jv d 8)/\Below f.heap.size i w')):=(Zd6 i f.heap.size (by omega) _ _ _ Qb ak d ht 8 (by omega) (by omega) (by decide)).mono fun e w' ⟨r,t,s,he,B,y,h3⟩=>by
  have D:Below f.heap.size i w':=⟨y.os,y.tape,y.output,y.size,fun k hk=>y.block k (by omega) (fun e=>by simp[Own,Value.ownBlock]at e;omega)⟩;exact⟨r,t,s,he,(D.block _ (by omega)).trans H,(D.block _ (by omega)).trans ad,B,D⟩
 have af:Hid (∀X a l c,Hid (cP f.heap.size X (.slice a l c) (Qb++Jv d 8)/\Below f.heap.size i X)->Cl 214 #[.agg #[.int .i64 p,.int .u64 x],.slice a l c] X fun e w'=>∃r t s,e = .returned (.slice r t s)/\Hid (cP f.heap.size w' (.slice r t s) (My d p x)/\Below f.heap.size i w')):=fun X a l c M=>by
  obtain⟨B,y⟩:=Da M;have:=y.size;refine(PP X f.heap.size (by omega) a l c _ B p x hp hx (by rw[Ai,Ql];decide)).mono ?_;rintro e w' ⟨r,t,s,rfl,q1,q2,q3⟩;exact⟨r,t,s,rfl,q1,y.trans (B.frBelow (by omega) q2)⟩
 have ag:Hid (∀X a l c,Hid (cP f.heap.size X (.slice a l c) (My d p x)/\Below f.heap.size i X)->Cl 213 #[.int .u8 1,.slice a l c] X fun e w'=>e = .returned (DG (Ho d p x))/\Hid (Below f.heap.size i w')):=fun X a l c M=>by
  obtain⟨B,y⟩:=Da M;refine(VX X a l c _ B.rdB (by rw[XH];decide) 1).mono ?_;rintro e w' ⟨rfl,q⟩;exact⟨rfl,y.trans (q.mono (by have:=y.size;omega))⟩
 have HM:Hid (∀g,Hid (Below f.heap.size i g)->∃A m,g.alloc (.cells (Dd (Du 64)).toArray 188)=A/\FH A g.heap.size 188 (Dd (Du 64))/\A.setRow g.heap.size (Dd (Ho d p x)).toArray=m/\
   Hid (Cl 215 #[.slice (some ⟨g.heap.size,0,none⟩) 56 64] m.drew fun e w'=>e = .returned (.int .u64 (D5 ((Ho d p x).extract 0 56):Nat))/\w'=m.drew)/\
   Hid (Cl 212 #[.slice none 0 0,.int .u64 (D5 ((Ho d p x).extract 0 56):Nat),.int .i64 8] m.drew fun e w'=>∃r t s u,e = .returned (.slice r t s)/\(Builtin.copy_ #[59,59] 3 #[.slice (some ⟨g.heap.size,56,none⟩) 8 8,.slice r t s]).run Tryz.prog w' = .ok (goInt 8) u/\u.cell? ⟨w.heap.size,0,none⟩=some (.int .u64 d)/\Hid (FH u g.heap.size 188 (Dd (GQ d p x))/\FH u z.heap.size 207 (FW 0 (Du 64))/\Bw w u))):=fun g M=>by
  have D:=Da M;obtain⟨A,T,N,be,aY,aR⟩:=De g (Dd (Du 64)) 188;obtain⟨m,F⟩:∃X,A.setRow g.heap.size (Dd (Ho d p x)).toArray=X:=⟨_,rfl⟩;have aA:FH m g.heap.size 188 (Dd (Ho d p x)):=by rw[<-F];exact Cu A _ _ _ 188 _ N
  have U:Bw g m:=by rw[<-F];exact aR.trans ⟨rfl,rfl,rfl,by simp,fun j hj=>BZ A _ j _ (by omega)⟩
  have bg:m.heap.size=g.heap.size+1:=by rw[<-F];simp[World.setRow,aY]
  have a5:=D.size;have aV:Ge m (some ⟨g.heap.size,0,none⟩) 56 64 ((Ho d p x).extract 0 56):=by
   refine⟨by rw[Am,QV];rfl,fun e=>(by cases e),fun j v I=>⟨_,rfl,?_⟩⟩;rw[AF,Au,aA.cell];rw[KD,CP,Ap]at I
   split at I
   ·exact I
   ·cases I
  refine⟨A,m,T,N,F,?_,?_⟩
  ·have:=M0 m.drew _ 56 64 _ (show Ge m.drew (some ⟨g.heap.size,0,none⟩) 56 64 ((Ho d p x).extract 0 56) from aV) (by rw[Am,QV];decide);rw[U9]at this;exact this
  ·refine(UI m.drew m.heap.size (Aa _) none 0 0 ⟨#[]⟩ (cP.nil _ _) _ (OG _) 8 (by omega) (by decide)).mono ?_;rintro e w' ⟨r,t,s,rfl,B,y,h3⟩;have G:Bw m w':=by
    have J:=(cP.nil m.heap.size m.drew).frBelow (Aa _) y;exact⟨J.os,J.tape,J.output,J.size,J.block⟩
   have e0:(⟨#[]⟩:By)++⟨(DK (D5 ((Ho d p x).extract 0 56)) 8).toArray⟩=Jv (D5 ((Ho d p x).extract 0 56)) 8:=by apply AY;simp[Jv]
   rw[e0]at B;have a0:FH w' g.heap.size 188 (Dd (Ho d p x)):=(G.block _ (by omega)).trans aA;obtain⟨u,r1,r2,O⟩:=OZ w' g.heap.size 188 _ a0 56 8 8 r t s _ B.rdB (by rw[Ql];exact Aa _) (by rw[Dj,QV];exact Aa _);rw[Ql]at r1;rw[ck_spl]at r2;have bh:=G.size;have ab:∀k,k<f.heap.size->u.heap[k]?=i.heap[k]? := fun k hk=>by
    rw[O.block k (by omega) (by simp;omega),G.block k (by omega),U.block k (by omega),D.block k hk]
   have aQ:Below f.heap.size i u:=⟨O.os.trans (G.os.trans (U.os.trans D.os)),O.tape.trans (G.tape.trans (U.tape.trans D.tape)),O.output.trans (G.output.trans (U.output.trans D.output)),by have:=O.size;omega,ab⟩;refine⟨r,t,s,u,rfl,r1,?_,r2,(ab _ (by omega)).trans ad,az.trans (aQ.mono (by omega))⟩;have:FH u w.heap.size 191 [.int .u64 d,.int .i64 p,.int .u64 x]:=(ab _ (by omega)).trans H;exact(this.cell 0).trans rfl
 obtain⟨aP,aZ,aT⟩:=Oq;have W:=OX d p x;have Q:=Db W;have HZ:=Db (QV d p x);have bf:(d:Int).tmod 2=((d%2:Nat):Int):=by rw[BF (by omega)];omega
 have aB:=Db (SO (d%2) (GQ d p x) W);have aI:=Db al;have aJ:=Db am;have aK:=Db L;have aE:=Db (show z.heap.size=w.heap.size+1 from ay);have aO:∀o,(f.alloc o).cell? ⟨w.heap.size,0,none⟩=some (.int .u64 d):=fun o=>(Ax (w:=f) (a:=⟨w.heap.size,0,none⟩) (BE _ _ _ (show w.heap.size<f.heap.size by omega))).trans (((Y _ _ _ aa).cell 0).trans rfl)
 have c0:i.cell? ⟨w.heap.size,0,none⟩=some (.int .u64 d):=(H.cell 0).trans rfl;have c1:i.cell? ⟨w.heap.size,1,none⟩=some (.int .i64 p):=(H.cell 1).trans rfl;have c2:i.cell? ⟨w.heap.size,2,none⟩=some (.int .u64 x):=(H.cell 2).trans rfl;clear aa aU ay an ac Y aW ao av Z aX V az H ad ak aw al am L W;have bd:=fun (w:World) (C:Array Value) (n c:Nat)=>Lib.run_convert_bytes_const (P:=Tryz.prog) w 59 5 C n c Tryz.underlying59 (by kernel_rfl)
 go_enter Tryz.func160,Tryz.ntmps160;go_upto_region 1 with(refine KE rfl 207 rfl Oz ?_);rw[show w.alloc (.cells #[Value.int .u64 d,.int .i64 p,.int .u64 x] 191)=z from Da aI];rw[show z.alloc (.cells (FW 0 (Du 64)).toArray 207)=f from Da aJ]
 (try simp only[pE])
 go_upto_region 3 with(first|(go_at_call 212;rw[show f.alloc (.cells #[.int .u8 115,.int .u8 105,.int .u8 108,.int .u8 116] 5 (4,5))=i from Da aK];refine(Da ae).mono ?_;rintro e w1 ⟨a1,l1,a3,rfl,au,ac,aF⟩;have m1:=au.cell 1;have m2:=au.cell 2;clear aO)|(go_at_call 214;refine(Da af _ _ _ _ aF).mono ?_;rintro e w2 ⟨a2,l2,a4,rfl,aG⟩)|(go_at_call 213;refine(Da ag _ _ _ _ aG).mono ?_;rintro e g ⟨rfl,aH⟩;obtain⟨A,m,T,N,F,aj,ah⟩:=Da HM g aH;have aL:=Db T;have aM:=Db F;have aN:=Db N;clear T F N)|(refine KE rfl 188 rfl Ui ?_;rw[show g.alloc (.cells (Dd (Du 64)).toArray 188)=A from Da aL])|(refine CH rfl 188 _ _ rfl g.heap.size (Dd (Ho d p x)).toArray rfl rfl 188 _ (Da aN) (by rw[Kf];simp[Dj,Da HZ]) (by simp[Dj,Kr,Da HZ]) (MU _) ?_;rw[Da aM]));refine AN (S:=fun _=>True) (by kernel_rfl) trivial (fun bb=>?_);refine tk 0 ?_;try simp only[pE];refine tk 1 ?_;try simp only[pE];refine rk 2 (fun K E=>?_);go_simp;go_at_call 215;refine(Da aj).mono ?_;rintro e w' ⟨rfl,hw⟩;rw[hw];clear hw;go_wp2_with fail;refine E.out _ _ trivial (fun a6=>?_);clear E K
 (try simp only[pE])
 refine rk 3 (fun K E=>?_);go_simp;go_at_call 212;refine(Da ah).mono ?_;rintro e w7 ⟨a7,l7,c7,u,rfl,ar,bc,HP⟩;go_wp2_with fail;refine E.out _ _ trivial (fun a8=>?_);clear E K
 (try simp only[pE])
 refine rk 4 (fun K E=>?_);refine KU rfl _ _ 59 59 rfl _ _ rfl rfl ar ?_;refine E.out _ _ trivial (fun a9=>?_);clear E K
 (try simp only[pE])
 refine AS (by kernel_rfl) ?_ _;obtain⟨aq,ax,ap⟩:=Da HP;have aD:=Db aq;have ai:=Db ax;have aC:=Db ap;clear aq ax ap HP ae af ag HM aj ah ar;go_upto_region 4 with fail;refine AT ?_;go_wp2_with (first|(refine wpList_load_row rfl 188 _ rfl g.heap.size rfl 188 _ (0,0) _ (Da aD) KX rfl (by rw[Kf];simp[Dj,Da Q]) ?_)|(refine Zgt rfl 207 0 1 _ _ rfl (.int .i64 ((d%2:Nat):Int)) (DG (GQ d p x)) rfl rfl (Da aB) ?_)|(refine CH rfl 207 _ _ rfl z.heap.size (FW (d%2) (GQ d p x)).toArray rfl rfl 207 _ (Da ai) (by rw[QM];simp[J7,Da Q]) (by simp[J7,Da Q,Kr]) (Ef (ON _ _)) ?_));have aS:FH (u.setRow z.heap.size (FW (d%2) (GQ d p x)).toArray) z.heap.size 207 (FW (d%2) (GQ d p x)):=Cu u _ _ _ 207 _ (Da ai);refine Aq (v:=H0 (d%2) (GQ d p x)) (Ff rfl _ _ z.heap.size 207 _ (0,0) _ rfl aS aZ (by cases aP<;>first|rfl|(simp[TypeDesc.isRow]at aT)) ?_) rfl ⟨rfl,?_⟩
 ·rw[QM];simp[J7,Da Q]
 ·have hn:=Da aE;exact(Da aC).trans ⟨rfl,rfl,rfl,by simp,fun j hj=>BZ u _ j _ (by omega)⟩
def Kl(db sb so:Nat)(nd:Nat->Int)(cl:Bool)(hd:Nat)(va:Value)(tp tx:Int)(vp:Value):LV:=
 [.pointer (some ⟨db,0,none⟩),.pointer (some ⟨sb,so,none⟩)]++Gj nd++[.bool cl,.int .i64 hd,va,.int .i64 tp,.int .u64 tx,vp]
theorem Y9(b d so:Nat)(a:Nat->Int)(cl:Bool)(c:Nat)(g:Value)(e f:Int)(i:Value)(j:Nat)(h:j<96):(Kl b d so a cl c g e f i)[2+j]?=some (.int .i64 (a j)):=by
 unfold Kl;rw[AC,AD (by simp),AU (by simp[Js];omega),<-QJ a j h]
 congr 1;simp
theorem JL(f h so:Nat)(g:Nat->Int)(cl:Bool)(a:Nat)(d:Value)(b c:Int)(e:Value)(j:Nat):(Kl f h so g cl a d b c e)[98+j]? = [Value.bool cl,.int .i64 a,d,.int .i64 b,.int .u64 c,e][j]? := by
 unfold Kl;rw[AD (by simp[Js])]
 congr 1;simp[Js]
theorem UA(a d so:Nat)(c:Nat->Int)(cl:Bool)(b:Nat)(g:Value)(e f:Int)(h:Value)(j:Nat)(u:Value):(Kl a d so c cl b g e f h).set (98+j) u=[.pointer (some ⟨a,0,none⟩),.pointer (some ⟨d,so,none⟩)]++Gj c++[Value.bool cl,.int .i64 b,g,.int .i64 e,.int .u64 f,h].set j u:=by
 unfold Kl;rw[EC _ _ (by simp[Js])]
 congr 2;simp[Js]
structure FO(w:World)(pb db sb so:Nat)(nd:Nat->Int)(cl:Bool)(hd:Nat)(va:Value)(es:LI)(tp tx:Int)(vp:Value)(ps:LB):Prop where
 row:FH w pb 184 (Kl db sb so nd cl hd va tp tx vp)
 sa:Sl w 350 2 va es.length (Dq es)
 sp:Hb w vp ps
 oa:¬Own va pb
 op:¬Own vp pb
 ap:∀k,Own va k->¬Own vp k
theorem FO.below{w w':World}{pb c g so:Nat}{f:Nat->Int}{cl:Bool}{e:Nat}{l:Value}{d:LI}{i j:Int}{m:Value}{ps:LB}(h:FO w pb c g so f cl e l d i j m ps)(a:Bw w w'):FO w' pb c g so f cl e l d i j m ps:=
 ⟨(a.block _ h.row.lt).trans h.row,h.sa.kept (fun k b _=>a.block k b),Sl.kept h.sp (fun k b _=>a.block k b),h.oa,h.op,h.ap⟩
theorem FO.cells{w:World}{pb a d so:Nat}{c:Nat->Int}{cl:Bool}{b:Nat}{e:Value}{g:LI}{k l:Int}{f:Value}{ps:LB}(h:FO w pb a d so c cl b e g k l f ps):
  w.cell? ⟨pb,0,none⟩=some (.pointer (some ⟨a,0,none⟩))/\w.cell? ⟨pb,1,none⟩=some (.pointer (some ⟨d,so,none⟩))/\(∀j,j<96->w.cell? ⟨pb,2+j,none⟩=some (.int .i64 (c j)))/\w.cell? ⟨pb,98,none⟩=some (.bool cl)/\w.cell? ⟨pb,99,none⟩=some (.int .i64 b)/\w.cell? ⟨pb,100,none⟩=some e/\w.cell? ⟨pb,103,none⟩=some f:=
 ⟨(h.row.cell 0).trans rfl,(h.row.cell 1).trans rfl,fun j i=>(h.row.cell (2+j)).trans (Y9 _ _ _ _ _ _ _ _ _ _ j i),(h.row.cell 98).trans (JL _ _ _ _ _ _ _ _ _ _ 0),(h.row.cell 99).trans (JL _ _ _ _ _ _ _ _ _ _ 1),(h.row.cell 100).trans (JL _ _ _ _ _ _ _ _ _ _ 2),(h.row.cell 103).trans (JL _ _ _ _ _ _ _ _ _ _ 5)⟩
theorem FO.next{w w':World}{pb a d so:Nat}{c:Nat->Int}{cl:Bool}{o:Nat}{l:Value}{n:LI}{f i:Int}{m:Value}{ps:LB}(h:FO w pb a d so c cl o l n f i m ps)(p:Nat)(r:FH w' pb 184 ((Kl a d so c cl o l f i m).set 99 (.int .i64 ((p+1:Nat):Int))))(q:Fr (fun k=>k=pb) w w'):FO w' pb a d so c cl (p+1) l n f i m ps:=
 ⟨by rw[UA (j:=1)]at r;exact r,h.sa.fr q (fun g b e=>h.oa (by rw[<-e];exact b)),Sl.fr h.sp q (fun g b e=>h.op (by rw[<-e];exact b)),h.oa,h.op,h.ap⟩
theorem FO.piece{w w':World}{pb f r so:Nat}{p:Nat->Int}{cl:Bool}{i:Nat}{c:Value}{b:LI}{s t:Int}{d a:Value}{ps q:LB}(h:FO w pb f r so p cl i c b s t d ps)(v:Hb w' a q)(l:Fr (Own d) w w')(n:Dh w d a):FO (w'.setCell ⟨pb,103,none⟩ a) pb f r so p cl i c b s t a q:=by
 have z:FH w' pb 184 _:=h.row.fr l h.op;have A:Sl w' 350 2 c b.length (Dq b):=h.sa.fr l (fun g x=>h.ap g x);have o:¬Own a pb:=fun e=>(n _ e).elim h.op (fun u=>by have:=h.row.lt;omega)
 refine⟨?_,A.setCell _ _ h.oa,Sl.setCell v _ _ o,h.oa,o,fun k m y=>(n _ y).elim (h.ap k m) (fun u=>by have:=h.sa.lt m;omega)⟩;have:=z.set 103 a;rw[UA (j:=5)]at this;exact this
theorem FO.put{w w':World}{pb i q so:Nat}{p:Nat->Int}{cl:Bool}{l:Nat}{g a:Value}{u c:LI}{r s:Int}{t:Value}{ps:LB}(h:FO w pb i q so p cl l g u r s t ps)(v:Sl w' 350 2 a c.length (Dq c))(o:Dh w g a)(m:Ii w w' pb 100 g a):FO w' pb i q so p cl l a c r s t ps:=by
 have x:¬Own a pb:=fun e=>(o _ e).elim h.oa (fun d=>by have:=h.row.lt;omega)
 refine⟨?_,v,Sl.kept h.sp (fun k f e=>m.block k f (fun b=>h.op (by rw[<-b];exact e)) (fun b=>h.ap k b e)),x,h.op,fun k f n=>(o _ f).elim (fun d=>h.ap k d n) (fun d=>by have:=Sl.lt h.sp n;omega)⟩;have:=h.row.set 100 a;rw[UA (j:=2)]at this;exact m.head.trans this
theorem ZiS{P:Program}{o:Oper}{a:Act}(X:World)(t:TypeId)(i j:Nat)(x y:Operand)(ho:o.op = .build t #[(i,x),(j,y)])(u v:Value)(d:a.eval x=u)(f:a.eval y=v){b:Array Value}(c:P.built t [(i,u),(j,v)]=some b):(execOp a.eval o).run P X = .ok (.value (.agg b)) X:=by
 have e:((#[(i,x),(j,y)]:Array (Nat×Operand)).map fun (i,x)=>(i,a.eval x)) = #[(i,u),(j,v)]:=by simp[d,f]
 unfold execOp;simp only[ho,Cy,e];rw[run_build X t #[(i,u),(j,v)] b c]
 rfl
def Uf(w:World)(pb db sb so:Nat)(nd:Nat->Int)(cl:Bool)(va:Value)(es:LI)(tp tx:Int)(vp:Value)(ps:LB)(r:Nat)(s:By)(p:Nat)(e:Ending)(w':World):Prop:=
 e = .returned (.agg #[.int .i64 (p:Nat),.int .u64 (D5 s:Nat)])/\∃va' es' vp',FO w' pb db sb so nd cl (p+1) va' es' tp tx vp' (ps++[(p,s)])/\Gi es'/\es'.length=es.length+1/\(∀x,x∈es'↔x=((r:Int),(p:Int))\/x∈es)/\Fr (fun k=>k=pb\/Own va k\/Own vp k) w w'/\Dh w va va'/\Dh w vp vp'
section
open Go.RowKit Go.Shelf
attribute [local go_sem] Oper.semAt_some
theorem Zkb{P:Program}{n l:Nat}{Q:Exit->Act->World->Prop}{o:Oper}{a:Act}{w:World}{K:Act->World->Prop}(g:∀c,o.op ≠ .defer c)(h:o.wp P a w K Q):o.wpIn (Fence.wide.inRound l) n P a w K Q:=by
 refine⟨fun f _=>trivial,?_⟩;have e:(o.semAt (Fence.wide.inRound l).round a.eval)=execOp a.eval o:=Oper.semAt_some l a.eval o g;rw[e];unfold Oper.wp at h;generalize (execOp a.eval o).run P w=r at *
 cases r with
 | ok x w'=>
  cases x with
  | enter f args=>exact⟨fun b=>(by cases b),Cp l (A0.2 h)⟩
  | row row args=>exact⟨fun b=>(by cases b),fun c d _=>let ⟨v,w',r,s⟩:=h c d;⟨v,w',r,stepsIn_wide.2 s⟩⟩
  | _=>first|exact h|exact h.elim
 | halt x w'=>cases x<;>first|exact h|exact h.elim
theorem Wm{P:Program}{n l:Nat}{k:Region.Mode}{d:Array Oper}{Q:Exit->Act->World->Prop}(e:¬LetsOut Q)(g:∀(i:Nat) (o:Oper),d[i]?=some o->∀c,o.op ≠ .defer c):
  ∀(fuel:Nat) (listed:Array Bool) (a:Act) (w:World),wpAny P k d Q fuel listed a w->wpAnyIn (Fence.wide.inRound l) n P k d Q fuel listed a w
 | 0,_,_,_,h=>h
 | fuel+1,listed,a,w,h=>⟨h.1,fun i q=>by
  have b:=wpOp_mono (fun m w' p=>Wm e g (n:=n) (l:=l) fuel _ m w' p) (h.2 i q);unfold wpOp at b;unfold wpOpIn
  cases ho:d[i]? with
  | none=>rw[ho]at b;exact b
  | some o=>
   rw[ho]at b;simp only at b ⊢;by_cases j:Region.wanted o (yielded d a.tmps)=true
   ·rw[if_pos j]at b ⊢;rcases b with b|b
    ·exact Zkb (g i o ho) b
    ·exact absurd b.2 e
   ·rw[if_neg j]at b ⊢;exact⟨fun f _=>trivial,b⟩⟩
def Sg(ops:Array Oper):Bool:=ops.all fun o=>match o.op with | .defer _=>false|_=>true
theorem Zko{a:Array Oper}(h:Sg a=true):∀(i:Nat) (o:Oper),a[i]?=some o->∀c,o.op ≠ .defer c:=fun i o ho c e=>by
 have:=Array.all_eq_true_iff_forall_mem.1 h o (Array.mem_of_getElem? ho);rw[e]at this;cases this
theorem QC{P:Program}{n l id:Nat}{b:Array Oper}{Q:Exit->Act->World->Prop}{a:Act}{w:World}(S:World->Prop)(e:P.follows .mixedOrders=true)(d:¬LetsOut Q)(f:Sg b=true)(c:S w.drew)
  (h:S w.drew->wpAnyH P .any b Q S b.size (Array.replicate b.size false) a w.drew):(Code.region id b true).wpIn (Fence.wide.inRound l) n P Q a w:=
 wpIn_region_any e (Wm d (Zko f) _ _ _ _ (wpAny_of_held _ _ _ _ (h c)))
theorem Uk(v:Value)(b:Nat)(h1:0<b)(hz:b<1000000)(n:Nat)(w:World)(d:∃a l c,v = .slice a l c):
  CallsIn Fence.wide n Tryz.prog 172 #[v,.int .i64 b] w fun e w'=>e = .returned (.func (.func 220) #[] #[.pointer (some ⟨w.heap.size,0,none⟩),.pointer (some ⟨w.heap.size+1,0,none⟩)])/\w'=(w.alloc (.cells #[v] 59)).alloc (.cells #[.int .i64 b] 3):=by
 obtain⟨a,l,c,rfl⟩:=d;refine A0.2 ?_;have h2:¬((b:Int)<1):=by omega
 go_enter Tryz.func172,Tryz.ntmps172;go_wp2;go_ret;exact⟨rfl,rfl⟩
def Hj(g off sz len k:Nat):Value := .slice (some ⟨g,off+k*sz,none⟩) (min sz (len-k*sz)) (min sz (len-k*sz))
theorem Nj(n:Nat)(hn:1<=n)(f j g off b c d:Nat)(h1:0<b)(hz:b<1000000)(an:c<=d)(hl:c<1000000)(N:Nat)(t:N=(c+b-1)/b)(w:World)(ac:f<w.heap.size)(ad:j<w.heap.size)
  (I:w.cell? ⟨f,0,none⟩=some (.slice (some ⟨g,off,none⟩) c d)) (K:w.cell? ⟨j,0,none⟩=some (.int .i64 b)) (E:World->World->Prop)
  (O:∀A B,E A B->A.cell? ⟨f,0,none⟩=some (.slice (some ⟨g,off,none⟩) c d)->A.cell? ⟨j,0,none⟩=some (.int .i64 b)->B.cell? ⟨f,0,none⟩=some (.slice (some ⟨g,off,none⟩) c d)/\B.cell? ⟨j,0,none⟩=some (.int .i64 b)):
  SeqStopsK Fence.wide n Tryz.prog 220 #[.pointer (some ⟨f,0,none⟩),.pointer (some ⟨j,0,none⟩)] (fun k:Nat => #[Hj g off b c k]) E (fun ys=>ys=List.range N) (fun ak=>ak <+: List.range N) N w:=fun l J Jx W u L _ R h0=>by
 have c1:=(u.cell (p:=⟨f,0,none⟩) ac).trans I;have c2:=(u.cell (p:=⟨j,0,none⟩) ad).trans K;have HY:=Db R;have Q:∀k,k<N->k*b<c:=fun k U=>by
  have h2:(k+1)*b<=N*b:=EJ _ U;have H:N*b<=c+b-1:=by rw[t];exact Nat.div_mul_le_self _ _
  rw[ER]at h2;omega
 have P:c<=N*b:=by
  have H:=Nat.lt_div_mul_add (a:=c+b-1) h1;rw[<-t]at H;omega
 have aa:=Db Q;have ab:=Db P;have Z:=Db O;have Y:=Db L;clear R u Q P I K t O L;refine Cv Tryz.func220 rfl trivial ?_ rfl;simp only[Tryz.ntmps220,AQ,Af,Ay,Nat.reduceAdd,Nat.reduceSub,AP,AO,AV,AR,AJ,AL]
 gi_wp2
 gi_loopw [4] (fun i wr=>∃k:Nat,k<=N/\i = .int .i64 ((k*b:Nat):Int)/\wr.cell? ⟨f,0,none⟩=some (.slice (some ⟨g,off,none⟩) c d)/\wr.cell? ⟨j,0,none⟩=some (.int .i64 b)/\Hid (J (List.range k) wr))
  (fun i _=>c-(intOf i).toNat)
 case atStart=>exact⟨0,Aw _,by rw[Nat.zero_mul];rfl,c1,c2,h0⟩
 case round=>
  obtain⟨k,U,rfl,F,G,z⟩:=hrel;by_cases x:k<N
  ·have aj:=Da aa k x;obtain⟨q,y⟩:=ex (k*b);rw[<-y]at aj ⊢;obtain⟨m,V⟩:=ex (min b (c-q));have ao:0<m:=by omega
   have aq:m<=c-q:=by omega
   have ar:m<=b:=by omega
   have D:Hid (List.range (k+1)=List.range k++[k]):=E5;have C:=Db y;have o:=Db V;have aw:(q:Int)<(c:Int):=by omega
   have av:¬d=q:=by omega
   have ax:q<=c:=by omega
   clear y V;have M:J (List.range k) wr.drew:=Da Y _ _ _ none (Da z) ⟨rfl,rfl,rfl,Aa _,fun _ _ _=>rfl⟩ (fun r e=>by cases e);have T:Hj g off b c k = .slice (some ⟨g,off+q,none⟩) m m:=by unfold Hj;rw[<-Da C,<-Da o]
   obtain⟨fn,tmps,assign,body,hy,hR⟩:=Da HY (List.range k) k wr.drew M (by rw[A9];exact x);rw[T]at hy;have ap:(if (b:Int)<=(c:Int)-(q:Int) then (b:Int) else (c:Int)-(q:Int))=(m:Int):=by
    have:=Da o
    split<;>omega
   clear M T
   gi_wp2
   refine Br.2 ?_;refine AN (S:=fun X=>X.cell? ⟨f,0,none⟩=some (.slice (some ⟨g,off,none⟩) c d)/\X.cell? ⟨j,0,none⟩=some (.int .i64 b)) (by kernel_rfl) ⟨F,G⟩ (fun ae=>?_);refine tk 0 ?_;try simp only[pE];refine tk 1 ?_;try simp only[pE];refine tk 2 ?_;try simp only[pE];refine tk 3 ?_;try simp only[pE];refine tk 4 ?_;try simp only[pE];refine Bc (i:=5) (v := .int .i64 (m:Nat)) rfl (by kernel_rfl) (by kernel_rfl) (by kernel_rfl) (fun _ _ _ h=>h) (Or.inl ⟨by rfl,?_⟩) (by assumption) ?_
   ·intro w ah;(try dsimp only at ah);go_simp;have s:=Da o;omega
   (try simp only[pE])
   refine tk 6 ?_;try simp only[pE];refine AS (by kernel_rfl) ?_ _;clear ae;have ay:q+m<=d:=by omega
   have az:q+m-q=m:=by omega
   have au:¬q+m=q:=by omega
   have aA:((q:Int)+(m:Int))<=(d:Int):=by omega
   gi_wp2
   refine hR.mono ?_;rintro e W3 (⟨rfl,af,ai⟩|⟨rfl,ag⟩)
   ·obtain⟨k1,k2⟩:=Da Z _ _ ai F G
    gi_wp2
    go_roundw
    case rel=>exact⟨k+1,by omega,by rw[ER,Nat.one_mul,<-Da C]<;>go_num,k1,k2,by show J _ _;rw[Da D];exact af⟩
    case measure=>simp[intOf];omega
   ·gi_wp2
    refine Aq (CZ rfl _ _ _) rfl ?_;exact⟨⟨_,rfl⟩,.inr ⟨_,by rw[<-Da D];(have s:=Fh (k+1) (List.range N);rw[List.take_range,Bu x]at s;exact s),ag⟩⟩
  ·obtain rfl:k=N:=by omega
   have al:=Da ab;have am:¬(((k*b:Nat):Int)<(c:Int)):=by omega
   gi_wp2
   go_end0
   exact⟨⟨_,rfl⟩,.inl (Da z)⟩
end
section
open Go.RowKit Go.Shelf
attribute [local go_sem] Oper.semAt_some
def G7(s:By)(sz x:Nat):By:=s.extract (x*sz) (x*sz+sz)
def D9(kk:UInt8)(s:By)(sz x:Nat):By:=⟨#[kk]⟩++Dt (G7 s sz x) 63
theorem Pn(a:UInt8)(s:By)(b x:Nat):(D9 a s b x).size=64:=by unfold D9;rw[Ai,J6];rfl
theorem Qf(s:By)(a x:Nat):(G7 s a x).size=min a (s.size-x*a):=by unfold G7;rw[Am];omega
theorem Ge.chunk{w:World}{g off c f:Nat}{s:By}(h:Ge w (some ⟨g,off,none⟩) c f s)(b x:Nat):Ge w (some ⟨g,off+x*b,none⟩) (min b (c-x*b)) (min b (c-x*b)) (G7 s b x):=by
 refine⟨by rw[Qf,h.1],fun e=>(by cases e),fun j v a=>⟨_,rfl,?_⟩⟩;unfold G7 at a;rw[KD,Ap]at a
 split at a
 ·rw[A3]at a;obtain⟨y,e,d⟩:=h.2.2 _ _ a
  cases e
  rw[AF]at d ⊢;rw[Eh];exact d
 ·cases a
def Dp(kk below t:Nat):Nat:=kk*4294967296+below*65536+t
structure Lo(M n0 pb:Nat)(kk:UInt8)(below:Nat)(s:By)(sz:Nat)(P X:List Nat->Nat->Nat)(St:List Nat->(Nat->Prop)->World->Prop):Prop where
 abides:∀pre O W W' row,St pre O W->W.grownBy W' row->(∀r,row=some r->∃o:Obj,W.heap[r]?=some o/\o.isCells=false)->St pre O W'
 keeps:∀pre O W W' (Z:Nat->Prop),St pre O W->Fr Z W W'->(∀j,Z j->¬O j/\n0<=j)->St pre O W'
 lt:∀pre O W,St pre O W->∀j,O j->j<W.heap.size
 put:∀pre x O W,pre.length<M->St pre O W->Cl 272 #[.pointer (some ⟨pb,0,none⟩),.int .u64 (Dp kk.toNat below pre.length:Nat),DG (D9 kk s sz x)] W fun e W'=>e = .returned (.agg #[.int .i64 (P pre x:Nat),.int .u64 (X pre x:Nat)])/\∃O',St (pre++[x]) O' W'/\Fr O W W'/\∀j,O' j->O j\/W.heap.size<=j
 cells:∀pre O W,St pre O W->∀j,O j->∃cs t,W.heap[j]?=some (.cells cs t (0,0))
 plt:∀pre x,P pre x<65536
 xlt:∀pre x,X pre x<18446744073709551616
structure GE(w:World)(n1 B4 B5 B6 B10 B11 pb:Nat)(kk:UInt8)(below:Nat)(g off len cap:Nat)(s:By)(St:List Nat->(Nat->Prop)->World->Prop)(Yo:Nat->Prop)(RB:List Nat->By)(pre pre':List Nat)(v:Value)(O:Nat->Prop)(W:World):Prop where
 st:St pre' O W
 hO:∀j,O j->Yo j\/n1<=j
 b4:Boxed W B4 168 (.pointer (some ⟨pb,0,none⟩))
 b5:Boxed W B5 300 (.int .u8 (kk.toNat:Int))
 b6:Boxed W B6 3 (.int .i64 (below:Nat))
 b10:Boxed W B10 59 v
 b11:Boxed W B11 3 (.int .i64 (pre.length:Nat))
 rs:cP n1 W v (RB pre)
 dis:∀j,O j->¬Own v j
 rd:Ge W (some ⟨g,off,none⟩) len cap s
 fr:Fr Yo w W
 sz:n1<=W.heap.size
structure Hz(w:World)(n1 B4 B5 B6 B10 B11 g len:Nat)(Yo:Nat->Prop):Prop where
 e4:B4=w.heap.size
 e5:B5=w.heap.size+1
 e6:B6=w.heap.size+2
 e10:B10=w.heap.size+3
 e11:B11=w.heap.size+4
 en:w.heap.size+5<=n1
 yo:∀j,Yo j->j<w.heap.size
 gy:¬Yo g
 gl:g<w.heap.size
theorem Hz.nO{w:World}{n1 f i k c d g m:Nat}{a O:Nat->Prop}(h:Hz w n1 f i k c d g m a)(l:∀j,O j->a j\/n1<=j)(B:Nat)(h1:w.heap.size<=B)(h2:B<n1):¬O B:=fun e=>by
 rcases l B e with b|b
 ·have:=h.yo B b;omega
 ·omega
theorem GE.below{w:World}{M z n1 j l m f i pb:Nat}{d:UInt8}{c:Nat}{g off t q:Nat}{s:By}{A:Nat}{P X:List Nat->Nat->Nat}{b:List Nat->(Nat->Prop)->World->Prop}{p:Nat->Prop}{n:List Nat->By}{u x:List Nat}{v:Value}{O:Nat->Prop}{W o:World}(L:Lo M z pb d c s A P X b)(h:GE w n1 j l m f i pb d c g off t q s b p n u x v O W)(a:Bw W o):GE w n1 j l m f i pb d c g off t q s b p n u x v O o:=
 ⟨L.abides _ _ _ _ none h.st ⟨a.os,a.tape,a.output,a.size,fun k y _=>a.block k y⟩ (fun r e=>by cases e),h.hO,(a.block _ h.b4.lt).trans h.b4,(a.block _ h.b5.lt).trans h.b5,(a.block _ h.b6.lt).trans h.b6,(a.block _ h.b10.lt).trans h.b10,(a.block _ h.b11.lt).trans h.b11,h.rs.below a,h.dis,h.rd.below a,h.fr.then (Fr.of_below a (X:=fun _=>False)) (fun _ _ e=>e.elim),Ae h.sz a.size⟩
theorem GE.put{w:World}{M J n1 n o p l m pb:Nat}{y:UInt8}{t:Nat}{g off z C:Nat}{s:By}{L:Nat}{P X:List Nat->Nat->Nat}{i:List Nat->(Nat->Prop)->World->Prop}{r:Nat->Prop}{A:List Nat->By}{H K:List Nat}{v:Value}{O:Nat->Prop}{W q:World}(b:Hz w n1 n o p l m g z r)(_L:Lo M J pb y t s L P X i)(h:GE w n1 n o p l m pb y t g off z C s i r A H K v O W){G:List Nat}{O':Nat->Prop}(I:i G O' q)(c:Fr O W q)(D:∀j,O' j->O j\/W.heap.size<=j):GE w n1 n o p l m pb y t g off z C s i r A H G v O' q:=by
 have e4:=b.e4;have e5:=b.e5;have e6:=b.e6;have aa:=b.e10;have ab:=b.e11;have en:=b.en;have ac:=h.sz;have f:=fun B=>b.nO h.hO B
 refine⟨I,fun j u=>(D j u).elim (h.hO j) (fun a => .inr (by omega)),(c.block _ h.b4.lt (f _ (by omega) (by omega))).trans h.b4,(c.block _ h.b5.lt (f _ (by omega) (by omega))).trans h.b5,(c.block _ h.b6.lt (f _ (by omega) (by omega))).trans h.b6,(c.block _ h.b10.lt (f _ (by omega) (by omega))).trans h.b10,(c.block _ h.b11.lt (f _ (by omega) (by omega))).trans h.b11,⟨h.rs.1.fr c (fun k E d=>h.dis k d E),h.rs.2⟩,fun j u F=>(D j u).elim (fun a=>h.dis j a F) (fun a=>by have:=Own.lt h.rs F;omega),h.rd.fr c (fun x e hp d=>?_),h.fr.then c (fun k E d=>?_),Ae h.sz c.size⟩
 ·cases e
  rcases h.hO _ d with a|a
  ·exact b.gy a
  ·have:=b.gl;simp only at a;omega
 ·rcases h.hO k d with a|a
  ·exact a
  ·omega
theorem GE.done{w:World}{M J n1 p q r b c pb:Nat}{F:UInt8}{D:Nat}{g off G H:Nat}{s:By}{Z:Nat}{P X:List Nat->Nat->Nat}{A:List Nat->(Nat->Prop)->World->Prop}{C:Nat->Prop}{z:List Nat->By}{y:List Nat}{v:Value}{O:Nat->Prop}{W f:World}(d:Hz w n1 p q r b c g G C)(ac:J<=w.heap.size)(L:Lo M J pb F D s Z P X A){o:List Nat}(h:GE w n1 p q r b c pb F D g off G H s A C z y o v O W)(N:o.length=y.length+1){m:Value}(E:cP n1 f m (z o))(i:Fr (Own v) W f)(Q:Dh W v m):GE w n1 p q r b c pb F D g off G H s A C z o o m O ((f.setCell ⟨b,0,none⟩ m).setCell ⟨c,0,none⟩ (.int .i64 ((y.length:Int)+1))):=by
 have e4:=d.e4;have e5:=d.e5;have e6:=d.e6;have aa:=d.e10;have ab:=d.e11;have en:=d.en;have ad:=h.sz;have l:∀B,B<n1->¬Own v B:=fun B d e=>by have:=h.rs.2 B e;omega
 have K:∀B,B<n1->¬Own m B:=fun B d e=>by have:=E.2 B e;omega
 have U:Boxed f p 168 _:=(i.block _ h.b4.lt (l _ (by omega))).trans h.b4;have V:Boxed f q 300 _:=(i.block _ h.b5.lt (l _ (by omega))).trans h.b5;have Y:Boxed f r 3 _:=(i.block _ h.b6.lt (l _ (by omega))).trans h.b6;have S:Boxed f b 59 _:=(i.block _ h.b10.lt (l _ (by omega))).trans h.b10;have T:Boxed f c 3 _:=(i.block _ h.b11.lt (l _ (by omega))).trans h.b11;have t:Fr (fun j=>Own v j\/j=b\/j=c) W ((f.setCell ⟨b,0,none⟩ m).setCell ⟨c,0,none⟩ (.int .i64 ((y.length:Int)+1))):=
  (Fr.set (X:=fun j=>Own v j\/j=b\/j=c) (Fr.then (Fr.refl _ W) i (fun _ _ e => .inl e)) ⟨b,0,none⟩ _ (.inr (.inl rfl))).set ⟨c,0,none⟩ _ (.inr (.inr rfl))
 have I:b≠c:=by omega
 refine⟨L.keeps _ _ _ _ _ h.st t (fun j u=>?_),h.hO,(U.other (by omega) _).other (by omega) _,(V.other (by omega) _).other (by omega) _,(Y.other (by omega) _).other (by omega) _,(S.set _).other I _,?_,⟨(E.1.setCell ⟨b,0,none⟩ _ (K b (by omega))).setCell ⟨c,0,none⟩ _ (K c (by omega)),E.2⟩,fun j u R=>?_,h.rd.fr t (fun x e hp n=>?_),h.fr.then t (fun k hk n=>?_),Ae h.sz t.size⟩
 ·rcases u with a|a|a
  ·exact⟨fun n=>h.dis j n a,by have:=h.rs.2 j a;omega⟩
  ·subst a;exact⟨d.nO h.hO _ (by omega) (by omega),by omega⟩
  ·subst a;exact⟨d.nO h.hO _ (by omega) (by omega),by omega⟩
 ·rw[N];exact(T.other (fun e=>I e.symm) _).set _
 ·rcases Q j R with a|a
  ·exact h.dis j u a
  ·have:=L.lt _ _ _ h.st j u;omega
 ·cases e
  have:=d.gl;rcases n with a|a|a
  ·exact l _ (by show g<n1;omega) a
  ·simp only at a;omega
  ·simp only at a;omega
 ·rcases n with a|a|a
  ·have:=h.rs.2 k a;omega
  ·omega
  ·omega
theorem GE.own{w:World}{M n0 n1 n p u l m pb:Nat}{F:UInt8}{C:Nat}{g off G I:Nat}{s:By}{sz:Nat}{P X:List Nat->Nat->Nat}{y:List Nat->(Nat->Prop)->World->Prop}{B:Nat->Prop}{H:List Nat->By}{N Q:List Nat}{v:Value}{O:Nat->Prop}{W A:World}(L:Lo M n0 pb F C s sz P X y)(K:Hz w n1 n p u l m g G B)(h:GE w n1 n p u l m pb F C g off G I s y B H N Q v O W){row:Option Nat}(a:W.grownBy A row)(i:∀r,row=some r->n1<=r/\∃o:Obj,W.heap[r]?=some o/\o.isCells=false):GE w n1 n p u l m pb F C g off G I s y B H N Q v O A:=by
 have ne:∀(j:Nat) (b:Array Value) (t:TypeId) (z:Nat×Nat),W.heap[j]?=some (Obj.cells b t z)->some j≠row:=fun j b t z d e=>by
  obtain⟨o,J,V⟩:=(i j e.symm).2;rw[d]at J;cases J;cases V
 have c:∀(j:Nat) (b:Array Value) (t:TypeId) (z:Nat×Nat),W.heap[j]?=some (Obj.cells b t z)->A.heap[j]?=some (Obj.cells b t z):=fun j b t z d=>(a.block j (Ah.1 d).1 (ne j b t z d)).trans d
 have ab:=K.gl;have aa:=K.en;refine⟨L.abides _ _ _ _ row h.st a (fun r e=>(i r e).2),h.hO,c _ _ _ _ h.b4,c _ _ _ _ h.b5,c _ _ _ _ h.b6,c _ _ _ _ h.b10,c _ _ _ _ h.b11,⟨?_,h.rs.2⟩,h.dis,?_,?_,Ae h.sz a.size⟩
 ·rcases h.rs.1.2 with⟨e,U⟩|⟨T,S,R,e,Z,q⟩
  ·exact⟨h.rs.1.1,.inl ⟨e,U⟩⟩
  ·exact⟨h.rs.1.1,.inr ⟨T,S,R,e,c _ _ _ _ Z,q⟩⟩
 ·exact h.rd.fr (P:=fun j=>row=some j) ⟨a.os,a.tape,a.output,a.size,fun k f D=>a.block k f (fun e=>D e.symm)⟩ (fun x e _ E=>by cases e;have:=(i _ E).1;simp only at this;omega)
 ·exact h.fr.then (Y:=fun j=>row=some j) ⟨a.os,a.tape,a.output,a.size,fun k f D=>a.block k f (fun e=>D e.symm)⟩ (fun k f E=>by have:=(i _ E).1;omega)
def IE(w:World)(n1 B4 B5 B6 B10 B11 pb:Nat)(kk:UInt8)(below:Nat)(g off len cap:Nat)(s:By)(St:List Nat->(Nat->Prop)->World->Prop)(Yo:Nat->Prop)(RB:List Nat->By)(pre:List Nat)(W:World):Prop:=∃v O,GE w n1 B4 B5 B6 B10 B11 pb kk below g off len cap s St Yo RB pre pre v O W
def Rt(w:World)(n1:Nat)(St:List Nat->(Nat->Prop)->World->Prop)(Yo:Nat->Prop)(RB:List Nat->By)(N:Nat)(e:Ending)(w':World):Prop:=
 ∃a' l' c' O,e = .returned (.slice a' l' c')/\cP n1 w' (.slice a' l' c') (RB (List.range N))/\St (List.range N) O w'/\(∀j,O j->Yo j\/n1<=j)/\(∀j,O j->¬Own (.slice a' l' c') j)/\Fr Yo w w'
end
end Go.Proofs.YtaieidcohdhgpaaGreatDoor
