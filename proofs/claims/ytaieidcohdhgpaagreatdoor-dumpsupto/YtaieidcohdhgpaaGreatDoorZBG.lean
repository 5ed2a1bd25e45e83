/- Dumps. -/
import Derived.Test.YtaieidcohdhgpaaGreatDoorZBF
namespace Go.Proofs.YtaieidcohdhgpaaGreatDoor
set_option maxHeartbeats 40000000
set_option maxRecDepth 100000
open Go.RowKit
theorem QH(a b:List UInt8):ba (a++b)=ba a++ba b:=by apply KB;simp only[KQ,DN]
theorem wd2_ba(p:By):ba (GI [⟨#[100]⟩,p])=⟨#[100,32]⟩++p++⟨#[10]⟩:=by
 apply KB;rw[DN];show Lib.join [BL ⟨#[100]⟩,BL p] [32]++[10]=_;simp only[KQ];simp[Lib.join,List.intercalate,BL]
theorem wd3_ba(p q:By):ba (GI [⟨#[108]⟩,p,q])=⟨#[108,32]⟩++p++⟨#[32]⟩++q++⟨#[10]⟩:=by
 apply KB;rw[DN];show Lib.join [BL ⟨#[108]⟩,BL p,BL q] [32]++[10]=_;simp only[KQ];simp[Lib.join,List.intercalate,BL]
theorem W7(p q:By):ba (GI [⟨#[102]⟩,p,q])=⟨#[102,32]⟩++p++⟨#[32]⟩++q++⟨#[10]⟩:=by
 apply KB;rw[DN];show Lib.join [BL ⟨#[102]⟩,BL p,BL q] [32]++[10]=_;simp only[KQ];simp[Lib.join,List.intercalate,BL]
theorem T2{L:List (By×Int)}{F:LY}(o:F6 L F)(b:Nat)(y v:Value)(d:Nat)(bn:d<=6)(ns:LY)(aU:Ga ns)
  (aX:∀x∈Dv L (jn ns) L.length,∀(w:World) (a:OA) (c:Nat) (told:NB) (S:FJ),FN w b y v L F->KH w (.slice a F.length c) F.length told->SI F.length told S->(∀k,Jb b y v k->¬Own (.slice a F.length c) k)->(∀f,(told f).size<=100)->Cl 108 #[.pointer (some ⟨b,0,none⟩),.string x.1,.slice a F.length c] w (U0 w (.slice a F.length c) L F d (ns++[(Gw x).1]) told S))
  (w:World) (a:OA) (c:Nat) (told:NB) (S:FJ) (h:FN w b y v L F) (O:KH w (.slice a F.length c) F.length told) (hs:SI F.length told S) (aZ:∀k,Jb b y v k->¬Own (.slice a F.length c) k) (bg:∀f,(told f).size<=100):
  Cl 108 #[.pointer (some ⟨b,0,none⟩),.string (jn ns),.slice a F.length c] w (U0 w (.slice a F.length c) L F (d+1) ns told S):=by
 obtain⟨l,ak⟩:=ex (Dv L (jn ns) L.length);have aT:∀k,Own (.slice a F.length c) k->k<w.heap.size:=fun k hk=>own_lt O hk
 have ar:FP L ns=l.map Gw:=by unfold FP;rw[ak]
 have br:l.length<=20:=by have:=o.ch_len ns;rw[ar,A7]at this;exact this
 have aI:Hid (∀w1 U,Sl w1 103 2 U l.length (Dr l)->Bw w w1->(∀j,U.ownBlock=some j->w.heap.size<=j)->Lf w b y v L F a c d ns told S U 0 w1):=fun w1 U N C V=>⟨h.fr (X:=fun _=>False) (Fr.of_below C) (fun _ _=>id),Sl.fr O (X:=fun _=>False) (Fr.of_below C) (fun _ _=>id),hs,Fr.of_below C,by rw[<-ak];exact N,V⟩
 have az:=Db (Vl w b y v L F h (by have:=o.ln;omega) (jn ns));have ao:Hid (∀wr U,Lf w b y v L F a c d ns told S U l.length wr->U0 w (.slice a F.length c) L F (d+1) ns told S (.returned (.string (ba (Gg (CF F) told (FU (Dk (FP L) d) ns ((FP L ns).take l.length) S).1).1))) wr):=fun wr U m=>by
  have e:(FP L ns).take l.length=FP L ns:=AI (by rw[ar,A7];exact Aa _);have N:=m.fst;have C:=m.si;rw[e]at N C ⊢;exact⟨rfl,N,C,m.fr⟩
 have ap:Hid (∀k,k<=l.length->(Gg (CF F) told (FU (Dk (FP L) d) ns ((FP L ns).take k) S).1).1.length<=4042105260000/\∀f,((Gg (CF F) told (FU (Dk (FP L) d) ns ((FP L ns).take k) S).1).2 f).size<=100):=fun k hk=>by
  obtain⟨N,C⟩:=o.dm_len (o.itl d aU k S) bg;refine⟨?_,C⟩;have V:=OJ (Nb o.ch_len d) ns ((FP L ns).take k) S;have h4:((FP L ns).take k).length<=20:=by rw[Ar];have:=o.ch_len ns;omega
  have h5:=On (d:=d+1) (by omega);have h6:(FU (Dk (FP L) d) ns ((FP L ns).take k) S).1.length<=Mj (d+1):=Ae V (EJ _ h4);omega
 have ah:=Db ak;have ac:=Db aT;have H:=Db aZ;have aq:=Db aX;have an:=Db ar;rw[<-ak]at az;clear h O hs ak aT aZ aX ar;go_enter Tryz.func108,Tryz.ntmps108;go_upto_region 2 with(go_at_call 163;refine(Da az).mono ?_;rintro e w1 ⟨U,rfl,aA,aL,aM⟩);obtain⟨av,cv,rfl,ag⟩:=aA.rdL;have aJ:=Db (Da aI w1 _ aA aL aM);clear aA aL aM ag aI az;go_wp2
 go_loopw [8,9,10,11] (fun s i _ _ wr=>∃k:Nat,k<=l.length/\i = .int .i64 (k:Nat)/\s = .string (ba (Gg (CF F) told (FU (Dk (FP L) d) ns ((FP L ns).take k) S).1).1)/\Hid (Lf w b y v L F a c d ns told S (.slice av l.length cv) k wr)) (fun _ i _ _ _=>l.length-(intOf i).toNat)
 case atStart=>exact⟨0,Aw _,rfl,rfl,aJ⟩
 case round=>
  obtain⟨k,hk,rfl,rfl,HI⟩:=hrel;clear aJ;by_cases a6:k<l.length
  ·obtain⟨x,hx⟩:∃x,l[k]?=some x:=⟨_,Ac a6⟩;have am:x∈Dv L (jn ns) L.length:=by rw[<-Da ah];exact An hx
   obtain⟨x1,K,x3,x4⟩:=o.ent aU am;have m:=Da HI;have al:=m.ls;rw[<-Da ah]at al;obtain⟨a',c',e',ag⟩:=al.rdL;simp only[BI,true_and]at e';obtain⟨rfl,rfl⟩:=e';obtain⟨g,rfl,q0,q1⟩:=ag k x hx;have aw:(FP L ns)[k]?=some (Gw x):=by rw[Da an,Be,hx];rfl
   have t:=O6 (Dk (FP L) d) ns (FP L ns) k (Gw x) aw S;obtain⟨P,Y⟩:=ex (FU (Dk (FP L) d) ns ((FP L ns).take k) S);obtain⟨D,I⟩:=ex (Gg (CF F) told P.1);obtain⟨A,E⟩:=ex (ba D.1);obtain⟨t1,t2⟩:=Da ap k hk;rw[<-Y,<-I]at t1 t2;have bj:A.size<=4042105260000:=by rw[E,DR];exact t1
   rw[<-Y]at t;have a7:x.1.size<=100:=by
    rw[K];have:=QD _ x3;rw[Ab]at this;have N:[(Gw x).1].length=1:=rfl;omega
   obtain⟨p,G⟩:=ex x.1;have Q:=m.fst;have J:=m.si;rw[<-Y,<-I]at Q J;rw[<-Y,<-I,<-E];rw[<-G]at q0 a7;by_cases ad:x.2<0
   ·have aa:(Gw x).2=none:=by show(if x.2<0 then none else some x.2.toNat)=none;rw[if_pos ad]
    have T:Gd (Dk (FP L) d) ns P.2 (Gw x)=(⟨ns++[(Gw x).1],1,0⟩::(Dk (FP L) d (ns++[(Gw x).1]) P.2).1,(Dk (FP L) d (ns++[(Gw x).1]) P.2).2):=by unfold Gd;rw[aa]
    rw[T]at t;have a8:=o.dm_len (o.its d x3 P.2) t2;have a4:=Nb o.ch_len d (ns++[(Gw x).1]) P.2;have a5:=On (d:=d) (by omega);have HC:Hid (Cl 108 #[.pointer (some ⟨b,0,none⟩),.string p,.slice a F.length c] wr fun e w'=>∃R:By,e = .returned (.string R)/\R.size<=4042105260000/\Hid (Lf w b y v L F a c d ns told S (.slice (some ⟨g,0,none⟩) l.length cv) (k+1) w')/\Hid (ba (Gg (CF F) told (FU (Dk (FP L) d) ns ((FP L ns).take (k+1)) S).1).1=A++⟨#[100,32]⟩++p++⟨#[10]⟩++R)):=by
     have h9:=Da aq x am wr a c D.2 P.2 m.ref Q J (Da H) t2;rw[<-G]at h9;refine h9.mono ?_;rintro e w' ⟨rfl,r1,r2,r3⟩;have r:Gg (CF F) told (FU (Dk (FP L) d) ns ((FP L ns).take (k+1)) S).1=(D.1++(GI [⟨#[100]⟩,p]++(Gg (CF F) D.2 (Dk (FP L) d (ns++[(Gw x).1]) P.2).1).1),(Gg (CF F) D.2 (Dk (FP L) d (ns++[(Gw x).1]) P.2).1).2):=by
      rw[t];show Gg (CF F) told (P.1++_)=_;rw[Pt,<-I,QW];have i1:Gx (CF F) D.2 ⟨ns++[(Gw x).1],1,0⟩=GI [⟨#[100]⟩,p]:=by
       unfold Gx;rw[if_pos rfl,G,K]
      have i2:F9 D.2 ⟨ns++[(Gw x).1],1,0⟩=D.2:=by unfold F9;rw[if_neg (show ¬(1=2) by decide)]
      rw[i1,i2]
     refine⟨_,rfl,by rw[DR];omega,?_,?_⟩
     ·refine m.next (Da ac) (Da H) r3 ?_ ?_
      ·rw[r];exact r1
      ·rw[r,t];exact r2
     ·rw[r];show ba (D.1++(GI [⟨#[100]⟩,p]++_))=_;rw[QH,QH,<-E,wd2_ba];simp only[Jm]
    clear t T a8 a4 a5 Y I E t1 t2 Q J m al ag x1 K x3 x4 am aa ao ap aq ah ac H an HI aw hx o G;go_wp2_with (go_at_call 108;refine(Da HC).mono ?_;rintro e w' ⟨R,rfl,bl,M,z⟩)
    go_roundw
    case rel=>first|exact⟨k+1,by omega,by go_num,by rw[Da z],M⟩|((repeat apply Exists.intro);exact⟨⟨k+1,by omega,by go_num,by rw[Da z],M⟩,rfl⟩)
    case measure=>simp[intOf];omega
   ·obtain⟨f,O,aj⟩:∃f:Nat,x.2=(f:Int)/\f<F.length:=by
     rcases o.fl x x1 with e|e
     ·rw[e]at ad;exact absurd (by decide) ad
     ·exact e
    have aa:(Gw x).2=some f:=by show(if x.2<0 then none else some x.2.toNat)=some f;rw[if_neg ad,O,BB]
    obtain⟨B,rfl,bm,a1,bq⟩:=fst_at Q aj;rw[O]at q1;obtain⟨q,hq⟩:=ex (D.2 f);rw[<-hq]at a1;have bs:q.size<=100:=by rw[hq];exact t2 f
    have au:=Uv q;have bo:¬((f:Int)<0):=by omega
    have bp:(f:Int)<(F.length:Int):=by omega
    have bk:F.length<=100:=Ae o.fn o.ln;by_cases ae:q=⟨#[]⟩
    ·have ai:P.2 f=false:=by
      cases e:P.2 f with
      | false=>rfl
      | true=>exact absurd (by rw[<-hq];exact ae) ((J f aj).1 e)
     have T:Gd (Dk (FP L) d) ns P.2 (Gw x)=([⟨ns++[(Gw x).1],2,f⟩],P.2.add f):=by unfold Gd;rw[aa];dsimp only;rw[if_neg (by rw[ai];simp)]
     rw[T]at t;obtain⟨af,cf,ay,aW⟩:=m.ref.sf.rdF;obtain⟨s,hs⟩:∃s,F[f]?=some s:=⟨_,Ac aj⟩;obtain⟨gf,rfl,aR⟩:=aW f s hs;have ax:s.size<=1280:=o.sz s (An hs);have aS:gf≠B:=fun e=>Da H B (.inr (.inr (by rw[ay,e];rfl))) rfl
     have aY:b≠B:=fun e=>Da H B (.inl e.symm) rfl
     have aQ:wr.cell? ⟨b,1,none⟩=some (.slice (some ⟨gf,0,none⟩) F.length cf):=by rw[<-ay];exact m.ref.c.c1
     have ab:Fr (Own (.slice (some ⟨B,0,none⟩) F.length c)) wr (wr.setCell ⟨B,f,none⟩ (.string p)):=(Fr.refl _ _).set _ _ rfl;have aB:=Xc Q aj p;obtain⟨u,aE⟩:∃u,wr.setCell ⟨B,f,none⟩ (.string p)=u:=⟨_,rfl⟩;rw[aE]at ab aB;have aD:b<wr.heap.size:=m.ref.hd.lt;have aC:gf<wr.heap.size:=m.ref.sf.lt (by rw[ay];rfl);have d1:u.cell? ⟨b,1,none⟩=some (.slice (some ⟨gf,0,none⟩) F.length cf):=(Qh ab (show b<_ from aD) (fun e=>aY (by cases e;rfl))).trans aQ;have d2:u.cell? ⟨gf,f,none⟩=some (.string s):=(Qh ab (show gf<_ from aC) (fun e=>aS (by cases e;rfl))).trans aR;have r:Gg (CF F) told (FU (Dk (FP L) d) ns ((FP L ns).take (k+1)) S).1=(D.1++(GI [⟨#[102]⟩,p,Gm s.size]++Jc s),fun n=>if n=f then p else D.2 n):=by
      rw[t];show Gg (CF F) told (P.1++_)=_;rw[Pt,<-I,QW];have i1:Gx (CF F) D.2 ⟨ns++[(Gw x).1],2,f⟩=GI [⟨#[102]⟩,p,Gm s.size]++Jc s:=by
       unfold Gx;rw[if_neg (show ¬(2=1) by decide),if_pos rfl,G,K,CF_at hs]
      have i2:F9 D.2 ⟨ns++[(Gw x).1],2,f⟩=(fun n=>if n=f then p else D.2 n):=by unfold F9;rw[if_pos rfl,G,K]
      rw[i1,i2];show(D.1++(_++[]),(fun n=>if n=f then p else D.2 n))=_;rw[AZ]
     have aV:p≠⟨#[]⟩:=fun e=>by
      have h9:=C1 BL (G.symm.trans e);rw[K]at h9;have h8:=C1 List.length h9;rw[DJ,OL]at h8;simp only[Ai]at h8;have h7:(⟨#[47]⟩:By).size=1:=rfl;have h6:(BL ⟨#[]⟩).length=0:=rfl;omega
     have M:Hid (∀w3,Bw u w3->Lf w b y v L F (some ⟨B,0,none⟩) c d ns told S (.slice (some ⟨g,0,none⟩) l.length cv) (k+1) w3):=fun w3 aP=>by
      refine m.next (Da ac) (Da H) (ab.then (Fr.of_below aP) (fun _ _ e=>e)) ?_ ?_
      ·rw[r];exact Sl.fr aB (X:=fun _=>False) (Fr.of_below aP) (fun _ _=>id)
      ·rw[r,t];intro f' a3;show(if f'=f then true else P.2 f')=true↔(if f'=f then p else D.2 f')≠_;by_cases e:f'=f
       ·rw[if_pos e,if_pos e];exact⟨fun _=>aV,fun _=>rfl⟩
       ·rw[if_neg e,if_neg e];exact J f' a3
     have z:Hid (ba (Gg (CF F) told (FU (Dk (FP L) d) ns ((FP L ns).take (k+1)) S).1).1=A++⟨#[102,32]⟩++p++⟨#[32]⟩++Gm s.size++⟨#[10]⟩++ba (Jc s)):=by
      show _=_;rw[r];show ba (D.1++(GI [⟨#[102]⟩,p,Gm s.size]++Jc s))=_;rw[QH,QH,<-E,W7];simp only[Jm]
     have a2:q.toList.isEmpty=true:=by
      rw[au,decide_eq_true_iff,ae];decide
     have aG:Hid (∀W,Cl 164 #[.int .i64 (s.size:Int)] W fun e w'=>e = .returned (.string (Gm s.size))/\w'=W):=fun W=>ZkI s.size ax W
     have aH:Hid (∀W,Bw u W->Cl 165 #[.string s] W fun e w'=>e = .returned (.string (ba (Jc s)))/\w'.cell? ⟨b,1,none⟩=some (.slice (some ⟨gf,0,none⟩) F.length cf)/\w'.cell? ⟨gf,f,none⟩=some (.string s)/\Hid (Bw u w')):=fun W hW=>(Xd s W ax).mono (fun e w' ⟨N,C⟩=>by
      have V:Bw u w':=hW.trans (C.mono hW.size);exact⟨N,(V.cell (p:=⟨b,1,none⟩) (Ao aD ab.size)).trans d1,(V.cell (p:=⟨gf,f,none⟩) (Ao aC ab.size)).trans d2,V⟩)
     have bh:=M7 s.size ax;have bi:(ba (Jc s)).size<=4000:=by
      rw[DR];have:=Su s ax;omega
     obtain⟨Z1,aN⟩:∃Z,Z=Gm s.size:=⟨_,rfl⟩;obtain⟨Z2,aO⟩:∃Z,Z=ba (Jc s):=⟨_,rfl⟩;rw[<-aN]at aG bh z;rw[<-aO]at aH bi z;have a9:¬(9223372036854775807<A.size+2):=by omega
     have bb:¬(9223372036854775807<A.size+2+p.size):=by omega
     have bc:¬(9223372036854775807<A.size+2+p.size+1):=by omega
     have bd:¬(9223372036854775807<A.size+2+p.size+1+Z1.size):=by omega
     have be:¬(9223372036854775807<A.size+2+p.size+1+Z1.size+1):=by omega
     have bf:¬(9223372036854775807<A.size+2+p.size+1+Z1.size+1+Z2.size):=by omega
     have a0:=Db aE;clear t T Y I E t1 t2 Q J m al ag x1 K x3 x4 am aa ao ap aq ah ac H an HI aw hx o G r ai au hq O ad ae ay aW hs aR aS aY aQ ab aB aE aD aC aV aN aO;go_upto_region 9 with fail;rw[show wr.setCell ⟨B,f,none⟩ (.string p)=u from Da a0]
     go_region_held3 (fun W=>W.cell? ⟨b,1,none⟩=some (.slice (some ⟨gf,0,none⟩) F.length cf)/\W.cell? ⟨gf,f,none⟩=some (.string s)) (go_keep) (first|(go_at_call 164;refine(Da aG _).mono ?_;rintro e w' ⟨rfl,hw⟩;rw[hw];clear hw)|(go_at_call 165;refine(Da aH _ (by first|exact Ag _ _|exact(Ag _ _).drew|exact(Ag _ _).drew.drew|exact(Ag _ _).drew.drew.drew)).mono ?_;rintro e w' ⟨rfl,f1,f2,aF⟩))
     have aK:=Db (Da M _ (Da aF));clear M aF f1 f2 d1 d2 a9 bb bc bd be bf;go_wp2
     go_roundw
     case rel=>first|exact⟨k+1,by omega,by go_num,by rw[Da z],aK⟩|((repeat apply Exists.intro);exact⟨⟨k+1,by omega,by go_num,by rw[Da z],aK⟩,rfl⟩)
     case measure=>simp[intOf];omega
    ·have ai:P.2 f=true:=(J f aj).2 (by rw[<-hq];exact ae);have T:Gd (Dk (FP L) d) ns P.2 (Gw x)=([⟨ns++[(Gw x).1],3,f⟩],P.2):=by unfold Gd;rw[aa];dsimp only;rw[if_pos ai]
     rw[T]at t;have r:Gg (CF F) told (FU (Dk (FP L) d) ns ((FP L ns).take (k+1)) S).1=(D.1++GI [⟨#[108]⟩,p,q],D.2):=by
      rw[t];show Gg (CF F) told (P.1++_)=_;rw[Pt,<-I,QW];have i1:Gx (CF F) D.2 ⟨ns++[(Gw x).1],3,f⟩=GI [⟨#[108]⟩,p,q]:=by
       unfold Gx;rw[if_neg (show ¬(3=1) by decide),if_neg (show ¬(3=2) by decide),G,K,hq]
      have i2:F9 D.2 ⟨ns++[(Gw x).1],3,f⟩=D.2:=by unfold F9;rw[if_neg (show ¬(3=2) by decide)]
      rw[i1,i2];show(D.1++(_++[]),D.2)=_;rw[AZ]
     have M:Hid (Lf w b y v L F (some ⟨B,0,none⟩) c d ns told S (.slice (some ⟨g,0,none⟩) l.length cv) (k+1) wr):=by
      refine m.next (Da ac) (Da H) (Fr.refl _ _) ?_ ?_
      ·rw[r];exact Q
      ·rw[r,t];exact J
     have z:Hid (ba (Gg (CF F) told (FU (Dk (FP L) d) ns ((FP L ns).take (k+1)) S).1).1=A++⟨#[108,32]⟩++p++⟨#[32]⟩++q++⟨#[10]⟩):=by
      show _=_;rw[r];show ba (D.1++GI [⟨#[108]⟩,p,q])=_;rw[QH,<-E,wd3_ba];simp only[Jm]
     have a2:q.toList.isEmpty=false:=by
      rw[au,E3];intro h0;refine ae (KB (Ak ?_));rw[DJ];omega
     clear t T Y I E t1 t2 Q J m al ag x1 K x3 x4 am aa ao ap aq ah ac H an HI aw hx o G r ai au hq O ad ae;go_wp2
     go_roundw
     case rel=>first|exact⟨k+1,by omega,by go_num,by rw[Da z],M⟩|((repeat apply Exists.intro);exact⟨⟨k+1,by omega,by go_num,by rw[Da z],M⟩,rfl⟩)
     case measure=>simp[intOf];omega
  ·obtain rfl:k=l.length:=by omega
   have HF:=Db (Da ao wr _ (Da HI));obtain⟨A,E⟩:=ex (ba (Gg (CF F) told (FU (Dk (FP L) d) ns ((FP L ns).take l.length) S).1).1);rw[<-E]at HF ⊢;go_wp2;go_ret;exact Da HF
theorem RH{L:List (By×Int)}{F:LY}(e:F6 L F)(b:Nat)(h g:Value):∀(d:Nat) (ns:LY),ns.length+d=6->Ga ns->∀(w:World) (a:OA) (c:Nat) (told:NB) (S:FJ),FN w b h g L F->KH w (.slice a F.length c) F.length told->SI F.length told S->(∀k,Jb b h g k->¬Own (.slice a F.length c) k)->(∀f,(told f).size<=100)->
  Cl 108 #[.pointer (some ⟨b,0,none⟩),.string (jn ns),.slice a F.length c] w (U0 w (.slice a F.length c) L F (d+1) ns told S)
 | 0,ns,hd,hns=>T2 e b h g 0 (by omega) ns hns (fun x i=>by have:=(e.ent hns i).2.2.2;omega)
 | d+1,ns,hd,hns=>T2 e b h g (d+1) (by omega) ns hns (fun x i w a c told S j l m n o=>by
  obtain⟨_,p,q,_⟩:=e.ent hns i;have:=RH e b h g d (ns++[(Gw x).1]) (by rw[Ab];show _+1+d=6;omega) q w a c told S j l m n o;rw[<-p]at this;exact this)
theorem XS{L:List (By×Int)}{F:LY}(b:F6 L F)(w:World)(g:Nat)(m l:Value)(h:FN w g m l L F):
  Cl 48 #[.pointer (some ⟨g,0,none⟩)] w fun e w'=>e = .returned (.string (ba (Gb (CF F) (Dg (FP L))).1))/\Bw w w':=by
 have aa:F.length<=100:=Ae b.fn b.ln;obtain⟨x,y,t,_⟩:=h.sf.rdF;have ac:w.cell? ⟨g,1,none⟩=some (.slice x F.length y):=by rw[<-t];exact h.c.c1
 have r:∀k,Jb g m l k->k<w.heap.size:=fun k a=>by
  rcases a with rfl|a|a
  ·exact h.hd.lt
  ·exact h.sl.lt a
  ·exact h.sf.lt a
 have o:Hid (∀W:World,W.ownsRow 0 9 1 (.slice (some ⟨w.heap.size,0,none⟩) F.length F.length) F.length (madeCells (Value.string ⟨#[]⟩).cells (F.length*1)).toList->w.grownBy W none->Cl 108 #[.pointer (some ⟨g,0,none⟩),.string ⟨#[]⟩,.slice (some ⟨w.heap.size,0,none⟩) F.length F.length] W fun e w'=>∃R:By,e = .returned (.string R)/\R.size<=4042105260000/\Hid (⟨#[115,105,108,116,10]⟩++R=ba (Gb (CF F) (Dg (FP L))).1/\Bw w w')):=fun W ho C=>by
  have c:=UC C;have p:=Sl.of_owns ho;have G:(madeCells (Value.string ⟨#[]⟩).cells (F.length*1)).toList=(List.range F.length).map (fun _=>Value.string ⟨#[]⟩):=by
   rw[Ci];refine(EI (.string ⟨#[]⟩) F.length).trans ?_;rw[List.map_const',A9]
  rw[G]at p;refine(RH b g m l 6 [] rfl (fun n j=>(by cases j)) W (some ⟨w.heap.size,0,none⟩) F.length (fun _=>⟨#[]⟩) (fun _=>false) (h.fr (X:=fun _=>False) (Fr.of_below c) (fun _ _=>id)) p (fun f _=>⟨fun e=>(by cases e),fun e=>absurd rfl e⟩) (fun k a e=>?_) (fun f=>Aw _)).mono ?_
  ·have z:w.heap.size=k:=BG e;have:=r k a;omega
  ·rintro e w' ⟨rfl,_,_,i⟩;have E:=b.dm_len (b.its 7 (ns:=[]) (fun n j=>(by cases j)) (fun _=>false)) (told:=fun _=>⟨#[]⟩) (fun _=>Aw _);have h2:=Nb b.ch_len 7 [] (fun _=>false);have h3:=On (d:=7) (by omega);refine⟨_,rfl,by rw[DR];exact Ae E.1 (by omega),?_,?_⟩
   ·rw[Ub,QH];rfl
   ·refine⟨i.os.trans c.os,i.tape.trans c.tape,i.output.trans c.output,Ae c.size i.size,fun k a=>(i.block k (Ao a c.size) (fun e=>?_)).trans (c.block k a)⟩;have z:w.heap.size=k:=BG e;omega
 obtain⟨K,D,H,I,J⟩:=Bn Q7;clear h t r b;go_enter Tryz.func48,Tryz.ntmps48;go_wp2_with (first|(at_make;refine CY _ rfl _ _ 84 rfl 0 9 K (.string ⟨#[]⟩) 1 Tryz.underlying84 D H I _ _ _ _ F.length rfl rfl rfl rfl (by rw[J];omega) (by unfold maxLen;omega) (Aw _) ?_;intro w1 s q;have u:=Db (Da o w1 s q);clear s q o)|(go_at_call 108;refine(Da u).mono ?_;rintro e w' ⟨R,rfl,ab,v⟩));go_ret;obtain⟨A,B⟩:=Da v;exact⟨by rw[<-A];rfl,B⟩
def Jy(text:List UInt8):Option (RL×LY):=
 if (Gv [] text).2=true/\(Gv [] text).1≠[] then (IX (Gv [] text).1.length (Gv [] text).1.tail [] []).bind (fun x=>if (Gb (CF x.2) (Dg (FP x.1))).1=text then some x else none) else none
structure Hq(w:World)(rb xb g:Nat)(vl vf:Value)(L:RL)(F:LY)(ls:List (List UInt8))(wr:World):Prop where
 ref:FN wr rb vl vf L F
 sc:Ht wr xb g ls
 own:∀k,Jb rb vl vf k->k=rb\/xb<k
 bel:Bw w wr
 lo:w.heap.size<=rb/\rb<xb/\g<rb
def I9(w:World)(rb xb g:Nat)(L:RL)(F:LY)(ls:List (List UInt8))(wr:World):Prop:=∃vl vf,Hq w rb xb g vl vf L F ls wr
section
variable{w:World}{rb xb g:Nat}{vl vf:Value}{L L':RL}{F F':LY}{ls:List (List UInt8)}{wr:World}
theorem Hq.xlt(h:Hq w rb xb g vl vf L F ls wr):xb<wr.heap.size:=by
 obtain⟨_,_,a,_⟩:=h.sc;exact a.lt
theorem Hq.below(h:Hq w rb xb g vl vf L F ls wr){w':World}(a:Bw wr w'):Hq w rb xb g vl vf L F ls w':=
 ⟨h.ref.fr (X:=fun _=>False) (Fr.of_below a) (fun _ _=>id),h.sc.fr (X:=fun _=>False) (Fr.of_below a) id id,h.own,h.bel.trans (a.mono h.bel.size),h.lo⟩
theorem Hq.call(h:Hq w rb xb g vl vf L F ls wr){f:FuncId}{args:Array Value}{v:Value}(o:FN wr rb vl vf L F->Calls Tryz.prog f args wr fun e w'=>e = .returned v/\FK wr rb vl vf w' L' F'):
  Calls Tryz.prog f args wr fun e w'=>e = .returned v/\I9 w rb xb g L' F' ls w'/\Fr (Jb rb vl vf) wr w':=by
 have aa:=h.xlt;obtain⟨i,j,c,b,l,m,n⟩:=h;refine(o i).mono ?_;rintro e w' ⟨rfl,s,r,p,a,q⟩;refine⟨rfl,⟨s,r,p,j.fr a (fun e=>?_) (fun e=>?_),fun k d=>?_,?_,l,m,n⟩,a⟩
 ·rcases c _ e with e|e<;>omega
 ·rcases c _ e with e|e<;>omega
 ·rcases q k d with e|e
  ·exact c k e
  ·right;omega
 ·refine⟨a.os.trans b.os,a.tape.trans b.tape,a.output.trans b.output,Ae b.size a.size,fun k d=>(a.block k (by have:=b.size;omega) (fun e=>?_)).trans (b.block k d)⟩;rcases c _ e with e|e<;>omega
theorem Hq.bel2(h:Hq w rb xb g vl vf L F ls wr){w':World}(b:Fr (fun k=>k=xb) wr w'):Bw w w':=by
 obtain⟨_,_,_,a,h5,h6,_⟩:=h;exact⟨b.os.trans a.os,b.tape.trans a.tape,b.output.trans a.output,Ae a.size b.size,fun k c=>(b.block k (by have:=a.size;omega) (by omega)).trans (a.block k c)⟩
theorem Hq.scan(h:Hq w rb xb g vl vf L F ls wr){w':World}{c:List (List UInt8)}(b:Fr (fun k=>k=xb) wr w')(o:Ht w' xb g c):Hq w rb xb g vl vf L F c w':=by
 have m:=h.bel2 b;obtain⟨f,h2,a,h4,i,j,l⟩:=h;refine⟨f.fr b (fun k n e=>?_),o,a,m,i,j,l⟩;rcases a k n with d|d<;>omega
theorem Hq.olt(h:Hq w rb xb g vl vf L F ls wr){k:Nat}(a:Jb rb vl vf k):k<wr.heap.size:=by
 rcases a with rfl|a|a
 ·exact h.ref.hd.lt
 ·exact h.ref.sl.lt a
 ·exact h.ref.sf.lt a
end
theorem OO{w:World}{a:OA}{n c:Nat}{l:List (List UInt8)}(h:Sl w 9 1 (.slice a n c) l.length (J2 l)):n=l.length/\∀j x,l[j]?=some x->∃g,a=some ⟨g,0,none⟩/\w.cell? ⟨g,j,none⟩=some (.string (ba x)):=by
 rcases h.2 with⟨e,f⟩|⟨g,aa,R,e,i,hc,ab,hL,k⟩
 ·have:l=[]:=Ak f;subst this
  cases e
  exact⟨rfl,fun j x d=>by simp at d⟩
 ·simp only[BI]at e;obtain⟨rfl,rfl,rfl⟩:=e;refine⟨rfl,fun j x d=>⟨g,rfl,?_⟩⟩;have b:=WX d;rw[<-k,Ap]at b;rw[i.cell]
  split at b
  ·exact b
  ·cases b
theorem OM:∀(s cur:List UInt8),(∀x∈(Gv cur s).1,x.length<=cur.length+s.length)/\(Gv cur s).1.length<=s.length
 | [],cur=>⟨fun x a=>(by cases a),Aa _⟩
 | c::r,cur=>by
  unfold Gv
  split
  ·obtain⟨b,d⟩:=OM r [];refine⟨fun x a=>?_,by show _+1<=_;rw[Af];omega⟩;rcases AG.1 a with rfl|a
   ·omega
   ·have:=b x a;rw[Af];simp only[Ay]at this;omega
  ·obtain⟨b,d⟩:=OM r (cur++[c]);refine⟨fun x a=>?_,by rw[Af];omega⟩;have:=b x a;rw[Ab,Bh]at this;rw[Af];omega
theorem Oy:∀(s cur:List UInt8),(∀x∈Gl cur s,x.length<=cur.length+s.length)/\Gl cur s≠[]/\(Gl cur s).length<=s.length+1
 | [],cur=>⟨fun x a=>by have:x∈[cur]:=a;rw[Av.1 this];omega,by unfold Gl;simp,Aa _⟩
 | c::r,cur=>by
  unfold Gl
  split
  ·obtain⟨b,d,e⟩:=Oy r [];refine⟨fun x a=>?_,by simp,by rw[Af,Af];omega⟩;rcases AG.1 a with rfl|a
   ·omega
   ·have:=b x a;rw[Af];simp only[Ay]at this;omega
  ·obtain⟨b,d,e⟩:=Oy r (cur++[c]);refine⟨fun x a=>?_,d,by rw[Af];omega⟩;have:=b x a;rw[Ab,Bh]at this;rw[Af];omega
def KR(w:World)(text:List UInt8)(e:Ending)(w':World):Prop:=
 (Jy text=none/\(∃a,e = .returned (.tuple #[.pointer a,.bool false]))\/∃rb vl vf L F,Jy text=some (L,F)/\e = .returned (.tuple #[.pointer (some ⟨rb,0,none⟩),.bool true])/\FN w' rb vl vf L F/\F6 L F/\∀k,Jb rb vl vf k->w.heap.size<=k)/\Bw w w'
def LW(T:Option (RL×LY))(L:RL)(F:LY)(ls:List (List UInt8)):Prop:=F6 L F/\(∀x∈ls,x.length<=2000000)/\∃n,ls.length<=n/\T=IX n ls L F
theorem LW.next{T:Option (RL×LY)}{L:RL}{F:LY}{l:List UInt8}{r:List (List UInt8)}(h:LW T L F (l::r)):(Ha (Gl [] l) r L F=none->T=none)/\∀a L' F',Ha (Gl [] l) r L F=some (a,L',F')->LW T L' F' a:=by
 obtain⟨d,f,n,b,c⟩:=h
 cases n with
 | zero=>rw[Af]at b;omega
 | succ n=>
  rw[Af]at b;refine⟨fun e=>?_,fun a L' F' e=>?_⟩
  ·rw[c];show(Ha (Gl [] l) r L F).bind _=none;rw[e];rfl
  ·obtain⟨q1,j⟩:=Si e;refine⟨d.op e,fun x i=>f x (AA _ (j x i)),n,by omega,?_⟩;rw[c];show(Ha (Gl [] l) r L F).bind _=_;rw[e];rfl
open Go.RowKit Go.Maps
structure IP(D:DH)(G:Gh)(I:LF):Prop where
 td:Tidy D
 mp:Iv D
 sz:Maps.size D=I.length
 lt:∀x∈I,x.1<(Maps.size D:Int)
 at':∀p,Maps.has D (DM p)=true->∃f:Nat,Iq D p=(f:Int)/\Df (ba p)=true/\Dc (ba p)≠[]/\FQ G (Dc (ba p))=some ⟨none,(f:Int)⟩
theorem IP.nil:IP (.map []) [] []:=⟨tidy_empty,Iv.nil,rfl,fun x b=>absurd b A4,fun p a=>(by cases a)⟩
theorem RO{G:Gh}{ns:LY}{u:VS}(h:FQ G ns=some u)(x:LY×VS):FQ (G++[x]) ns=some u:=by
 unfold FQ at h ⊢;rw[BJ]at h ⊢;obtain⟨y,a,b⟩:=h;exact⟨y,by rw[List.find?_append,a];rfl,b⟩
theorem IP.more{D:DH}{G:Gh}{I I':LF}(h:IP D G I)(x:LY×VS)(i:I'.length=I.length)(g:∀y∈I',∃z∈I,z.1=y.1):IP D (G++[x]) I':=
 ⟨h.td,h.mp,by rw[h.sz,i],fun y k=>by obtain⟨z,l,e⟩:=g y k;rw[<-e];exact h.lt z l,fun p j=>by
  obtain⟨f,a,b,c,d⟩:=h.at' p j;exact⟨f,a,b,c,RO d x⟩⟩
theorem IP.file{D:DH}{G:Gh}{I i I':LF}(h:IP D G I){p:List UInt8}(B:Df (ba p)=true)(z:Dc (ba p)≠[])(w:FQ G (Dc (ba p))=none){n:OA}{r o:Nat}(v:F0 (G++[(Dc (ba p),⟨none,(Maps.size D:Int)⟩)]))(t:i.length=I.length+1)(u:∀x,x∈i↔x=((Maps.size D:Int),⟨none,0,0,1⟩)\/x∈I)(k:FX i I' (Maps.size D:Int) ⟨n,r,o,1⟩):IP (D.put (DM p) (.lit (.int .i64 (Maps.size D)))) (G++[(Dc (ba p),⟨none,(Maps.size D:Int)⟩)]) I':=by
 have A:Maps.has D (DM p)=false:=by
  cases e:Maps.has D (DM p) with
  | false=>rfl
  | true=>
   obtain⟨f,_,_,_,j⟩:=h.at' p e;rw[w]at j;cases j
 have m:Maps.size (D.put (DM p) (.lit (.int .i64 (Maps.size D))))=Maps.size D+1:=by rw[size_put h.td,A,if_neg (by decide)]
 refine⟨h.td.put (by simp[WideAt.IsKeyLit,DM]) _,h.mp.put _ _,by rw[m,k.1,t,h.sz],fun y g=>?_,fun q l=>?_⟩
 ·rw[m];rcases (k.2 y).1 g with rfl|⟨g,_⟩
  ·show(Maps.size D:Int)<_;omega
  ·rcases (u y).1 g with rfl|g
   ·show(Maps.size D:Int)<_;omega
   ·have:=h.lt y g;omega
 ·by_cases e:DM q=DM p
  ·have s:q=p:=by unfold DM at e;injection e
   subst s;refine⟨Maps.size D,?_,B,z,Ut v.nd (by simp)⟩;unfold Iq;rw[atKey_put_same h.mp.1 (by simp[WideAt.IsKeyLit,DM])]
  ·rw[has_put_other e]at l;obtain⟨f,a,b,c,d⟩:=h.at' q l;refine⟨f,?_,b,c,RO d _⟩;unfold Iq at a ⊢;rw[atKey_put_other e];exact a
section
variable{G G':Gh}{I I':LF}{C C':IB}{ρ : Int->Nat}{L:RL}{F:LY}
theorem NK{p:By}(h:Gz G p=0):Df p=true/\DU G (Dc p)=0:=by
 unfold Gz at h
 split at h
 ·cases h
 ·rename_i a;exact⟨by simpa using a,h⟩
theorem ov_nil(s:By):Mb ⟨#[]⟩ 0 s=s:=by
 unfold Mb
 split
 ·rename_i h;exact KB (by rw[Ak (show(BL s).length=0 by rw[DJ];exact h)];rfl)
 ·apply KB;unfold Ix;rw[if_neg (by show ¬(0+s.size<0);omega),KQ,KQ,Yf];show List.take 0 _++BL s++[]=BL s;rw[Co,AJ,AZ]
theorem Mp(h:Rl G I C ρ L F){p:By}(g:Df p=true):DU G (Dc p)=0↔DD L p=0/\¬(p.toList==[47])=true/\(FT L p).isSome=false:=by
 rw[h.gap g];constructor
 ·intro e
  split at e
  ·rename_i d;exact absurd e d
  ·rename_i d
   split at e
   ·cases e
   ·rename_i f;exact⟨by simpa using d,fun e=>f (.inl e),by simpa using fun e=>f (.inr e)⟩
 ·rintro⟨a,b,c⟩;rw[if_neg (by simpa using a),if_neg];rintro(e|e)
  ·exact b e
  ·rw[c]at e;cases e
theorem TH(h:Rl G I C ρ L F){p s:By}(d:Df p=true)(e:DU G (Dc p)=0)(g:Ja G I (Dc p).dropLast=true)(hs:s.size<=1280):Dy L F p 0 s=Kh L F (L++[(p,(F.length:Int))]) (F++[s]):=by
 obtain⟨a,b,c⟩:=(Mp h d).1 e;have i:=Un d b;unfold Dy;rw[if_neg (by rw[d];simp),if_neg (by omega),if_neg (by simpa using a),if_neg b];have f:FT L p=none:=by simpa using c
 rw[f];dsimp only;rw[h.may d i,if_neg (by rw[g];simp),show(0:Int).toNat=0 from rfl];have:=WO F 0 s;rw[ov_nil]at this;rw[<-this];rfl
theorem Zj9(h:Rl G I C ρ L F){p s:By}(a:(Dy L F p 0 s).1=0)(i:FT L p=none):Df p=true/\Dc p≠[]/\DU G (Dc p)=0/\Ja G I (Dc p).dropLast=true/\s.size<=1280/\Kn (L++[(p,(F.length:Int))]) (F++[s])<=160:=by
 have c:=a;unfold Dy at a
 split at a
 ·cases a
 ·rename_i m;have b:Df p=true:=by simpa using m
  split at a
  ·cases a
  ·rename_i n
   split at a
   ·rename_i d;exact absurd a d
   ·rename_i d
    split at a
    ·cases a
    ·rename_i f;have k:=Un b f;rw[i]at a;dsimp only at a
     split at a
     ·cases a
     ·rename_i o;have j:Ja G I (Dc p).dropLast=true:=by rw[<-h.may b k];simpa using o
      have g:DU G (Dc p)=0:=(Mp h b).2 ⟨by simpa using d,f,by rw[i];rfl⟩;have l:s.size<=1280:=by
       have h9:¬(1280<(0:Int)+s.size):=fun e=>n (.inr (.inr e))
       omega
      refine⟨b,k,g,j,l,?_⟩;rw[TH h b g j l]at c;unfold Kh at c
      split at c
      ·cases c
      ·omega
theorem ah_ok(b:F0 G):∀(n:Nat) (ns:LY) (u:VS),ns.length=n->FQ G ns=some u->F8 G (Ds [] ns)=0:=by
 intro n
 induction n using Nat.strongRecOn with
 | ind n ih=>
  intro ns u g h;by_cases a:ns=[]
  ·rw[a];rfl
  ·obtain⟨d,m,e⟩:=Qk a;subst e;rcases b.up d m u (Ko h) with e|⟨v,j,i⟩
   ·rw[e];rfl
   ·have c:FQ G d=some v:=Ut b.nd j;by_cases f:d=[]
    ·rw[f];rfl
    ·exact Rn f (ih d.length (by rw[Ab]at g;simp at g;omega) d v rfl c) c i
theorem Mh(h:Rl G I C ρ L F)(l:cD G []+I.length<=60){m p:By}(a:Df m=true)(e:Dc m≠[]){f:Int}(b:FQ G (Dc m)=some ⟨none,f⟩)(c:Gz G p=0)(k:JP G (Dc p).dropLast=true):(DL L F m p).1=0/\(DL L F m p).2=L++[(p,(ρ f:Int))]:=by
 obtain⟨n,c⟩:=NK c;obtain⟨g,_,i⟩:=h.linkE l m p;have j:FR G m true=0:=by
  rw[h.fE,if_neg (by rw[a];simp),if_neg (by rw[h.ah a,ah_ok h.ok _ _ _ rfl b];simp),if_neg (by rw[O8 a e];simp),h.lk a e,b];show(if DF ρ ⟨none,f⟩<0 then (5:Int) else 0)=0;rw[if_neg];show ¬((ρ f:Int)<0);omega
 have d:LU G m p=0:=by
  unfold LU;rw[if_neg (by rw[n];simp),if_neg (by simpa using j),if_neg (by simpa using c),if_neg (by rw[k];simp)]
 exact⟨by rw[<-g];exact d,(i d _ b rfl).1⟩
end
theorem tx_ne(y:DI):y.tx≠[]:=by unfold DI.tx GV;simp
theorem RF{a:List DI}(h:GT a=[]):a=[]:=by
 cases a with
 | nil=>rfl
 | cons y a=>exact absurd (List.append_eq_nil_iff.1 h).1 (tx_ne y)
def DT(text r:List UInt8)(D:DH)(G:Gh)(I:LF)(C:IB):Prop:=
 ∃ ρ L F,Rl G I C ρ L F/\IP D G I/\∀ds,(∀y∈ds,y.Ok)->text=JK++GT ds->∃pre suf,ds=pre++suf/\r=GT suf/\J3 pre [] []=some (L,F)/\∀p s,DI.f p s∈pre->Maps.has D (DM p)=true
theorem DT.next{n r m:List UInt8}{D e:DH}{L g:RL}{F f:LY}(w:∀b,(∀y∈b,y.Ok)->n=JK++GT b->∃c a,b=c++a/\r=GT a/\J3 c [] []=some (L,F)/\∀p s,DI.f p s∈c->Maps.has D (DM p)=true)
  (x:∀k,Maps.has D k=true->Maps.has e k=true) (z:r≠[]) (h:∀y a,y.Ok->r=y.tx++GT a->m=GT a/\Iz L F y=some (g,f)/\∀p s,y=DI.f p s->Maps.has e (DM p)=true):∀b,(∀y∈b,y.Ok)->n=JK++GT b->∃c a,b=c++a/\m=GT a/\J3 c [] []=some (g,f)/\∀p s,DI.f p s∈c->Maps.has e (DM p)=true:=fun b l A=>by
 obtain⟨c,a,i,j,o,q⟩:=w b l A
 cases a with
 | nil=>exact absurd j z
 | cons y a=>
  obtain⟨t,u,v⟩:=h y a (l y (by rw[i];simp)) j;refine⟨c++[y],a,by rw[i];simp,t,?_,fun p s d=>?_⟩
  ·rw[Pf,o];show(Iz L F y).bind _=_;rw[u];rfl
  ·rcases As.1 d with d|d
   ·exact x _ (q p s d)
   ·exact v p s (Av.1 d).symm
theorem YV{a:List DI}(c:∀y∈a,y.Ok):Gv [] (JK++GT a)=([115,105,108,116]::a.flatMap (fun y=>y.hd::y.tl),true):=by
 have e:JK++GT a=GV ([115,105,108,116]::a.flatMap (fun y=>y.hd::y.tl)):=by
  rw[RG];rfl
 rw[e];refine R9 _ (fun l b=>?_);rcases AG.1 b with rfl|b
 ·decide
 ·obtain⟨y,g,b⟩:=Cz.1 b;exact hd_no (c y g) l b
theorem RW{a:List DI}(b:∀y∈a,y.Ok){text:List UInt8}(c:text=JK++GT a):Jy text=(J3 a [] []).bind (fun x=>if (Gb (CF x.2) (Dg (FP x.1))).1=text then some x else none):=by
 unfold Jy;rw[show Gv [] text=([115,105,108,116]::a.flatMap (fun y=>y.hd::y.tl),true) by rw[c];exact YV b];dsimp only;rw[if_pos ⟨rfl,by simp⟩,List.tail_cons,Ra a _ [] [] b (by rw[Af];omega)]
theorem Nf{text:List UInt8}{L:RL}{F:LY}(h:Jy text=some (L,F)):F6 L F/\text=JK++GT (I0 L F)/\(Gb (CF F) (Dg (FP L))).1=text/\J3 (I0 L F) [] []=some (L,F):=by
 have c:=h;unfold Jy at h
 split at h
 ·rw[BP]at h;obtain⟨⟨L1,F1⟩,j,a⟩:=h;dsimp only at a
  split at a
  ·rename_i g
   cases a
   have e:=F6.lo _ _ _ _ F6.nl _ _ j;have i:text=JK++GT (I0 L F):=by rw[<-g,XR]
   refine⟨e,i,g,?_⟩;rw[RW e.can.ok i,BP]at c;obtain⟨⟨L2,F2⟩,k,b⟩:=c;dsimp only at b
   split at b
   ·cases b;exact k
   ·cases b
  ·cases a
 ·cases h
theorem Vi:∀(ds:List DI) (L:RL) (F:LY) (L':RL) (F':LY),F6 L F->J3 ds L F=some (L',F')->F6 L' F'/\∀x∈L',x∈L\/∃y∈ds,x.1=ba y.path
 | [],L,F,L',F',h,e=>by cases e;exact⟨h,fun x c => .inl c⟩
 | y::ds,L,F,L',F',h,e=>by
  have q:(Iz L F y).bind (fun x=>J3 ds x.1 x.2)=some (L',F'):=e;rw[BP]at q;obtain⟨⟨L1,F1⟩,k,t⟩:=q;have w:F6 L1 F1/\∀x∈L1,x∈L\/x.1=ba y.path:=by
   rcases y with p|⟨p,m⟩|⟨p,s⟩
   ·have i:(if (DS L F (ba p)).1=0 then some ((DS L F (ba p)).2,F) else none)=some (L1,F1):=k
    split at i
    ·rename_i j
     cases i
     obtain⟨a,b⟩:=h.mkdir j;refine⟨a,fun x c=>?_⟩;rw[b]at c;rcases As.1 c with c|c
     ·exact .inl c
     ·right;rw[Av.1 c];rfl
    ·cases i
   ·have i:(if (DL L F (ba m) (ba p)).1=0 then some ((DL L F (ba m) (ba p)).2,F) else none)=some (L1,F1):=k
    split at i
    ·rename_i j
     cases i
     obtain⟨a,f,b⟩:=h.link j;refine⟨a,fun x c=>?_⟩;rw[b]at c;rcases As.1 c with c|c
     ·exact .inl c
     ·right;rw[Av.1 c];rfl
    ·cases i
   ·have i:(if (Dy L F (ba p) 0 s).1=0 then some (Dy L F (ba p) 0 s).2 else none)=some (L1,F1):=k
    split at i
    ·rename_i j;have o:=h.write j;injection i with i;rw[i]at o;refine⟨o,fun x c=>?_⟩;have g:x∈(Dy L F (ba p) 0 s).2.1:=by rw[i];exact c
     clear c o i k t e;unfold Dy at g
     split at g
     ·exact .inl g
     ·split at g
      ·exact .inl g
      ·split at g
       ·exact .inl g
       ·split at g
        ·exact .inl g
        ·split at g
         ·split at g
          ·exact .inl g
          ·unfold Kh at g
           split at g
           ·exact .inl g
           ·rcases As.1 g with c|c
            ·exact .inl c
            ·right;rw[Av.1 c];rfl
         ·split at g
          ·exact .inl g
          ·unfold Kh at g
           split at g
           ·exact .inl g
           ·exact .inl g
    ·cases i
  obtain⟨u,v⟩:=w;obtain⟨a,b⟩:=Vi ds L1 F1 L' F' u t;refine⟨a,fun x c=>?_⟩;rcases b x c with c|⟨z,j,n⟩
  ·rcases v x c with c|n
   ·exact .inl c
   ·exact .inr ⟨y,by simp,n⟩
  ·exact .inr ⟨z,AA _ j,n⟩
theorem WQ(D:DH):G1 [] D=none:=by
 unfold G1;rw[M5 (by simp)]
 rfl
section
variable{text r r':List UInt8}{D D':DH}{G G':Gh}{I I':LF}{C C':IB}{kd f:Nat}{p d:List UInt8}
theorem DT.step(h:DT text r D G I C)(K:TG G I)(a:G1 r D=some (kd,p,(f:Int),d,r',D'))(u:LR kd G G' I I' C C' (ba p) f d.length (ba d))(ae:TG G' I')(ad:(I'.map (·.1)).Nodup):DT text r' D' G' I' C':=by
 obtain⟨ρ,L,F,i,c,A⟩:=h;have E:r≠[]:=fun e=>by rw[e,WQ]at a;cases a
 have B:=YG a;rcases u.kind with rfl|rfl|rfl
 ·obtain⟨M,⟨nb,rfl⟩,rfl,rfl⟩:=u.dir rfl;have j:D'=D:=by
   rcases B with⟨_,e⟩|⟨e,_⟩|⟨e,_⟩
   ·exact e
   ·cases e
   ·cases e
  subst j;obtain⟨e1,_,e3⟩:=i.mkdirE (ba p);refine⟨ρ,_,F,i.addDir M nb,c.more _ rfl (fun y b=>⟨y,b,rfl⟩),DT.next A (fun _ e=>e) E (fun y U b e=>?_)⟩
  rcases y with p'|⟨p',m⟩|⟨p',s⟩
  ·rw[e,UO b]at a
   cases a
   refine⟨rfl,?_,fun _ _ e=>by cases e⟩;show(if (DS L F (ba p)).1=0 then some ((DS L F (ba p)).2,F) else none)=_;rw[if_pos (by rw[<-e1];exact M),(e3 M).1]
  ·rw[e,UQ b.1 b.2]at a
   split at a<;>cases a
  ·rw[e,UP b.1 b.2]at a;cases a
 ·obtain⟨⟨rfl,V,Y,Z,N,O,P,W,X⟩,g,x,ac,aa⟩:=u.file rfl;obtain⟨hf,j⟩:(f:Int)=(Maps.size D:Int)/\D'=D.put (DM p) (.lit (.int .i64 (Maps.size D))):=by
   rcases B with⟨e,_⟩|⟨_,e⟩|⟨e,_⟩
   ·cases e
   ·exact e
   ·cases e
  obtain rfl:f=Maps.size D:=by omega
  subst j;obtain⟨o,w⟩:=NK g;obtain⟨_,z,v,R⟩:=Ud K.ok g ⟨none,((Maps.size D:Nat):Int)⟩;have J:(ba d).size<=1280:=by rw[DR];exact aa
  have n:FX V I' ((Maps.size D:Nat):Int) ⟨Y,(ba d).size,Z,1⟩:=by rw[DR];exact P
  have H:=i.made o z v w x ac N O J n W X;refine⟨_,_,_,H,c.file o z v R N O P,DT.next A (fun k e=>?_) E (fun y U b e=>?_)⟩
  ·by_cases Q:k=DM p
   ·rw[Q];exact has_put_same c.mp.1 (by simp[WideAt.IsKeyLit,DM]) _
   ·rw[has_put_other Q];exact e
  ·rcases y with p'|⟨p',m⟩|⟨p',s⟩
   ·rw[e,UO b]at a;cases a
   ·rw[e,UQ b.1 b.2]at a
    split at a<;>cases a
   ·rw[e,UP b.1 b.2]at a
    cases a
    rw[QF]at H J ⊢;refine⟨rfl,?_,fun q t e=>?_⟩
    ·show(if (Dy L F (ba p) 0 s).1=0 then some (Dy L F (ba p) 0 s).2 else none)=_;have hu:Kn (L++[(ba p,(F.length:Int))]) (F++[s])<=160:=by
      rw[<-H.num.usage,<-Ot];exact ae.us
     have hw:Dy L F (ba p) 0 s=(0,L++[(ba p,(F.length:Int))],F++[s]):=by
      rw[TH i o w x J];unfold Kh;rw[if_neg (by omega)]
     rw[hw,if_pos rfl]
    ·cases e
     exact has_put_same c.mp.1 (by simp[WideAt.IsKeyLit,DM]) _
 ·obtain⟨g,T,rfl,rfl,rr,S,n⟩:=u.link rfl;have j:D'=D:=by
   rcases B with⟨e,_⟩|⟨e,_⟩|⟨_,e,_⟩
   ·cases e
   ·cases e
   ·exact e
  subst j;obtain⟨o,w⟩:=NK g;obtain⟨_,z,v,R⟩:=Ud K.ok g ⟨none,(f:Int)⟩;refine⟨ρ,_,F,i.addLink o z v w T S n ad,c.more _ n.1 (n.keys S).1,DT.next A (fun _ e=>e) E (fun y U b e=>?_)⟩
  rcases y with p'|⟨p',m⟩|⟨p',s⟩
  ·rw[e,UO b]at a;cases a
  ·rw[e,UQ b.1 b.2]at a
   split at a
   ·rename_i x;injection a with a;rw[C4,C4,C4,C4,C4]at a;obtain⟨_,rfl,af,_,rfl,_⟩:=a;obtain⟨f',q1,q2,q3,q4⟩:=c.at' m x;have ab:f'=f:=by omega
    subst ab;obtain⟨l1,l2⟩:=Mh i K.nd q2 q3 q4 g T;refine⟨rfl,?_,fun _ _ e=>by cases e⟩;show(if (DL L F (ba m) (ba p')).1=0 then some ((DL L F (ba m) (ba p')).2,F) else none)=_;rw[if_pos l1,l2]
   ·cases a
  ·rw[e,UP b.1 b.2]at a;cases a
theorem DT.go(h:DT text r D G I C)(j:TG G I)(ae:r≠[]){L1:RL}{F1:LY}(hA:Jy text=some (L1,F1)):∃kd p f d r' D',G1 r D=some (kd,p,((f:Nat):Int),d,r',D')/\LJ kd G I (ba p) f d.length:=by
 obtain⟨ρ,L,F,i,w,ac⟩:=h;obtain⟨aa,ht,_,N⟩:=Nf hA;have q:=aa.can;obtain⟨S,c,o,J,K,e4⟩:=ac _ q.ok ht
 cases c with
 | nil=>exact absurd J ae
 | cons y c=>
  have g:y.Ok:=q.ok y (by rw[o];simp);have af:∃x,Iz L F y=some x:=by
   rw[o,Pf,K]at N;have M:(Iz L F y).bind (fun x=>J3 c x.1 x.2)=some (L1,F1):=N;rw[BP]at M;obtain⟨x,a,_⟩:=M;exact⟨x,a⟩
  obtain⟨x,a⟩:=af;have t:r=y.tx++GT c:=J
  rcases y with p|⟨p,m⟩|⟨p,s⟩
  ·refine⟨1,p,0,[],GT c,D,by rw[t,UO g];rfl,.inl rfl,fun _=>?_,(fun e=>by cases e),fun e=>by cases e⟩;have b:(if (DS L F (ba p)).1=0 then some ((DS L F (ba p)).2,F) else none)=some x:=a
   split at b
   ·rename_i n;rw[(i.mkdirE (ba p)).1];exact n
   ·cases b
  ·have b:(if (DL L F (ba m) (ba p)).1=0 then some ((DL L F (ba m) (ba p)).2,F) else none)=some x:=a
   split at b
   ·rename_i n;obtain⟨s,hs⟩:=q.ln S p m c o;have O:=e4 m s hs;obtain⟨f,B,T,q3,U⟩:=w.at' m O;refine⟨3,p,f,[],GT c,D,by rw[t,UQ g.1 g.2,if_pos O,B],.inr (.inr rfl),(fun e=>by cases e),(fun e=>by cases e),fun _=>?_⟩;obtain⟨l1,_,l3⟩:=i.linkE j.nd (ba m) (ba p);obtain⟨_,Y,_,_,Z,a5⟩:=l3 (by rw[l1];exact n) _ U rfl;refine⟨?_,a5,i.fl _ (Ko U) rfl⟩;unfold Gz;rw[if_neg (by rw[Y];simp)];exact Z
   ·cases b
  ·have b:(if (Dy L F (ba p) 0 s).1=0 then some (Dy L F (ba p) 0 s).2 else none)=some x:=a
   split at b
   ·rename_i n;have P:FT L (ba p)=none:=by
     cases e:FT L (ba p) with
     | none=>rfl
     | some v=>
      unfold FT at e;rw[BJ]at e;obtain⟨z,X,z2⟩:=e;have aj:=CB X;have ak:z.1=ba p:=by simpa using Fp X
      rcases (Vi S [] [] L F F6.nl K).2 z aj with e|⟨y,g,e⟩
      ·cases e
      ·have ah:y.path=p:=by
        have:=C1 BL (e.symm.trans ak);rw[DN,DN]at this;exact this
       have Q:=q.nd;rw[o,Bo,FF]at Q;exact absurd ah (Q.2.2 y.path (A2.2 ⟨y,g,rfl⟩) p (by simp[DI.path]))
    obtain⟨w1,E,V,H,W,w6⟩:=Zj9 i n P;have ab:FQ G (Dc (ba p))=none:=by
     cases e:FQ G (Dc (ba p)) with
     | none=>rfl
     | some u=>
      have:=i.lk w1 E;rw[e,P]at this;cases this
    have ad:Gz G (ba p)=0:=by unfold Gz;rw[if_neg (by rw[w1];simp)];exact V
    have A:∀x∈I,x.1≠((Maps.size D:Nat):Int):=fun x a e=>by have:=w.lt x a;omega
    have am:=(Ph H).2;have al:=j.gl;have ag:(ba p).size<=2000000:=by
     obtain⟨B,T⟩:=Kq w1 E;rw[B];have:=QD _ T;have:=QB w1;omega
    refine⟨2,p,Maps.size D,BL s,GT c,_,by rw[t,UP g.1 g.2],.inr (.inl rfl),(fun e=>by cases e),fun _=>⟨⟨j.ok,by omega,by have:=j.nd;omega,fun x a=>by have:=(j.rg x a).2.2.1;omega,ag,ad,H,A,fun I1 I2 da dc j1 j2 R=>?_⟩,by have:=w.sz;omega,by rw[DJ];exact W⟩,fun e=>by cases e⟩;rw[DJ]at R;have ai:=i.made (C2:=fun k=>if k=((Maps.size D:Nat):Int) then s else C k) w1 E ab V H A j1 j2 W R (if_pos rfl) (fun x a=>if_neg (A x a));rw[Ot,ai.num.usage];exact w6
   ·cases b
end
theorem dt_rd(text:List UInt8):LH (DT text) (∃x,Jy text=some x) text:=by
 refine⟨fun ⟨x,c⟩=>?_,fun r i=>?_,fun r D G I C h g kd p f d r' D' G' I' C' i o B v=>h.step g i o B v,fun ⟨x,c⟩ r D G I C h g y=>h.go g y (L1:=x.1) (F1:=x.2) c,fun ⟨x,c⟩ D G I C h g w tb rd V E vi n=>?_⟩
 ·obtain⟨_,b,_⟩:=Nf (L:=x.1) (F:=x.2) c;exact⟨_,b⟩
 ·refine⟨fun _=>0,[],[],Rl.none _ _,IP.nil,fun j ab b=>⟨[],j,rfl,?_,rfl,fun _ _ u=>(by cases u)⟩⟩;have e:JK++r=JK++GT j:=i.symm.trans b;exact E6 e
 ·obtain⟨ρ,L,F,z,aa,s⟩:=h;obtain⟨m,b,q,t⟩:=Nf (L:=x.1) (F:=x.2) c;obtain⟨ac,ad,k,l,a,e4⟩:=s _ m.can.ok b;have A:=RF l.symm;rw[A,AZ]at k;rw[<-k,t]at a;injection a with a;rw[<-Pe z n];rw[C4]at a;rw[<-a.1,<-a.2];exact q
theorem P4{text:List UInt8}{D:DH}{G:Gh}{I:LF}{C:IB}(h:DT text [] D G I C)(l:TG G I){w:World}{tb a:Nat}{V:NV}{E:NS}{u:Value}(b:TW w tb a V E u G I C)(g:(Gb (fun n=>C (n:Int)) (Dg (DY G a E))).1=text):
  ∃ ρ L F,Rl G I C ρ L F/\Jy text=some (L,F):=by
 obtain⟨ρ,L,F,j,aa,s⟩:=h;refine⟨ρ,L,F,j,?_⟩;have i:∀y∈Ju (fun n=>C (n:Int)) (fun _=>⟨#[]⟩) (Dg (DY G a E)),y.Ok:=N6 _ _ (fun _=>⟨fun c=>(by cases c),fun c=>(by cases c)⟩) (fun y m=>⟨all_ns b l y m,(UW b l).ok.size y m⟩);have k:text=JK++GT (Ju (fun n=>C (n:Int)) (fun _=>⟨#[]⟩) (Dg (DY G a E))):=by rw[<-g,Ub,Oi]
 obtain⟨ab,ac,e,o,q,e4⟩:=s _ i k;have t:=RF o.symm;rw[t,AZ]at e;rw[RW i k,e,q];show(if (Gb (CF F) (Dg (FP L))).1=text then some (L,F) else none)=_;rw[if_pos (by rw[Pe j b];exact g)]
end Go.Proofs.YtaieidcohdhgpaaGreatDoor
