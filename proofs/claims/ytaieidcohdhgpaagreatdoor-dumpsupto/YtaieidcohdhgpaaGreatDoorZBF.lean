/- Dumps. -/
import Derived.Test.YtaieidcohdhgpaaGreatDoorZBE
namespace Go.Proofs.YtaieidcohdhgpaaGreatDoor
set_option maxHeartbeats 40000000
set_option maxRecDepth 100000
open Go.RowKit
abbrev RL:=List (By×Int)
def Ha(ws r:List (List UInt8))(L:RL)(F:LY):Option (List (List UInt8)×RL×LY):=
 match ws with
 | [a,p]=>if a=[100] then (if (DS L F (ba p)).1=0 then some (r,(DS L F (ba p)).2,F) else none) else none
 | [a,p,q]=>if a=[108] then (if (DL L F (ba q) (ba p)).1=0 then some (r,(DL L F (ba q) (ba p)).2,F) else none) else
   if a=[102] then ((KJ q).bind fun n=>(GR n r []).bind fun x=>if (Dy L F (ba p) 0 (ba x.1)).1=0 then some (x.2,(Dy L F (ba p) 0 (ba x.1)).2.1,(Dy L F (ba p) 0 (ba x.1)).2.2) else none) else none
 | _=>none
def IX:Nat->List (List UInt8)->RL->LY->Option (RL×LY)
 | _,[],L,F=>some (L,F)
 | 0,_::_,_,_=>none
 | n+1,l::r,L,F=>(Ha (Gl [] l) r L F).bind fun x=>IX n x.1 x.2.1 x.2.2
theorem OR(n:Nat):∀(ls:List (List UInt8)) (o d:List UInt8) (r:List (List UInt8)),GR n ls o=some (d,r)->r.length<=ls.length/\(∀x∈r,x∈ls)/\d.length=n
 | [],o,d,r,h=>by
  rw[RQ]at h
  split at h
  ·rename_i e;cases h;exact⟨Aa _,fun x a=>a,e⟩
  ·cases h
 | s::ls,o,d,r,h=>by
  rw[M4]at h
  split at h
  ·split at h
   ·cases h
   ·cases hu:JG s with
    | none=>rw[hu]at h;cases h
    | some y=>
     rw[hu]at h;obtain⟨h1,b,c⟩:=OR n ls _ d r h;exact⟨by rw[Af];omega,fun x a=>AA _ (b x a),c⟩
  ·split at h
   ·rename_i e;cases h;exact⟨Aa _,fun x a=>a,e⟩
   ·cases h
theorem Si{g r b:List (List UInt8)}{L e:RL}{F c:LY}(h:Ha g r L F=some (b,e,c)):b.length<=r.length/\∀x∈b,x∈r:=by
 unfold Ha at h
 split at h
 ·split at h
  ·split at h
   ·cases h;exact⟨Aa _,fun x a=>a⟩
   ·cases h
  ·cases h
 ·split at h
  ·split at h
   ·cases h;exact⟨Aa _,fun x a=>a⟩
   ·cases h
  ·split at h
   ·rw[BP]at h;obtain⟨n,_,h⟩:=h;rw[BP]at h;obtain⟨⟨d,r2⟩,f,h⟩:=h;dsimp only at h
    split at h
    ·cases h
     have:=OR _ _ _ _ _ f;exact⟨this.1,this.2.1⟩
    ·cases h
   ·cases h
 ·cases h
section
variable{L:RL}{F:LY}
theorem ZS{p:By}(h:(FT L p).isSome=false):∀x∈L,x.1≠p:=fun x b e=>by
 unfold FT at h;rw[Option.isSome_map]at h;have:=List.find?_isSome (p:=fun x:By×Int=>decide (x.1=p)) (xs:=L);rw[h]at this;have a:=this.2 ⟨x,b,by simpa using e⟩
 cases a
theorem F6.add(h:F6 L F){p:By}(q:Df p=true)(g:Dc p≠[])(o:(FT L p).isSome=false)(h1:L.countP (Dx (Jd p))<20)(h2:L.length<100){v:Int}{f:LY}(t:v = -1\/∃n:Nat,v=(n:Int)/\n<f.length)(aa:F.length<=f.length)(m:f.length<=L.length+1)(r:∀s∈f,s.size<=1280):F6 (L++[(p,v)]) f:=by
 refine⟨fun x c=>?_,fun x c=>?_,?_,fun d=>?_,by rw[Ab];show _+1<=_;omega,by rw[Ab];exact m,r⟩
 ·rcases As.1 c with c|c
  ·exact h.nm x c
  ·rw[Av.1 c];exact⟨q,g⟩
 ·rcases As.1 c with c|c
  ·rcases h.fl x c with e|⟨n,e,g⟩
   ·exact .inl e
   ·exact .inr ⟨n,e,by omega⟩
  ·rw[Av.1 c];exact t
 ·rw[Bo,FF];refine⟨h.nd,by simp,fun a j b k e=>?_⟩;obtain⟨x,c,rfl⟩:=A2.1 j;have l:b=p:=by simpa using k
  exact ZS o x c (e.trans l)
 ·rw[Ck,Ce];have:=h.cnt d;by_cases e:Dx d (p,v)=true
  ·rw[if_pos e];have i:Jd p=d:=Qy (by unfold Dx at e;rw[CE]at e;exact e);rw[<-i];omega
  ·rw[if_neg e];omega
theorem Pk{p:By}{n:Nat}(h:JJ L F p n=true):L.countP (Dx (Jd p))<20/\L.length<100:=by
 unfold JJ at h;rw[AM]at h;exact⟨h.1,h.2.1⟩
theorem Un{p:By}(a:Df p=true)(b:¬(p.toList==[47])=true):Dc p≠[]:=fun e=>b ((Kg a).2 e)
theorem F6.mkdir(h:F6 L F){p:By}(c:(DS L F p).1=0):F6 (DS L F p).2 F/\(DS L F p).2=L++[(p,-1)]:=by
 unfold DS at c ⊢
 split at c
 ·rename_i d;exact absurd c d
 ·rename_i d;rw[if_neg d]
  split at c
  ·cases c
  ·rename_i f;rw[if_neg f]
   split at c
   ·cases c
   ·rename_i g;rw[if_neg g];have i:Df p=true:=RN (by simpa using d);have k:¬(p.toList==[47])=true:=fun e=>f (.inl e)
    have j:(FT L p).isSome=false:=by simpa using fun e=>f (.inr e)
    obtain⟨a,b⟩:=Pk (by simpa using g);exact⟨h.add i (Un i k) j a b (.inl rfl) (Aa _) (by have:=h.fn;omega) h.sz,rfl⟩
theorem F6.link(h:F6 L F){a p:By}(b:(DL L F a p).1=0):F6 (DL L F a p).2 F/\∃f,(DL L F a p).2=L++[(p,f)]:=by
 unfold DL at b ⊢
 split at b
 ·cases b
 ·rename_i j;rw[if_neg j]
  split at b
  ·rename_i c;exact absurd b c
  ·rename_i c;rw[if_neg c]
   split at b
   ·cases b
   ·rename_i m;rw[if_neg m]
    split at b
    ·cases b
    ·rename_i f i
     split at b
     ·cases b
     ·rename_i n;rw[if_neg n]
      split at b
      ·rename_i d;exact absurd b d
      ·rename_i d;rw[if_neg d]
       split at b
       ·cases b
       ·rename_i g;rw[if_neg g]
        split at b
        ·cases b
        ·rename_i k;rw[if_neg k];have l:Df a=true/\Df p=true:=by simpa using j
         have q:¬(p.toList==[47])=true:=fun e=>g (.inl e)
         have o:(FT L p).isSome=false:=by simpa using fun e=>g (.inr e)
         obtain⟨x,y⟩:=Pk (by simpa using k);refine⟨h.add l.2 (Un l.2 q) o x y ?_ (Aa _) (by have:=h.fn;omega) h.sz,f,rfl⟩;unfold FT at i;rw[BJ]at i;obtain⟨z,r,s⟩:=i;have:=h.fl z (CB r);rw[s]at this;exact this
theorem F6.write(h:F6 L F){p d:By}(a:(Dy L F p 0 d).1=0):F6 (Dy L F p 0 d).2.1 (Dy L F p 0 d).2.2:=by
 unfold Dy at a ⊢
 split at a
 ·cases a
 ·rename_i m;rw[if_neg m]
  split at a
  ·cases a
  ·rename_i o;rw[if_neg o];have hd:d.size<=1280:=by
    have h9:¬(1280<(0:Int)+d.size):=fun e=>o (.inr (.inr e))
    omega
   split at a
   ·rename_i k;exact absurd a k
   ·rename_i k;rw[if_neg k]
    split at a
    ·cases a
    ·rename_i q;rw[if_neg q];have u:Df p=true:=by simpa using m
     have r:∀{g:RL} {c:LY},(Kh L F g c).1=0->Kh L F g c=(0,g,c):=fun {g c} e=>by
      unfold Kh at e ⊢
      split at e
      ·cases e
      ·rename_i v;rw[if_neg v]
     split at a
     ·rename_i t
      split at a
      ·cases a
      ·rename_i i;rw[if_neg i,r a];obtain⟨x,y⟩:=Pk (by simpa using i);have l:(Jh (F++[⟨#[]⟩]) F.length (0:Int).toNat d).length=F.length+1:=by
        unfold Jh
        split<;>simp
       show F6 (L++[(p,(F.length:Int))]) (Jh (F++[⟨#[]⟩]) F.length (0:Int).toNat d);refine h.add u (Un u q) (by rw[t];rfl) x y (.inr ⟨F.length,rfl,by omega⟩) (by omega) (by have:=h.fn;omega) (fun s b=>?_);unfold Jh at b
       split at b
       ·rcases C9 b with e|e
        ·rcases As.1 e with e|e
         ·exact h.sz s e
         ·rw[Av.1 e];exact Aw _
        ·rw[e,OW];have z:((F++[⟨#[]⟩])[F.length]?.getD ⟨#[]⟩:By).size=0:=by rw[AD (Aa _),CO];rfl
         have w:(0:Int).toNat=0:=rfl;omega
       ·rcases As.1 b with e|e
        ·exact h.sz s e
        ·rw[Av.1 e];exact Aw _
     ·rename_i f t
      split at a
      ·cases a
      ·rename_i i;rw[if_neg i,r a];have l:(Jh F f.toNat (0:Int).toNat d).length=F.length:=by
        unfold Jh
        split<;>simp
       refine⟨h.nm,fun x A=>?_,h.nd,h.cnt,h.ln,by show(Jh F f.toNat (0:Int).toNat d).length<=_;rw[l];exact h.fn,fun s b=>?_⟩
       ·show _\/∃n:Nat,_/\n<(Jh F f.toNat (0:Int).toNat d).length;rw[l];exact h.fl x A
       ·have j:s∈Jh F f.toNat (0:Int).toNat d:=b;unfold Jh at j
        split at j
        ·rcases C9 j with e|e
         ·exact h.sz s e
         ·rw[e,OW];have z:(F[f.toNat]?.getD ⟨#[]⟩:By).size<=1280:=h.CF_le f.toNat;have w:(0:Int).toNat=0:=rfl;omega
        ·exact h.sz s j
theorem F6.nl:F6 [] []:=⟨fun _ a=>absurd a A4,fun _ a=>absurd a A4,EK,fun _=>Aw _,Aw _,Aa _,fun _ a=>absurd a A4⟩
theorem F6.op(h:F6 L F){f r e:List (List UInt8)}{c:RL}{b:LY}(ho:Ha f r L F=some (e,c,b)):F6 c b:=by
 unfold Ha at ho
 split at ho
 ·split at ho
  ·split at ho
   ·rename_i a;cases ho;exact(h.mkdir a).1
   ·cases ho
  ·cases ho
 ·split at ho
  ·split at ho
   ·rename_i a;cases ho;exact(h.link a).1
   ·cases ho
  ·split at ho
   ·rw[BP]at ho;obtain⟨n,_,ho⟩:=ho;rw[BP]at ho;obtain⟨⟨d,r2⟩,h1,ho⟩:=ho;dsimp only at ho
    split at ho
    ·rename_i a;cases ho;exact h.write a
    ·cases ho
   ·cases ho
 ·cases ho
end





def fn(i:Nat):By:=⟨#[102,UInt8.ofNat (48+i)]⟩
section
variable{b:Nat->Option By}{G:Gh}{I:LF}{CI:IB}
end


section
variable{w w':World}{stb db:Nat}{vk:Value}{s:KS}{vf vn vw ve:Value}{ps:LB}{ep:List Int}
end
section
variable{N n0:Nat}{w0 w w':World}{vb tb db stb:Nat}{b b':Nat->Option By}{K:KS->Prop}
end
section
variable{N n0:Nat}{w0 w w':World}{vb tb db stb:Nat}{b b':Nat->Option By}{K:KS->Prop}
end

open Go.RowKit Go.Maps
theorem LZ(a b c:By):GI [a,b,c]=BL a++32::(BL b++32::BL c)++[10]:=by
 show Lib.join [BL a,BL b,BL c] [32]++[10]=_;simp[Lib.join,List.intercalate]
theorem Sc{n:By}(h:DC n=true){c:UInt8}(b:Id c=false):c∉BL n:=fun d=>by
 have a:n.data.toList.all Id=true:=by
  unfold DC at h;rw[A8]at h;exact h.2
 have:=BC.1 a c d;rw[b]at this;cases this
section
variable{M:List (By×By)}
end

theorem all_ns{w:World}{tb f:Nat}{V:NV}{E:NS}{v:Value}{G:Gh}{I:LF}{m:IB}(c:TW w tb f V E v G I m)(h:TG G I):∀y∈Dg (DY G f E),Ga y.ns:=fun y t=>by
 obtain⟨k,x,⟨b,o⟩,a,u,_⟩:=QT (R:=fun ns=>∃b,FI G f ns b) (ch:=DY G f E) (fun ns x ⟨b,o⟩ a l=>by
  rcases Uj c h.ok ns with e|⟨g,i,e⟩
  ·rw[e]at a;exact absurd a A4
  ·rw[e]at a;obtain⟨z,j,rfl⟩:=A2.1 a;have d:=(c.d.en ns g i z.1 z.2).1 j;rcases c.d.shp _ d with r|⟨n,p⟩
   ·have s:z.2.p=none:=r;have:(JC z).2=some z.2.f.toNat:=by unfold JC;rw[s];rfl
    rw[this]at l;cases l
   ·refine⟨n,.inr ?_⟩;have q:z.2=_:=p;rw[q]at d;exact d) 7 [] (fun _=>false) ⟨f,.inl ⟨rfl,rfl⟩⟩ y t
 rcases Uj c h.ok k with e|⟨g,i,e⟩
 ·rw[e]at a;exact absurd a A4
 ·rw[e]at a;obtain⟨z,j,rfl⟩:=A2.1 a;have d:=(c.d.en k g i z.1 z.2).1 j;rw[u];exact h.ok.nms _ d
theorem NJ{ns:LY}(h:Ga ns):(10:UInt8)∉BL (jn ns):=fun b=>by
 have a:(10:UInt8)∈jl ns:=by
  unfold BL jn at b
  simpa using b
 unfold jl at a;obtain⟨n,c,a⟩:=Cz.1 a;rcases AG.1 a with e|e
 ·cases e
 ·exact Sc (h n c) (by decide) e
theorem NG(a b:By):GI [a,b]=BL a++32::BL b++[10]:=by
 show Lib.join [BL a,BL b] [32]++[10]=_;simp[Lib.join,List.intercalate]
abbrev DI:=List UInt8⊕(List UInt8×List UInt8)⊕(List UInt8×By)
abbrev DI.d(p:List UInt8):DI:=.inl p
abbrev DI.l(p m:List UInt8):DI:=.inr (.inl (p,m))
abbrev DI.f(p:List UInt8)(s:By):DI:=.inr (.inr (p,s))
def Iu(p:List UInt8):Prop:=10∉p/\32∉p
def DI.path:DI->List UInt8
 | .inl p=>p
 | .inr (.inl (p,_))=>p
 | .inr (.inr (p,_))=>p
def DI.Ok:DI->Prop
 | .inl p=>Iu p
 | .inr (.inl (p,m))=>Iu p/\Iu m
 | .inr (.inr (p,s))=>Iu p/\s.size<=1280
def IL(s:By):List (List UInt8):=(List.range ((s.size+32-1)/32)).map (fun x=>BL (G7 s 32 x))
def DI.hd:DI->List UInt8
 | .inl p=>100::32::p
 | .inr (.inl (p,m))=>108::32::(p++32::m)
 | .inr (.inr (p,s))=>102::32::(p++32::BL (Gm s.size))
def DI.tl:DI->List (List UInt8)
 | .inr (.inr (_,s))=>(IL s).map DB
 | _=>[]
def GV(ls:List (List UInt8)):List UInt8:=ls.flatMap (fun l=>l++[10])
def DI.tx(y:DI):List UInt8:=GV (y.hd::y.tl)
def GT(ds:List DI):List UInt8:=ds.flatMap DI.tx
theorem OP(a b:List (List UInt8)):GV (a++b)=GV a++GV b:=by unfold GV;rw[EU]
theorem RG:∀ds:List DI,GT ds=GV (ds.flatMap (fun y=>y.hd::y.tl))
 | []=>rfl
 | y::ds=>by
  show y.tx++GT ds=GV ((y.hd::y.tl)++ds.flatMap _);rw[OP,RG ds];rfl
def Ij(C told:NB)(y:It):DI:=if y.k=1 then .d (BL (jn y.ns)) else if y.k=2 then .f (BL (jn y.ns)) (C y.f) else .l (BL (jn y.ns)) (BL (told y.f))
def Ju(C:NB):(NB)->List It->List DI
 | _,[]=>[]
 | told,y::L=>Ij C told y::Ju C (F9 told y) L
theorem Sv(s:By):Jc s=GV ((IL s).map DB):=by
 unfold Jc Jq GV IL;rw[List.flatMap_map,List.flatMap_map]
theorem itT_tx(C told:NB)(y:It):Gx C told y=(Ij C told y).tx:=by
 unfold Gx Ij
 split
 ·rw[NG];simp[DI.tx,GV,DI.hd,DI.tl,BL]
 ·split
  ·rw[LZ,Sv];show _=GV ([_]++_);rw[OP]
   congr 1
   simp[GV,DI.hd,BL]
  ·rw[LZ];simp[DI.tx,GV,DI.hd,DI.tl,BL]
theorem Oi(C:NB):∀(L:List It) (told:NB),(Gg C told L).1=GT (Ju C told L)
 | [],_=>rfl
 | y::L,told=>by
  rw[QW];show Gx C told y++(Gg C (F9 told y) L).1=(Ij C told y).tx++GT (Ju C (F9 told y) L);rw[Oi C L,itT_tx]
theorem UU{ns:LY}(h:Ga ns):Iu (BL (jn ns)):=by
 refine⟨NJ h,fun b=>?_⟩;have a:(32:UInt8)∈jl ns:=by
  unfold BL jn at b
  simpa using b
 unfold jl at a;obtain⟨n,c,a⟩:=Cz.1 a;rcases AG.1 a with e|e
 ·cases e
 ·exact Sc (h n c) (by decide) e
theorem N6{C:NB}:∀(L:List It) (told:NB),(∀n,Iu (BL (told n)))->(∀y∈L,Ga y.ns/\(y.k=2->(C y.f).size<=1280))->∀x∈Ju C told L,x.Ok
 | [],_,_,_,x,a=>absurd a A4
 | y::L,told,ht,h,x,a=>by
  obtain⟨b,c⟩:=h y (by simp);rcases AG.1 a with rfl|a
  ·unfold Ij
   split
   ·exact UU b
   ·split
    ·rename_i d;exact⟨UU b,c d⟩
    ·exact⟨UU b,ht _⟩
  ·refine N6 L (F9 told y) (fun n=>?_) (fun z e=>h z (AA _ e)) x a;unfold F9
   split
   ·show Iu (BL (if n=y.f then jn y.ns else told n))
    split
    ·exact UU b
    ·exact ht n
   ·exact ht n
theorem Ss:∀(a cur:List UInt8) (b:List UInt8),10∉a->Gv cur (a++10::b)=((cur++a)::(Gv [] b).1,(Gv [] b).2)
 | [],cur,b,_=>by
  show Gv cur (10::b)=_
  conv=>lhs;unfold Gv
  rw[if_pos rfl,AZ]
 | c::a,cur,b,h=>by
  rw[AG,not_or]at h;show Gv cur (c::(a++10::b))=_
  conv=>lhs;unfold Gv
  rw[if_neg (fun e=>h.1 e.symm),Ss a (cur++[c]) b h.2];simp
theorem R9:∀(ls:List (List UInt8)),(∀l∈ls,10∉l)->Gv [] (GV ls)=(ls,true)
 | [],_=>rfl
 | l::ls,h=>by
  have e:GV (l::ls)=l++10::GV ls:=by simp[GV]
  rw[e,Ss l [] _ (h l (by simp)),R9 ls (fun x a=>h x (AA _ a))];simp
theorem QN:∀(a cur:List UInt8) (b:List UInt8),32∉a->Gl cur (a++32::b)=(cur++a)::Gl [] b
 | [],cur,b,_=>by
  show Gl cur (32::b)=_
  conv=>lhs;unfold Gl
  rw[if_pos rfl,AZ]
 | c::a,cur,b,h=>by
  rw[AG,not_or]at h;show Gl cur (c::(a++32::b))=_
  conv=>lhs;unfold Gl
  rw[if_neg (fun e=>h.1 e.symm),QN a (cur++[c]) b h.2];simp
theorem M1:∀(a cur:List UInt8),32∉a->Gl cur a=[cur++a]
 | [],cur,_=>by unfold Gl;rw[AZ]
 | c::a,cur,h=>by
  rw[AG,not_or]at h
  conv=>lhs;unfold Gl
  rw[if_neg (fun e=>h.1 e.symm),M1 a (cur++[c]) h.2];simp
def Me(n:Nat):Bool:=decide (KJ (Lib.itoa (n:Int))=some n)
theorem ZX:(List.range 1281).all Me=true:=by kernel_rfl
theorem Xv{n:Nat}(h:n<=1280):KJ (BL (Gm n))=some n:=by
 rw[show BL (Gm n)=Lib.itoa (n:Int) from DN _];exact Ba (BC.1 ZX n (BX.2 (by omega)))
theorem N5{n:Nat}(h:n<=1280):Iu (BL (Gm n)):=by
 obtain⟨_,b⟩:=Rc h;rw[show BL (Gm n)=Lib.itoa (n:Int) from DN _];exact⟨fun a=>by have:=(b 10 a).1;revert this;decide,fun a=>by have:=(b 32 a).1;revert this;decide⟩
theorem WZ{l x:List UInt8}:DQ l=some x->JG l=some x:=by
 intro h
 induction l using DQ.induct generalizing x with
 | case1=>cases h;rfl
 | case2 a=>cases h
 | case3 a b l hc=>unfold DQ at h;rw[if_pos hc]at h;cases h
 | case4 a b l hc ih=>
  unfold DQ at h;rw[if_neg hc,BJ]at h;obtain⟨y,c,e⟩:=h;rw[TD,if_neg hc,ih c,<-e];rfl
theorem To(n:Nat)(r:List (List UInt8)):∀(cs:List (List UInt8)) (o:List UInt8),(∀c∈cs,c≠[])->n=o.length+cs.flatten.length->GR n (cs.map DB++r) o=some (o++cs.flatten,r)
 | [],o,_,hn=>by
  simp only[Ec,AJ,List.flatten_nil,AZ,Ay,Ct]at hn ⊢;rw[RP (by omega),if_pos hn.symm]
 | c::cs,o,hne,hn=>by
  have b:=hne c (by simp);have aa:0<c.length:=ET.2 b;rw[Fa,Ab]at hn;have a:DB c≠[]:=fun e=>by
   have:=C1 List.length e;rw[M6]at this;simp only[Ay]at this;omega
  show GR n (DB c::(cs.map DB++r)) o=_;rw[M4,if_pos (by omega),if_neg a,WZ (Uu c).1];show GR n (cs.map DB++r) (o++c)=_;rw[To n r cs (o++c) (fun x a=>hne x (AA _ a)) (by rw[Ab];omega),Fa,AC]
theorem XZ(s:By):(∀c∈IL s,c≠[])/\(IL s).flatten=BL s:=by
 obtain⟨N,b⟩:=ex ((s.size+32-1)/32);have d:∀x,BL (G7 s 32 x)=((BL s).drop (x*32)).take 32:=fun x=>by unfold G7;rw[Ur,Cf]
 unfold IL;rw[<-b];refine⟨fun c f e=>?_,?_⟩
 ·obtain⟨x,a,rfl⟩:=A2.1 f;have a:=BX.1 a;have:=C1 List.length e;rw[DJ,Qf]at this;simp only[Ay]at this;omega
 ·have:((List.range N).map (fun x=>BL (G7 s 32 x))).flatten=(List.range N).flatMap (fun x=>((BL s).drop (x*32)).take 32):=by
   rw[List.flatMap_def]
   congr 1
   exact Cc (fun x _=>d x)
  rw[this,Oh,AI (by rw[DJ];omega)]
def Iz(L:RL)(F:LY):DI->Option (RL×LY)
 | .inl p=>if (DS L F (ba p)).1=0 then some ((DS L F (ba p)).2,F) else none
 | .inr (.inl (p,m))=>if (DL L F (ba m) (ba p)).1=0 then some ((DL L F (ba m) (ba p)).2,F) else none
 | .inr (.inr (p,s))=>if (Dy L F (ba p) 0 s).1=0 then some (Dy L F (ba p) 0 s).2 else none
def J3:List DI->RL->LY->Option (RL×LY)
 | [],L,F=>some (L,F)
 | y::ds,L,F=>(Iz L F y).bind fun x=>J3 ds x.1 x.2
theorem Pf:∀(a b:List DI) (L:RL) (F:LY),J3 (a++b) L F=(J3 a L F).bind fun x=>J3 b x.1 x.2
 | [],_,_,_=>rfl
 | y::a,b,L,F=>by
  show(Iz L F y).bind (fun x=>J3 (a++b) x.1 x.2)=((Iz L F y).bind fun x=>J3 a x.1 x.2).bind _;rw[Option.bind_assoc]
  congr 1
  funext x
  exact Pf a b x.1 x.2
theorem opW_di{y:DI}(h:y.Ok)(r:List (List UInt8))(L:RL)(F:LY):Ha (Gl [] y.hd) (y.tl++r) L F=(Iz L F y).map (fun x=>(r,x.1,x.2)):=by
 rcases y with p|⟨p,m⟩|⟨p,s⟩
 ·have e:Gl [] (DI.d p).hd=[[100],p]:=by
   show Gl [] ([100]++32::p)=_;rw[QN _ _ _ (by decide),M1 p [] h.2];rfl
  rw[e];show(if ([100]:List UInt8)=[100] then (if (DS L F (ba p)).1=0 then some (r,(DS L F (ba p)).2,F) else none) else none)=_;rw[if_pos rfl];show _=Option.map _ (if (DS L F (ba p)).1=0 then some ((DS L F (ba p)).2,F) else none)
  split<;>rfl
 ·have e:Gl [] (DI.l p m).hd=[[108],p,m]:=by
   show Gl [] ([108]++32::(p++32::m))=_;rw[QN _ _ _ (by decide),QN p [] m h.1.2,M1 m [] h.2.2];rfl
  rw[e];show(if (DL L F (ba m) (ba p)).1=0 then some (r,(DL L F (ba m) (ba p)).2,F) else none)=_;show _=Option.map _ (if (DL L F (ba m) (ba p)).1=0 then some ((DL L F (ba m) (ba p)).2,F) else none)
  split<;>rfl
 ·have e:Gl [] (DI.f p s).hd=[[102],p,BL (Gm s.size)]:=by
   show Gl [] ([102]++32::(p++32::BL (Gm s.size)))=_;rw[QN _ _ _ (by decide),QN p [] _ h.1.2,M1 _ [] (N5 h.2).2];rfl
  obtain⟨b,a⟩:=XZ s;rw[e];show((KJ (BL (Gm s.size))).bind fun n=>(GR n ((IL s).map DB++r) []).bind fun x=>if (Dy L F (ba p) 0 (ba x.1)).1=0 then some (x.2,(Dy L F (ba p) 0 (ba x.1)).2.1,(Dy L F (ba p) 0 (ba x.1)).2.2) else none)=_;rw[Xv h.2];show(GR s.size ((IL s).map DB++r) []).bind _=_;rw[To s.size r (IL s) [] b (by rw[a,DJ];simp),a];show(if (Dy L F (ba p) 0 (ba ([]++BL s))).1=0 then some (r,(Dy L F (ba p) 0 (ba ([]++BL s))).2.1,(Dy L F (ba p) 0 (ba ([]++BL s))).2.2) else none)=_;rw[AJ,QF];show _=Option.map _ (if (Dy L F (ba p) 0 s).1=0 then some (Dy L F (ba p) 0 s).2 else none)
  split<;>rfl
theorem Ra:∀(ds:List DI) (n:Nat) (L:RL) (F:LY),(∀y∈ds,y.Ok)->(ds.flatMap (fun y=>y.hd::y.tl)).length<=n->IX n (ds.flatMap (fun y=>y.hd::y.tl)) L F=J3 ds L F
 | [],n,L,F,_,_=>by cases n<;>rfl
 | y::ds,n,L,F,h,hn=>by
  rw[AW,Ab,Af]at hn
  cases n with
  | zero=>omega
  | succ n=>
   show(Ha (Gl [] y.hd) (y.tl++ds.flatMap _) L F).bind (fun x=>IX n x.1 x.2.1 x.2.2)=(Iz L F y).bind _;rw[opW_di (h y (by simp))]
   cases Iz L F y with
   | none=>rfl
   | some x=>exact Ra ds n x.1 x.2 (fun z a=>h z (AA _ a)) (by omega)
theorem hex_no(c:List UInt8):(10:UInt8)∉DB c:=(Uu c).2
theorem hd_no{y:DI}(h:y.Ok):∀l∈y.hd::y.tl,(10:UInt8)∉l:=fun l a=>by
 rcases AG.1 a with rfl|a
 ·rcases y with p|⟨p,m⟩|⟨p,s⟩
  ·simp only[DI.hd,AG,not_or];exact⟨by decide,by decide,h.1⟩
  ·simp only[DI.hd,AG,As,not_or];exact⟨by decide,by decide,h.1.1,by decide,h.2.1⟩
  ·simp only[DI.hd,AG,As,not_or];exact⟨by decide,by decide,h.1.1,by decide,(N5 h.2).1⟩
 ·rcases y with p|⟨p,m⟩|⟨p,s⟩
  ·cases a
  ·cases a
  ·obtain⟨c,_,rfl⟩:=A2.1 (show l∈(IL s).map DB from a);exact hex_no c
theorem cut_no{c:UInt8}{a:List UInt8}(h:c∉a):(Lib.cut a [c]).1=a:=by rw[M5 h]
theorem UO{p:List UInt8}(h:Iu p)(r:List UInt8)(D:DH):G1 ((DI.d p).tx++r) D=some (1,p,0,[],r,D):=by
 have a:(DI.d p).tx++r=(100::32::p)++10::r:=by simp[DI.tx,GV,DI.hd,DI.tl]
 have n1:(10:UInt8)∉100::32::p:=by simp only[AG,not_or];exact⟨by decide,by decide,h.1⟩
 have b:(100::32::p:List UInt8)=[100]++32::p:=rfl;unfold G1;rw[a,KC n1,if_pos rfl];dsimp only;rw[b,KC (by decide)];dsimp only;rw[if_pos rfl,cut_no h.2]
theorem UQ{p m:List UInt8}(h:Iu p)(c:Iu m)(r:List UInt8)(D:DH):G1 ((DI.l p m).tx++r) D=if Maps.has D (DM m)=true then some (3,p,Iq D m,[],r,D) else none:=by
 have a:(DI.l p m).tx++r=(108::32::(p++32::m))++10::r:=by simp[DI.tx,GV,DI.hd,DI.tl]
 have n1:(10:UInt8)∉108::32::(p++32::m):=by simp only[AG,As,not_or];exact⟨by decide,by decide,h.1,by decide,c.1⟩
 have b:(108::32::(p++32::m):List UInt8)=[108]++32::(p++32::m):=rfl;unfold G1;rw[a,KC n1,if_pos rfl];dsimp only;rw[b,KC (by decide)];dsimp only;rw[if_neg (by decide),if_neg (by decide),if_pos rfl,KC h.2]
theorem UP{p:List UInt8}(h:Iu p){s:By}(a:s.size<=1280)(r:List UInt8)(D:DH):G1 ((DI.f p s).tx++r) D=some (2,p,(Maps.size D:Int),BL s,r,D.put (DM p) (.lit (.int .i64 (Maps.size D)))):=by
 have b:(DI.f p s).tx++r=(102::32::(p++32::BL (Gm s.size)))++10::(Jc s++r):=by
  show GV ([_]++_)++r=_;rw[OP,Sv];simp[GV,DI.hd]
 have n1:(10:UInt8)∉102::32::(p++32::BL (Gm s.size)):=by simp only[AG,As,not_or];exact⟨by decide,by decide,h.1,by decide,(N5 a).1⟩
 have c:(102::32::(p++32::BL (Gm s.size)):List UInt8)=[102]++32::(p++32::BL (Gm s.size)):=rfl;unfold G1;rw[b,KC n1,if_pos rfl];dsimp only;rw[c,KC (by decide)];dsimp only;rw[if_neg (by decide),if_pos rfl,KC h.2];dsimp only;rw[ZE a]
 rfl
theorem YG{r p d f:List UInt8}{D a:DH}{b:Nat}{nm:Int}(h:G1 r D=some (b,p,nm,d,f,a)):(b=1/\a=D)\/(b=2/\nm=(Maps.size D:Int)/\a=D.put (DM p) (.lit (.int .i64 (Maps.size D))))\/(b=3/\a=D/\∃m,Maps.has D (DM m)=true/\nm=Iq D m):=by
 unfold G1 at h
 split at h
 ·dsimp only at h
  split at h
  ·cases h;exact .inl ⟨rfl,rfl⟩
  ·split at h
   ·rw[BJ]at h;obtain⟨x,_,e⟩:=h
    cases e
    exact .inr (.inl ⟨rfl,rfl,rfl⟩)
   ·split at h
    ·split at h
     ·rename_i c;cases h;exact .inr (.inr ⟨rfl,rfl,_,c,rfl⟩)
     ·cases h
    ·cases h
 ·cases h
def Ki(ρ : Nat->Nat)(y:It):It:=⟨y.ns,y.k,if y.k=1 then y.f else ρ y.f⟩
structure Is(ρ : Nat->Nat)(Q:Nat->Prop)(S S':FJ):Prop where
 eq:∀f,Q f->S' (ρ f)=S f
theorem WW{ρ : Nat->Nat}{Q:Nat->Prop}(p:∀f g,Q f->Q g -> ρ f = ρ g->f=g){R:LY->Prop}{b c:LY->FJ->List It×FJ}(s:∀ns S a,R ns->Is ρ Q S a->(c ns a).1=(b ns S).1.map (Ki ρ)/\Is ρ Q (b ns S).2 (c ns a).2){ns:LY}{x:Ek}(q:x.2=none->R (ns++[x.1]))(r:∀f,x.2=some f->Q f){S a:FJ}(d:Is ρ Q S a):
  (Gd c ns a (x.1,x.2.map ρ)).1=(Gd b ns S x).1.map (Ki ρ)/\Is ρ Q (Gd b ns S x).2 (Gd c ns a (x.1,x.2.map ρ)).2:=by
 obtain⟨n,o⟩:=x
 cases o with
 | none=>
  obtain⟨l,m⟩:=s (ns++[n]) S a (q rfl) d;refine⟨?_,m⟩;show(⟨ns++[n],1,0⟩:It)::(c (ns++[n]) a).1=(⟨ns++[n],1,0⟩::(b (ns++[n]) S).1).map (Ki ρ);rw[l];rfl
 | some f=>
  have i:=r f rfl;have e:=d.eq f i;show(if a (ρ f)=true then _ else _:List It×FJ).1=(if S f=true then _ else _:List It×FJ).1.map _/\Is ρ Q (if S f=true then _ else _:List It×FJ).2 (if a (ρ f)=true then _ else _:List It×FJ).2;rw[e]
  split
  ·exact⟨rfl,d⟩
  ·refine⟨rfl,⟨fun g j=>?_⟩⟩;show(if ρ g = ρ f then true else a (ρ g))=(if g=f then true else S g);by_cases h:g=f
   ·rw[if_pos h,if_pos (by rw[h])]
   ·rw[if_neg h,if_neg (fun k=>h (p g f j i k)),d.eq g j]
theorem RC{ρ : Nat->Nat}{Q:Nat->Prop}(e:∀f g,Q f->Q g -> ρ f = ρ g->f=g){R:LY->Prop}{c d:LY->FJ->List It×FJ}(i:∀ns S S',R ns->Is ρ Q S S'->(d ns S').1=(c ns S).1.map (Ki ρ)/\Is ρ Q (c ns S).2 (d ns S').2){ns:LY}:∀(l:List Ek),(∀x∈l,(x.2=none->R (ns++[x.1]))/\∀f,x.2=some f->Q f)->∀{S S':FJ},Is ρ Q S S'->
  (FU d ns (l.map (fun x=>(x.1,x.2.map ρ))) S').1=(FU c ns l S).1.map (Ki ρ)/\Is ρ Q (FU c ns l S).2 (FU d ns (l.map (fun x=>(x.1,x.2.map ρ))) S').2
 | [],_,S,S',hS=>⟨rfl,hS⟩
 | x::l,h,S,S',hS=>by
  obtain⟨a,b⟩:=h x (by simp);obtain⟨j,k⟩:=WW e i a b hS;obtain⟨m,n⟩:=RC e i l (fun z o=>h z (AA _ o)) k;refine⟨?_,n⟩;show(Gd d ns S' (x.1,x.2.map ρ)).1++(FU d ns (l.map _) (Gd d ns S' (x.1,x.2.map ρ)).2).1=((Gd c ns S x).1++(FU c ns l (Gd c ns S x).2).1).map (Ki ρ);rw[Bo,j,m]
theorem TL{ρ : Nat->Nat}{Q:Nat->Prop}(e:∀f g,Q f->Q g -> ρ f = ρ g->f=g){R:LY->Prop}{ch ch':LY->List Ek}(c:∀ns,R ns->ch' ns=(ch ns).map (fun x=>(x.1,x.2.map ρ))/\∀x∈ch ns,(x.2=none->R (ns++[x.1]))/\∀f,x.2=some f->Q f):∀(d:Nat) (ns:LY) (S S':FJ),R ns->Is ρ Q S S'->
  (Dk ch' d ns S').1=(Dk ch d ns S).1.map (Ki ρ)/\Is ρ Q (Dk ch d ns S).2 (Dk ch' d ns S').2
 | 0,_,_,_,_,hS=>⟨rfl,hS⟩
 | d+1,ns,S,S',hn,hS=>by
  obtain⟨a,b⟩:=c ns hn;show(FU (Dk ch' d) ns (ch' ns) S').1=(FU (Dk ch d) ns (ch ns) S).1.map _/\Is ρ Q (FU (Dk ch d) ns (ch ns) S).2 (FU (Dk ch' d) ns (ch' ns) S').2;rw[a];exact RC e (TL e c d) (ch ns) b hS
theorem RE{ρ : Nat->Nat}{Q:Nat->Prop}(j:∀f g,Q f->Q g -> ρ f = ρ g->f=g){C b:NB}(i:∀f,Q f->b (ρ f)=C f):∀(L:List It) (told told':NB),(∀f,Q f->told' (ρ f)=told f)->(∀y∈L,y.k=1\/Q y.f)->(Gg b told' (L.map (Ki ρ))).1=(Gg C told L).1
 | [],_,_,_,_=>rfl
 | y::L,told,told',ht,h=>by
  rw[BK,QW,QW];have k:=h y (by simp);have m:Gx b told' (Ki ρ y)=Gx C told y:=by
   unfold Gx Ki;dsimp only;by_cases a:y.k=1
   ·rw[if_pos a,if_pos a]
   ·have c:=k.resolve_left a;rw[if_neg a,if_neg a,if_neg a,i _ c,ht _ c]
  have n:∀f,Q f->F9 told' (Ki ρ y) (ρ f)=F9 told y f:=fun f d=>by
   unfold F9 Ki;dsimp only;by_cases a:y.k=2
   ·have c:=k.resolve_left (by omega);rw[if_pos a,if_pos a];show(if ρ f=(if y.k=1 then y.f else ρ y.f) then jn y.ns else told' (ρ f))=(if f=y.f then jn y.ns else told f);rw[if_neg (show ¬y.k=1 by omega)];show(if ρ f = ρ y.f then jn y.ns else told' (ρ f))=(if f=y.f then jn y.ns else told f);by_cases e:f=y.f
    ·rw[if_pos e,if_pos (by rw[e])]
    ·rw[if_neg e,if_neg (fun l=>e (j _ _ d c l)),ht f d]
   ·rw[if_neg a,if_neg a];exact ht f d
  show Gx b told' (Ki ρ y)++_=Gx C told y++_;rw[m,RE j i L _ _ n (fun z o=>h z (AA _ o))]
section
variable{G:Gh}{I:LF}{C:IB}{ρ : Int->Nat}{L:RL}{F:LY}{w:World}{tb rd:Nat}{V:NV}{E:NS}{vi:Value}
theorem Xo{ns:LY}{n:By}(h:Ga (ns++[n]))(v:Int):Gw (jn (ns++[n]),v)=(n,if v<0 then none else some v.toNat):=by
 unfold Gw;dsimp only;rw[Sx h (by simp)];simp
theorem Pe(h:Rl G I C ρ L F)(o:TW w tb rd V E vi G I C):(Gb (CF F) (Dg (FP L))).1=(Gb (fun n=>C (n:Int)) (Dg (DY G rd E))).1:=by
 rw[Ub,Ub]
 congr 1
 have v:∀f g:Nat,(∃r,((f:Int),r)∈I)->(∃r,((g:Int),r)∈I) -> ρ (f:Int) = ρ (g:Int)->f=g:=fun f g ⟨r,d⟩ ⟨s,P⟩ e=>by
  have:=h.num.inj _ d _ P e;dsimp only at this;omega
 have N:∀ns b,FI G rd ns b->Ga ns:=fun ns b a=>by
  rcases a with⟨rfl,_⟩|a
  ·exact fun n q=>(by cases q)
  ·exact h.ok.nms _ a
 have p:∀ns,(∃b,FI G rd ns b)->FP L ns=(DY G rd E ns).map (fun x=>(x.1,x.2.map (fun n:Nat => ρ (n:Int))))/\∀x∈DY G rd E ns,(x.2=none->∃b,FI G rd (ns++[x.1]) b)/\∀f,x.2=some f->∃r,((f:Int),r)∈I:=fun ns ⟨b,a⟩=>by
  have t:DY G rd E ns=(E b).map JC:=by
   unfold DY;rcases a with⟨rfl,rfl⟩|a
   ·rw[if_pos rfl]
   ·rw[if_neg (h.ok.ne _ a),Ut h.ok.nd a]
  have m:=o.d.en ns b a;have S:=o.d.srt ns b a;have u:∀z∈E b,z.2.p=none->∃r,((z.2.f.toNat:Nat):Int)=z.2.f/\(z.2.f,r)∈I:=fun z i c=>by
   obtain⟨r,d⟩:=h.fl _ ((m z.1 z.2).1 i) c;have:=h.pos _ d;exact⟨r,Int.toNat_of_nonneg this,d⟩
  refine⟨?_,fun x j=>?_⟩
  ·unfold FP;rw[h.insideE (N ns b a) S m,t,Ee,Ee];refine Cc (fun z i=>?_);have l:=(m z.1 z.2).1 i;show Gw (jn (ns++[z.1]),DF ρ z.2)=_;rw[Xo (h.ok.nms _ l)];show _=(z.1,(if z.2.p.isSome=true then none else some z.2.f.toNat).map _);unfold DF;by_cases c:z.2.p.isSome=true
   ·rw[if_pos c,if_pos c,if_pos (by decide)];rfl
   ·rw[if_neg c,if_neg c,if_neg (by omega)];obtain⟨r,e,_⟩:=u z i (by simpa using c);show(z.1,some ((ρ z.2.f:Int)).toNat)=(z.1,some (ρ ((z.2.f.toNat:Nat):Int)));rw[e,BB]
  ·rw[t]at j;obtain⟨z,i,rfl⟩:=A2.1 j;have l:=(m z.1 z.2).1 i;refine⟨fun e=>?_,fun f e=>?_⟩
   ·rcases o.d.shp _ l with c|⟨A,K⟩
    ·have O:z.2.p=none:=c;unfold JC at e;rw[O]at e
     cases e
    ·refine⟨A,.inr ?_⟩;have M:z.2=_:=K;rw[M]at l;exact l
   ·unfold JC at e;dsimp only at e
    split at e
    ·cases e
    ·rename_i c;obtain⟨r,D,d⟩:=u z i (by simpa using c)
     cases e
     exact⟨r,by rw[D];exact d⟩
 obtain⟨J,_⟩:=TL (ρ := fun n => ρ (n:Int)) (Q:=fun f:Nat=>∃r,((f:Int),r)∈I) v (R:=fun ns=>∃b,FI G rd ns b) (ch:=DY G rd E) (ch':=FP L) p 7 [] (fun _=>false) (fun _=>false) ⟨rd,.inl ⟨rfl,rfl⟩⟩ ⟨fun _ _=>rfl⟩;show(Gg (CF F) (fun _=>⟨#[]⟩) (Dk (FP L) 7 [] (fun _=>false)).1).1=_;rw[J];refine RE v (fun f ⟨r,d⟩=>CF_at (h.con _ d)) _ _ _ (fun _ _=>rfl) (fun y T=>?_);obtain⟨B,x,a,j,_,k⟩:=QT (R:=fun ns=>∃b,FI G rd ns b) (fun ns x q j H=>((p ns q).2 x j).1 H) 7 [] (fun _=>false) ⟨rd,.inl ⟨rfl,rfl⟩⟩ y T;rcases k with⟨_,k,_⟩|⟨k,_⟩
 ·exact .inl k
 ·exact .inr (((p B a).2 x j).2 _ k)
end
def KH(w:World)(v:Value)(n:Nat)(told:NB):Prop:=Sl w 9 1 v n ((List.range n).map (fun k => .string (told k)))
def U0(w:World)(v:Value)(L:List (By×Int))(F:LY)(d:Nat)(ns:LY)(told:NB)(S:FJ)(e:Ending)(w':World):Prop:=
 e = .returned (.string (ba (Gg (CF F) told (Dk (FP L) d ns S).1).1))/\KH w' v F.length (Gg (CF F) told (Dk (FP L) d ns S).1).2/\SI F.length (Gg (CF F) told (Dk (FP L) d ns S).1).2 (Dk (FP L) d ns S).2/\Fr (Own v) w w'
section
variable{L:List (By×Int)}{F:LY}
theorem F6.down(h:F6 L F):∀ns x,Ga ns->x∈FP L ns->x.2=none->Ga (ns++[x.1]):=fun ns x e b _=>by
 unfold FP at b;obtain⟨z,f,rfl⟩:=A2.1 b;exact(h.ent e f).2.2.1
theorem F6.en_ok(h:F6 L F){y:It}(j:Le Ga (FP L) y):Ga y.ns/\y.ns≠[]/\y.ns.length<=6/\(jn y.ns).size<=100:=by
 obtain⟨ds,x,g,f,e,_⟩:=j;unfold FP at f;obtain⟨z,l,rfl⟩:=A2.1 f;obtain⟨_,_,b,h4⟩:=h.ent g l;have i:y.ns.length<=6:=by rw[e,Ab];show _+1<=_;omega
 have:=QD y.ns (by rw[e];exact b);exact⟨by rw[e];exact b,by rw[e];simp,i,by omega⟩
theorem F6.its(h:F6 L F)(d:Nat){ns:LY}(b:Ga ns)(S:FJ):∀y∈(Dk (FP L) d ns S).1,Ga y.ns/\y.ns≠[]/\y.ns.length<=6/\(jn y.ns).size<=100:=fun y e=>h.en_ok (QT h.down d ns S b y e)
theorem F6.itl(h:F6 L F)(d:Nat){ns:LY}(b:Ga ns)(k:Nat)(S:FJ):∀y∈(FU (Dk (FP L) d) ns ((FP L ns).take k) S).1,Ga y.ns/\y.ns≠[]/\y.ns.length<=6/\(jn y.ns).size<=100:=
 fun y e=>h.en_ok (Of (fun ns S b y e=>QT h.down d ns S b y e) h.down b _ S (fun _ f=>Bm f) y e)
theorem F6.dm_len(h:F6 L F){l:List It}(b:∀y∈l,Ga y.ns/\y.ns≠[]/\y.ns.length<=6/\(jn y.ns).size<=100){told:NB}(e:∀f,(told f).size<=100):(Gg (CF F) told l).1.length<=3000*l.length/\∀f,((Gg (CF F) told l).2 f).size<=100:=by
 have:=OD l ([],told) e (fun y g=>⟨(b y g).2.2.2,fun _=>h.CF_le _⟩) (C:=CF F);simp only[Ay,Au]at this;exact this
end
theorem fst_at{w:World}{a:OA}{c N:Nat}{told:NB}(h:KH w (.slice a N c) N told){f:Nat}(l:f<N):∃g,a=some ⟨g,0,none⟩/\N<=c/\w.cell? ⟨g,f,none⟩=some (.string (told f))/\w.frozen? ⟨g,f,none⟩=false:=by
 rcases h.2 with⟨_,h0⟩|⟨g,aa,R,e,i,hc,ab,hL,j⟩
 ·omega
 ·simp only[BI,true_and]at e;obtain⟨rfl,rfl⟩:=e;refine⟨g,rfl,by omega,?_,i.frozen f⟩;have b:((List.range N).map (fun k=>Value.string (told k)))[f]?=some (.string (told f)):=by rw[Be,Ej l];rfl
  rw[<-j,Ap]at b;rw[i.cell]
  split at b
  ·exact b
  ·cases b
theorem Xc{w:World}{g c N:Nat}{told:NB}(h:KH w (.slice (some ⟨g,0,none⟩) N c) N told){f:Nat}(o:f<N)(p:By):KH (w.setCell ⟨g,f,none⟩ (.string p)) (.slice (some ⟨g,0,none⟩) N c) N (fun k=>if k=f then p else told k):=by
 rcases h.2 with⟨e,h0⟩|⟨g',aa,R,e,j,m,n,b,l⟩
 ·cases e
 ·simp only[BI,EF,Addr.mk.injEq,true_and,and_true]at e;obtain⟨rfl,rfl⟩:=e;refine⟨by rw[A7,A9];omega,.inr ⟨g,c,R.set f (.string p),rfl,j.set f _,m,n,by rw[CV];exact b,?_⟩⟩;rw[List.take_set,l];apply CR;intro i;rw[EG,A7,A9,Be,Be];by_cases q:i<N
  ·rw[Ej q];by_cases e:f=i
   ·rw[if_pos e,if_pos o];show _=some (Value.string (if i=f then p else told i));rw[if_pos e.symm]
   ·rw[if_neg e];show some (Value.string (told i))=some (Value.string (if i=f then p else told i));rw[if_neg (fun h=>e h.symm)]
  ·rw[Bv (by rw[A9];omega)]
   split
   ·omega
   ·rfl
structure Lf(w:World)(rb:Nat)(vl vf:Value)(L:List (By×Int))(F:LY)(a:OA)(c d:Nat)(ns:LY)(told:NB)(S:FJ)(lv:Value)(k:Nat)(wr:World):Prop where
 ref:FN wr rb vl vf L F
 fst:KH wr (.slice a F.length c) F.length (Gg (CF F) told (FU (Dk (FP L) d) ns ((FP L ns).take k) S).1).2
 si:SI F.length (Gg (CF F) told (FU (Dk (FP L) d) ns ((FP L ns).take k) S).1).2 (FU (Dk (FP L) d) ns ((FP L ns).take k) S).2
 fr:Fr (Own (.slice a F.length c)) w wr
 ls:Sl wr 103 2 lv (Dv L (jn ns) L.length).length (Dr (Dv L (jn ns) L.length))
 lo:∀j,lv.ownBlock=some j->w.heap.size<=j
theorem own_lt{w:World}{a:OA}{c n:Nat}{told:NB}(h:KH w (.slice a n c) n told){k:Nat}(e:Own (.slice a n c) k):k<w.heap.size:=by
 obtain⟨R,b⟩:=Sl.type h e;exact b.lt
section
variable{w:World}{rb:Nat}{vl vf:Value}{L:List (By×Int)}{F:LY}{a:OA}{c d:Nat}{ns:LY}{told:NB}{S:FJ}{lv:Value}{k:Nat}{wr:World}
theorem Lf.next(h:Lf w rb vl vf L F a c d ns told S lv k wr)(m:∀k,Own (.slice a F.length c) k->k<w.heap.size)(n:∀k,Jb rb vl vf k->¬Own (.slice a F.length c) k){b:Nat}{w':World}(f:Fr (Own (.slice a F.length c)) wr w')
  (i:KH w' (.slice a F.length c) F.length (Gg (CF F) told (FU (Dk (FP L) d) ns ((FP L ns).take b) S).1).2)
  (j:SI F.length (Gg (CF F) told (FU (Dk (FP L) d) ns ((FP L ns).take b) S).1).2 (FU (Dk (FP L) d) ns ((FP L ns).take b) S).2):Lf w rb vl vf L F a c d ns told S lv b w':=
 ⟨h.ref.fr f n,i,j,h.fr.trans f,h.ls.fr f (fun g l e=>by have:=h.lo g l;have:=m g e;omega),h.lo⟩
end
structure Hl(S S':FJ)(L:List It):Prop where
 new:∀n,S' n=true->S n=true\/∃z∈L,z.k=2/\z.f=n
 back:∀A y B,L=A++y::B->y.k=3->S y.f=true\/∃z∈A,z.k=2/\z.f=y.f
theorem Hl.nil(S:FJ):Hl S S []:=⟨fun _ h => .inl h,fun A y B e=>by cases A<;>cases e⟩
theorem Hl.app{S i j:FJ}{A B:List It}(h:Hl S i A)(k:Hl i j B):Hl S j (A++B):=by
 refine⟨fun n m=>?_,fun X y Y e g=>?_⟩
 ·rcases k.new n m with e|⟨z,a,e⟩
  ·rcases h.new n e with e|⟨z,a,e⟩
   ·exact .inl e
   ·exact .inr ⟨z,BM _ a,e⟩
  ·exact .inr ⟨z,Cb _ a,e⟩
 ·rcases List.append_eq_append_iff.1 e with⟨l,d,b⟩|⟨f,d,b⟩
  ·rcases k.back l y Y b g with e|⟨z,a,e⟩
   ·rcases h.new _ e with e|⟨z,a,e⟩
    ·exact .inl e
    ·exact .inr ⟨z,by rw[d];exact BM _ a,e⟩
   ·exact .inr ⟨z,by rw[d];exact Cb _ a,e⟩
  ·cases f with
   | nil=>
    rw[AZ]at d;rcases k.back [] y Y (by simpa using b.symm) g with e|⟨z,a,e⟩
    ·rcases h.new _ e with e|⟨z,a,e⟩
     ·exact .inl e
     ·exact .inr ⟨z,by rw[<-d];exact a,e⟩
    ·cases a
   | cons c f=>
    rw[AL]at b;injection b with b e3;subst b;exact h.back X y f d g
theorem Hl.stp{c:LY->FJ->List It×FJ}(l:∀ns S,Hl S (c ns S).2 (c ns S).1)(ns:LY)(S:FJ)(x:Ek):Hl S (Gd c ns S x).2 (Gd c ns S x).1:=by
 have g:∀(y:It) (d:FJ),(∀n,d n=true->S n=true\/y.k=2/\y.f=n)->(y.k=3->S y.f=true)->Hl S d [y]:=fun y d i j=>by
  refine⟨fun n b=>?_,fun A z B e k=>?_⟩
  ·rcases i n b with e|e
   ·exact .inl e
   ·exact .inr ⟨y,by simp,e⟩
  ·cases A with
   | nil=>injection e with e _;subst e;exact .inl (j k)
   | cons a A=>injection e with _ e;cases A<;>cases e
 unfold Go.Proofs.YtaieidcohdhgpaaGreatDoor.Gd
 split
 ·exact(g ⟨ns++[x.1],1,0⟩ S (fun n b => .inl b) (fun e=>by cases e)).app (l (ns++[x.1]) S)
 ·rename_i f _
  split
  ·rename_i m;exact g _ S (fun n b => .inl b) (fun _=>m)
  ·refine g _ _ (fun n b=>?_) (fun e=>by cases e);have h:(if n=f then true else S n)=true:=b
   split at h
   ·rename_i e;exact .inr ⟨rfl,e.symm⟩
   ·exact .inl h
theorem Hl.itL{a:LY->FJ->List It×FJ}(b:∀ns S,Hl S (a ns S).2 (a ns S).1)(ns:LY):∀(l:List Ek) (S:FJ),Hl S (FU a ns l S).2 (FU a ns l S).1
 | [],S=>Hl.nil S
 | x::l,S=>(Hl.stp b ns S x).app (Hl.itL b ns l _)
theorem Sm(ch:LY->List Ek):∀(d:Nat) (ns:LY) (S:FJ),Hl S (Dk ch d ns S).2 (Dk ch d ns S).1
 | 0,_,S=>Hl.nil S
 | d+1,ns,S=>Hl.itL (Sm ch d) ns (ch ns) S
theorem S0(C:NB):∀(A B:List It) (told:NB),Ju C told (A++B)=Ju C told A++Ju C (A.foldl F9 told) B
 | [],_,_=>rfl
 | y::A,B,told=>by
  show Ij C told y::Ju C (F9 told y) (A++B)=Ij C told y::(Ju C (F9 told y) A++_);rw[S0 C A B];rfl
theorem O5(C:NB):∀(A:List It) (told:NB),(Ju C told A).length=A.length
 | [],_=>rfl
 | y::A,told=>by show(Ju C (F9 told y) A).length+1=A.length+1;rw[O5 C A]
theorem TK(C:NB):∀(A:List It) (told:NB),(Ju C told A).map DI.path=A.map (fun y=>BL (jn y.ns))
 | [],_=>rfl
 | y::A,told=>by
  show(Ij C told y).path::(Ju C (F9 told y) A).map DI.path=BL (jn y.ns)::A.map _;rw[TK C A]
  congr 1
  unfold Ij
  split
  ·rfl
  ·split<;>rfl
theorem R4{f:Nat}:∀(A:List It) (told:NB),(∀z∈A,z.k=2->z.f≠f)->(A.foldl F9 told) f=told f
 | [],_,_=>rfl
 | y::A,told,h=>by
  show(A.foldl F9 (F9 told y)) f=_;rw[R4 A _ (fun z b=>h z (AA _ b))];unfold F9
  split
  ·rename_i a;show(if f=y.f then jn y.ns else told f)=_;rw[if_neg (fun e=>h y (by simp) a e.symm)]
  ·rfl
theorem tl_of{f:Nat}:∀(A:List It) (told:NB),(∃z∈A,z.k=2/\z.f=f)->∃z∈A,z.k=2/\z.f=f/\(A.foldl F9 told) f=jn z.ns
 | [],_,⟨z,a,_⟩=>absurd a A4
 | y::A,told,h=>by
  by_cases d:∃z∈A,z.k=2/\z.f=f
  ·obtain⟨z,a,b,c,g⟩:=tl_of A (F9 told y) d;exact⟨z,AA _ a,b,c,g⟩
  ·obtain⟨z,a,b,c⟩:=h;rcases AG.1 a with rfl|a
   ·refine⟨z,by simp,b,c,?_⟩;show(A.foldl F9 (F9 told z)) f=_;rw[R4 A _ (fun x j i e=>d ⟨x,j,i,e⟩)];unfold F9;rw[if_pos b,if_pos c.symm]
   ·exact absurd ⟨z,a,b,c⟩ d
theorem TJ(C:NB):∀(A:List It) (told:NB) (z:It),z∈A->z.k=2->DI.f (BL (jn z.ns)) (C z.f)∈Ju C told A
 | [],_,z,a,_=>absurd a A4
 | y::A,told,z,a,hk=>by
  rcases AG.1 a with rfl|a
  ·refine AG.2 (.inl ?_);unfold Ij;rw[if_neg (by omega),if_pos hk]
  ·exact AA _ (TJ C A _ z a hk)
structure Can(ds:List DI):Prop where
 ok:∀y∈ds,y.Ok
 nd:(ds.map DI.path).Nodup
 ln:∀pre p m suf,ds=pre++DI.l p m::suf->∃s,DI.f m s∈pre
def I0(L:RL)(F:LY):List DI:=Ju (CF F) (fun _=>⟨#[]⟩) (Dg (FP L))
theorem XR(L:RL)(F:LY):(Gb (CF F) (Dg (FP L))).1=JK++GT (I0 L F):=by rw[Ub,Oi];rfl
theorem F6.can{L:RL}{F:LY}(h:F6 L F):Can (I0 L F):=by
 have O:Ga ([]:LY):=fun n M=>(by cases M)
 have s:=h.its 7 O (fun _=>false);refine⟨N6 _ _ (fun _=>⟨fun t=>(by cases t),fun t=>(by cases t)⟩) (fun y Q=>⟨(s y Q).1,fun _=>h.CF_le _⟩),?_,fun c p m ab e=>?_⟩
 ·unfold I0;rw[TK];have N:(Dg (FP L)).Pairwise (fun x y=>x.ns≠y.ns):=Cg.1 (RJ (FP L) (fun ns=>?_))
  ·rw[Ft,Cg];refine N.imp_of_mem (fun {a b} q r j e=>j ?_);exact Ua (s a q).1 (s b r).1 (KB e)
  ·unfold FP;rw[Cg];have D:∀x∈Dv L (jn ns) L.length,x.1=jn ns++⟨#[47]⟩++(Gw x).1:=fun x P=>by
    obtain⟨k,i⟩:=(PF L (jn ns) x L.length).1 P;rw[BN]at k;obtain⟨C,u⟩:=h.nm x k;obtain⟨g,_⟩:=Kq C u;obtain⟨E,_⟩:=Ps C u;unfold Dx at i;rw[CE,E]at i;obtain⟨d,n,e⟩:=Qk u;have l:(Gw x).1=n:=by show(Dc x.1).getLastD ⟨#[]⟩=n;rw[e];simp
    rw[e,CJ]at i;rw[l,<-Qy i,<-OL,<-e];exact g
   refine(PG h.un (jn ns) L.length (Aa _)).imp_of_mem (fun {a b} q r j e=>?_);have g:a.1=b.1:=by rw[D a q,D b r,e]
   unfold LT at j;rw[g,Q2]at j;cases j
 ·obtain⟨A,y,B,eL,I,f⟩:∃A y B,Dg (FP L)=A++y::B/\Ju (CF F) (fun _=>⟨#[]⟩) A=c/\Ij (CF F) (A.foldl F9 (fun _=>⟨#[]⟩)) y=DI.l p m:=by
   have K:c.length<(Dg (FP L)).length:=by
    rw[<-O5 (CF F) (Dg (FP L)) (fun _=>⟨#[]⟩)];show _<(I0 L F).length;rw[e,Ab,Af];omega
   have g:Dg (FP L)=(Dg (FP L)).take c.length++(Dg (FP L))[c.length]::(Dg (FP L)).drop (c.length+1):=by
    rw[<-BY K,BT]
   have w:I0 L F=Ju (CF F) (fun _=>⟨#[]⟩) ((Dg (FP L)).take c.length)++(Ij (CF F) (((Dg (FP L)).take c.length).foldl F9 (fun _=>⟨#[]⟩)) (Dg (FP L))[c.length]::Ju (CF F) (F9 (((Dg (FP L)).take c.length).foldl F9 (fun _=>⟨#[]⟩)) (Dg (FP L))[c.length]) ((Dg (FP L)).drop (c.length+1))):=by
    unfold I0
    conv=>lhs;rw[g]
    rw[S0];rfl
   rw[e]at w;obtain⟨G,o⟩:=List.append_inj w (by rw[O5,Ar];omega);injection o with o _;exact⟨_,_,_,g,G.symm,o.symm⟩
  have l:y.k=3/\m=BL ((A.foldl F9 (fun _=>⟨#[]⟩)) y.f):=by
   have aa:=Tj (FP L) y (by rw[eL];simp);unfold Ij at f
   split at f
   ·cases f
   ·split at f
    ·cases f
    ·injection f with f;injection f with f;injection f with _ f;exact⟨by omega,f.symm⟩
  rcases (Sm (FP L) 7 [] (fun _=>false)).back A y B eL l.1 with H|v
  ·cases H
  ·obtain⟨z,v,k,i,J⟩:=tl_of A (fun _=>⟨#[]⟩) v;refine⟨CF F z.f,?_⟩;rw[l.2,J,<-I];exact TJ _ A _ z v k
theorem F6.lo:∀(n:Nat) (ls:List (List UInt8)) (L:RL) (F:LY),F6 L F->∀L' F',IX n ls L F=some (L',F')->F6 L' F'
 | 0,[],L,F,h,L',F',e=>by cases e;exact h
 | n+1,[],L,F,h,L',F',e=>by cases e;exact h
 | 0,_::_,L,F,h,L',F',e=>by cases e
 | n+1,l::r,L,F,h,L',F',e=>by
  have a:(Ha (Gl [] l) r L F).bind (fun x=>IX n x.1 x.2.1 x.2.2)=some (L',F'):=e;rw[BP]at a;obtain⟨⟨d,L1,F1⟩,b,c⟩:=a;exact F6.lo n d L1 F1 (h.op b) L' F' c
end Go.Proofs.YtaieidcohdhgpaaGreatDoor
