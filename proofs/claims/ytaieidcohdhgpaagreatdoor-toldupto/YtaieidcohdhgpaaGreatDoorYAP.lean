/- Told. -/
import Derived.Shelf.Small.Strs
import Derived.Shelf.Small.Wraps
import Derived.Shelf.Strconv.AtoiAll
import Derived.Shelf.Strconv.Itoa3
import Derived.Shelf.Strings.BuilderK
import Derived.Shelf.Strings.Cut
import Derived.Shelf.Strings.OnBuilder
import Derived.Test.YtaieidcohdhgpaaGreatDoorYAO
set_option maxHeartbeats 40000000
set_option maxRecDepth 100000
namespace Go.Proofs
open Tryz YtaieidcohdhgpaaGreatDoor
open Go.Shelf
def Tryz.siR:Go.Shelf.Ren:=⟨fun|103=>94|129=>286|137=>251|145=>155|156=>168|165=>217|166=>167|167=>173|169=>118|171=>116|172=>210|205=>311|206=>208|210=>153|217=>275|219=>248|220=>209|224=>277|225=>276|240=>216|241=>253|243=>171|244=>249|245=>250|246=>219|247=>279|266=>308|267=>278|276=>252|277=>284|279=>280|280=>281|281=>282|282=>283|283=>254|284=>255|285=>256|286=>257|287=>310|314=>309|316=>261|317=>285|318=>287|319=>288|320=>289|321=>322|322=>323|337=>312|338=>313|n=>n,fun|24=>96|31=>84|37=>59|46=>252|51=>362|53=>173|59=>232|70=>159|72=>161|75=>241|76=>242|80=>34|85=>355|127=>253|143=>390|145=>392|146=>379|164=>331|167=>354|168=>357|171=>333|173=>336|175=>381|210=>384|212=>361|213=>363|232=>393|233=>187|n=>n,fun|1=>0|15=>2|16=>3|17=>1|18=>4|19=>5|n=>n⟩
theorem Tryz.s172:Go.Proofs.LaysC.n172 Tryz.prog Tryz.siR:={
 mixed:=by kernel_rfl
 f129:=func286.trans (congrArg some (by kernel_rfl))
 f171:=func116.trans (congrArg some (by kernel_rfl))
 f172:=func210.trans (congrArg some (by kernel_rfl))
 f205:=func311.trans (congrArg some (by kernel_rfl))
 f243:=func171.trans (congrArg some (by kernel_rfl))
 f244:=func249.trans (congrArg some (by kernel_rfl))
 f245:=func250.trans (congrArg some (by kernel_rfl))
 f246:=func219.trans (congrArg some (by kernel_rfl))
 f247:=func279.trans (congrArg some (by kernel_rfl))
 f279:=func280.trans (congrArg some (by kernel_rfl))
 f280:=func281.trans (congrArg some (by kernel_rfl))
 f281:=func282.trans (congrArg some (by kernel_rfl))
 f282:=func283.trans (congrArg some (by kernel_rfl))
 f283:=func254.trans (congrArg some (by kernel_rfl))
 f284:=func255.trans (congrArg some (by kernel_rfl))
 f285:=func256.trans (congrArg some (by kernel_rfl))
 f286:=func257.trans (congrArg some (by kernel_rfl))
 f287:=func310.trans (congrArg some (by kernel_rfl))
 f316:=func261.trans (congrArg some (by kernel_rfl))
 f317:=func285.trans (congrArg some (by kernel_rfl))
 f318:=func287.trans (congrArg some (by kernel_rfl))
 f319:=func288.trans (congrArg some (by kernel_rfl))
 f320:=func289.trans (congrArg some (by kernel_rfl))
 f321:=func322.trans (congrArg some (by kernel_rfl))
 f322:=func323.trans (congrArg some (by kernel_rfl))
 f337:=func312.trans (congrArg some (by kernel_rfl))
 f338:=func313.trans (congrArg some (by kernel_rfl))
 t0:=underlying0
 a0:=isAgg0
 z0:=sizeOf0
 v0:=zeroValue0
 t2:=underlying2
 a2:=isAgg2
 z2:=sizeOf2
 v2:=zeroValue2
 t3:=underlying3
 a3:=isAgg3
 z3:=sizeOf3
 v3:=zeroValue3
 t4:=underlying4
 a4:=isAgg4
 z4:=sizeOf4
 v4:=zeroValue4
 t5:=underlying5
 a5:=isAgg5
 z5:=sizeOf5
 v5:=zeroValue5
 t9:=underlying9
 a9:=isAgg9
 z9:=sizeOf9
 v9:=zeroValue9
 t20:=underlying20
 a20:=isAgg20
 z20:=sizeOf20
 v20:=zeroValue20
 t21:=underlying21
 a21:=isAgg21
 z21:=sizeOf21
 v21:=zeroValue21
 t37:=underlying59
 a37:=isAgg59
 z37:=sizeOf59
 v37:=zeroValue59
 t46:=underlying252
 a46:=isAgg252
 z46:=sizeOf252
 v46:=zeroValue252
 t51:=underlying362
 a51:=isAgg362
 z51:=sizeOf362
 v51:=zeroValue362
 t53:=underlying173
 a53:=isAgg173
 z53:=sizeOf173
 v53:=zeroValue173
 t75:=underlying241
 a75:=isAgg241
 z75:=sizeOf241
 v75:=zeroValue241
 t76:=underlying242
 a76:=isAgg242
 z76:=sizeOf242
 v76:=zeroValue242
 t85:=underlying355
 a85:=isAgg355
 z85:=sizeOf355
 v85:=zeroValue355
 t127:=underlying253
 a127:=isAgg253
 z127:=sizeOf253
 v127:=zeroValue253
 t143:=underlying390
 a143:=isAgg390
 z143:=sizeOf390
 v143:=zeroValue390
 t145:=underlying392
 a145:=isAgg392
 z145:=sizeOf392
 v145:=zeroValue392
 t167:=underlying354
 a167:=isAgg354
 z167:=sizeOf354
 v167:=zeroValue354
 t168:=underlying357
 a168:=isAgg357
 z168:=sizeOf357
 v168:=zeroValue357
 t171:=underlying333
 a171:=isAgg333
 z171:=sizeOf333
 v171:=zeroValue333
 t173:=underlying336
 a173:=isAgg336
 z173:=sizeOf336
 v173:=zeroValue336
 t175:=underlying381
 a175:=isAgg381
 z175:=sizeOf381
 v175:=zeroValue381
 t210:=underlying384
 a210:=isAgg384
 z210:=sizeOf384
 v210:=zeroValue384
 t212:=underlying361
 a212:=isAgg361
 z212:=sizeOf361
 v212:=zeroValue361
 t213:=underlying363
 a213:=isAgg363
 z213:=sizeOf363
 t232:=underlying393
 a232:=isAgg393
 z232:=sizeOf393
 v232:=zeroValue393
 t233:=underlying187
 a233:=isAgg187
 z233:=sizeOf187
 v233:=zeroValue187
 g15:=by kernel_rfl
 g16:=by kernel_rfl
 g17:=by kernel_rfl
 g18:=by kernel_rfl
 g19:=by kernel_rfl
 t80:=underlying34
 a80:=isAgg34
 z80:=sizeOf34
 v80:=zeroValue34
 i0:=by kernel_rfl
 i2:=by kernel_rfl
 i3:=by kernel_rfl
 i4:=by kernel_rfl
 i5:=by kernel_rfl
 i9:=by kernel_rfl
 i20:=by kernel_rfl
 i21:=by kernel_rfl
 i37:=by kernel_rfl
 i46:=by kernel_rfl
 i51:=by kernel_rfl
 i53:=by kernel_rfl
 i75:=by kernel_rfl
 i76:=by kernel_rfl
 i80:=by kernel_rfl
 i85:=by kernel_rfl
 i127:=by kernel_rfl
 i143:=by kernel_rfl
 i145:=by kernel_rfl
 i167:=by kernel_rfl
 i168:=by kernel_rfl
 i171:=by kernel_rfl
 i173:=by kernel_rfl
 i175:=by kernel_rfl
 i210:=by kernel_rfl
 i212:=by kernel_rfl
 i232:=by kernel_rfl
 i233:=by kernel_rfl
 m15:=by kernel_rfl
 m16:=by kernel_rfl
 m17:=by kernel_rfl
 m18:=by kernel_rfl
 m19:=by kernel_rfl
 c0:=by kernel_rfl
 c2:=by kernel_rfl
 c3:=by kernel_rfl
 c4:=by kernel_rfl
 c5:=by kernel_rfl
 c9:=by kernel_rfl
 c20:=by kernel_rfl
 c21:=by kernel_rfl
 c37:=by kernel_rfl
 c46:=by kernel_rfl
 c51:=by kernel_rfl
 c53:=by kernel_rfl
 c75:=by kernel_rfl
 c76:=by kernel_rfl
 c80:=by kernel_rfl
 c85:=by kernel_rfl
 c127:=by kernel_rfl
 c143:=by kernel_rfl
 c145:=by kernel_rfl
 c167:=by kernel_rfl
 c168:=by kernel_rfl
 c171:=by kernel_rfl
 c173:=by kernel_rfl
 c175:=by kernel_rfl
 c210:=by kernel_rfl
 c212:=by kernel_rfl
 c213:=by kernel_rfl
 c232:=by kernel_rfl
 c233:=by kernel_rfl }
theorem Tryz.s171:Go.Proofs.LaysM.n171 Tryz.prog Tryz.siR:={ Tryz.s172 with
 }
theorem Tryz.s156:Go.Proofs.Lays.n156 Tryz.prog Tryz.siR:={ Tryz.s172 with
 f156:=func168.trans (congrArg some (by kernel_rfl))
 f165:=func217.trans (congrArg some (by kernel_rfl))
 f166:=func167.trans (congrArg some (by kernel_rfl))
 f169:=func118.trans (congrArg some (by kernel_rfl))
 f240:=func216.trans (congrArg some (by kernel_rfl))
 f241:=func253.trans (congrArg some (by kernel_rfl))
 f276:=func252.trans (congrArg some (by kernel_rfl))
 f277:=func284.trans (congrArg some (by kernel_rfl))
 t31:=underlying84
 a31:=isAgg84
 z31:=sizeOf84
 v31:=zeroValue84
 t70:=underlying159
 a70:=isAgg159
 z70:=sizeOf159
 v70:=zeroValue159
 t72:=underlying161
 a72:=isAgg161
 z72:=sizeOf161
 v72:=zeroValue161
 t164:=underlying331
 a164:=isAgg331
 z164:=sizeOf331
 v164:=zeroValue331 }
theorem Tryz.s166:Go.Proofs.Lays.n166 Tryz.prog Tryz.siR:={ Tryz.s172,Tryz.s156 with
 }
theorem Tryz.s167:Go.Proofs.Lays.n167 Tryz.prog Tryz.siR:={ Tryz.s172,Tryz.s156 with
 f167:=func173.trans (congrArg some (by kernel_rfl)) }
theorem Tryz.s169:Go.Proofs.Lays.n169 Tryz.prog Tryz.siR:={ Tryz.s172,Tryz.s156 with
 }
theorem Tryz.s145:Go.Proofs.Lays.n145 Tryz.prog Tryz.siR:={ Tryz.s172 with
 f145:=func155.trans (congrArg some (by kernel_rfl))
 f217:=func275.trans (congrArg some (by kernel_rfl))
 f219:=func248.trans (congrArg some (by kernel_rfl))
 f220:=func209.trans (congrArg some (by kernel_rfl))
 f224:=func277.trans (congrArg some (by kernel_rfl))
 f225:=func276.trans (congrArg some (by kernel_rfl))
 f266:=func308.trans (congrArg some (by kernel_rfl))
 f267:=func278.trans (congrArg some (by kernel_rfl))
 f314:=func309.trans (congrArg some (by kernel_rfl))
 t59:=underlying232
 a59:=isAgg232
 z59:=sizeOf232
 v59:=zeroValue232
 t146:=underlying379
 a146:=isAgg379
 z146:=sizeOf379
 v146:=zeroValue379
 g1:=by kernel_rfl }
theorem Tryz.s137:Go.Proofs.Lays.n137 Tryz.prog Tryz.siR:={ Tryz.s172,Tryz.s145 with
 f137:=func251.trans (congrArg some (by kernel_rfl)) }
theorem Tryz.s103:Go.Proofs.Lays.n103 Tryz.prog Tryz.siR:={ Tryz.s172 with
 f103:=func94.trans (congrArg some (by kernel_rfl))
 f206:=func208.trans (congrArg some (by kernel_rfl))
 f210:=func153.trans (congrArg some (by kernel_rfl))
 t24:=underlying96
 a24:=isAgg96
 z24:=sizeOf96
 v24:=zeroValue96 }
theorem Tryz.siX:Builder.Extra Tryz.prog Tryz.siR:={ Tryz.s172 with
 sizeBuilder:=by kernel_rfl
 liesBuilder:=by kernel_rfl
 infoByte:=by kernel_rfl
 cellsByte:=by kernel_rfl
 sizeByte:=by kernel_rfl
 neB5:=by decide }
open Go.RowKit Go.Lib in
theorem Tryz.strings_CutPrefix(s p:By)(w:World):
  Calls Tryz.prog 94 #[.string s,.string p] w λe w'=>e=.returned (.tuple #[.string ⟨(Lib.trimPrefix s.data.toList p.data.toList).toArray⟩,.bool (Lib.hasPrefix s.data.toList p.data.toList)])/\w'=w:=Any.strings_CutPrefix Tryz.s103 s p w
open Go.RowKit Go.Lib in
theorem Tryz.strings_Cut(s a:By)(m:Int)(w:World)(c:s.size<4294967281)(b:w.cell? ⟨0,0,none⟩=some (.int .i64 m)):
  Calls Tryz.prog 155 #[.string s,.string a] w λe w'=>e=.returned (.tuple #[.string ⟨(Lib.cut s.data.toList a.data.toList).1.toArray⟩,.string ⟨(Lib.cut s.data.toList a.data.toList).2.1.toArray⟩,.bool (Lib.cut s.data.toList a.data.toList).2.2])/\∃n,w'=w.drewN n:=Any.strings_Cut Tryz.s145 s a m w c b
open Go.RowKit Go.Lib in
theorem Tryz.strings_IndexByte(s:By)(c:Int)(w:World):
  Calls Tryz.prog 251 #[.string s,.int .u8 c] w λe w'=>e=.returned (.int .i64 (Lib.indexByte s.data.toList c.toNat.toUInt8))/\w'=w:=Any.strings_IndexByte Tryz.s137 s c w
open Go.RowKit Go.Lib in
theorem Tryz.strconv_Atoi_ok(s:By)(a:s.size<=9223372036854775806)(v:Int)(h:Lib.atoiAll s.data.toList=.ok v)(w:World):
  Calls Tryz.prog 210 #[.string s] w λe w'=>e=.returned (.tuple #[.int .i64 v,.nilIface])/\(w'=w\/∃t,w'=Lib.bytesWorld w 5 t):=Any.strconv_Atoi_ok Tryz.s172 s a v h w
open Go.RowKit Go.Lib in
theorem Tryz.strconv_Atoi_no(s:By)(f:s.size<=281474976710656)(h:∀v,Lib.atoiAll s.data.toList≠.ok v)(h2:Lib.atoiAll s.data.toList≠.range)(a:Value)(w:World)(g:w.cell? ⟨2,0,none⟩=some a)(d:a=.nilIface\/∃te pe,a=.iface te pe):
  Calls Tryz.prog 210 #[.string s] w λe w'=>∃N,e=.returned (.tuple #[.int .i64 0,.iface 357 (.pointer (some ⟨N,0,none⟩))])/\Below w.heap.size w w':=by
 cases e:Lib.atoiAll s.data.toList with
 | ok v=>exact absurd e (h v)
 | range=>exact absurd e h2
 | _=>exact(Any.strconv_Atoi_syntax Tryz.s172 s f e a w g d).mono λ_ _ ⟨N,b,_,_,c⟩=>⟨N,b,c⟩
open Go.RowKit Go.Lib in
theorem Tryz.strconv_Atoi_range(s:By)(f:s.size<=281474976710656)(h:Lib.atoiAll s.data.toList=.range)(a:Value)(w:World)(g:w.cell? ⟨3,0,none⟩=some a)(d:a=.nilIface\/∃te pe,a=.iface te pe):
  Calls Tryz.prog 210 #[.string s] w λe w'=>∃N,e=.returned (.tuple #[.int .i64 (Lib.atoiSat s.data.toList),.iface 357 (.pointer (some ⟨N,0,none⟩))])/\Below w.heap.size w w':=(Any.strconv_Atoi_range Tryz.s172 s f h a w g d).mono λ_ _ ⟨N,b,_,_,c⟩=>⟨N,b,c⟩
open Go.RowKit Go.Lib in
theorem Tryz.strconv_Itoa(n : Int)(h0 : -9223372036854775808 ≤ n)(h1 : n ≤ 9223372036854775807)(w : World)(htab : Lib.TabIs Tryz.prog w "internal/strconv.uint64pow10" .u64 Lib.pow10Tab) :
  Calls Tryz.prog 116 #[.int .i64 n] w λe w'=>e=.returned (.string ⟨(Lib.itoa n).toArray⟩)/\∃k os,w'=Sort.grow (w.drewN k) os:=Any.strconv_Itoa Tryz.s171 n h0 h1 w htab
open Go.RowKit Go.Lib in
theorem Tryz.strings_Join(a o c:Nat)(xs:LY)(b:By)(w:World)(h:∀(j:Nat) x,xs[j]?=some x->w.cell? ⟨a,o+j,none⟩=some (.string x))(f:a<w.heap.size)(d:xs.length<=140737488355328)(g:xs.length<=c)(i:(Lib.join (xs.map (·.data.toList)) b.data.toList).length<=140737488355328):
  Calls Tryz.prog 168 #[.slice (some ⟨a,o,none⟩) xs.length c,.string b] w λe w'=>e=.returned (.string ⟨(Lib.join (xs.map (·.data.toList)) b.data.toList).toArray⟩)/\Below w.heap.size w w':=Any.strings_Join Tryz.s156 Tryz.siX a o c xs b w h f d g i
open Go.RowKit Go.Lib in
theorem Tryz.Builder_WriteString(B b:Nat)(a:F0)(s:By)(w:World)(h:Lib.IsBuilderF 161 5 B b a w)(d:a.length+s.size<=140737488355328)(c:B<=w.heap.size):
  Calls Tryz.prog 167 #[.pointer (some ⟨b,0,none⟩),.string s] w λe w'=>e=.returned (.tuple #[.int .i64 s.size,.nilIface])/\(Lib.BuilderAtF 161 5 B b (.pointer (some ⟨b,0,none⟩)) (a++Lib.strCells s) w'/\Below B w w'/\Lib.OthersKept 5 (some b) w w'):=Any.Builder_WriteString_k Tryz.s166 Tryz.siX B b a s w h d c
open Go.RowKit Go.Lib in
theorem Tryz.Builder_WriteByte(B b:Nat)(a:F0)(c:Int)(w:World)(h:Lib.IsBuilderF 161 5 B b a w)(f:a.length+1<=140737488355328)(d:B<=w.heap.size):
  Calls Tryz.prog 173 #[.pointer (some ⟨b,0,none⟩),.int .u8 c] w λe w'=>e=.returned .nilIface/\(Lib.BuilderAtF 161 5 B b (.pointer (some ⟨b,0,none⟩)) (a++[.int .u8 c]) w'/\Below B w w'/\Lib.OthersKept 5 (some b) w w'):=Any.Builder_WriteByte_k Tryz.s167 Tryz.siX B b a c w h f d
open Go.RowKit Go.Lib in
theorem Tryz.Builder_String(B b:Nat)(l:List UInt8)(w:World)(h:Lib.IsBuilderF 161 5 B b (Lib.byteCells l) w)(a:B<=w.heap.size):
  Calls Tryz.prog 118 #[.pointer (some ⟨b,0,none⟩)] w λe w'=>e=.returned (.string ⟨l.toArray⟩)/\(Lib.IsBuilderF 161 5 B b (Lib.byteCells l) w'/\Below B w w'/\Lib.OthersKept 5 (some b) w w'):=Any.Builder_String_any_k Tryz.s169 Tryz.siX B b l w h a
end Go.Proofs
namespace Go.Proofs.YtaieidcohdhgpaaGreatDoor
open Go.RowKit Tryz
theorem S3(b:Nat->Int):∀(i f m:Nat),i<=f->(∀a,a<i->0<b ((m+a)%96))->¬0<b ((m+i)%96)->DP b f (16*m)=16*(m+i)
 |0,f,m,_,_,h=>by
  rw[OC (λe=>h (by have:=e.2;rwa [show 16*m/16%96=(m+0)%96 by omega]at this))];rfl
 |i+1,f,m,hf,hl,h=>by
  cases f with
  |zero=>omega
  |succ f=>
   have c:=hl 0 (by omega);rw[TU ⟨by omega,by rw[show 16*m/16%96=(m+0)%96 by omega];exact c⟩,show 16*m+16=16*(m+1) by omega];rw[S3 b i f (m+1) (by omega) (λa aa=>by have:=hl (a+1) (by omega);rwa [show m+(a+1)=m+1+a by omega]at this) (by rwa [show m+(i+1)=m+1+i by omega]at h)];omega
def Jg(nd:Nat->Int)(c:Nat):Nat->Nat
 |0=>0
 |j+1=>Jg nd c j+if 0<j/\nd ((c+j)%96)<=0 then 1 else 0
theorem Vo(a:Nat->Int)(c:Nat):∀(m j:Nat),Jg a c (j+1)<Jg a c (j+1+m)->∃b,j<b/\b<=j+m/\a ((c+b)%96)<=0/\(∀i,j<i->i<b->0<a ((c+i)%96))/\Jg a c b=Jg a c (j+1)
 |0,j,h=>by simp at h
 |m+1,j,h=>by
  by_cases f:a ((c+(j+1))%96)<=0
  ·exact⟨j+1,by omega,by omega,f,λi g d=>by omega,rfl⟩
  ·have e:Jg a c (j+1+1)=Jg a c (j+1):=by
    conv=>lhs;unfold Jg
    rw[if_neg (λe=>f e.2)];rfl
   obtain⟨b,q1,q2,l,n,o⟩:=Vo a c m (j+1) (by rw[e,show j+1+1+m=j+1+(m+1) by omega];exact h);refine⟨b,by omega,by omega,l,λi g d=>?_,by rw[o,e]⟩;by_cases k:i=j+1
   ·subst k;omega
   ·exact n i (by omega) d
def Ka(c p:Nat):Nat:=(p/16+96-c)%96
structure RI(nd:Nat->Int)(tp j o:Nat)(N:List Nat):Prop where
 jl:j<=95
 o1:1<=o
 o2:o<=16
 fr:j=0/\tp%16<o\/0<j/\nd ((tp/16+j)%96)<=0
 mem:∀p∈N,p<1536/\(Ka (tp/16) p=0/\tp<p/\(j=0->p%16<o)\/0<Ka (tp/16) p/\nd (p/16)<=0/\(Ka (tp/16) p<j\/Ka (tp/16) p=j/\p%16<o))
 nd':N.Nodup
 cnt:16*Jg nd (tp/16) j+(if 0<j then o else 0)<=N.length
theorem RI.next{f:Nat->Int}{c j o:Nat}{N:List Nat}(h:RI f c j o N)(af:c<1536)(ab:N.length<16*(Jg f (c/16) 96)):
  ∃d o',RI f c d o' (N++[DP f 96 (16*((c/16+j)%96)+o)%1536])/\DP f 96 (16*((c/16+j)%96)+o)%1536+1=16*((c/16+d)%96)+o':=by
 have A:=h.jl;have h2:=h.o1;have h3:=h.o2;have x:=h.cnt;by_cases ho:o<16
 ·have e:DP f 96 (16*((c/16+j)%96)+o)=16*((c/16+j)%96)+o:=OC (λe=>by omega) 96;rw[e,EV (show 16*((c/16+j)%96)+o<1536 by omega)];generalize hp:16*((c/16+j)%96)+o=p
  have B:p%16=o:=by omega
  have t:p/16=(c/16+j)%96:=by omega
  have g:Ka (c/16) p=j:=by unfold Ka;omega
  refine⟨j,o+1,⟨A,by omega,by omega,h.fr.imp (λe=>⟨e.1,by omega⟩) id,λq u=>?_,?_,?_⟩,by omega⟩
  ·rcases Aq.1 u with i|i
   ·obtain⟨w,k⟩:=h.mem q i;refine⟨w,k.imp (λe=>⟨e.1,e.2.1,λn=>by have:=e.2.2 n;omega⟩) (λe=>⟨e.1,e.2.1,e.2.2.imp id (λe=>⟨e.1,by omega⟩)⟩)⟩
   ·rw[Ad.1 i];refine⟨by omega,?_⟩;rcases h.fr with⟨e,n⟩|⟨e,n⟩
    ·subst e;exact .inl ⟨g,by omega,λ_=>by omega⟩
    ·exact .inr ⟨by omega,by rw[t];exact n,.inr ⟨g,by omega⟩⟩
  ·rw[Ch];refine⟨h.nd',by simp,λa r b s e=>?_⟩;rw[Ad.1 s]at e;obtain⟨_,k⟩:=h.mem a r;rcases k with⟨i,y,l⟩|⟨i,y,l⟩
   ·rw[e,g]at i;have:=l i;omega
   ·rw[e,g]at l;omega
  ·rw[Ab,Be]
   split at x<;>split<;>omega
 ·obtain rfl:o=16:=by omega
  have aa:16*Jg f (c/16) (j+1)<=N.length:=by
   unfold Jg
   split at x
   ·split<;>omega
   ·rw[if_neg (λe=>by omega)];omega
  have ad:j+1<=96:=by omega
  obtain⟨d,i,y,l,C,D⟩:=Vo f (c/16) (95-j) j (by rw[show j+1+(95-j)=96 by omega];omega);have e:DP f 96 (16*((c/16+j)%96)+16)=16*((c/16+j)%96+1+(d-j-1)):=by
   rw[show 16*((c/16+j)%96)+16=16*((c/16+j)%96+1) by omega];refine S3 f (d-j-1) 96 _ (by omega) (λv ac=>?_) ?_
   ·have:=C (j+1+v) (by omega) (by omega)
    rwa [show((c/16+j)%96+1+v)%96=(c/16+(j+1+v))%96 by omega]
   ·rw[show((c/16+j)%96+1+(d-j-1))%96=(c/16+d)%96 by omega];omega
  rw[e];generalize hp:16*((c/16+j)%96+1+(d-j-1))%1536=p
  have ae:p=16*((c/16+d)%96):=by omega
  have B:p%16=0:=by omega
  have t:p/16=(c/16+d)%96:=by omega
  have g:Ka (c/16) p=d:=by unfold Ka;omega
  refine⟨d,1,⟨by omega,by omega,by omega,.inr ⟨by omega,l⟩,λq u=>?_,?_,?_⟩,by omega⟩
  ·rcases Aq.1 u with m|m
   ·obtain⟨w,k⟩:=h.mem q m;refine⟨w,k.imp (λe=>⟨e.1,e.2.1,λn=>by omega⟩) (λe=>⟨e.1,e.2.1,.inl (by omega)⟩)⟩
   ·rw[Ad.1 m];exact⟨by omega,.inr ⟨by omega,by rw[t];exact l,.inr ⟨g,by omega⟩⟩⟩
  ·rw[Ch];refine⟨h.nd',by simp,λa r b s e=>?_⟩;rw[Ad.1 s]at e;obtain⟨_,k⟩:=h.mem a r;rcases k with⟨m,E,z⟩|⟨m,E,z⟩
   ·rw[e,g]at m;omega
   ·rw[e,g]at z;omega
  ·rw[Ab,Be,D,if_pos (by omega)];omega
theorem RI.start(c:Nat->Int)(a:Nat)(_h:a<1536):RI c a 0 (a%16+1) []:=
 ⟨by omega,by omega,by omega,.inl ⟨rfl,by omega⟩,λp b=>(by cases b),CG,by simp[Jg]⟩
theorem Zmp(d:Nat->Int)(o:∀j,0<=d j)(c:Nat)(m:c<96)(ab:0<d c):16*Jg d c 96=DY d 96:=by
 have f:∀k,DY d k=16*(List.range k).countP (λj=>decide (d j=0)):=λk=>by
  induction k with
  |zero=>rfl
  |succ k ih=>
   unfold DY;rw[ih,Cp,CS,CE];by_cases e:d k=0<;>simp[e]<;>omega
 have g:∀k,Jg d c k=(List.range k).countP (λj=>decide (0<j/\d ((c+j)%96)<=0)):=λk=>by
  induction k with
  |zero=>rfl
  |succ k ih=>
   unfold Jg;rw[ih,Cp,CS,CE];by_cases e:0<k/\d ((c+k)%96)<=0<;>simp[e]
 rw[f,g]
 congr 1
 have h:(List.range 96).countP (λj=>decide (0<j/\d ((c+j)%96)<=0))=((List.range 96).map (λj=>(c+j)%96)).countP (λj=>decide (d j=0)):=by
  rw[List.countP_map];refine List.countP_congr (λj n=>?_);rw[A4]at n;simp only[Function.comp,AH];constructor
  ·rintro⟨q1,q2⟩;have:=o ((c+j)%96);omega
  ·intro q;refine⟨?_,by omega⟩;rcases Cj j with e|e
   ·subst e;rw[Ef,EV m]at q;omega
   ·exact e
 rw[h];refine(UC _ _ ?_ (λx p=>?_) (by simp)).countP_eq _
 ·rw[AJ,Bl];refine List.Pairwise.imp_of_mem (R:=λa b=>a≠b) (λ{a b} i l aa e=>?_) (AJ.1 Fv);rw[A4]at i l;omega
 ·obtain⟨y,hy,rfl⟩:=As.1 p;exact A4.2 (by omega)
theorem FZ.puts_ind2{E:FZ}{Q:Pl->Prop}(f:∀st r s,s.size=64->(∀y∈st.puts,y.1≠r)->Q st->Q (E.put st r s).2)(R:Nat->Nat)(g:∀a b,R a=R b->a=b)(B:NB)(d:∀x,(B x).size=64):
  ∀(st:Pl) (i:Nat) (xs:List Nat),(∀y∈st.puts,∀j,i<=j->j<i+xs.length->y.1≠R j)->Q st->Q (E.puts R B st i xs)
 |_,_,[],_,h=>h
 |st,i,x::xs,hf,h=>by
  refine FZ.puts_ind2 f R g B d _ (i+1) xs (λy c j h1 h2=>?_) (f st (R i) (B x) (d x) (λy c=>hf y c i (Aa _) (by rw[Al];omega)) h);rw[FZ.put_puts]at c;rcases Aq.1 c with q|q
  ·exact hf y q j (by omega) (by rw[Al];omega)
  ·rw[Ad.1 q];exact λe=>by have:=g _ _ e;omega
theorem VZ{E:FZ}{Q:Pl->Prop}(m:∀st r s,s.size=64->(∀y∈st.puts,y.1≠r)->Q st->Q (E.put st r s).2)(C:NB):∀(last:By) (st:Pl) (xs:List It),
  (∀x∈xs,x.k=1\/x.k=2\/x.k=3)->(∀x∈xs,x.k=2->(C x.f).size<=1280)->(∀x∈xs,x.f<60)->xs.Pairwise (λx y=>x.k=2->y.k=2->x.f≠y.f)->(∀y∈st.puts,∀x∈xs,x.k=2->∀j,j<20->y.1≠Dd 4 x.f j)->Q st->Q (Du E C last st xs).2
 |_,_,[],_,_,_,_,_,h=>h
 |last,st,x::xs,hk,d,hf,hp,c,h=>by
  rw[FR]at hp;have o:Q (Dw E C last st x).2/\∀y∈(Dw E C last st x).2.puts,y∈st.puts\/(x.k=2/\∃j,j<20/\y.1=Dd 4 x.f j):=by
   unfold Dw;rcases hk x (by simp) with e|e|e
   ·rw[if_pos e];exact⟨h,λy c => .inl c⟩
   ·rw[if_neg (by omega),if_neg (by omega)];have hn:=K7 (d x (by simp) e);refine⟨FZ.puts_ind2 m _ (λa b=>QP) _ (λz=>Qr _ z) st 0 _ (λy f j _ l=>?_) h,λy f=>?_⟩
    ·rw[AU]at l;exact c y f x (by simp) e j (by omega)
    ·rcases FZ.puts_mem E _ _ st 0 _ y f with q|⟨j,_,k,u⟩
     ·exact .inl q
     ·rw[AU]at k;exact .inr ⟨e,j,by omega,u⟩
   ·rw[if_neg (by omega),if_pos e];exact⟨h,λy c => .inl c⟩
  refine VZ m C (jn x.ns) _ xs (λz d=>hk z (AF _ d)) (λz g=>d z (AF _ g)) (λz d=>hf z (AF _ d)) hp.2 (λy f z g n j p e=>?_) o.1;rcases o.2 y f with q|⟨t,i,hi,k⟩
  ·exact c y q z (AF _ g) n j p e
  ·have h1:=hf x (by simp);have l:=hf z (AF _ g);exact hp.1 z g t n (Rp (by omega) (by omega) (by omega) (by omega) (k.symm.trans e))
theorem Vv{E:FZ}{Q:Pl->Prop}(c:∀st r s,s.size=64->(∀y∈st.puts,y.1≠r)->Q st->Q (E.put st r s).2):∀(d below:Nat) (st:Pl) (s:By),H1 d below st s->Q st->Q (DH E d below st s).2
 |0,_,_,_,_,h=>h
 |d+1,below,st,s,hi,h=>by
  unfold DH
  split
  ·rename_i i;obtain⟨d',e,f,_⟩:=hi.next i E
   cases e
   have hb:=hi.bd;have aa:=hi.n1;refine Vv c d _ _ _ f (FZ.puts_ind2 c _ (λa b=>QP) _ (λx=>Qc _ _ _ x) _ _ _ (λy k j _ g=>?_) h);rw[AU]at g;exact hi.pk.fresh (by omega) y k j (by omega)
  ·exact h
theorem GD.pair{C:NB}{L:List It}(h:GD C L):L.Pairwise (λx y=>x.k=2->y.k=2->x.f≠y.f):=by
 rw[Bk];intro i j c e d a b;exact h.fresh i j _ _ d (Ac c) (Ac e) a b
theorem Zkx{E:FZ}{Q:Pl->Prop}(f:∀st r s,s.size=64->(∀y∈st.puts,y.1≠r)->Q st->Q (E.put st r s).2){C:NB}{L:List It}(c:GD C L)(d:Nat)(l:d<=1536)(h:Q ⟨d,[],[]⟩):Q (Jv E C ⟨d,[],[]⟩ L).2:=by
 have n:=VZ f C ⟨#[]⟩ ⟨d,[],[]⟩ L c.kind c.size c.num c.pair (λy g=>(by cases g)) h;obtain⟨t1,t2,t3,t4,p⟩:=Qq E C ⟨#[]⟩ ⟨d,[],[]⟩ L (λz k=>⟨c.path z k,c.size z k,c.kind z k⟩);have ab:=c.len;refine Vv f _ _ _ _ (Ty c E ⟨d,[],[]⟩ rfl rfl l) (FZ.puts_ind2 f _ (λa b=>QP) _ (λx=>Qc _ _ _ x) _ _ _ (λy g j _ m e=>?_) n);rw[AU,Ai]at m;have aa:j<600:=by
  have:(⟨#[0]⟩:By).size=1:=rfl;omega
 rcases p y g with q|⟨x,o,_,i,hi,q⟩
 ·cases q
 ·have hf:=c.num x o;have:=OB (kk:=4) (kk':=3) (by omega) (by omega) (by omega) (by omega) (q.symm.trans e);omega
structure Gs(s:KS):Prop where
 ok:Hr s
 cur:∀x∈s.es,x.2.toNat/16=s.tp/16->x.2.toNat<=s.tp
 inj:∀x∈s.es,∀y∈s.es,x.2=y.2->x=y
 tpc:0<Dh s.es (s.tp/16)
 fr:512<=DY (Dh s.es) 96
 lo:∀x∈s.es,16<=x.2.toNat
 tp:15<=s.tp
theorem Gs.free{s:KS}(h:Gs s):512<=16*Jg (Dh s.es) (s.tp/16) 96:=by
 rw[Zmp _ (Oo _) _ (by have:=h.ok.tp;omega) h.tpc];exact h.fr
theorem UQ{es:LI}{x:Int×Int}(h:x∈es):0<Dh es (x.2.toNat/16):=by
 unfold Dh;have:0<es.countP (λy=>y.2.toNat/16==x.2.toNat/16):=List.countP_pos_iff.2 ⟨x,h,by simp⟩
 split<;>omega
theorem RI.not_es{s:KS}(a:Gs s){j o:Nat}{N:List Nat}(h:RI (Dh s.es) s.tp j o N){p:Nat}(c:p∈N)(r:Int):(r,(p:Int))∉s.es:=λb=>by
 have aa:=a.ok.tp;obtain⟨m1,d⟩:=h.mem p c;rcases d with⟨e,f,_⟩|⟨_,f,_⟩
 ·have:=a.cur _ b (by simp only[Bp];unfold Ka at e;omega);simp only[Bp]at this;omega
 ·have:=UQ b;simp only[Bp]at this;omega
structure PI(s:KS)(st:Pl):Prop where
 ri:∃j o,RI (Dh s.es) s.tp j o (st.ps.map (·.1))/\st.hd=16*((s.tp/16+j)%96)+o
 mem:∀y∈st.puts,y.2∈st.ps.map (·.1)\/((y.1:Int),(y.2:Int))∈s.es
 nd:(st.puts.map (·.2)).Nodup
 le:st.ps.length<=st.puts.length
 rol:(st.puts.map (·.1)).Nodup
theorem PI.put{s:KS}(f:Gs s){cl:Bool}{st:Pl}(h:PI s st)(hl:st.puts.length<512)(r:Nat)(b:By)(v:∀y∈st.puts,y.1≠r):PI s ((Dl s.es cl s.tp s.D).put st r b).2:=by
 have C:=f.ok.tp;obtain⟨j,o,l,p⟩:=h.ri;have w:∀q:Nat,((st.puts++[(r,q)]).map (λy:Nat×Nat=>y.1)).Nodup:=λq=>by
  rw[Bq,Ch];refine⟨h.rol,by simp,λa i b d e=>?_⟩;obtain⟨y,c,rfl⟩:=As.1 i;simp only[BI,CY,Ad]at d;exact v y c (e.trans d)
 unfold FZ.put
 split
 ·rename_i q g;have n:((r:Int),(q:Int))∈s.es:=by
   unfold FZ.stay at g
   split at g
   ·rename_i q' B
    split at g
    ·cases g;exact((f.ok.env cl).at_some B).1
    ·cases g
   ·cases g
  refine⟨⟨j,o,l,p⟩,λy c=>?_,?_,by rw[Ab];have:=h.le;simp only[Be];omega,w q⟩
  ·rcases Aq.1 c with e|e
   ·exact h.mem y e
   ·rw[Ad.1 e];exact .inr n
  ·rw[Bq,Ch];refine⟨h.nd,by simp,λa i b d e=>?_⟩;obtain⟨y,c,rfl⟩:=As.1 i;simp only[BI,CY,Ad]at d;rw[d]at e;rcases h.mem y c with m|m
   ·rw[e]at m;exact l.not_es f m _ n
   ·rw[e]at m;have:=f.inj _ m _ n rfl;rw[A9]at this;exact v y c (by have:=this.1;omega)
 ·have A:(st.ps.map (·.1)).length<16*Jg (Dh s.es) (s.tp/16) 96:=by rw[AL];have:=h.le;have:=f.free;omega
  obtain⟨x,z,k,t⟩:=l.next C A;rw[<-p]at k t;have u:(st.ps++[(DP (Dh s.es) 96 st.hd%1536,b)]).map (·.1)=st.ps.map (·.1)++[DP (Dh s.es) 96 st.hd%1536]:=by rw[Bq];rfl
  refine⟨⟨x,z,?_,t⟩,λy c=>?_,?_,?_,w _⟩
  ·show RI (Dh s.es) s.tp x z ((st.ps++[(DP (Dh s.es) 96 st.hd%1536,b)]).map (·.1));rw[u];exact k
  ·show y.2∈(st.ps++[(DP (Dh s.es) 96 st.hd%1536,b)]).map (·.1)\/_;rw[u];rcases Aq.1 c with e|e
   ·exact(h.mem y e).imp (λe=>Bn _ e) id
   ·rw[Ad.1 e];exact .inl (BZ _ (Ad.2 rfl))
  ·show((st.puts++[(r,DP (Dh s.es) 96 st.hd%1536)]).map (·.2)).Nodup;rw[Bq,Ch];refine⟨h.nd,by simp,λa i b d e=>?_⟩;obtain⟨y,c,rfl⟩:=As.1 i;simp only[BI,CY,Ad]at d;rw[d]at e;rcases h.mem y c with m|m
   ·rw[e]at m;have:=k.nd';rw[Ch]at this;exact this.2.2 _ m _ (Ad.2 rfl) rfl
   ·rw[e]at m;exact k.not_es f (BZ _ (Ad.2 rfl)) _ m
  ·show(st.ps++[_]).length<=(st.puts++[_]).length;rw[Ab,Ab];have:=h.le;simp only[Be];omega
theorem PI.all{s:KS}(a:Gs s)(cl:Bool){C:NB}{L:List It}(e:GD C L)(c:(Dv s cl C L).2.puts.length<=512):PI s (Dv s cl C L).2:=by
 have g:=a.ok.tp;refine Zkx (E:=Dl s.es cl s.tp s.D) (Q:=λst=>st.puts.length<=512->PI s st) (λst r b hb f h d=>?_) e (s.tp+1) (by omega) (λ_=>?_) c
 ·rw[FZ.put_puts,Ab,Be]at d;exact(h (by omega)).put a (by omega) r b f
 ·exact⟨⟨0,s.tp%16+1,RI.start _ _ g,by show s.tp+1=_;omega⟩,λy i=>(by cases i),CG,Aa _,CG⟩
theorem Vi(E:FZ)(fn:Nat)(d:By):∀(st:Pl) (i:Nat) (xs:List Nat),JQ E fn d st i xs=JG E (Dd 4 fn) (Gn d) st i xs
 |_,_,[]=>rfl
 |st,i,x::xs=>by
  show DI _ _++JQ E fn d _ (i+1) xs=DI _ _++JG E _ _ _ (i+1) xs;rw[Vi E fn d _ (i+1) xs]
def Ga(F st:Pl):Prop:=(∀y∈st.puts,y∈F.puts)/\∀x∈st.ps,x∈F.ps
theorem FZ.put_ps_sub(E:FZ)(st:Pl)(r:Nat)(b:By):∀x∈st.ps,x∈(E.put st r b).2.ps:=λx a=>by
 unfold FZ.put
 split
 ·exact a
 ·exact Bn _ a
theorem Ga.put{E:FZ}{F st:Pl}{r:Nat}{b:By}(h:Ga F (E.put st r b).2):Ga F st:=
 ⟨λy c=>h.1 y (by rw[FZ.put_puts];exact Bn _ c),λx a=>h.2 x (E.put_ps_sub st r b x a)⟩
theorem Ga.puts{E:FZ}{F:Pl}{R:Nat->Nat}{B:NB}:∀{st:Pl} {i:Nat} {xs:List Nat},Ga F (E.puts R B st i xs)->Ga F st
 |_,_,[],h=>h
 |_,_,_::_,h=>Ga.put (Ga.puts h)
theorem Ga.ent{E:FZ}{F:Pl}{C:NB}{a:By}{st:Pl}{x:It}(h:Ga F (Dw E C a st x).2):Ga F st:=by
 unfold Dw at h
 split at h
 ·exact h
 ·split at h
  ·exact h
  ·exact Ga.puts h
theorem Ga.tab{E:FZ}{F:Pl}{C:NB}:∀{last:By} {st:Pl} {xs:List It},Ga F (Du E C last st xs).2->Ga F st
 |_,_,[],h=>h
 |_,_,_::_,h=>Ga.ent (Ga.tab h)
theorem Ga.idx{E:FZ}{F:Pl}:∀{d below:Nat} {st:Pl} {s:By},Ga F (DH E d below st s).2->Ga F st
 |0,_,_,_,h=>h
 |d+1,below,st,s,h=>by
  unfold DH at h
  split at h
  ·exact Ga.puts (Ga.idx h)
  ·exact h
theorem Ga.row{E:FZ}{F:Pl}{kk:UInt8}{a b:Nat}{st:Pl}{s:By}(h:Ga F (Dy E kk a b st s).2):Ga F st:=
 Ga.puts (R:=Dd kk.toNat b) (B:=Dx kk s a) (i:=0) (xs:=List.range ((s.size+a-1)/a)) h
def lk(h0:Nat)(st:Pl):Pl:=⟨h0,st.puts,[]⟩
structure Hi(E E':FZ)(F:Pl):Prop where
 at':∀y∈F.puts,E'.at y.1=some y.2
 new:∀x∈F.ps,E'.D[x.1]?=some x.2
 old:∀r q,E.at r=some q->E'.D[q]?=E.D[q]?
 cl:E'.cl=false
section
variable{E E':FZ}{F:Pl}
theorem Hi.put(K:Hi E E' F){st:Pl}{r:Nat}{b:By}(h:Ga F (E.put st r b).2)(c:Nat):E'.put (lk c st) r b=((E.put st r b).1,lk c (E.put st r b).2):=by
 have i:(r,(E.put st r b).1)∈F.puts:=h.1 _ (by rw[FZ.put_puts];exact BZ _ (Ad.2 rfl));have f:=K.at' _ i;have d:E'.D[(E.put st r b).1]?=some b:=by
  cases hs:E.stay r b with
  |some q=>
   have a:(E.put st r b).1=q:=by unfold FZ.put;rw[hs]
   rw[a];unfold FZ.stay at hs
   split at hs
   ·rename_i q' j
    split at hs
    ·rename_i g
     cases hs
     rw[K.old r q j];exact g.1
    ·cases hs
   ·cases hs
  |none=>
   have a:E.put st r b=(DP E.nd 96 st.hd%1536,⟨DP E.nd 96 st.hd%1536+1,st.puts++[(r,DP E.nd 96 st.hd%1536)],st.ps++[(DP E.nd 96 st.hd%1536,b)]⟩):=by unfold FZ.put;rw[hs]
   rw[a]at h ⊢;exact K.new _ (h.2 _ (BZ _ (Ad.2 rfl)))
 have k:E'.stay r b=some (E.put st r b).1:=by
  unfold FZ.stay;rw[f];simp only;rw[if_pos ⟨d,λe=>by rw[K.cl]at e;cases e.1⟩]
 show(match E'.stay r b with|some q=>_|none=>_)=_;rw[k];show(_,(⟨c,st.puts++[(r,(E.put st r b).1)],[]⟩:Pl))=_;unfold lk;rw[FZ.put_puts]
theorem Hi.puts(K:Hi E E' F)(R:Nat->Nat)(B:NB)(a:Nat):∀(st:Pl) (i:Nat) (xs:List Nat),Ga F (E.puts R B st i xs)->E'.puts R B (lk a st) i xs=lk a (E.puts R B st i xs)/\JG E' R B (lk a st) i xs=JG E R B st i xs
 |_,_,[],_=>⟨rfl,rfl⟩
 |st,i,x::xs,h=>by
  have b:=K.put (Ga.puts h) a;obtain⟨c,d⟩:=K.puts R B a (E.put st (R i) (B x)).2 (i+1) xs h;constructor
  ·show E'.puts R B (E'.put (lk a st) (R i) (B x)).2 (i+1) xs=_;rw[b];exact c
  ·show DI (E'.put (lk a st) (R i) (B x)).1 _++JG E' R B (E'.put (lk a st) (R i) (B x)).2 (i+1) xs=_;rw[b];show DI (E.put st (R i) (B x)).1 _++JG E' R B (lk a (E.put st (R i) (B x)).2) (i+1) xs=_;rw[d];rfl
theorem Hi.ent(K:Hi E E' F)(C:NB)(a:By)(b:Nat)(st:Pl)(x:It)(h:Ga F (Dw E C a st x).2):Dw E' C a (lk b st) x=((Dw E C a st x).1,lk b (Dw E C a st x).2):=by
 unfold Dw at h ⊢
 split
 ·rfl
 ·rename_i e;rw[if_neg e]at h
  split
  ·rfl
  ·rename_i f;rw[if_neg f]at h;obtain⟨c,d⟩:=K.puts (Dd 4 x.f) (Gn (C x.f)) b st 0 (List.range (Gu (C x.f))) h;rw[c,Vi,Vi,d]
theorem Hi.tab(K:Hi E E' F)(C:NB)(a:Nat):∀(last:By) (st:Pl) (xs:List It),Ga F (Du E C last st xs).2->Du E' C last (lk a st) xs=((Du E C last st xs).1,lk a (Du E C last st xs).2)
 |_,_,[],_=>rfl
 |last,st,x::xs,h=>by
  have b:=K.ent C last a st x (Ga.tab h);have ih:=K.tab C a (jn x.ns) (Dw E C last st x).2 xs h;show((Dw E' C last (lk a st) x).1++(Du E' C (jn x.ns) (Dw E' C last (lk a st) x).2 xs).1,(Du E' C (jn x.ns) (Dw E' C last (lk a st) x).2 xs).2)=_;rw[b];show((Dw E C last st x).1++(Du E' C (jn x.ns) (lk a (Dw E C last st x).2) xs).1,(Du E' C (jn x.ns) (lk a (Dw E C last st x).2) xs).2)=_;rw[ih];rfl
theorem Hi.row(K:Hi E E' F)(kk:UInt8)(a b:Nat)(c:Nat)(st:Pl)(s:By)(h:Ga F (Dy E kk a b st s).2):Dy E' kk a b (lk c st) s=((Dy E kk a b st s).1,lk c (Dy E kk a b st s).2):=by
 obtain⟨d,e⟩:=K.puts (Dd kk.toNat b) (Dx kk s a) c st 0 (List.range ((s.size+a-1)/a)) h;unfold Dy;rw[d,e]
theorem Hi.idx(K:Hi E E' F)(a:Nat):∀(d below:Nat) (st:Pl) (s:By),Ga F (DH E d below st s).2->DH E' d below (lk a st) s=((DH E d below st s).1,lk a (DH E d below st s).2)
 |0,_,_,_,_=>rfl
 |d+1,below,st,s,h=>by
  unfold DH at h ⊢
  split
  ·rename_i c;rw[if_pos c]at h;have b:=K.row 2 60 below a st s (Ga.idx h);rw[b];exact K.idx a d (below+1) _ _ h
  ·rfl
end
theorem Hi.keep{E b:FZ}{F:Pl}(K:Hi E b F)(C:NB)(a:Nat)(st:Pl)(L:List It)(h:Ga F (Jv E C st L).2):Jv b C (lk a st) L=((Jv E C st L).1,lk a (Jv E C st L).2):=by
 obtain⟨T,f⟩:=ex (Du E C ⟨#[]⟩ st L);obtain⟨R,c⟩:=ex (Dy E 3 63 0 T.2 (T.1++⟨#[0]⟩));have e:Jv E C st L=DH E 8 1 R.2 R.1:=by rw[c,f];rfl
 rw[e]at h ⊢;have d:Ga F R.2:=Ga.idx h;have k:Ga F T.2:=by rw[c]at d;exact Ga.row d
 have i:=K.tab C a ⟨#[]⟩ st L (by rw[<-f];exact k);rw[<-f]at i;have g:=K.row 3 63 0 a T.2 (T.1++⟨#[0]⟩) (by rw[<-c];exact d);rw[<-c]at g;have j:Jv b C (lk a st) L=DH b 8 1 (lk a R.2) R.1:=by
  unfold Jv;rw[i];show DH b 8 1 (Dy b 3 63 0 (lk a T.2) (T.1++⟨#[0]⟩)).2 (Dy b 3 63 0 (lk a T.2) (T.1++⟨#[0]⟩)).1=_;rw[g]
 rw[j];exact K.idx a 8 1 R.2 R.1 h
theorem RR:∀(qs:LB) (D:LY) (p:Nat),p∉qs.map (·.1)->(Jw D qs)[p]?=D[p]?
 |[],_,_,_=>rfl
 |x::qs,D,p,h=>by
  rw[BI,AC,not_or]at h;show(Jw (D.set x.1 x.2) qs)[p]? = _;rw[RR qs _ p h.2,AB (λe=>h.1 e.symm)]
theorem QR:∀(qs:LB) (D:LY),(Jw D qs).length=D.length
 |[],_=>rfl
 |x::qs,D=>by
  show(Jw (D.set x.1 x.2) qs).length=_;rw[QR qs,Ce]
theorem Rf:∀(qs:LB) (D:LY),(qs.map (·.1)).Nodup->(∀x∈qs,x.1<D.length)->∀x∈qs,(Jw D qs)[x.1]?=some x.2
 |[],_,_,_,x,a=>by cases a
 |y::qs,D,hn,hl,x,a=>by
  rw[BI,Cw]at hn;show(Jw (D.set y.1 y.2) qs)[x.1]? = _;rcases AC.1 a with rfl|a
  ·rw[RR qs _ _ hn.1,BC (hl _ (by simp))]
  ·exact Rf qs _ hn.2 (λz b=>by rw[Ce];exact hl z (AF _ b)) x a
structure Gi(s:KS)(C:NB)(L:List It):Prop where
 ps:(Dv s false C L).2.ps=[]
 es:Hk (Dv s false C L).2.puts s.es
 tp:GA (Dv s false C L).1=s.tp
 tx:GE (Dv s false C L).1=s.tx
theorem Hk.at{b:List (Nat×Nat)}{es:LI}(h:Hk b es)(g:(b.map (·.1)).Nodup)(cl:Bool)(j:Nat)(D:LY){y:Nat×Nat}(c:y∈b):(Dl es cl j D).at y.1=some y.2:=by
 unfold FZ.at;have f:((y.1:Int),(y.2:Int))∈es:=(h.2.2 _).2 ⟨y,c,rfl⟩
 cases hf:es.find? (λx=>x.1==(y.1:Int)) with
 |none=>exact absurd f (λe=>by have:=Eg.1 hf _ e;simp at this)
 |some z=>
  show(es.find? (λx=>x.1==(y.1:Int))).map _=_;rw[hf];have d:=FH hf;obtain⟨u,i,rfl⟩:=(h.2.2 z).1 (Ej hf);simp only[EF]at d;have:u.2=y.2:=QO g (a:=u.1) (by exact i) (by rw[show u.1=y.1 by omega];exact c);simp[this]
theorem Gi.keep{b:Nat}{s a:KS}(c:Gs s){C:NB}{L:List It}(u:GD C L){cl:Bool}(i:DF b s C L=Dv s cl C L)(H:(Dv s cl C L).2.puts.length<=512)(m:Hk (DF b s C L).2.puts a.es)(A:a.tp=GA (DF b s C L).1)(B:a.tx=GE (DF b s C L).1)(D:a.D=(Jw s.D (DF b s C L).2.ps).set ((s.tn+1)%2) (Gv (s.tn+1) a.tp a.tx)):
  Gi a C L/\(Dv a false C L).1=(DF b s C L).1/\(Dv a false C L).2.puts=(DF b s C L).2.puts:=by
 have f:=PI.all c cl u H;have l:=QU u (Dl s.es cl s.tp s.D) (c.ok.env cl) (s.tp+1) (by have:=c.ok.tp;omega);change MA (Dv s cl C L) at l;rw[<-i]at f l;obtain⟨j,o,k,_⟩:=f.ri;have F:∀x∈(DF b s C L).2.ps,16<=x.1:=λx g=>by
  obtain⟨m1,M⟩:=k.mem x.1 (As.2 ⟨x,g,rfl⟩);have aa:=c.tp;rcases M with⟨_,q,_⟩|⟨_,q,_⟩
  ·omega
  ·rcases Bh x.1 16 with e|e
   ·have w:x.1/16=0:=by omega
    rw[w]at q;have hn:=Oo s.es 0;unfold Dh at q;simp at q;omega
   ·exact e
 have v:∀p,16<=p->a.D[p]?=(Jw s.D (DF b s C L).2.ps)[p]? := λp f=>by rw[D,AB (by omega)]
 have E:Hi (Dl s.es cl s.tp s.D) (Dl a.es false a.tp a.D) (DF b s C L).2:=by
  refine⟨λy J=>m.at f.rol false _ _ J,λx g=>?_,λr q I=>?_,rfl⟩
  ·show a.D[x.1]? = _;rw[v _ (F x g)];exact Rf _ _ k.nd' (λz K=>by rw[c.ok.dl];exact(l.pl.2 z K).1) x g
  ·show a.D[q]?=s.D[q]?;have t:=((c.ok.env cl).at_some I).1;have n:=c.lo _ t;simp only[Bp]at n;rw[v q n,RR _ _ _ (λe=>k.not_es c e _ t)]
 have G:=E.keep C (a.tp+1) ⟨s.tp+1,[],[]⟩ L (by
  show Ga _ (Dv s cl C L).2;rw[<-i];exact⟨λ_ h=>h,λ_ h=>h⟩)
 have d:Dv a false C L=((DF b s C L).1,lk (a.tp+1) (DF b s C L).2):=by rw[i];exact G
 refine⟨⟨by rw[d];rfl,by rw[d];exact m,by rw[d];exact A.symm,by rw[d];exact B.symm⟩,by rw[d],by rw[d];rfl⟩
theorem I8 : (prog.fieldsOf 207).toList.map (λf => (f.name, f.type, f.offset)) = [("Place", 3, 0), ("Block", 188, 1)]:=by kernel_rfl
theorem Zr:prog.underlying 207=some (.struct (prog.fieldsOf 207)):=by kernel_rfl
theorem YP:prog.stoodInHeld 207=false:=by kernel_rfl
theorem Z8:prog.eqGuardType prog.depth 207=false:=by kernel_rfl
theorem M2(w:World)(xs:Array Value)(k:Nat)(v:Value)(h:xs[k]?=some v):(part 3 xs k).run prog w=.ok v w:=by
 simp[part,isAgg,run_underlying underlying3,h]
theorem Tm(w:World)(p:Nat)(s:By)(b:s.size=64):(part 188 (F8 p s).toArray 1).run prog w=.ok (DA s) w:=by
 obtain⟨i0,a,aa,c,ab⟩:=BT Vf;have e:(F8 p s).toArray.extract 1 (1+64)=(Dc s).toArray:=by
  apply Array.ext';simp only[Array.toList_extract,List.extract_eq_take_drop];show List.take (1+64-1) (List.drop 1 (.int .i64 (p:Nat)::Dc s))=Dc s;rw[C6,BV,Ag (by rw[Dg,b];decide)]
 simp[part,isAgg,run_underlying UN,sizeOf,typeInfo,a,c,DA]
 first|exact e|(rw[e])|(simpa using e)
theorem Nb{α : Type}{l:List α}(h:l.length=2):∃a b,l=[a,b]:=by
 match l,h with
 |[a,b],_=>exact⟨a,b,rfl⟩
theorem OW{P : Program}(w : World)(d : Nat)(xs ys : Array Value)(f0 f1 : Field)(n0 : f0.name≠ "_")(n1 : f1.name≠ "_")(u0 u1 v0 v1 : Value)(r0 r1 : Bool)(hx0:(part f0.type xs f0.offset).run P w=.ok u0 w)(hy0:(part f0.type ys f0.offset).run P w=.ok v0 w)(e0:(Op.equalIn d f0.type u0 v0).run P w=.ok r0 w)(hx1:(part f1.type xs f1.offset).run P w=.ok u1 w)(hy1:(part f1.type ys f1.offset).run P w=.ok v1 w)(e1:(Op.equalIn d f1.type u1 v1).run P w=.ok r1 w):
  (Op.eqFields d xs ys [f0,f1]).run P w=.ok (r0 && r1) w:=by
 unfold Op.eqFields;rw[if_pos n0];simp only[Cn,hx0,hy0,e0,Cg]
 cases r0
 ·simp
 ·simp only[Bool.not_true,FT,if_false];unfold Op.eqFields;rw[if_pos n1];simp only[Cn,hx1,hy1,e1,Cg]
  cases r1
  ·simp
  ·simp[Op.eqFields]
theorem Mr(w:World)(a b:Nat)(s t:By)(m:s.size=64)(n:t.size=64):(binOp .eql 207 (Ic a s) (Ic b t)).run prog w=.ok (.bool (decide (a=b/\s=t))) w:=by
 obtain⟨f,k⟩:=ex ((prog.fieldsOf 207).toList);have e:=I8;rw[<-k]at e;obtain⟨v,x,l⟩:=Nb (show f.length=2 by have:=Cu List.length e;simpa using this);rw[l]at e;simp only[BI,CY,FI,A9,and_true]at e;obtain⟨⟨A,i,o⟩,⟨n1,j,p⟩⟩:=e;have q:∀(c:Nat) (u:By),(part 3 (F8 c u).toArray 0).run prog w=.ok (.int .i64 (c:Nat)) w:=λc u=>M2 w _ 0 _ (by simp[F8])
 have y:(Op.equalIn 9999 3 (.int .i64 (a:Nat)) (.int .i64 (b:Nat))).run prog w=.ok (((a:Nat):Int)==((b:Nat):Int)) w:=run_equalIn_int w 9998 3 .i64 .i64 _ _ underlying3;have r:(Op.equalIn 9999 188 (DA s) (DA t)).run prog w=.ok (decide (s=t)) w:=by
  rw[Oa,Oa,run_equalIn_bytes w 9997 188 5 64 UN underlying5 (λw=>by kernel_rfl) s.data.toList t.data.toList (by rw[AG];exact m) (by rw[AG];exact n)]
  congr 1
  rw[EO,EF,AH];exact⟨λh=>A8 h,λh=>by rw[h]⟩
 have B:=Tm w a s m;have C:=Tm w b t n;have z:(Op.eqFields 9999 (F8 a s).toArray (F8 b t).toArray f).run prog w=.ok (decide (a=b/\s=t)) w:=by
  rw[l,OW w 9999 _ _ v x (by rw[A];decide) (by rw[n1];decide) _ _ _ _ _ _ (by rw[i,o];exact q a s) (by rw[i,o];exact q b t) (by rw[i];exact y) (by rw[j,p];exact B) (by rw[j,p];exact C) (by rw[j];exact r)]
  congr 1
  rw[EO,A6,EF,AH,AH];constructor
  ·rintro⟨g,d⟩;exact⟨by omega,d⟩
  ·rintro⟨g,d⟩;exact⟨by omega,d⟩
 have g:=run_eql_struct (P:=prog) w 207 (F8 a s).toArray (F8 b t).toArray;have d:=run_equalIn_struct (P:=prog) w 9999 207 (F8 a s).toArray (F8 b t).toArray Zr YP;rw[<-k,z]at d;unfold Ic;rw[g,d]
 rfl
def Ld(s:By):By:=s.extract 5 64
def IZ(s:By):Nat:=DQ (Di (Ld s) 8).data.toList
def Im(s:By):By:=(Ld s).extract 8 (Ld s).size
theorem ckT_lt(s:By):IZ s<18446744073709551616:=by
 have:=QV (Di (Ld s) 8).data.toList;rw[AG,show(Di (Ld s) 8).data.size=8 from Jc _ 8]at this;exact this
theorem Yx(s:By):GE s<18446744073709551616:=by
 have:=QV (Di (s.extract 2 s.size) 8).data.toList;rw[AG,show(Di (s.extract 2 s.size) 8).data.size=8 from Jc _ 8]at this;exact this
def KZ(i:Nat)(s:By):Bool:=decide (IZ s%2=i/\Gv (IZ s) (GA (Im s)) (GE (Im s))=s)
def Rx(w:World)(i:Nat)(s:By)(e:Ending)(w':World):Prop:=
 e=.returned (.tuple #[.agg #[.int .u64 (IZ s:Nat),.int .i64 (GA (Im s):Nat),.int .u64 (GE (Im s):Nat)],.bool (KZ i s)])/\Bw w w'
theorem WO(w:World)(E:Nat)(vf vw ve:Value)(a:OA)(l c:Nat)(D:LY)(h:DU w E vf (.slice a l c) vw ve D)(i:Nat)(s:By)(hi:D[i]?=some s):
  Cl 201 #[.pointer (some ⟨E,0,none⟩),.int .i64 i] w (Rx w i s):=by
 have R:s.size=64:=h.2.1.2 s (Ar hi);obtain⟨W1,e1,x1,k1,s1,C⟩:=De w [.int .u64 0,.int .i64 0,.int .u64 0] 191;have an:DU W1 E vf (.slice a l c) vw ve D:=⟨k1 _ _ _ h.1,⟨h.2.1.1.kept (λk Q _=>C.block k Q),h.2.1.2⟩,h.2.2⟩;obtain⟨T,H⟩:=ex (IZ s);obtain⟨f,G⟩:∃T,T=GA (Im s):=⟨_,rfl⟩;obtain⟨g,L⟩:∃T,T=GE (Im s):=⟨_,rfl⟩;obtain⟨VB,aa⟩:∃V,V=DA s:=⟨_,rfl⟩;obtain⟨VK,ac⟩:∃V,V=Ic (T%2) (Gv T f g):=⟨_,rfl⟩;obtain⟨VI,ab⟩:∃V,V=Ic i s:=⟨_,rfl⟩;obtain⟨OK,ag⟩:∃b,b=KZ i s:=⟨_,rfl⟩;have aC:Hid (∀V x y,(eqGuard .eql 207 x y VK VI).run prog V=.ok () V):=λV x y=>by
  rw[ac,ab];exact run_eqGuard_agg (P:=prog) V .eql 207 x y _ _ Z8
 have aD:Hid (∀V,(binOp .eql 207 VK VI).run prog V=.ok (.bool OK) V):=λV=>by
  rw[ac,ab,Mr V _ _ _ _ (Ul _ _ _) R,ag,H,G,L];rfl
 have aA:Hid (prog.built 207 [(0,.int .i64 (i:Nat)),(1,VB)]=some (F8 i s).toArray):=by rw[aa];exact P6 i s R
 have aH:=Db ab;have am:=Db aa;have HA:Hid (Cl 239 #[.pointer (some ⟨E,0,none⟩),.int .i64 i] W1 λe X=>e=.returned VB/\∃Y Z,X.alloc (.cells (Dc (Dn 64)).toArray 188)=Y/\FX Y X.heap.size 188 (Dc (Dn 64))/\Y.setRow X.heap.size (Dc s).toArray=Z/\∃U,Z.alloc (.cells #[.slice (some ⟨X.heap.size,5,none⟩) 59 59] 287)=U/\
   Hid (Cl 240 #[.pointer (some ⟨Z.heap.size,0,none⟩),.int .i64 8] U λe r=>e=.returned (.int .u64 (T:Nat))/\Hid (Cl 238 #[.pointer (some ⟨Z.heap.size,0,none⟩)] r λe d=>e=.returned (.agg #[.int .i64 (f:Nat),.int .u64 (g:Nat)])/\∃q,d.alloc (.cells #[.int .u64 (T:Nat),.int .i64 (f:Nat),.int .u64 (g:Nat)] 191)=q/\
    q.cell? ⟨d.heap.size,0,none⟩=some (.int .u64 (T:Nat))/\q.cell? ⟨d.heap.size,1,none⟩=some (.int .i64 (f:Nat))/\q.cell? ⟨d.heap.size,2,none⟩=some (.int .u64 (g:Nat))/\q.rangeAt X.heap.size 0 (Dc s)/\
    Hid (Cl 160 #[.agg #[.int .u64 (T:Nat),.int .i64 (f:Nat),.int .u64 (g:Nat)]] q.drew λe m=>e=.returned VK/\(m.cell? ⟨d.heap.size,0,none⟩=some (.int .u64 (T:Nat))/\m.cell? ⟨d.heap.size,1,none⟩=some (.int .i64 (f:Nat))/\m.cell? ⟨d.heap.size,2,none⟩=some (.int .u64 (g:Nat))/\m.rangeAt X.heap.size 0 (Dc s))/\FX m w.heap.size 191 [.int .u64 0,.int .i64 0,.int .u64 0]/\Hid (Bw w m)/\Hid (w.heap.size≠d.heap.size/\w.heap.size≠X.heap.size))))):=by
  refine(PC W1 E vf vw ve a l c D an i s hi).mono ?_;rintro e X⟨rfl,J⟩;obtain⟨Y,eY,xY,kY,sY,bY⟩:=De X (Dc (Dn 64)) 188;have aY:=J.size;have xZ:FX (Y.setRow X.heap.size (Dc s).toArray) X.heap.size 188 (Dc s):=BW Y _ _ _ 188 _ xY;have bZ:Bw X (Y.setRow X.heap.size (Dc s).toArray):=bY.trans ⟨rfl,rfl,rfl,by simp,λj hj=>BD Y _ j _ (by omega)⟩;obtain⟨Z,B⟩:∃Z,Y.setRow X.heap.size (Dc s).toArray=Z:=⟨_,rfl⟩;rw[B]at xZ bZ;have sZ:Z.heap.size=X.heap.size+1:=by rw[<-B];simp[World.setRow,sY]
  obtain⟨U,eU,xU,kU,sU,bU⟩:=De Z [.slice (some ⟨X.heap.size,5,none⟩) 59 59] 287;have aP:Bw w U:=C.trans ((J.mono (by omega)).trans ((bZ.mono (by omega)).trans (bU.mono (by omega))));have y1:FX U w.heap.size 191 [.int .u64 0,.int .i64 0,.int .u64 0]:=(bU.block _ (by omega)).trans ((bZ.block _ (by omega)).trans ((J.block _ x1.lt).trans x1));have yB:FX U X.heap.size 188 (Dc s):=kU _ _ _ xZ;have aO:Gp U (some ⟨X.heap.size,5,none⟩) 59 59 (Ld s):=by
   refine⟨by unfold Ld;rw[Ah,R];rfl,λe=>(by cases e),λj v n=>⟨_,rfl,?_⟩⟩;rw[AI,yB.cell];unfold Ld at n;rw[Jp,Ao]at n
   split at n
   ·rw[Bf]at n;exact n
   ·cases n
  have av:∀x,some (⟨X.heap.size,5,none⟩:Addr)=some x->x.block≠Z.heap.size:=λx e=>by cases e;show X.heap.size≠Z.heap.size;omega
  refine⟨by rw[aa],Y,Z,eY,xY,B,U,eU,?_⟩;refine(Oq U Z.heap.size _ 59 59 (Ld s) xU aO (Aa _) av 8 (by omega) (by omega)).mono ?_;rintro e r⟨rfl,a2,c2,q1,q2,q3,q4,u⟩;refine⟨by rw[H];rfl,?_⟩;have aN:∀x,a2=some x->x.block≠Z.heap.size:=λx e=>by obtain⟨y,e2,e3⟩:=q4 x e;rw[<-e3];exact av y e2
  have aZ:=u.size;refine(NY r Z.heap.size a2 (59-8) c2 _ q1 q2 q3 aN (by omega)).mono ?_;rintro e d⟨rfl,a3,c3,r1,r2,r3,r4,z⟩;obtain⟨q,aL,W,ax,a1,aK⟩:=De d [.int .u64 (T:Nat),.int .i64 (f:Nat),.int .u64 (g:Nat)] 191;have a0:=z.size;have aS:FX r X.heap.size 188 (Dc s):=yB.fr u (show ¬X.heap.size=Z.heap.size by omega);have aT:FX d X.heap.size 188 (Dc s):=aS.fr z (show ¬X.heap.size=Z.heap.size by omega);have ai:=ax _ _ _ aT;have aQ:FX r w.heap.size 191 _:=y1.fr u (show ¬w.heap.size=Z.heap.size by omega);have aR:FX d w.heap.size 191 _:=aQ.fr z (show ¬w.heap.size=Z.heap.size by omega);have ay:=ax _ _ _ aR;have aw:Bw w q:=by
   have h1:Below w.heap.size U r:=⟨u.os,u.tape,u.output,u.size,λk Q=>u.block k (by omega) (by omega)⟩;have h2:Below w.heap.size r d:=⟨z.os,z.tape,z.output,z.size,λk Q=>z.block k (by omega) (by omega)⟩;exact aP.trans (h1.trans (h2.trans (aK.mono (by omega))))
  refine⟨by rw[G,L];rfl,q,aL,(W.cell 0).trans rfl,(W.cell 1).trans rfl,(W.cell 2).trans rfl,λj v n=>by rw[ai.cell,Av];exact n,?_⟩;refine(Ox q.drew T f g (by rw[H];exact ckT_lt s) (by rw[G];exact UR _) (by rw[L];exact Yx _)).mono ?_;rintro e m⟨rfl,M⟩;have ad:Bw q m:=⟨M.os,M.tape,M.output,M.size,M.block⟩;have z3:FX m d.heap.size 191 _:=(ad.block _ W.lt).trans W;have zB:FX m X.heap.size 188 (Dc s):=(ad.block _ ai.lt).trans ai;exact⟨by rw[ac],⟨(z3.cell 0).trans rfl,(z3.cell 1).trans rfl,(z3.cell 2).trans rfl,λj v n=>by rw[zB.cell,Av];exact n⟩,(ad.block _ ay.lt).trans ay,aw.trans (ad.mono aw.size),by omega,by omega⟩
 have aq:(Dc s).length=64:=by rw[Dg,R]
 have af:=Db aq;have aB:=Db e1;have ak:Hid (Rx w i s=λe w'=>e=.returned (.tuple #[.agg #[.int .u64 (T:Nat),.int .i64 (f:Nat),.int .u64 (g:Nat)],.bool OK])/\Bw w w'):=by show _=_;unfold Rx;rw[H,G,L,ag]
 rw[Da ak];have aU:=Db (NQ (T:Nat) (f:Nat) (g:Nat));clear ak e1 x1 k1 s1 C an h hi H G L aa ac ab ag R aq;go_enter func201,ntmps201;go_upto_region 1 with fail;rw[show w.alloc (.cells #[.int .u64 0,.int .i64 0,.int .u64 0] 191)=W1 from Da aB];go_upto_region 2 with(first|(go_at_call 239;refine(Da HA).mono ?_;rintro e X⟨rfl,Y,Z,hY,xY,B,U,hU,HB⟩;have HY:=Db hY;have aJ:=Db xY;have HZ:=Db B;have HU:=Db hU;clear hY xY B hU)|(refine JN rfl 188 rfl Kx ?_;rw[show X.alloc (.cells (Dc (Dn 64)).toArray 188)=Y from Da HY])|(refine BX rfl 188 _ _ rfl X.heap.size (Dc s).toArray rfl (Da am) 188 _ (Da aJ) (by rw[Jf];simp[Da af]) (by simp[Da af,Dg,Jr]) (KV _) ?_;rw[Da HZ]));go_upto_region 3 with fail;rw[show Z.alloc (.cells #[.slice (some ⟨X.heap.size,5,none⟩) 59 59] 287)=U from Da HU];go_upto_region 4 with(first|(go_at_call 240;refine(Da HB).mono ?_;rintro e r⟨rfl,HC⟩)|(go_at_call 238;refine(Da HC).mono ?_;rintro e d⟨rfl,q,ao,u0,u1,u2,ur,HP⟩;have aE:=Db ao;have aF:=Db ur;clear ao ur));rw[show d.alloc (.cells #[.int .u64 (T:Nat),.int .i64 (f:Nat),.int .u64 (g:Nat)] 191)=q from Da aE];refine AE (S:=λV=>V.cell? ⟨d.heap.size,0,none⟩=some (.int .u64 (T:Nat))/\V.cell? ⟨d.heap.size,1,none⟩=some (.int .i64 (f:Nat))/\V.cell? ⟨d.heap.size,2,none⟩=some (.int .u64 (g:Nat))/\V.rangeAt X.heap.size 0 (Dc s)) (by kernel_rfl) ⟨u0,u1,u2,Da aF⟩ (λaX=>?_);refine tk 0 ?_;refine tk 1 ?_;refine tk 3 ?_;refine A5 (i:=4) (v:=VB) rfl (by kernel_rfl) (by kernel_rfl) (by kernel_rfl) (λ_ _ _ h=>h) (by rw[Da am];exact CZ (by rfl) 188 _ rfl X.heap.size 0 rfl (Dc s) _ (λX J=>J.2.2.2) Kf rfl (by rw[Jf,Da af])) (by assumption) ?_
 try simp only[pE]
 refine A5 (i:=5) (v:=VI) rfl (by kernel_rfl) (by kernel_rfl) (by kernel_rfl) (λ_ _ _ h=>h) (Or.inl ⟨by rfl,λV _=>by rw[Da aH];exact W8 V 207 0 1 _ _ rfl (.int .i64 (i:Nat)) VB rfl rfl (Da aA)⟩) (by assumption) ?_
 try simp only[pE]
 refine rk 2 (λK F=>?_);go_simp;go_at_call 160;refine(Da HP).mono ?_;rintro e m⟨rfl,O,A,aj,al⟩;go_wp2_with fail;refine F.out _ _ O (λaV=>?_);clear F K
 try simp only[pE]
 refine A5 (i:=6) (v:=.bool OK) rfl (by kernel_rfl) (by kernel_rfl) (by kernel_rfl) (λ_ _ _ h=>h) (Or.inl ⟨by rfl,λV _=>RD V .eql 207 _ _ _ rfl VK VI rfl rfl (Da aC V _ _) (Da aD V)⟩) (by assumption) ?_
 try simp only[pE]
 obtain⟨ae,au⟩:=Da al;have b0:=A.cell 0;have C:=A.cell 1;have b2:=A.cell 2;have g0:=A.frozen 0;have g1:=A.frozen 1;have g2:=A.frozen 2;obtain⟨t,I⟩:∃V,((m.setCell ⟨w.heap.size,0,none⟩ (.int .u64 (T:Nat))).setCell ⟨w.heap.size,1,none⟩ (.int .i64 (f:Nat))).setCell ⟨w.heap.size,2,none⟩ (.int .u64 (g:Nat))=V:=⟨_,rfl⟩;have x5:FX t w.heap.size 191 [.int .u64 (T:Nat),.int .i64 (f:Nat),.int .u64 (g:Nat)]:=by
  rw[<-I];exact((A.set 0 (.int .u64 (T:Nat))).set 1 (.int .i64 (f:Nat))).set 2 (.int .u64 (g:Nat))
 have ap:Bw w t:=by
  rw[<-I];exact(((Da aj).setCell (p:=⟨w.heap.size,0,none⟩) (Aa _) _).setCell (p:=⟨w.heap.size,1,none⟩) (Aa _) _).setCell (p:=⟨w.heap.size,2,none⟩) (Aa _) _
 have ar:Fr (λk=>k=w.heap.size) m t:=by
  rw[<-I];exact(((Fr.refl (λk=>k=w.heap.size) m).set ⟨w.heap.size,0,none⟩ (.int .u64 (T:Nat)) rfl).set ⟨w.heap.size,1,none⟩ (.int .i64 (f:Nat)) rfl).set ⟨w.heap.size,2,none⟩ (.int .u64 (g:Nat)) rfl
 have N:∀(k o:Nat) (v:Value),k≠w.heap.size->m.cell? ⟨k,o,none⟩=some v->t.cell? ⟨k,o,none⟩=some v:=λk o v Q n=>(Ay (a:=⟨k,o,none⟩) (ar.block k (Am _ _ n) Q)).trans n
 have aM:t.cell? ⟨d.heap.size,0,none⟩=some (.int .u64 (T:Nat))/\t.cell? ⟨d.heap.size,1,none⟩=some (.int .i64 (f:Nat))/\t.cell? ⟨d.heap.size,2,none⟩=some (.int .u64 (g:Nat))/\t.rangeAt X.heap.size 0 (Dc s):=
  ⟨N _ _ _ ae.symm O.1,N _ _ _ ae.symm O.2.1,N _ _ _ ae.symm O.2.2.1,λj v n=>N _ _ _ au.symm (O.2.2.2 j v n)⟩
 have aG:=Db I;have aI:=Db x5;have az:=Db ap;clear I x5 ap ar N ae au A aj al;refine rk 7 (λK F=>?_);go_simp;rw[Da aG];refine F.out _ _ aM (λaW=>?_);clear F K
 try simp only[pE]
 refine tk 8 ?_;refine AO (by kernel_rfl) ?_ _;clear b0 C b2 g0 g1 g2;go_wp2;have ah:=Da aI;have r0:=ah.cell 0;have r1:=ah.cell 1;have r2:=ah.cell 2;exact Ap (v:=.tuple #[.agg #[.int .u64 (T:Nat),.int .i64 (f:Nat),.int .u64 (g:Nat)],.bool OK]) (by simp[results,results201,go_sem,r0,r1,r2]) rfl ⟨rfl,Da az⟩
def K5(s0 s1:By):Option (Nat×Nat×Nat):=
 if KZ 0 s0=true/\KZ 1 s1=true then
  if IZ s0=(IZ s1+1)%18446744073709551616 then some (IZ s0,GA (Im s0),GE (Im s0))
  else if IZ s1=(IZ s0+1)%18446744073709551616 then some (IZ s1,GA (Im s1),GE (Im s1))
  else none
 else none
def Ki(o:Option (Nat×Nat×Nat)):Value:=
 match o with
 |some (t,p,x) => .tuple #[.agg #[.int .u64 (t:Nat),.int .i64 (p:Nat),.int .u64 (x:Nat)],.bool true]
 |none => .tuple #[.agg #[.int .u64 0,.int .i64 0,.int .u64 0],.bool false]
theorem Q2{w:World}{g:Nat}{t:TypeId}{a b c:Value}(h:FX w g t [a,b,c])(x y z:Value):FX (((w.setCell ⟨g,0,none⟩ x).setCell ⟨g,1,none⟩ y).setCell ⟨g,2,none⟩ z) g t [x,y,z]:=((h.set 0 x).set 1 y).set 2 z
theorem Uz{n:Nat}{w w':World}{g:Nat}(h:Below n w w')(a:n<=g)(x y z:Value):Below n w (((w'.setCell ⟨g,0,none⟩ x).setCell ⟨g,1,none⟩ y).setCell ⟨g,2,none⟩ z):=
 ((h.setCell (p:=⟨g,0,none⟩) a _).setCell (p:=⟨g,1,none⟩) a _).setCell (p:=⟨g,2,none⟩) a _
theorem ZgM(w:World)(x:Nat)(L vw K:Value)(a:OA)(l c:Nat)(D:LY)(h:DU w x L (.slice a l c) vw K D)(j m:By)(h0:D[0]?=some j)(h1:D[1]?=some m):
  Cl 135 #[.pointer (some ⟨x,0,none⟩)] w λe w'=>e=.returned (Ki (K5 j m))/\Bw w w':=by
 obtain⟨G,e1,x1,k1,z1,R⟩:=De w [.int .u64 0,.int .i64 0,.int .u64 0] 191;have S:∀X,Bw w X->DU X x L (.slice a l c) vw K D:=λX hb=>⟨(hb.block _ h.1.lt).trans h.1,⟨h.2.1.1.kept (λk hk _=>hb.block k hk),h.2.1.2⟩,h.2.2⟩
 obtain⟨f,aa⟩:∃T,T=IZ j:=⟨_,rfl⟩;obtain⟨r,W⟩:∃T,T=GA (Im j):=⟨_,rfl⟩;obtain⟨t,ac⟩:∃T,T=GE (Im j):=⟨_,rfl⟩;obtain⟨g,ab⟩:∃T,T=IZ m:=⟨_,rfl⟩;obtain⟨s,Z⟩:∃T,T=GA (Im m):=⟨_,rfl⟩;obtain⟨u,ad⟩:∃T,T=GE (Im m):=⟨_,rfl⟩;obtain⟨O,U⟩:∃b,b=KZ 0 j:=⟨_,rfl⟩;obtain⟨K1,V⟩:∃b,b=KZ 1 m:=⟨_,rfl⟩;have HC:Hid (Cl 201 #[.pointer (some ⟨x,0,none⟩),.int .i64 0] G λe X=>e=.returned (.tuple #[.agg #[.int .u64 (f:Nat),.int .i64 (r:Nat),.int .u64 (t:Nat)],.bool O])/\∃Y,X.alloc (.cells #[.int .u64 (f:Nat),.int .i64 (r:Nat),.int .u64 (t:Nat)] 191)=Y/\
   Hid (Cl 201 #[.pointer (some ⟨x,0,none⟩),.int .i64 1] Y λe y=>e=.returned (.tuple #[.agg #[.int .u64 (g:Nat),.int .i64 (s:Nat),.int .u64 (u:Nat)],.bool K1])/\∃n,y.alloc (.cells #[.int .u64 (g:Nat),.int .i64 (s:Nat),.int .u64 (u:Nat)] 191)=n/\FX n w.heap.size 191 [.int .u64 0,.int .i64 0,.int .u64 0]/\FX n X.heap.size 191 [.int .u64 (f:Nat),.int .i64 (r:Nat),.int .u64 (t:Nat)]/\FX n y.heap.size 191 [.int .u64 (g:Nat),.int .i64 (s:Nat),.int .u64 (u:Nat)]/\Hid (Bw w n))):=by
  refine(WO G x L vw K a l c D (S G R) 0 j h0).mono ?_;rintro e X⟨rfl,hX⟩;obtain⟨Y,eY,xY,kY,sY,bY⟩:=De X [.int .u64 (f:Nat),.int .i64 (r:Nat),.int .u64 (t:Nat)] 191;have aw:=hX.size;have aj:Bw w X:=R.trans (hX.mono (by omega));have J:Bw w Y:=aj.trans (bY.mono aj.size);refine⟨by rw[aa,W,ac,U],Y,eY,?_⟩;refine(WO Y x L vw K a l c D (S Y J) 1 m h1).mono ?_;rintro e y⟨rfl,I⟩;obtain⟨n,an,au,ak,ax,am⟩:=De y [.int .u64 (g:Nat),.int .i64 (s:Nat),.int .u64 (u:Nat)] 191;have av:=I.size;have y1:FX Y w.heap.size 191 _:=kY _ _ _ ((hX.block _ x1.lt).trans x1);refine⟨by rw[ab,Z,ad,V],n,an,ak _ _ _ ((I.block _ y1.lt).trans y1),ak _ _ _ ((I.block _ xY.lt).trans xY),au,J.trans ((I.mono J.size).trans (am.mono (by have:=J.size;omega)))⟩
 have F:Hid (K5 j m=if O=true/\K1=true then if f=(g+1)%18446744073709551616 then some (f,r,t) else if g=(f+1)%18446744073709551616 then some (g,s,u) else none else none):=by
  show K5 j m=_;unfold K5;rw[aa,W,ac,ab,Z,ad,U,V]
 have aq:IntKind.u64.wrap ((f:Int)+1)=(((f+1)%18446744073709551616:Nat):Int):=by simp[IntKind.wrap,IntKind.bits,IntKind.signed]
 have ar:IntKind.u64.wrap ((g:Int)+1)=(((g+1)%18446744073709551616:Nat):Int):=by simp[IntKind.wrap,IntKind.bits,IntKind.signed]
 obtain⟨P,ag⟩:∃M,M=(f+1)%18446744073709551616:=⟨_,rfl⟩;obtain⟨Q,ah⟩:∃M,M=(g+1)%18446744073709551616:=⟨_,rfl⟩;rw[<-ag]at aq F;rw[<-ah]at ar F;obtain⟨LV,H⟩:∃v,v=Ki (K5 j m):=⟨_,rfl⟩;rw[<-H];rw[Da F]at H;have A:=Db H;have al:=Db e1;clear H F ag ah e1 x1 k1 z1 R S h h0 h1 aa W ac ab Z ad U V;go_enter func135,ntmps135;go_upto_region 1 with fail;rw[show w.alloc (.cells #[.int .u64 0,.int .i64 0,.int .u64 0] 191)=G from Da al];go_upto_region 2 with(go_at_call 201;refine(Da HC).mono ?_;rintro e X⟨rfl,Y,hY,ae⟩;have HY:=Db hY;clear hY);rw[show X.alloc (.cells #[.int .u64 (f:Nat),.int .i64 (r:Nat),.int .u64 (t:Nat)] 191)=Y from Da HY];go_upto_region 3 with(go_at_call 201;refine(Da ae).mono ?_;rintro e y⟨rfl,n,ai,i,r1,r2,z⟩;have af:=Db ai;clear ai);rw[show y.alloc (.cells #[.int .u64 (g:Nat),.int .i64 (s:Nat),.int .u64 (u:Nat)] 191)=n from Da af];have a0:=i.cell 0;have a1:=i.cell 1;have a2:=i.cell 2;have f0:=i.frozen 0;have f1:=i.frozen 1;have f2:=i.frozen 2;have c0:=r1.cell 0;have c1:=r1.cell 1;have c2:=r1.cell 2;have d0:=r2.cell 0;have d1:=r2.cell 1;have d2:=r2.cell 2;clear HC ae HY af
 cases O
 ·go_wp2;have d:=Q2 i (.int .u64 0) (.int .i64 0) (.int .u64 0);have o:=d.cell 0;have p:=d.cell 1;have q:=d.cell 2;exact Ap (v:=Ki none) (by simp[results,results135,go_sem,o,p,q,Ki]) rfl ⟨by rw[Da A];simp,Uz (Da z) (Aa _) _ _ _⟩
 ·cases K1
  ·go_wp2;have d:=Q2 i (.int .u64 0) (.int .i64 0) (.int .u64 0);have o:=d.cell 0;have p:=d.cell 1;have q:=d.cell 2;exact Ap (v:=Ki none) (by simp[results,results135,go_sem,o,p,q,Ki]) rfl ⟨by rw[Da A];simp,Uz (Da z) (Aa _) _ _ _⟩
  ·by_cases B:f=Q
   ·have ao:((f:Int)==(Q:Int))=true:=by rw[B];simp
    have E:=Db B;clear B;go_wp2;have d:=Q2 i (.int .u64 (f:Nat)) (.int .i64 (r:Nat)) (.int .u64 (t:Nat));have o:=d.cell 0;have p:=d.cell 1;have q:=d.cell 2;exact Ap (v:=Ki (some (f,r,t))) (by simp[results,results135,go_sem,o,p,q,Ki]) rfl ⟨by rw[Da A];simp[Da E],Uz (Da z) (Aa _) _ _ _⟩
   ·have ao:((f:Int)==(Q:Int))=false:=by rw[Bm];omega
    have E:=Db B;clear B;by_cases C:g=P
    ·have ap:((g:Int)==(P:Int))=true:=by rw[C];simp
     have N:=Db C;clear C;go_wp2;have d:=Q2 i (.int .u64 (g:Nat)) (.int .i64 (s:Nat)) (.int .u64 (u:Nat));have o:=d.cell 0;have p:=d.cell 1;have q:=d.cell 2;exact Ap (v:=Ki (some (g,s,u))) (by simp[results,results135,go_sem,o,p,q,Ki]) rfl ⟨by rw[Da A];simp[Da E,Da N],Uz (Da z) (Aa _) _ _ _⟩
    ·have ap:((g:Int)==(P:Int))=false:=by rw[Bm];omega
     have N:=Db C;clear C;go_wp2;have d:=Q2 i (.int .u64 0) (.int .i64 0) (.int .u64 0);have o:=d.cell 0;have p:=d.cell 1;have q:=d.cell 2;exact Ap (v:=Ki none) (by simp[results,results135,go_sem,o,p,q,Ki]) rfl ⟨by rw[Da A];simp[Da E,Da N],Uz (Da z) (Aa _) _ _ _⟩
theorem Zdd{P:Program}{fn:Func}{p q:Tmp}{ty:TypeId}(h:fn.results = #[.cell p ty,.tmp q])(tmps:Array Value)(w:World)(g:Nat)(t:TypeId)(a:Array Value)(b:Nat×Nat)(d:TypeDesc)(i:tmps.getD p undef=.pointer (some ⟨g,0,none⟩))(e:w.heap[g]?=some (.cells a t b))(k:P.underlying ty=some d)(c:(match d with|.struct _|.array _ _=>true|_=>false)=true)(f:(P.info? ty).map (·.size)=some a.size):
  (results fn tmps).run P w=.ok (.tuple #[.agg a,tmps.getD q undef]) w:=by
 have j:tmps[p]?.getD undef=.pointer (some ⟨g,0,none⟩):=by simpa using i
 simp[results,h,j,asAddr,run_loadVar_row w g t ty a b d e k c f]
theorem Zx(L a:F0)(h:a.length=L.length):F2 L 0 a=a:=by
 unfold F2;simp[h]
def Zi(w:World)(rb p:Nat)(L:F0)(s:By)(e:Ending)(w':World):Prop:=
 e=.returned (.tuple #[DA s,.bool true])/\FX w' rb 197 (L.set (4+p) (.bool true))/\Fr (λk=>k=rb) w w'
theorem ZA(w:World)(b i:Nat)(L:F0)(J:FX w b 197 L)(ac:L[0]?=some (.pointer (some ⟨i,0,none⟩)))(T vw R:Value)(a:OA)(l c:Nat)(D:LY)(h:DU w i T (.slice a l c) vw R D)(ah:b≠i)(ai:¬Own (.slice a l c) b)(p x:Nat)(aK:16<=p)(aL:p<1536)(H:L[4+p]?=some (.bool false))(s:By)(O:D[p]?=some s):
  Cl 241 #[.pointer (some ⟨b,0,none⟩),.agg #[.int .i64 (p:Nat),.int .u64 (x:Nat)]] w (Zi w b p L s):=by
 have aj:s.size=64:=h.2.1.2 s (Ar O);obtain⟨E,e1,x1,k1,z1,b1⟩:=De w [.int .i64 (p:Nat),.int .u64 (x:Nat)] 175;obtain⟨j,e2,U,Q,z2,b2⟩:=De E (Dc (Dn 64)) 188;rw[z1]at U;have r:Bw w j:=b1.trans (b2.mono (by omega));have aM:=J.lt;have W:=Q _ _ _ x1;have Y:=Q _ _ _ (k1 _ _ _ J);obtain⟨VB,I⟩:∃V,V=DA s:=⟨_,rfl⟩;have aa:Hid (∀f:World,f.heap=j.heap->f.os=j.os->f.tape=j.tape->f.output=j.output->f.cell? ⟨w.heap.size,0,none⟩=some (.int .i64 (p:Nat))/\f.cell? ⟨b,4+p,none⟩=some (.bool false)/\f.frozen? ⟨b,4+p,none⟩=false/\∃d,f.setCell ⟨b,4+p,none⟩ (.bool true)=d/\d.cell? ⟨w.heap.size,0,none⟩=some (.int .i64 (p:Nat))/\d.cell? ⟨b,0,none⟩=some (.pointer (some ⟨i,0,none⟩))/\
   Hid (Cl 239 #[.pointer (some ⟨i,0,none⟩),.int .i64 (p:Nat)] d.drew λe X=>e=.returned VB/\X.cell? ⟨w.heap.size,0,none⟩=some (.int .i64 (p:Nat))/\X.cell? ⟨b,0,none⟩=some (.pointer (some ⟨i,0,none⟩))/\FX X (w.heap.size+1) 188 (Dc (Dn 64))/\∃Z,X.setRow (w.heap.size+1) (Dc s).toArray=Z/\Z.cell? ⟨w.heap.size,0,none⟩=some (.int .i64 (p:Nat))/\Z.cell? ⟨b,0,none⟩=some (.pointer (some ⟨i,0,none⟩))/\FX Z (w.heap.size+1) 188 (Dc s)/\Hid (FX Z b 197 (L.set (4+p) (.bool true))/\Fr (λk=>k=b) w Z))):=λf u ho ht hu=>by
  have N:FX f b 197 L:=by unfold FX;rw[u];exact Y
  have ap:FX f w.heap.size 175 [.int .i64 (p:Nat),.int .u64 (x:Nat)]:=by unfold FX;rw[u];exact W
  have aB:FX f (w.heap.size+1) 188 (Dc (Dn 64)):=by unfold FX;rw[u];exact U
  obtain⟨d,n⟩:∃X,f.setCell ⟨b,4+p,none⟩ (.bool true)=X:=⟨_,rfl⟩;have t:Fr (λk=>k=b) w d:=by
   rw[<-n];exact Fr.set (X:=λk=>k=b) (w':=f) ⟨ho.trans r.os,ht.trans r.tape,hu.trans r.output,by rw[u];exact r.size,λk A _=>by rw[u];exact r.block k A⟩ ⟨b,4+p,none⟩ _ rfl
  have M:FX d b 197 (L.set (4+p) (.bool true)):=by rw[<-n];exact N.set (4+p) _
  have P:FX d w.heap.size 175 [.int .i64 (p:Nat),.int .u64 (x:Nat)]:=by rw[<-n];exact(Aw _ _ _ _ (show w.heap.size≠b by omega)).trans ap
  have ak:FX d (w.heap.size+1) 188 (Dc (Dn 64)):=by rw[<-n];exact(Aw _ _ _ _ (show w.heap.size+1≠b by omega)).trans aB
  have G:(L.set (4+p) (.bool true))[0]?=some (.pointer (some ⟨i,0,none⟩)):=by rw[AB (by omega)];exact ac
  have ae:Fr (λk=>k=b) w d.drew:=⟨t.os,t.tape,t.output,t.size,t.block⟩;have ay:DU d.drew i T (.slice a l c) vw R D:=⟨h.1.fr ae (λ(e:i=b)=>ah e.symm),⟨h.2.1.1.fr ae (λg hg (e:g=b)=>ai (by rw[<-e];exact hg)),h.2.1.2⟩,h.2.2⟩;refine⟨(ap.cell 0).trans rfl,(N.cell _).trans H,N.frozen _,d,n,(P.cell 0).trans rfl,(M.cell 0).trans G,?_⟩;refine(PC d.drew i T vw R a l c D ay p s O).mono ?_;rintro e X⟨rfl,y⟩;have C:Bw d X:=⟨y.os,y.tape,y.output,y.size,y.block⟩;have af:FX X b 197 _:=(C.block _ M.lt).trans M;have ao:FX X w.heap.size 175 _:=(C.block _ P.lt).trans P;have al:FX X (w.heap.size+1) 188 _:=(C.block _ ak.lt).trans ak;have so:∀k,k≠w.heap.size+1->(X.setRow (w.heap.size+1) (Dc s).toArray).heap[k]?=X.heap[k]? := λk A=>BD X _ k _ A
  have ag:FX (X.setRow (w.heap.size+1) (Dc s).toArray) b 197 _:=(so _ (by omega)).trans af;have aC:FX (X.setRow (w.heap.size+1) (Dc s).toArray) w.heap.size 175 _:=(so _ (by omega)).trans ao;refine⟨by rw[I],(ao.cell 0).trans rfl,(af.cell 0).trans G,al,_,rfl,(aC.cell 0).trans rfl,(ag.cell 0).trans G,BW X _ _ _ 188 _ al,ag,?_⟩;have z:Fr (λk=>k=b) w X:=t.then (Fr.of_below (X:=λ_=>False) C) (λ_ _ e=>e.elim);exact⟨z.os,z.tape,z.output,by simp[World.setRow];exact z.size,λk A aA=>(so k (by omega)).trans (z.block k A aA)⟩
 have F:j.cell? ⟨w.heap.size,0,none⟩=some (.int .i64 (p:Nat)):=(W.cell 0).trans rfl;have ct:j.cell? ⟨b,4+p,none⟩=some (.bool false):=(Y.cell _).trans H;have aH:¬((p:Int)<16):=by omega
 have aI:¬((1536:Int)<=(p:Int)):=by omega
 have aJ:(p:Int)<1536:=by omega
 have ad:(Dc s).length=64:=by rw[Dg,aj]
 have B:=Db ad;have au:=Db I;have aq:=Db e1;have ar:=Db e2;clear e1 e2 x1 U k1 Q z1 z2 b1 b2 W Y J ac h ah ai H O aj I ad r;go_enter func241,ntmps241;go_upto_region 1 with(refine JN rfl 188 rfl Kx ?_);rw[show w.alloc (.cells #[.int .i64 (p:Nat),.int .u64 (x:Nat)] 175)=E from Da aq,show E.alloc (.cells (Dc (Dn 64)).toArray 188)=j from Da ar]
 go_quiet (fail)
 obtain⟨Wq,o⟩:∃X,j.drewN nq=X:=⟨_,rfl⟩;rw[o];have hq:=Da aa Wq.drew (by rw[<-o];rfl) (by rw[<-o];rfl) (by rw[<-o];rfl) (by rw[<-o];rfl);clear aa o F ct;obtain⟨F,ct,aG,d,n,c3,d3,HC⟩:=hq;have av:=Db n;clear n;go_upto_region 3 with fail;refine AE (S:=λX=>X.cell? ⟨w.heap.size,0,none⟩=some (.int .i64 (p:Nat))) (by kernel_rfl) F (λaz=>?_);refine tk 0 ?_;refine tk 1 ?_;refine tk 2 ?_;refine tk 3 ?_;refine tk 4 ?_;refine tk 5 ?_;refine rk 6 (λK m=>?_);go_simp;rw[show(Wq.setCell ⟨b,4+p,none⟩ (.bool true)).drew=d from Da av];refine m.out _ _ c3 (λaD=>?_);clear m K
 try simp only[pE]
 refine AO (by kernel_rfl) ?_ _;go_upto_region 4 with fail;refine AE (S:=λX=>X.cell? ⟨w.heap.size,0,none⟩=some (.int .i64 (p:Nat))/\X.cell? ⟨b,0,none⟩=some (.pointer (some ⟨i,0,none⟩))) (by kernel_rfl) ⟨c3,d3⟩ (λaz=>?_);refine tk 0 ?_;refine tk 1 ?_;refine tk 2 ?_;refine tk 3 ?_;refine tk 4 ?_;refine tk 5 ?_;refine rk 6 (λK m=>?_);go_simp;go_at_call 239;refine(Da HC).mono ?_;rintro e X⟨rfl,cX,dX,am,Z,hZ,cZ,dZ,an,ab⟩;have aw:=Db am;have ax:=Db an;have HZ:=Db hZ;clear HC am an hZ;go_wp2_with fail;refine m.out _ _ ⟨cX,dX⟩ (λaE=>?_);clear m K
 try simp only[pE]
 refine rk 7 (λK m=>?_);refine Xw rfl 188 _ _ rfl (w.heap.size+1) 0 188 (Dc (Dn 64)) (Dc s) rfl (Da au) (Da aw) (by rw[Da B,Dg,Jr];omega) (by rw[Jf,Da B]) (Ko s) Z (by rw[Zx _ _ (by rw[Da B,Dg,Jr])];exact Da HZ) ?_;refine m.out _ _ ⟨cZ,dZ⟩ (λaF=>?_);clear m K
 try simp only[pE]
 refine tk 8 ?_;refine AO (by kernel_rfl) ?_ _;go_wp2_with fail;refine Ap (v:=.tuple #[DA s,.bool true]) ?_ rfl ⟨rfl,(Da ab).1,(Da ab).2⟩;exact Zdd (fn:=Tryz.f241) (p:=4) (q:=5) (ty:=188) rfl _ _ (w.heap.size+1) 188 (Dc s).toArray (0,0) _ rfl (Da ax) UN rfl (by rw[Jf];simp[Da B])
end Go.Proofs.YtaieidcohdhgpaaGreatDoor
