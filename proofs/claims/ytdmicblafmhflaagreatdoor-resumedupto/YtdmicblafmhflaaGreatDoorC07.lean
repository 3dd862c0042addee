/- The parser: rules. -/
import Derived.Test.YtdmicblafmhflaaGreatDoorC06
import Derived.Test.YtdmicblafmhflaaGreatDoorC00
import Derived.BigQuiet
import Derived.Deep.QuietTactic
import Derived.Laws.AppendOwnNone
set_option linter.unusedSimpArgs false
set_option linter.unusedVariables false
set_option maxHeartbeats 2000000
namespace Go.Proofs.YtdmicblafmhflaaGreatDoor
section
open Go.RowKit
theorem K9(w:World)(pb:Nat)(tv:Value)(ae:List Ax.Tok)(nx j:Nat)(r:Ax.bD)(h:dF w pb tv ae nx)(hR:Hid (Ax.eP ae nx=(some r,j))):
 Calls Tryz.prog 179 #[.pointer (some ⟨pb,0,none⟩)] w fun e w'=>∃ad n c bd m d l,e=.returned (.tuple #[.agg #[.int .i64 r.head.at_,.string r.head.pred,.slice ad n c,.slice bd m d],.bool true])∧dF w' pb tv ae j∧w.grownBy w' (some pb)∧MR.ok w' ⟨(r.head,.slice ad n c),.slice bd m d,l⟩∧Hid (l.map Prod.fst=r.body):=by
 have mm:=h.2.2.2.2
 have hR:=hR.out
 rcases hA:Ax.b8 ae nx with⟨_ | a,j1⟩
 · rw[Ax.oX hA]at hR;simp at hR
 · have Su:=Ax.kN mm h.2.2.1 hA
   have ye:ae[j1]?=some ae[j1]:=List.getElem?_eq_getElem Su
   have nV:=Ax.cZ ye
   by_cases h8:Ax.aM ae j1=8
   · have hn:=Ax.lZ mm Su h8 (by omega)
     rcases hB:Ax.bV ae ae.length (j1+1) []with⟨_ | b,j2⟩
     · rw[Ax.o7 hA h8 hB]at hR;simp at hR
     · have hj2:=Ax.mG mm _ _ _ hn hB
       have s9:ae[j2]?=some ae[j2]:=List.getElem?_eq_getElem hj2
       have mA:=Ax.cZ s9
       by_cases h7:Ax.aM ae j2=7
       · rw[Ax.nh hA h8 hB h7]at hR
         simp only[Prod.mk.injEq,Option.some.injEq]at hR
         obtain⟨rfl,rfl⟩:=hR
         refine(TO w pb tv ae nx h j1 a hA _ ye (by rw[nV]at h8;simpa using h8) j2 b hB _ s9 (by rw[mA]at h7;simpa using h7)).mono ?_
         rintro e w' ⟨ad,c,bd,d,l,rfl,hp,hg,dj,hl⟩
         exact⟨_,_,_,_,_,_,l,rfl,hp,hg,dj,hl⟩
       · rw[Ax.po hA h8 hB h7]at hR;simp at hR
   · by_cases h7:Ax.aM ae j1=7
     · rw[Ax.nb hA h8 h7]at hR
       simp only[Prod.mk.injEq,Option.some.injEq]at hR
       obtain⟨rfl,rfl⟩:=hR
       refine(SV w pb tv ae nx h j1 a hA _ ye (by rw[nV]at h8;simpa using h8) (by rw[nV]at h7;simpa using h7)).mono ?_
       rintro e w' ⟨ad,c,bd,d,l,rfl,hp,hg,dj,hl⟩
       exact⟨_,_,_,_,_,_,l,rfl,hp,hg,dj,hl⟩
     · rw[Ax.pv hA h8 h7]at hR;simp at hR
theorem Ki(w:World)(pb:Nat)(tv:Value)(ae:List Ax.Tok)(nx j:Nat)(h:dF w pb tv ae nx)(hR:Hid (Ax.eP ae nx=(none,j))):
 Calls Tryz.prog 179 #[.pointer (some ⟨pb,0,none⟩)] w fun e w'=>∃x y ad n c bd m d,e=.returned (.tuple #[.agg #[.int .i64 x,.string y,.slice ad n c,.slice bd m d],.bool false])∧dF w' pb tv ae j∧w.grownBy w' (some pb):=by
 have mm:=h.2.2.2.2
 have hR:=hR.out
 rcases hA:Ax.b8 ae nx with⟨_ | a,j1⟩
 · rw[Ax.oX hA]at hR
   simp only[Prod.mk.injEq,true_and]at hR
   subst hR
   exact UR w pb tv ae nx h j1 hA
 · have Su:=Ax.kN mm h.2.2.1 hA
   have ye:ae[j1]?=some ae[j1]:=List.getElem?_eq_getElem Su
   have nV:=Ax.cZ ye
   by_cases h8:Ax.aM ae j1=8
   · have hn:=Ax.lZ mm Su h8 (by omega)
     rcases hB:Ax.bV ae ae.length (j1+1) []with⟨_ | b,j2⟩
     · rw[Ax.o7 hA h8 hB]at hR
       simp only[Prod.mk.injEq,true_and]at hR
       subst hR
       exact Uj w pb tv ae nx h j1 a hA _ ye (by rw[nV]at h8;simpa using h8) j2 hB
     · have hj2:=Ax.mG mm _ _ _ hn hB
       have s9:ae[j2]?=some ae[j2]:=List.getElem?_eq_getElem hj2
       have mA:=Ax.cZ s9
       by_cases h7:Ax.aM ae j2=7
       · rw[Ax.nh hA h8 hB h7]at hR;simp at hR
       · rw[Ax.po hA h8 hB h7]at hR
         simp only[Prod.mk.injEq,true_and]at hR
         subst hR
         exact SQ w pb tv ae nx h j1 a hA _ ye (by rw[nV]at h8;simpa using h8) j2 b hB _ s9 (by rw[mA]at h7;simpa using h7)
   · by_cases h7:Ax.aM ae j1=7
     · rw[Ax.nb hA h8 h7]at hR;simp at hR
     · rw[Ax.pv hA h8 h7]at hR
       simp only[Prod.mk.injEq,true_and]at hR
       subst hR
       exact Vy w pb tv ae nx h j1 a hA _ ye (by rw[nV]at h8;simpa using h8) (by rw[nV]at h7;simpa using h7)
def cJ(l:List MR):List Value:=l.flatMap fun r=>[.int .i64 r.head.1.at_,.string r.head.1.pred,r.head.2,r.bv]
theorem vI(l:List MR)(r:MR):cJ (l++[r])=cJ l++[.int .i64 r.head.1.at_,.string r.head.1.pred,r.head.2,r.bv]:=by simp[cJ]
theorem Tryz.Md:(Tryz.prog.info? 222).map (fun i=>(i.zero,i.size,i.bytes))=some (some (.agg #[.int .i64 0,.string ByteArray.empty,.slice none 0 0,.slice none 0 0]),4,72):=by kernel_rfl
def Iv(w:World)(l:List MR):Prop:=∀r,r∈l→MR.ok w r
theorem P9(w:World):Iv w []:=fun _ h=>by cases h
theorem o9{w w':World}{l:List MR}(h:Iv w l)(hb:Below w.heap.size w w'):Iv w' l:=fun x hx=>MR.below (h x hx) hb
theorem LK{w w':World}{l:List MR}{pb:Nat}{tv:Value}{ae:List Ax.Tok}{nx:Nat}(h:Iv w l)(hp:dF w pb tv ae nx)(hg:w.grownBy w' (some pb)):Iv w' l:=fun x hx=>MR.step (h x hx) hp hg
theorem NB{w:World}{l:List MR}{x:MR}(h:Iv w l)(hx:MR.ok w x):Iv w (l++[x]):=by
 intro y hy
 rcases List.mem_append.1 hy with hy | hy
 · exact h y hy
 · simp at hy;subst hy;exact hx
theorem Df{w w1 w2:World}{pb:Nat}{tv v:Value}{ae:List Ax.Tok}{nx n:Nat}{xs:List Value}{o1 o2:Obj}{l:List MR}{x:MR}(bH:w1.ownsRow w.heap.size 222 4 v n xs)(fW:dF w1 pb tv ae nx)(hg:w.grownBy w1 (some pb))(dj:Iv w1 l)(hx:MR.ok w1 x)
 (bx:((w1.alloc o1).alloc o2).grownBy w2 v.ownBlock):dF w2 pb tv ae nx∧w.grownBy w2 (some pb)∧Iv w2 (l++[x]):=
 ⟨((fW.alloc o1).alloc o2).row bx (bK ((bH.alloc o1).alloc o2)) (by decide) (by decide),
  oz (grownBy_alloc (grownBy_alloc hg _) _) bx (fun k hk=>(bH.lt k hk).1),
  fun y hy=>MR.type (w:=(w1.alloc o1).alloc o2) (MR.below (NB dj hx y hy) (((Below.refl _ _).alloc (Nat.le_refl _) _).alloc (by simp) _)) bx (bK ((bH.alloc o1).alloc o2)) (by decide) (by decide)⟩
def Ng(w wr:World)(pb:Nat)(tv:Value)(ae:List Ax.Tok)(v:Value)(nx k:Nat)(acc:List MR)(R:Option (List Ax.bD)×Nat):Prop:=
 dF wr pb tv ae nx∧wr.ownsRow w.heap.size 222 4 v acc.length (cJ acc)∧Iv wr acc∧w.grownBy wr (some pb)∧acc.length≤nx∧ae.length≤nx+k∧Ax.cU ae k nx (acc.map MR.ay)=R
theorem J8(w:World)(pb:Nat)(tv:Value)(ae:List Ax.Tok)(nx:Nat)(h:dF w pb tv ae nx):
 Calls Tryz.prog 104 #[.pointer (some ⟨pb,0,none⟩)] w fun e w'=>dF w' pb tv ae (Ax.cU ae ae.length nx []).2∧w.grownBy w' (some pb)∧
  ((∃v l,e=.returned (.tuple #[v,.bool true])∧(Ax.cU ae ae.length nx []).1=some (l.map MR.ay)∧w'.ownsRow w.heap.size 222 4 v l.length (cJ l)∧Iv w' l)∨
   (e=.returned (.tuple #[.slice none 0 0,.bool false])∧(Ax.cU ae ae.length nx []).1=none)):=by
 obtain⟨i0,hi,ew,ev,dY⟩:=info_parts Tryz.Md
 generalize hR:Ax.cU ae ae.length nx []=R
 have vO:=lt_of_heap h.1
 have yh:=Tryz.tP
 go_enter Tryz.func104,Tryz.ntmps104
 go_wp2_with fail
 go_loopg [4] ae.length (fun k v wr=>∃(i:Nat) (acc:List MR),Ng w wr pb tv ae v i k acc R)
 case atStart=>exact⟨nx,[],h,World.ownsRow_nil _ _ _ _,P9 _,il _ _,Nat.zero_le _,by omega,hR⟩
 case round=>
  obtain⟨i,acc,hp,au,dj,hg,Ps,hlen,hr⟩:=hrel
  have aG:=hp.2.2.1
  have hle:=hp.2.2.2.1
  have mm:=hp.2.2.2.2
  have cR:=hg.size
  cases gk with
  | zero=>omega
  | succ k=>
  have zm:Hid (Ax.cU ae (k+1) i (acc.map MR.ay)=R):=hr
  clear hr hR
  obtain⟨t,LD⟩:∃t,ae[i]?=some t:=⟨_,List.getElem?_eq_getElem aG⟩
  have hka:=Ax.cZ LD
  have ht:Hid (ae[i]?=some t):=LD
  clear LD
  by_cases h1:t.kind=1
  · have e:Hid (R=(some (acc.map MR.ay),i)):=zm.out.symm.trans (Ax.na (by rw[hka];exact h1))
    have cE:(t.kind != 1)=false:=by simp[h1]
    clear h1 hka
    go_wp2_with (first | (go_at_call 105;refine(eI _ _ _ _ _ hp _ ht).mono ?_;rintro e w0 ⟨rfl,bU⟩;have zg:=hp.below bU;have ig:=ah au bU;have QG:=o9 dj bU;have mJ:=ax hg (aW bU (some pb))))
    go_ret2
    exact⟨by rw[e.out];exact zg,mJ,.inl ⟨_,acc,rfl,by rw[e.out],ig,QG⟩⟩
  · have nV:Hid (¬Ax.aM ae i=1):=by rw[hka];exact h1
    have cE:(t.kind != 1)=true:=by simp[h1]
    clear h1 hka
    rcases EC:Ax.eP ae i with⟨_ | r,j⟩
    · have hA:Hid (Ax.eP ae i=(none,j)):=EC
      clear EC
      go_wp2_with (first | (go_at_call 105;refine(eI _ _ _ _ _ hp _ ht).mono ?_;rintro e w0 ⟨rfl,bU⟩;have zg:=hp.below bU;have ig:=ah au bU;have QG:=o9 dj bU;have mJ:=ax hg (aW bU (some pb))) | (go_at_call 179;refine(Ki _ _ _ _ _ _ zg hA).mono ?_;rintro e w1 ⟨x,y,ad,n,c,bd,m,d,rfl,fW,ft⟩))
      go_ret2
      have e:=zm.out.symm.trans (Ax.oE nV.out hA.out)
      exact⟨by rw[e];exact fW.alloc _,grownBy_alloc (ax mJ ft) _,.inr ⟨rfl,by rw[e]⟩⟩
    · have hA:Hid (Ax.eP ae i=(some r,j)):=EC
      have hj:=(Ax.Cx mm aG EC).1
      have Yp:=(Ax.Cx mm aG EC).2 (by simp)
      clear EC
      have kI:Hid (Ax.cU ae (k+1) i (acc.map MR.ay)=Ax.cU ae k j (acc.map MR.ay++[r])):=Ax.pz nV.out hA.out
      go_wp2_with (first | (go_at_call 105;refine(eI _ _ _ _ _ hp _ ht).mono ?_;rintro e w0 ⟨rfl,bU⟩;have zg:=hp.below bU;have ig:=ah au bU;have QG:=o9 dj bU;have mJ:=ax hg (aW bU (some pb))) | (go_at_call 179;refine(K9 _ _ _ _ _ _ _ zg hA).mono ?_;rintro e w1 ⟨ad,n,c,bd,m,d,l,rfl,fW,ft,xK,hl⟩;have bH:=cY ig zg ft (by decide);have kV:=(ax mJ ft).size;have nU:=LK QG zg ft) | (at_builtin;refine wpList_append_own _ rfl (.tmp 18) (.tmp 20) 99 rfl w.heap.size 222 i0 _ 4 72 Tryz.underlying99 hi ew ev dY rfl (by decide) _ _ _ rfl ((bH.alloc _).alloc _) ⟨w1.heap.size+1,0,none⟩ 1 1 [.int .i64 r.head.at_,.string r.head.pred,.slice ad n c,.slice bd m d] rfl rfl (eY _ _ _ _) (by simp[Value.oneCell']) (by unfold maxLen;omega) (by omega) (by simp;omega) ?_;intro v2 w2 aP bx _;obtain⟨jZ,eE,tA⟩:=Df bH fW (ax mJ ft) nU xK bx;clear bx bH fW nU xK))
      go_roundg k
      case measure=>omega
      case rel=>
       refine⟨j,acc++[⟨(r.head,.slice ad n c),.slice bd m d,l⟩],jZ, ?_,tA,eE,by simp;omega,by omega, ?_⟩
       · rw[vI];simpa using aP
       · rw[List.map_append]
         have e:MR.ay ⟨(r.head,.slice ad n c),.slice bd m d,l⟩=r:=by simp only[MR.ay];rw[hl.out]
         rw[List.map_singleton,e]
         exact kI.out.symm.trans zm.out
end
/- slices.Index, slices.Contains at strings and at terms. -/
section
open Go.RowKit
theorem aD{w:World}{b:Nat}{e:TypeId}{size:Nat}{ad:Option Addr}{n c:Nat}{xs:List Value}(h:w.ownsRow b e size (.slice ad n c) n xs)(hn:0<n):
 ∃g,ad=some ⟨g,0,none⟩∧g<w.heap.size∧n≤c∧∀j u,xs[j]?=some u→w.cell? ⟨g,j,none⟩=some u:=by
 have br:=fun g hg=>World.ownsRow.cells h (g:=g) hg
 rcases h.2 with⟨e1,e2⟩ | ⟨g,cap,cur,e1,_,hg,hc,_⟩
 · omega
 · simp only[Value.slice.injEq]at e1
   obtain⟨rfl,_,rfl⟩:=e1
   refine⟨g,rfl,lt_of_heap hg,hc, ?_⟩
   intro j u hu
   have:=br g rfl j u hu
   have ef:(⟨g,0,none⟩:Addr).add j=⟨g,j,none⟩:=by unfold Addr.add;split<;>simp_all
   rw[ef]at this
   exact this
theorem be{w:World}{b:Nat}{e:TypeId}{size:Nat}{v:Value}{n:Nat}{xs:List Value}(h:w.ownsRow b e size v n xs):n≤9223372036854775807:=by
 rcases h.2 with⟨_,rfl⟩ | ⟨g,cap,cur,_,_,_,h1,h2,_⟩
 · omega
 · unfold maxLen at h2;omega
def strCells(l:List ByteArray):List Value:=l.map .string
theorem Bq(l:List ByteArray)(k:Nat)(h:k<l.length):(strCells l)[k]?=some (.string l[k]):=by simp[strCells,h]
theorem fi(a b:ByteArray):(a.toList==b.toList)=decide (a=b):=by
 rw[toList_eq,toList_eq,Bool.eq_iff_iff]
 rcases a with⟨⟨a⟩⟩
 rcases b with⟨⟨b⟩⟩
 simp
theorem B8(w:World)(b:Nat)(ad:Option Addr)(c:Nat)(l:List ByteArray)(v:ByteArray)(h:w.ownsRow b 9 1 (.slice ad l.length c) l.length (strCells l)):
 Calls Tryz.prog 261 #[.slice ad l.length c,.string v] w fun e w'=>∃i:Int,e=.returned (.int .i64 i)∧(0≤i↔v∈l)∧w'=w:=by
 have hle:=be h
 go_enter Tryz.func261,Tryz.ntmps261
 go_wp2_with fail
 go_loop [8] (fun i=>∃k:Nat,k≤l.length∧i=.int .i64 k∧∀j (hj:j<l.length),j<k→v≠l[j]) (fun i=>l.length-(intOf i).toNat)
 case atStart=>exact⟨0,Nat.zero_le _,rfl,fun j _ hj=>by omega⟩
 case round=>
  obtain⟨k,hk,rfl,jK⟩:=hrel
  have vz:Hid (∀j (hj:j<l.length),j<k→v≠l[j]):=jK
  clear jK
  by_cases aG:k<l.length
  · obtain⟨g,rfl,hg,hc,br⟩:=aD h (by omega)
    have kq:=br _ _ (Bq l k aG)
    clear br
    generalize hx:l[k]=x at kq
    have HX:Hid (l[k]=x):=hx
    clear hx
    by_cases hv:v=x
    · have hb:(v.toList==x.toList)=true:=by rw[fi];simp[hv]
      have HV:Hid (v=x):=hv
      clear hv
      go_wp2_with fail
      go_ret
      refine⟨k,rfl,⟨fun _=> ?_,fun _=>by omega⟩,rfl⟩
      rw[HV.out,←HX.out]
      exact List.getElem_mem aG
    · have hb:(v.toList==x.toList)=false:=by rw[fi];simp[hv]
      have HV:Hid (¬v=x):=hv
      clear hv
      go_wp2_with fail
      go_round
      case rel=>
       refine⟨k+1,by omega,by go_num,fun j hj hjk=> ?_⟩
       by_cases e:j=k
       · subst e;rw[HX.out];exact HV.out
       · exact vz.out j hj (by omega)
      case measure=>simp[intOf];omega
  · go_wp2_with fail
    go_ret
    refine⟨-1,rfl,⟨fun h=>by omega,fun hm=> ?_⟩,rfl⟩
    obtain⟨j,hj,e⟩:=List.getElem_of_mem hm
    exact absurd e.symm (vz.out j hj (by omega))
theorem nL(w:World)(b:Nat)(ad:Option Addr)(c:Nat)(l:List ByteArray)(v:ByteArray)(h:w.ownsRow b 9 1 (.slice ad l.length c) l.length (strCells l)):
 Calls Tryz.prog 225 #[.slice ad l.length c,.string v] w fun e w'=>e=.returned (.bool (Ax.has l v))∧w'=w:=by
 have hle:=be h
 go_enter Tryz.func225,Tryz.ntmps225
 go_wp2_with (go_at_call 261;refine(B8 _ _ _ _ _ _ h).mono ?_;rintro e w' ⟨i,rfl,hi,rfl⟩;have HI:Hid (0≤i↔v∈l):=hi;clear hi)
 go_ret
 exact⟨fe (by rw[Bool.eq_iff_iff];rw[Ax.Ht];simp;exact HI.out),rfl⟩
end
/- slices.Index, slices.Contains at terms. -/
section
open Go.RowKit
theorem fh(l:List Ax.Term)(k:Nat)(h:k<l.length):
 (cf l)[k*2]?=some (.int .i64 l[k].kind)∧(cf l)[k*2+1]?=some (.string l[k].text):=by
 induction l generalizing k with
 | nil=>simp at h
 | cons a l ih=>
  cases k with
  | zero=>simp[cf]
  | succ k=>
   have:=ih k (by simpa using h)
   have e:∀j,(cf (a::l))[(k+1)*2+j]?=(cf l)[k*2+j]?:=by
    intro j
    have:cf (a::l)=[.int .i64 a.kind,.string a.text]++cf l:=by simp[cf]
    rw[this,List.getElem?_append_right (by simp;omega)]
    congr 1
    simp;omega
   have e0:=e 0
   simp only[Nat.add_zero]at e0
   rw[e0,e 1]
   simpa using this
theorem tY(w:World)(o:Obj)(n:Nat):Below w.heap.size w ((w.alloc o).drewN n):=
 ((Below.refl _ _).alloc (Nat.le_refl _) _).trans ⟨rfl,rfl,rfl,Nat.le_refl _,fun _ _=>rfl⟩
theorem Tryz.F2:(Tryz.prog.fieldsOf 310).toList=[{name:= "Kind",type:=308,offset:=0,embedded:=false,tag:= "",pkgPath:= "",byteOffset:=0},{name:= "Text",type:=9,offset:=1,embedded:=false,tag:= "",pkgPath:= "",byteOffset:=8}]:=by kernel_rfl
theorem Tryz.Ga:Tryz.prog.underlying 310=some (.struct (Tryz.prog.fieldsOf 310)):=by kernel_rfl
theorem Tryz.Oc:Tryz.prog.stoodInHeld 310=false:=by kernel_rfl
theorem Tryz.KB:Tryz.prog.eqGuardType Tryz.prog.depth 310=false:=by kernel_rfl
theorem Br(a b:Int)(s t:ByteArray)(w:World):(binOp .eql 310 (.agg #[.int .i64 a,.string s]) (.agg #[.int .i64 b,.string t])).run Tryz.prog w=.ok (.bool (Ax.Term.beq ⟨a,s⟩ ⟨b,t⟩)) w:=by
 have h99:Tryz.prog.underlying 308=some (.int .i64):=Tryz.underlying308
 have h9:Tryz.prog.underlying 9=some .string:=Tryz.underlying9
 rw[run_eql_struct,run_equalIn_struct w 9999 310 _ _ Tryz.Ga Tryz.Oc,Tryz.F2]
 simp only[Op.eqFields,part,isAgg,run_underlying h99,run_underlying h9,Ax.Term.beq,←fi]
 simp[part,isAgg,run_underlying h99,run_underlying h9,run_equalIn_int w 9998 308 .i64 .i64 a b h99,run_equalIn_string w 9998 9 s t h9]
 by_cases h1:a=b<;>by_cases h2:s.toList=t.toList<;>simp[h1,h2]
theorem yC(w:World)(b:Nat)(ad:Option Addr)(c:Nat)(l:List Ax.Term)(v:Ax.Term)(h:w.ownsRow b 310 2 (.slice ad l.length c) l.length (cf l)):
 Calls Tryz.prog 262 #[.slice ad l.length c,.agg #[.int .i64 v.kind,.string v.text]] w fun e w'=>∃i:Int,e=.returned (.int .i64 i)∧(0≤i↔v∈l)∧Below w.heap.size w w':=by
 have hle:=be h
 go_enter Tryz.func262,Tryz.ntmps262
 go_wp2_with fail
 go_loopw [8] (fun i wr=>∃k m:Nat,k≤l.length∧i=.int .i64 k∧wr=(w.alloc (.cells #[.int .i64 v.kind,.string v.text] 310)).drewN m∧∀j (hj:j<l.length),j<k→v≠l[j]) (fun i _=>l.length-(intOf i).toNat)
 case atStart=>exact⟨0,0,Nat.zero_le _,rfl,rfl,fun j _ hj=>by omega⟩
 case round=>
  obtain⟨k,m,hk,rfl,rfl,jK⟩:=hrel
  have vz:Hid (∀j (hj:j<l.length),j<k→v≠l[j]):=jK
  clear jK
  by_cases aG:k<l.length
  · obtain⟨g,rfl,hg,hc,br⟩:=aD h (by omega)
    have gB:=br _ _ (fh l k aG).1
    have gH:=br _ _ (fh l k aG).2
    clear br
    generalize hx:l[k]=x at gB gH
    have HX:Hid (l[k]=x):=hx
    clear hx
    have heq:=Br
    have Aa:∀(op:BinOp) (x y:Operand) (xs ys:Array Value) (w:World),(eqGuard op 310 x y (.agg xs) (.agg ys)).run Tryz.prog w=.ok () w:=fun op x y xs ys w=>run_eqGuard_agg w op 310 x y xs ys Tryz.KB
    cases hv:Ax.Term.beq ⟨v.kind,v.text⟩ ⟨x.kind,x.text⟩
    case true=>
     have HV:Hid (v=x):=(Ax.Term.beq_iff _ _).1 hv
     go_wp2_with fail
     go_quiet (fail)
     go_wp2_with fail
     go_ret
     refine⟨k,rfl,⟨fun _=> ?_,fun _=>by omega⟩,by rw[World.drewN_drewN];exact tY _ _ _⟩
     have hm:l[k]∈l:=List.getElem_mem aG
     rw[HX.out]at hm
     rw[HV.out]
     exact hm
    case false=>
     have HV:Hid (¬v=x):=fun e=>by rw[(Ax.Term.beq_iff _ _).2 e]at hv;cases hv
     go_wp2_with fail
     go_quiet (fail)
     go_wp2_with fail
     go_roundw
     case rel=>
      refine⟨k+1,_,by omega,by go_num,rfl,fun j hj hjk=> ?_⟩
      by_cases e:j=k
      · subst e;rw[HX.out];exact HV.out
      · exact vz.out j hj (by omega)
     case measure=>simp[intOf];omega
  · go_wp2_with fail
    go_ret
    refine⟨-1,rfl,⟨fun h=>by omega,fun hm=> ?_⟩,tY _ _ _⟩
    obtain⟨j,hj,e⟩:=List.getElem_of_mem hm
    exact absurd e.symm (vz.out j hj (by omega))
theorem tG(w:World)(b:Nat)(ad:Option Addr)(c:Nat)(l:List Ax.Term)(v:Ax.Term)(h:w.ownsRow b 310 2 (.slice ad l.length c) l.length (cf l)):
 Calls Tryz.prog 228 #[.slice ad l.length c,.agg #[.int .i64 v.kind,.string v.text]] w fun e w'=>e=.returned (.bool (Ax.jm l v))∧Below w.heap.size w w':=by
 have hle:=be h
 go_enter Tryz.func228,Tryz.ntmps228
 go_wp2_with (go_at_call 262;refine(yC _ _ _ _ _ _ (h.alloc _)).mono ?_;rintro e w' ⟨i,rfl,hi,bq⟩;have HI:Hid (0≤i↔v∈l):=hi;clear hi)
 go_ret
 refine⟨fe (by rw[Bool.eq_iff_iff,Ax.uK];simp;exact HI.out), ?_⟩
 exact((Below.refl _ _).alloc (Nat.le_refl _) _).trans (bq.mono (by simp))
end
/- isWide, bodyHas's closure; slices.IndexFunc, slices.ContainsFunc with each. -/
section
open Go.RowKit
theorem bL(l:List MA)(k:Nat)(h:k<l.length):
 (bt l)[k*3]?=some (.int .i64 (l[k]).1.at_)∧(bt l)[k*3+1]?=some (.string (l[k]).1.pred)∧(bt l)[k*3+2]?=some (l[k]).2:=by
 induction l generalizing k with
 | nil=>simp at h
 | cons a l ih=>
  cases k with
  | zero=>simp[bt]
  | succ k=>
   have:=ih k (by simpa using h)
   have e:∀j,(bt (a::l))[(k+1)*3+j]?=(bt l)[k*3+j]?:=by
    intro j
    have:bt (a::l)=[.int .i64 a.1.at_,.string a.1.pred,a.2]++bt l:=by simp[bt]
    rw[this,List.getElem?_append_right (by simp;omega)]
    congr 1
    simp;omega
   have e0:=e 0
   simp only[Nat.add_zero]at e0
   rw[e0,e 1,e 2]
   simpa using this
theorem wi(w:World)(a:Ax.Atom)(ad:Option Addr)(c:Nat)(hn:a.ak.length≤9223372036854775807):
 Calls Tryz.prog 182 #[.agg #[.int .i64 a.at_,.string a.pred,.slice ad a.ak.length c]] w fun e w'=>e=.returned (.bool (Ax.wide a))∧Below w.heap.size w w':=by
 go_enter Tryz.func182,Tryz.ntmps182
 go_wp2_with fail
 go_ret
 exact⟨fe (by unfold Ax.wide;rw[Bool.eq_iff_iff];simp;omega),(Below.refl _ _).alloc (Nat.le_refl _) _⟩
theorem qP(w:World)(x:Int)(y:ByteArray)(b:Nat)(ad:Option Addr)(c:Nat)(l:List Ax.Term)(t:Ax.Term)(tb:Nat)(h:w.ownsRow b 310 2 (.slice ad l.length c) l.length (cf l))
 (ht:w.heap[tb]?=some (.cells #[.int .i64 t.kind,.string t.text] 310 (0,0))):
 Calls Tryz.prog 227 #[.agg #[.int .i64 x,.string y,.slice ad l.length c],.pointer (some ⟨tb,0,none⟩)] w fun e w'=>e=.returned (.bool (Ax.jm l t))∧Below w.heap.size w w':=by
 have k0:=ag ht 0
 have k1:=ag ht 1
 have aG:=lt_of_heap ht
 simp only[List.getElem?_toArray,List.getElem?_cons_zero,List.getElem?_cons_succ]at k0 k1
 have hle:=be h
 go_enter Tryz.func227,Tryz.ntmps227
 go_wp2_with (go_at_call 228;refine(tG _ _ _ _ _ t (h.alloc _)).mono ?_;rintro e w' ⟨rfl,bq⟩)
 go_ret
 exact⟨rfl,((Below.refl _ _).alloc (Nat.le_refl _) _).trans (bq.mono (by simp))⟩
theorem yE(w:World)(b:Nat)(ad:Option Addr)(c:Nat)(l:List MA)(h:w.ownsRow b 219 3 (.slice ad l.length c) l.length (bt l))(dj:te w l):
 Calls Tryz.prog 226 #[.slice ad l.length c,.func (Fn.func 182) #[] #[]] w fun e w'=>∃i:Int,e=.returned (.int .i64 i)∧(0≤i↔∃x,x∈l∧Ax.wide x.1=true)∧Below w.heap.size w w':=by
 have hle:=be h
 go_enter Tryz.func226,Tryz.ntmps226
 go_wp2_with fail
 go_loopw [8] (fun i wr=>∃k:Nat,k≤l.length∧i=.int .i64 k∧Below w.heap.size w wr∧∀j (hj:j<l.length),j<k→Ax.wide (l[j]).1=false) (fun i _=>l.length-(intOf i).toNat)
 case atStart=>exact⟨0,Nat.zero_le _,rfl,Below.refl _ _,fun j _ hj=>by omega⟩
 case round=>
  obtain⟨k,hk,rfl,aV,jK⟩:=hrel
  have vz:Hid (∀j (hj:j<l.length),j<k→Ax.wide (l[j]).1=false):=jK
  clear jK
  by_cases aG:k<l.length
  · have bF:=ah h aV
    obtain⟨g,rfl,hg,hc,br⟩:=aD bF (by omega)
    have gB:=br _ _ (bL l k aG).1
    have gH:=br _ _ (bL l k aG).2.1
    have iz:=br _ _ (bL l k aG).2.2
    have yb:MA.ok wr l[k]:=mo dj aV _ (List.getElem_mem aG)
    obtain⟨Qg,c',sL⟩:=aj yb
    unfold MA.ok at yb
    rw[sL]at iz yb
    generalize ha:(l[k]).1=a at gB gH iz yb
    have HA:Hid ((l[k]).1=a):=ha
    clear ha sL br bF
    have ZI:=be yb
    cases hv:Ax.wide a
    case true=>
     go_wp2_with (go_at_call 182;refine(wi _ _ _ _ ZI).mono ?_;rintro e w1 ⟨rfl,bq⟩)
     go_ret
     refine⟨k,rfl,⟨fun _=>⟨l[k],List.getElem_mem aG,by rw[HA.out];exact hv⟩,fun _=>by omega⟩,aV.trans (bq.mono aV.size)⟩
    case false=>
     go_wp2_with (go_at_call 182;refine(wi _ _ _ _ ZI).mono ?_;rintro e w1 ⟨rfl,bq⟩)
     go_roundw
     case rel=>
      refine⟨k+1,by omega,by go_num,aV.trans (bq.mono aV.size),fun j hj hjk=> ?_⟩
      by_cases e:j=k
      · subst e;rw[HA.out];exact hv
      · exact vz.out j hj (by omega)
     case measure=>simp[intOf];omega
  · go_wp2_with fail
    go_ret
    refine⟨-1,rfl,⟨fun h=>by omega,fun hm=> ?_⟩,aV⟩
    obtain⟨x,hx,hp⟩:=hm
    obtain⟨j,hj,e⟩:=List.getElem_of_mem hx
    have:=vz.out j hj (by omega)
    rw[e,hp]at this
    cases this
theorem mu(w:World)(b:Nat)(ad:Option Addr)(c:Nat)(l:List MA)(h:w.ownsRow b 219 3 (.slice ad l.length c) l.length (bt l))(dj:te w l):
 Calls Tryz.prog 181 #[.slice ad l.length c,.func (Fn.func 182) #[] #[]] w fun e w'=>e=.returned (.bool (Ax.jj (l.map Prod.fst)))∧Below w.heap.size w w':=by
 have hle:=be h
 go_enter Tryz.func181,Tryz.ntmps181
 go_wp2_with (go_at_call 226;refine(yE _ _ _ _ _ h dj).mono ?_;rintro e w' ⟨i,rfl,hi,bq⟩;have HI:Hid (0≤i↔∃x,x∈l∧Ax.wide x.1=true):=hi;clear hi)
 go_ret
 refine⟨fe ?_,bq⟩
 unfold Ax.jj
 rw[Bool.eq_iff_iff,List.any_eq_true]
 simp only[decide_eq_true_eq,List.mem_map]
 rw[HI.out]
 constructor
 · rintro⟨x,hx,hp⟩;exact⟨x.1,⟨x,hx,rfl⟩,hp⟩
 · rintro⟨_,⟨x,hx,rfl⟩,hp⟩;exact⟨x,hx,hp⟩
theorem A2(w:World)(b:Nat)(ad:Option Addr)(c:Nat)(l:List MA)(h:w.ownsRow b 219 3 (.slice ad l.length c) l.length (bt l))(dj:te w l)(t:Ax.Term)(tb:Nat)(ht:w.heap[tb]?=some (.cells #[.int .i64 t.kind,.string t.text] 310 (0,0))):
 Calls Tryz.prog 226 #[.slice ad l.length c,.func (Fn.func 227) #[] #[.pointer (some ⟨tb,0,none⟩)]] w fun e w'=>∃i:Int,e=.returned (.int .i64 i)∧(0≤i↔∃x,x∈l∧Ax.jm x.1.ak t=true)∧Below w.heap.size w w':=by
 have hle:=be h
 go_enter Tryz.func226,Tryz.ntmps226
 go_wp2_with fail
 go_loopw [8] (fun i wr=>∃k:Nat,k≤l.length∧i=.int .i64 k∧Below w.heap.size w wr∧∀j (hj:j<l.length),j<k→Ax.jm (l[j]).1.ak t=false) (fun i _=>l.length-(intOf i).toNat)
 case atStart=>exact⟨0,Nat.zero_le _,rfl,Below.refl _ _,fun j _ hj=>by omega⟩
 case round=>
  obtain⟨k,hk,rfl,aV,jK⟩:=hrel
  have vz:Hid (∀j (hj:j<l.length),j<k→Ax.jm (l[j]).1.ak t=false):=jK
  clear jK
  by_cases aG:k<l.length
  · have bF:=ah h aV
    obtain⟨g,rfl,hg,hc,br⟩:=aD bF (by omega)
    have gB:=br _ _ (bL l k aG).1
    have gH:=br _ _ (bL l k aG).2.1
    have iz:=br _ _ (bL l k aG).2.2
    have yb:MA.ok wr l[k]:=mo dj aV _ (List.getElem_mem aG)
    obtain⟨Qg,c',sL⟩:=aj yb
    unfold MA.ok at yb
    rw[sL]at iz yb
    generalize ha:(l[k]).1=a at gB gH iz yb
    have HA:Hid ((l[k]).1=a):=ha
    clear ha sL br bF
    have nT:=(aV.block tb (lt_of_heap ht)).trans ht
    cases hv:Ax.jm a.ak t
    case true=>
     go_wp2_with (go_at_call 227;refine(qP _ _ _ _ _ _ _ t tb yb nT).mono ?_;rintro e w1 ⟨rfl,bq⟩)
     go_ret
     refine⟨k,rfl,⟨fun _=>⟨l[k],List.getElem_mem aG,by rw[HA.out];exact hv⟩,fun _=>by omega⟩,aV.trans (bq.mono aV.size)⟩
    case false=>
     go_wp2_with (go_at_call 227;refine(qP _ _ _ _ _ _ _ t tb yb nT).mono ?_;rintro e w1 ⟨rfl,bq⟩)
     go_roundw
     case rel=>
      refine⟨k+1,by omega,by go_num,aV.trans (bq.mono aV.size),fun j hj hjk=> ?_⟩
      by_cases e:j=k
      · subst e;rw[HA.out];exact hv
      · exact vz.out j hj (by omega)
     case measure=>simp[intOf];omega
  · go_wp2_with fail
    go_ret
    refine⟨-1,rfl,⟨fun h=>by omega,fun hm=> ?_⟩,aV⟩
    obtain⟨x,hx,hp⟩:=hm
    obtain⟨j,hj,e⟩:=List.getElem_of_mem hx
    have:=vz.out j hj (by omega)
    rw[e,hp]at this
    cases this
theorem uV(w:World)(b:Nat)(ad:Option Addr)(c:Nat)(l:List MA)(h:w.ownsRow b 219 3 (.slice ad l.length c) l.length (bt l))(dj:te w l)(t:Ax.Term)(tb:Nat)(ht:w.heap[tb]?=some (.cells #[.int .i64 t.kind,.string t.text] 310 (0,0))):
 Calls Tryz.prog 181 #[.slice ad l.length c,.func (Fn.func 227) #[] #[.pointer (some ⟨tb,0,none⟩)]] w fun e w'=>e=.returned (.bool (Ax.mZ (l.map Prod.fst) t))∧Below w.heap.size w w':=by
 have hle:=be h
 go_enter Tryz.func181,Tryz.ntmps181
 go_wp2_with (go_at_call 226;refine(A2 _ _ _ _ _ h dj t tb ht).mono ?_;rintro e w' ⟨i,rfl,hi,bq⟩;have HI:Hid (0≤i↔∃x,x∈l∧Ax.jm x.1.ak t=true):=hi;clear hi)
 go_ret
 refine⟨fe ?_,bq⟩
 unfold Ax.mZ
 rw[Bool.eq_iff_iff,List.any_eq_true]
 simp only[decide_eq_true_eq,List.mem_map]
 rw[HI.out]
 constructor
 · rintro⟨x,hx,hp⟩;exact⟨x.1,⟨x,hx,rfl⟩,hp⟩
 · rintro⟨_,⟨x,hx,rfl⟩,hp⟩;exact⟨x,hx,hp⟩
end
/- (Rule).atoms, bodyHas. -/
section
open Go.RowKit
theorem ownsRow_lit{w:World}{b:Nat}{e:TypeId}{xs:List Value}{size:Nat}(hs:xs.length=size)(hb:b≤w.heap.size):(w.alloc (.cells xs.toArray e)).ownsRow b e size (.slice (some ⟨w.heap.size,0,none⟩) 1 1) 1 xs:=
 ⟨by simpa using hs,.inr ⟨w.heap.size,1,xs.toArray,rfl,hb,heap_alloc_new _ _,Nat.le_refl _,by unfold maxLen;omega,by simpa using hs,by simp[←hs]⟩⟩
theorem TS(w:World)(o:Obj)(e:TypeId)(x y z:Value):((w.alloc o).alloc (.cells #[x,y,z] e)).ownsRow (w.heap.size+1) e 3 (.slice (some ⟨w.heap.size+1,0,none⟩) 1 1) 1 [x,y,z]:=by
 have:=ownsRow_lit (w:=w.alloc o) (b:=w.heap.size+1) (e:=e) (xs:=[x,y,z]) (size:=3) rfl (by simp)
 rw[World.size_alloc]at this
 exact this
theorem pM(w:World)(o o':Obj):((w.alloc o).alloc o').heap[w.heap.size+1]?=some o':=by
 have:=heap_alloc_new (w.alloc o) o'
 rw[World.size_alloc]at this
 exact this
theorem yv(l:List MA):(bt l).length=l.length*3:=by induction l with | nil=>rfl | cons a l ih=>simp[bt]at ih ⊢;omega
theorem yx{w:World}{l:List MA}(h:te w l):∀u∈bt l,u.oneCell'=true:=by
 intro u hu
 simp only[bt,List.mem_flatMap,List.mem_cons,List.not_mem_nil,or_false]at hu
 obtain⟨x,hx,hu⟩:=hu
 rcases hu with rfl | rfl | rfl
 · rfl
 · rfl
 · obtain⟨a,c,e⟩:=aj (h x hx)
   rw[e];rfl
theorem jD(w:World)(a:Ax.Atom)(ad:Option Addr)(c:Nat)(bd:Option Addr)(d:Nat)(l:List MA)(h:MR.ok w ⟨(a,.slice ad a.ak.length c),.slice bd l.length d,l⟩)(hl:l.length≤1000):
 Calls Tryz.prog 112 #[.agg #[.int .i64 a.at_,.string a.pred,.slice ad a.ak.length c,.slice bd l.length d]] w fun e w'=>∃Qg c',e=.returned (.slice Qg (l.length+1) c')∧w'.ownsRow 0 219 3 (.slice Qg (l.length+1) c') (l.length+1) (bt ((a,.slice ad a.ak.length c)::l))∧te w' ((a,.slice ad a.ak.length c)::l)∧Below w.heap.size w w':=by
 obtain⟨i0,hi,ew,ev,dY⟩:=info_parts Tryz.C1
 obtain⟨hh,hb,jC⟩:=h
 simp only at hh hb jC
 have qG:te w ((a,.slice ad a.ak.length c)::l):=by
  intro x hx
  rcases List.mem_cons.1 hx with rfl | hx
  · exact hh
  · exact jC x hx
 have h1:=yx jC
 have hlen:=yv l
 have eh:∀w',Below w.heap.size w w'→te w' ((a,.slice ad a.ak.length c)::l):=fun w' hw=>mo qG hw
 have dk:bt ((a,.slice ad a.ak.length c)::l)=[.int .i64 a.at_,.string a.pred,.slice ad a.ak.length c]++bt l:=by simp[bt]
 have HC:Hid (bt ((a,.slice ad a.ak.length c)::l)=[.int .i64 a.at_,.string a.pred,.slice ad a.ak.length c]++bt l):=dk
 clear dk
 rcases hb.2 with⟨e1,e2⟩ | ⟨g,cap,cur,e1,_,hg,JF,_⟩
 · simp only[Value.slice.injEq]at e1
   obtain⟨rfl,_,rfl⟩:=e1
   obtain rfl:l=[]:=List.eq_nil_of_length_eq_zero e2
   simp only[List.length_nil]at*
   clear h1 hlen jC
   go_enter Tryz.func112,Tryz.ntmps112
   go_wp2_with (at_builtin;refine wpList_append_own_none rfl (.tmp 5) (.tmp 7) 220 rfl (w.heap.size+1) 219 i0 3 Tryz.underlying220 hi _ _ _ rfl (TS _ _ _ _ _ _) rfl ?_)
   go_ret
   have cw:Below w.heap.size w ((w.alloc (.cells #[.int .i64 a.at_,.string a.pred,.slice ad a.ak.length c,.slice none 0 0] 222)).alloc (.cells #[.int .i64 a.at_,.string a.pred,.slice ad a.ak.length c] 219)):=((Below.refl _ _).alloc (Nat.le_refl _) _).alloc (by simp) _
   exact⟨_,_,rfl,by rw[HC.out];exact aE (TS _ _ _ _ _ _) (Nat.zero_le _),eh _ cw,cw⟩
 · simp only[Value.slice.injEq]at e1
   obtain⟨rfl,_,rfl⟩:=e1
   have br:=World.ownsRow.cells hb (g:=g) rfl
   go_enter Tryz.func112,Tryz.ntmps112
   go_wp2_with (at_builtin;refine wpList_append_own _ rfl (.tmp 5) (.tmp 7) 220 rfl (w.heap.size+1) 219 i0 _ 3 48 Tryz.underlying220 hi ew ev dY rfl (by decide) _ _ _ rfl (TS _ _ _ _ _ _) ⟨g,0,none⟩ l.length d (bt l) rfl hlen (World.ownsRow.cells ((hb.alloc _).alloc _) (g:=g) rfl) h1 (by unfold maxLen;omega) (by omega) (by simp) ?_;intro v2 w2 aP bx _;obtain⟨Qg,c',rfl⟩:=aj aP)
   go_ret
   have cw:Below w.heap.size w w2:=by
    refine(((Below.refl _ _).alloc (Nat.le_refl _) _).alloc (by simp) _).grown bx (by simp;omega) ?_
    intro k hk
    have A0:some (w.heap.size+1)=some k:=hk
    simp only[Option.some.injEq]at A0
    omega
   rw[Nat.add_comm 1 l.length]at aP
   refine⟨Qg,c',by rw[Nat.add_comm 1 l.length];rfl, ?_,eh _ cw,cw⟩
   rw[HC.out]
   exact aE aP (Nat.zero_le _)
theorem ui(w:World)(a:Ax.Atom)(ad:Option Addr)(c:Nat)(bd:Option Addr)(d:Nat)(l:List MA)(h:MR.ok w ⟨(a,.slice ad a.ak.length c),.slice bd l.length d,l⟩)(t:Ax.Term):
 Calls Tryz.prog 183 #[.agg #[.int .i64 a.at_,.string a.pred,.slice ad a.ak.length c,.slice bd l.length d],.agg #[.int .i64 t.kind,.string t.text]] w fun e w'=>e=.returned (.bool (Ax.mZ (l.map Prod.fst) t))∧Below w.heap.size w w':=by
 obtain⟨_,hb,jC⟩:=h
 simp only at hb jC
 go_enter Tryz.func183,Tryz.ntmps183
 go_wp2_with (go_at_call 181;refine(uV _ _ _ _ l ((hb.alloc _).alloc _) (fun x hx=>MA.alloc (MA.alloc (jC x hx) _) _) t (w.heap.size+1) (pM _ _ _)).mono ?_;rintro e w1 ⟨rfl,bq⟩)
 go_ret
 exact⟨rfl,(((Below.refl _ _).alloc (Nat.le_refl _) _).alloc (by simp) _).trans (bq.mono (by simp;omega))⟩
end
end Go.Proofs.YtdmicblafmhflaaGreatDoor
