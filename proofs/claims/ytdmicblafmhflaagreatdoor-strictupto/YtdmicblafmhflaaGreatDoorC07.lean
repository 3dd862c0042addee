/- The parser: rules. -/
import Derived.Test.YtdmicblafmhflaaGreatDoorC06
import Derived.Test.YtdmicblafmhflaaGreatDoorC00
import Derived.BigQuiet
import Derived.Deep.QuietTactic
import Derived.Laws.AppendOwnNone
set_option linter.unusedSimpArgs false
set_option linter.unusedVariables false
set_option maxHeartbeats 2000000
namespace Go.Proofs.YtdmicblafmhflaaGreatDoor
section
open Go.RowKit
theorem KM(w:World)(pb:Nat)(tv:Value)(aa:List Ax.Tok)(nx j:Nat)(r:Ax.aP)(h:dg w pb tv aa nx)(hR:Hid (Ax.dX aa nx=(some r,j))):
 Calls Tryz.prog 179 #[.pointer (some ⟨pb,0,none⟩)] w fun e w'=>∃ad n c bd m d l,e=.returned (.tuple #[.agg #[.int .i64 r.head.at_,.string r.head.pred,.slice ad n c,.slice bd m d],.bool true])∧dg w' pb tv aa j∧w.grownBy w' (some pb)∧MR.ok w' ⟨(r.head,.slice ad n c),.slice bd m d,l⟩∧Hid (l.map Prod.fst=r.body):=by
 have l7:=h.2.2.2.2
 have hR:=hR.out
 rcases hA:Ax.bQ aa nx with⟨_ | a,j1⟩
 · rw[Ax.nN hA]at hR;simp at hR
 · have SE:=Ax.kL l7 h.2.2.1 hA
   have yT:aa[j1]?=some aa[j1]:=List.getElem?_eq_getElem SE
   have sL:=Ax.cZ yT
   by_cases h8:Ax.aA aa j1=8
   · have hn:=Ax.mE l7 SE h8 (by omega)
     rcases hB:Ax.bL aa aa.length (j1+1) []with⟨_ | b,j2⟩
     · rw[Ax.ny hA h8 hB]at hR;simp at hR
     · have hj2:=Ax.l8 l7 _ _ _ hn hB
       have tY:aa[j2]?=some aa[j2]:=List.getElem?_eq_getElem hj2
       have ml:=Ax.cZ tY
       by_cases h7:Ax.aA aa j2=7
       · rw[Ax.ly hA h8 hB h7]at hR
         simp only[Prod.mk.injEq,Option.some.injEq]at hR
         obtain⟨rfl,rfl⟩:=hR
         refine(V5 w pb tv aa nx h j1 a hA _ yT (by rw[sL]at h8;simpa using h8) j2 b hB _ tY (by rw[ml]at h7;simpa using h7)).mono ?_
         rintro e w' ⟨ad,c,bd,d,l,rfl,hp,hg,cB,hl⟩
         exact⟨_,_,_,_,_,_,l,rfl,hp,hg,cB,hl⟩
       · rw[Ax.nh hA h8 hB h7]at hR;simp at hR
   · by_cases h7:Ax.aA aa j1=7
     · rw[Ax.lE hA h8 h7]at hR
       simp only[Prod.mk.injEq,Option.some.injEq]at hR
       obtain⟨rfl,rfl⟩:=hR
       refine(V8 w pb tv aa nx h j1 a hA _ yT (by rw[sL]at h8;simpa using h8) (by rw[sL]at h7;simpa using h7)).mono ?_
       rintro e w' ⟨ad,c,bd,d,l,rfl,hp,hg,cB,hl⟩
       exact⟨_,_,_,_,_,_,l,rfl,hp,hg,cB,hl⟩
     · rw[Ax.nR hA h8 h7]at hR;simp at hR
theorem LH(w:World)(pb:Nat)(tv:Value)(aa:List Ax.Tok)(nx j:Nat)(h:dg w pb tv aa nx)(hR:Hid (Ax.dX aa nx=(none,j))):
 Calls Tryz.prog 179 #[.pointer (some ⟨pb,0,none⟩)] w fun e w'=>∃x y ad n c bd m d,e=.returned (.tuple #[.agg #[.int .i64 x,.string y,.slice ad n c,.slice bd m d],.bool false])∧dg w' pb tv aa j∧w.grownBy w' (some pb):=by
 have l7:=h.2.2.2.2
 have hR:=hR.out
 rcases hA:Ax.bQ aa nx with⟨_ | a,j1⟩
 · rw[Ax.nN hA]at hR
   simp only[Prod.mk.injEq,true_and]at hR
   subst hR
   exact Vf w pb tv aa nx h j1 hA
 · have SE:=Ax.kL l7 h.2.2.1 hA
   have yT:aa[j1]?=some aa[j1]:=List.getElem?_eq_getElem SE
   have sL:=Ax.cZ yT
   by_cases h8:Ax.aA aa j1=8
   · have hn:=Ax.mE l7 SE h8 (by omega)
     rcases hB:Ax.bL aa aa.length (j1+1) []with⟨_ | b,j2⟩
     · rw[Ax.ny hA h8 hB]at hR
       simp only[Prod.mk.injEq,true_and]at hR
       subst hR
       exact UZ w pb tv aa nx h j1 a hA _ yT (by rw[sL]at h8;simpa using h8) j2 hB
     · have hj2:=Ax.l8 l7 _ _ _ hn hB
       have tY:aa[j2]?=some aa[j2]:=List.getElem?_eq_getElem hj2
       have ml:=Ax.cZ tY
       by_cases h7:Ax.aA aa j2=7
       · rw[Ax.ly hA h8 hB h7]at hR;simp at hR
       · rw[Ax.nh hA h8 hB h7]at hR
         simp only[Prod.mk.injEq,true_and]at hR
         subst hR
         exact VQ w pb tv aa nx h j1 a hA _ yT (by rw[sL]at h8;simpa using h8) j2 b hB _ tY (by rw[ml]at h7;simpa using h7)
   · by_cases h7:Ax.aA aa j1=7
     · rw[Ax.lE hA h8 h7]at hR;simp at hR
     · rw[Ax.nR hA h8 h7]at hR
       simp only[Prod.mk.injEq,true_and]at hR
       subst hR
       exact UU w pb tv aa nx h j1 a hA _ yT (by rw[sL]at h8;simpa using h8) (by rw[sL]at h7;simpa using h7)
def cI(l:List MR):List Value:=l.flatMap fun r=>[.int .i64 r.head.1.at_,.string r.head.1.pred,r.head.2,r.bv]
theorem xr(l:List MR)(r:MR):cI (l++[r])=cI l++[.int .i64 r.head.1.at_,.string r.head.1.pred,r.head.2,r.bv]:=by simp[cI]
theorem Tryz.L5:(Tryz.prog.info? 222).map (fun i=>(i.zero,i.size,i.bytes))=some (some (.agg #[.int .i64 0,.string ByteArray.empty,.slice none 0 0,.slice none 0 0]),4,72):=by kernel_rfl
def IW(w:World)(l:List MR):Prop:=∀r,r∈l→MR.ok w r
theorem QS(w:World):IW w []:=fun _ h=>by cases h
theorem pG{w w':World}{l:List MR}(h:IW w l)(hb:Below w.heap.size w w'):IW w' l:=fun x hx=>MR.below (h x hx) hb
theorem Ot{w w':World}{l:List MR}{pb:Nat}{tv:Value}{aa:List Ax.Tok}{nx:Nat}(h:IW w l)(hp:dg w pb tv aa nx)(hg:w.grownBy w' (some pb)):IW w' l:=fun x hx=>MR.step (h x hx) hp hg
theorem M7{w:World}{l:List MR}{x:MR}(h:IW w l)(hx:MR.ok w x):IW w (l++[x]):=by
 intro y hy
 rcases List.mem_append.1 hy with hy | hy
 · exact h y hy
 · simp at hy;subst hy;exact hx
theorem Eo{w w1 w2:World}{pb:Nat}{tv v:Value}{aa:List Ax.Tok}{nx n:Nat}{xs:List Value}{o1 o2:Obj}{l:List MR}{x:MR}(bj:w1.ownsRow w.heap.size 222 4 v n xs)(fZ:dg w1 pb tv aa nx)(hg:w.grownBy w1 (some pb))(cB:IW w1 l)(hx:MR.ok w1 x)
 (bx:((w1.alloc o1).alloc o2).grownBy w2 v.ownBlock):dg w2 pb tv aa nx∧w.grownBy w2 (some pb)∧IW w2 (l++[x]):=
 ⟨((fZ.alloc o1).alloc o2).row bx (cu ((bj.alloc o1).alloc o2)) (by decide) (by decide),
  oZ (grownBy_alloc (grownBy_alloc hg _) _) bx (fun k hk=>(bj.lt k hk).1),
  fun y hy=>MR.type (w:=(w1.alloc o1).alloc o2) (MR.below (M7 cB hx y hy) (((Below.refl _ _).alloc (Nat.le_refl _) _).alloc (by simp) _)) bx (cu ((bj.alloc o1).alloc o2)) (by decide) (by decide)⟩
def OU(w wr:World)(pb:Nat)(tv:Value)(aa:List Ax.Tok)(v:Value)(nx k:Nat)(acc:List MR)(R:Option (List Ax.aP)×Nat):Prop:=
 dg wr pb tv aa nx∧wr.ownsRow w.heap.size 222 4 v acc.length (cI acc)∧IW wr acc∧w.grownBy wr (some pb)∧acc.length≤nx∧aa.length≤nx+k∧Ax.bM aa k nx (acc.map MR.ak)=R
theorem zZ(w:World)(pb:Nat)(tv:Value)(aa:List Ax.Tok)(nx:Nat)(h:dg w pb tv aa nx):
 Calls Tryz.prog 104 #[.pointer (some ⟨pb,0,none⟩)] w fun e w'=>dg w' pb tv aa (Ax.bM aa aa.length nx []).2∧w.grownBy w' (some pb)∧
  ((∃v l,e=.returned (.tuple #[v,.bool true])∧(Ax.bM aa aa.length nx []).1=some (l.map MR.ak)∧w'.ownsRow w.heap.size 222 4 v l.length (cI l)∧IW w' l)∨
   (e=.returned (.tuple #[.slice none 0 0,.bool false])∧(Ax.bM aa aa.length nx []).1=none)):=by
 obtain⟨i0,hi,eX,eP,eA⟩:=info_parts Tryz.L5
 generalize hR:Ax.bM aa aa.length nx []=R
 have yB:=lt_of_heap h.1
 have ur:=Tryz.sS
 go_enter Tryz.func104,Tryz.ntmps104
 go_wp2_with fail
 go_loopg [4] aa.length (fun k v wr=>∃(i:Nat) (acc:List MR),OU w wr pb tv aa v i k acc R)
 case atStart=>exact⟨nx,[],h,World.ownsRow_nil _ _ _ _,QS _,ic _ _,Nat.zero_le _,by omega,hR⟩
 case round=>
  obtain⟨i,acc,hp,aj,cB,hg,PE,hlen,hr⟩:=hrel
  have aC:=hp.2.2.1
  have hle:=hp.2.2.2.1
  have l7:=hp.2.2.2.2
  have cr:=hg.size
  cases gk with
  | zero=>omega
  | succ k=>
  have Bw:Hid (Ax.bM aa (k+1) i (acc.map MR.ak)=R):=hr
  clear hr hR
  obtain⟨t,LW⟩:∃t,aa[i]?=some t:=⟨_,List.getElem?_eq_getElem aC⟩
  have U4:=Ax.cZ LW
  have ht:Hid (aa[i]?=some t):=LW
  clear LW
  by_cases h1:t.kind=1
  · have e:Hid (R=(some (acc.map MR.ak),i)):=Bw.out.symm.trans (Ax.iS (by rw[U4];exact h1))
    have cL:(t.kind != 1)=false:=by simp[h1]
    clear h1 U4
    go_wp2_with (first | (go_at_call 105;refine(dY _ _ _ _ _ hp _ ht).mono ?_;rintro e w0 ⟨rfl,bK⟩;have Ao:=hp.below bK;have ir:=af aj bK;have QQ:=pG cB bK;have nD:=al hg (aT bK (some pb))))
    go_ret2
    exact⟨by rw[e.out];exact Ao,nD,.inl ⟨_,acc,rfl,by rw[e.out],ir,QQ⟩⟩
  · have sL:Hid (¬Ax.aA aa i=1):=by rw[U4];exact h1
    have cL:(t.kind != 1)=true:=by simp[h1]
    clear h1 U4
    rcases FN:Ax.dX aa i with⟨_ | r,j⟩
    · have hA:Hid (Ax.dX aa i=(none,j)):=FN
      clear FN
      go_wp2_with (first | (go_at_call 105;refine(dY _ _ _ _ _ hp _ ht).mono ?_;rintro e w0 ⟨rfl,bK⟩;have Ao:=hp.below bK;have ir:=af aj bK;have QQ:=pG cB bK;have nD:=al hg (aT bK (some pb))) | (go_at_call 179;refine(LH _ _ _ _ _ _ Ao hA).mono ?_;rintro e w1 ⟨x,y,ad,n,c,bd,m,d,rfl,fZ,fA⟩))
      go_ret2
      have e:=Bw.out.symm.trans (Ax.jw sL.out hA.out)
      exact⟨by rw[e];exact fZ.alloc _,grownBy_alloc (al nD fA) _,.inr ⟨rfl,by rw[e]⟩⟩
    · have hA:Hid (Ax.dX aa i=(some r,j)):=FN
      have hj:=(Ax.rj l7 aC FN).1
      have YH:=(Ax.rj l7 aC FN).2 (by simp)
      clear FN
      have mK:Hid (Ax.bM aa (k+1) i (acc.map MR.ak)=Ax.bM aa k j (acc.map MR.ak++[r])):=Ax.kx sL.out hA.out
      go_wp2_with (first | (go_at_call 105;refine(dY _ _ _ _ _ hp _ ht).mono ?_;rintro e w0 ⟨rfl,bK⟩;have Ao:=hp.below bK;have ir:=af aj bK;have QQ:=pG cB bK;have nD:=al hg (aT bK (some pb))) | (go_at_call 179;refine(KM _ _ _ _ _ _ _ Ao hA).mono ?_;rintro e w1 ⟨ad,n,c,bd,m,d,l,rfl,fZ,fA,x7,hl⟩;have bj:=cY ir Ao fA (by decide);have kW:=(al nD fA).size;have oa:=Ot QQ Ao fA) | (at_builtin;refine wpList_append_own _ rfl (.tmp 18) (.tmp 20) 99 rfl w.heap.size 222 i0 _ 4 72 Tryz.underlying99 hi eX eP eA rfl (by decide) _ _ _ rfl ((bj.alloc _).alloc _) ⟨w1.heap.size+1,0,none⟩ 1 1 [.int .i64 r.head.at_,.string r.head.pred,.slice ad n c,.slice bd m d] rfl rfl (eM _ _ _ _) (by simp[Value.oneCell']) (by unfold maxLen;omega) (by omega) (by simp;omega) ?_;intro v2 w2 aO bx _;obtain⟨iI,dL,th⟩:=Eo bj fZ (al nD fA) oa x7 bx;clear bx bj fZ oa x7))
      go_roundg k
      case measure=>omega
      case rel=>
       refine⟨j,acc++[⟨(r.head,.slice ad n c),.slice bd m d,l⟩],iI, ?_,th,dL,by simp;omega,by omega, ?_⟩
       · rw[xr];simpa using aO
       · rw[List.map_append]
         have e:MR.ak ⟨(r.head,.slice ad n c),.slice bd m d,l⟩=r:=by simp only[MR.ak];rw[hl.out]
         rw[List.map_singleton,e]
         exact mK.out.symm.trans Bw.out
end
/- slices.Index, slices.Contains at strings and at terms. -/
section
open Go.RowKit
theorem ax{w:World}{b:Nat}{e:TypeId}{size:Nat}{ad:Option Addr}{n c:Nat}{xs:List Value}(h:w.ownsRow b e size (.slice ad n c) n xs)(hn:0<n):
 ∃g,ad=some ⟨g,0,none⟩∧g<w.heap.size∧n≤c∧∀j u,xs[j]?=some u→w.cell? ⟨g,j,none⟩=some u:=by
 have bA:=fun g hg=>World.ownsRow.cells h (g:=g) hg
 rcases h.2 with⟨e1,e2⟩ | ⟨g,cap,cur,e1,_,hg,hc,_⟩
 · omega
 · simp only[Value.slice.injEq]at e1
   obtain⟨rfl,_,rfl⟩:=e1
   refine⟨g,rfl,lt_of_heap hg,hc, ?_⟩
   intro j u hu
   have:=bA g rfl j u hu
   have dR:(⟨g,0,none⟩:Addr).add j=⟨g,j,none⟩:=by unfold Addr.add;split<;>simp_all
   rw[dR]at this
   exact this
theorem aZ{w:World}{b:Nat}{e:TypeId}{size:Nat}{v:Value}{n:Nat}{xs:List Value}(h:w.ownsRow b e size v n xs):n≤9223372036854775807:=by
 rcases h.2 with⟨_,rfl⟩ | ⟨g,cap,cur,_,_,_,h1,h2,_⟩
 · omega
 · unfold maxLen at h2;omega
def strCells(l:List ByteArray):List Value:=l.map .string
theorem BD(l:List ByteArray)(k:Nat)(h:k<l.length):(strCells l)[k]?=some (.string l[k]):=by simp[strCells,h]
theorem eF(a b:ByteArray):(a.toList==b.toList)=decide (a=b):=by
 rw[toList_eq,toList_eq,Bool.eq_iff_iff]
 rcases a with⟨⟨a⟩⟩
 rcases b with⟨⟨b⟩⟩
 simp
theorem B5(w:World)(b:Nat)(ad:Option Addr)(c:Nat)(l:List ByteArray)(v:ByteArray)(h:w.ownsRow b 9 1 (.slice ad l.length c) l.length (strCells l)):
 Calls Tryz.prog 261 #[.slice ad l.length c,.string v] w fun e w'=>∃i:Int,e=.returned (.int .i64 i)∧(0≤i↔v∈l)∧w'=w:=by
 have hle:=aZ h
 go_enter Tryz.func261,Tryz.ntmps261
 go_wp2_with fail
 go_loop [8] (fun i=>∃k:Nat,k≤l.length∧i=.int .i64 k∧∀j (hj:j<l.length),j<k→v≠l[j]) (fun i=>l.length-(intOf i).toNat)
 case atStart=>exact⟨0,Nat.zero_le _,rfl,fun j _ hj=>by omega⟩
 case round=>
  obtain⟨k,hk,rfl,jO⟩:=hrel
  have C3:Hid (∀j (hj:j<l.length),j<k→v≠l[j]):=jO
  clear jO
  by_cases aC:k<l.length
  · obtain⟨g,rfl,hg,hc,bA⟩:=ax h (by omega)
    have kR:=bA _ _ (BD l k aC)
    clear bA
    generalize hx:l[k]=x at kR
    have HX:Hid (l[k]=x):=hx
    clear hx
    by_cases hv:v=x
    · have hb:(v.toList==x.toList)=true:=by rw[eF];simp[hv]
      have HV:Hid (v=x):=hv
      clear hv
      go_wp2_with fail
      go_ret
      refine⟨k,rfl,⟨fun _=> ?_,fun _=>by omega⟩,rfl⟩
      rw[HV.out,←HX.out]
      exact List.getElem_mem aC
    · have hb:(v.toList==x.toList)=false:=by rw[eF];simp[hv]
      have HV:Hid (¬v=x):=hv
      clear hv
      go_wp2_with fail
      go_round
      case rel=>
       refine⟨k+1,by omega,by go_num,fun j hj hjk=> ?_⟩
       by_cases e:j=k
       · subst e;rw[HX.out];exact HV.out
       · exact C3.out j hj (by omega)
      case measure=>simp[intOf];omega
  · go_wp2_with fail
    go_ret
    refine⟨-1,rfl,⟨fun h=>by omega,fun hm=> ?_⟩,rfl⟩
    obtain⟨j,hj,e⟩:=List.getElem_of_mem hm
    exact absurd e.symm (C3.out j hj (by omega))
theorem nX(w:World)(b:Nat)(ad:Option Addr)(c:Nat)(l:List ByteArray)(v:ByteArray)(h:w.ownsRow b 9 1 (.slice ad l.length c) l.length (strCells l)):
 Calls Tryz.prog 225 #[.slice ad l.length c,.string v] w fun e w'=>e=.returned (.bool (Ax.has l v))∧w'=w:=by
 have hle:=aZ h
 go_enter Tryz.func225,Tryz.ntmps225
 go_wp2_with (go_at_call 261;refine(B5 _ _ _ _ _ _ h).mono ?_;rintro e w' ⟨i,rfl,hi,rfl⟩;have HI:Hid (0≤i↔v∈l):=hi;clear hi)
 go_ret
 exact⟨eY (by rw[Bool.eq_iff_iff];rw[Ax.nM];simp;exact HI.out),rfl⟩
end
/- slices.Index, slices.Contains at terms. -/
section
open Go.RowKit
theorem fg(l:List Ax.Term)(k:Nat)(h:k<l.length):
 (b9 l)[k*2]?=some (.int .i64 l[k].kind)∧(b9 l)[k*2+1]?=some (.string l[k].text):=by
 induction l generalizing k with
 | nil=>simp at h
 | cons a l ih=>
  cases k with
  | zero=>simp[b9]
  | succ k=>
   have:=ih k (by simpa using h)
   have e:∀j,(b9 (a::l))[(k+1)*2+j]?=(b9 l)[k*2+j]?:=by
    intro j
    have:b9 (a::l)=[.int .i64 a.kind,.string a.text]++b9 l:=by simp[b9]
    rw[this,List.getElem?_append_right (by simp;omega)]
    congr 1
    simp;omega
   have e0:=e 0
   simp only[Nat.add_zero]at e0
   rw[e0,e 1]
   simpa using this
theorem uX(w:World)(o:Obj)(n:Nat):Below w.heap.size w ((w.alloc o).drewN n):=
 ((Below.refl _ _).alloc (Nat.le_refl _) _).trans ⟨rfl,rfl,rfl,Nat.le_refl _,fun _ _=>rfl⟩
theorem Tryz.GI:(Tryz.prog.fieldsOf 310).toList=[{name:= "Kind",type:=308,offset:=0,embedded:=false,tag:= "",pkgPath:= "",byteOffset:=0},{name:= "Text",type:=9,offset:=1,embedded:=false,tag:= "",pkgPath:= "",byteOffset:=8}]:=by kernel_rfl
theorem Tryz.He:Tryz.prog.underlying 310=some (.struct (Tryz.prog.fieldsOf 310)):=by kernel_rfl
theorem Tryz.N3:Tryz.prog.stoodInHeld 310=false:=by kernel_rfl
theorem Tryz.KT:Tryz.prog.eqGuardType Tryz.prog.depth 310=false:=by kernel_rfl
theorem CX(a b:Int)(s t:ByteArray)(w:World):(binOp .eql 310 (.agg #[.int .i64 a,.string s]) (.agg #[.int .i64 b,.string t])).run Tryz.prog w=.ok (.bool (Ax.Term.beq ⟨a,s⟩ ⟨b,t⟩)) w:=by
 have h99:Tryz.prog.underlying 308=some (.int .i64):=Tryz.underlying308
 have h9:Tryz.prog.underlying 9=some .string:=Tryz.underlying9
 rw[run_eql_struct,run_equalIn_struct w 9999 310 _ _ Tryz.He Tryz.N3,Tryz.GI]
 simp only[Op.eqFields,part,isAgg,run_underlying h99,run_underlying h9,Ax.Term.beq,←eF]
 simp[part,isAgg,run_underlying h99,run_underlying h9,run_equalIn_int w 9998 308 .i64 .i64 a b h99,run_equalIn_string w 9998 9 s t h9]
 by_cases h1:a=b<;>by_cases h2:s.toList=t.toList<;>simp[h1,h2]
theorem zi(w:World)(b:Nat)(ad:Option Addr)(c:Nat)(l:List Ax.Term)(v:Ax.Term)(h:w.ownsRow b 310 2 (.slice ad l.length c) l.length (b9 l)):
 Calls Tryz.prog 262 #[.slice ad l.length c,.agg #[.int .i64 v.kind,.string v.text]] w fun e w'=>∃i:Int,e=.returned (.int .i64 i)∧(0≤i↔v∈l)∧Below w.heap.size w w':=by
 have hle:=aZ h
 go_enter Tryz.func262,Tryz.ntmps262
 go_wp2_with fail
 go_loopw [8] (fun i wr=>∃k m:Nat,k≤l.length∧i=.int .i64 k∧wr=(w.alloc (.cells #[.int .i64 v.kind,.string v.text] 310)).drewN m∧∀j (hj:j<l.length),j<k→v≠l[j]) (fun i _=>l.length-(intOf i).toNat)
 case atStart=>exact⟨0,0,Nat.zero_le _,rfl,rfl,fun j _ hj=>by omega⟩
 case round=>
  obtain⟨k,m,hk,rfl,rfl,jO⟩:=hrel
  have C3:Hid (∀j (hj:j<l.length),j<k→v≠l[j]):=jO
  clear jO
  by_cases aC:k<l.length
  · obtain⟨g,rfl,hg,hc,bA⟩:=ax h (by omega)
    have gH:=bA _ _ (fg l k aC).1
    have gC:=bA _ _ (fg l k aC).2
    clear bA
    generalize hx:l[k]=x at gH gC
    have HX:Hid (l[k]=x):=hx
    clear hx
    have heq:=CX
    have zU:∀(op:BinOp) (x y:Operand) (xs ys:Array Value) (w:World),(eqGuard op 310 x y (.agg xs) (.agg ys)).run Tryz.prog w=.ok () w:=fun op x y xs ys w=>run_eqGuard_agg w op 310 x y xs ys Tryz.KT
    cases hv:Ax.Term.beq ⟨v.kind,v.text⟩ ⟨x.kind,x.text⟩
    case true=>
     have HV:Hid (v=x):=(Ax.Term.beq_iff _ _).1 hv
     go_wp2_with fail
     go_quiet (fail)
     go_wp2_with fail
     go_ret
     refine⟨k,rfl,⟨fun _=> ?_,fun _=>by omega⟩,by rw[World.drewN_drewN];exact uX _ _ _⟩
     have hm:l[k]∈l:=List.getElem_mem aC
     rw[HX.out]at hm
     rw[HV.out]
     exact hm
    case false=>
     have HV:Hid (¬v=x):=fun e=>by rw[(Ax.Term.beq_iff _ _).2 e]at hv;cases hv
     go_wp2_with fail
     go_quiet (fail)
     go_wp2_with fail
     go_roundw
     case rel=>
      refine⟨k+1,_,by omega,by go_num,rfl,fun j hj hjk=> ?_⟩
      by_cases e:j=k
      · subst e;rw[HX.out];exact HV.out
      · exact C3.out j hj (by omega)
     case measure=>simp[intOf];omega
  · go_wp2_with fail
    go_ret
    refine⟨-1,rfl,⟨fun h=>by omega,fun hm=> ?_⟩,uX _ _ _⟩
    obtain⟨j,hj,e⟩:=List.getElem_of_mem hm
    exact absurd e.symm (C3.out j hj (by omega))
theorem tZ(w:World)(b:Nat)(ad:Option Addr)(c:Nat)(l:List Ax.Term)(v:Ax.Term)(h:w.ownsRow b 310 2 (.slice ad l.length c) l.length (b9 l)):
 Calls Tryz.prog 228 #[.slice ad l.length c,.agg #[.int .i64 v.kind,.string v.text]] w fun e w'=>e=.returned (.bool (Ax.jl l v))∧Below w.heap.size w w':=by
 have hle:=aZ h
 go_enter Tryz.func228,Tryz.ntmps228
 go_wp2_with (go_at_call 262;refine(zi _ _ _ _ _ _ (h.alloc _)).mono ?_;rintro e w' ⟨i,rfl,hi,bk⟩;have HI:Hid (0≤i↔v∈l):=hi;clear hi)
 go_ret
 refine⟨eY (by rw[Bool.eq_iff_iff,Ax.uy];simp;exact HI.out), ?_⟩
 exact((Below.refl _ _).alloc (Nat.le_refl _) _).trans (bk.mono (by simp))
end
/- isWide, bodyHas's closure; slices.IndexFunc, slices.ContainsFunc with each. -/
section
open Go.RowKit
theorem bF(l:List MA)(k:Nat)(h:k<l.length):
 (bl l)[k*3]?=some (.int .i64 (l[k]).1.at_)∧(bl l)[k*3+1]?=some (.string (l[k]).1.pred)∧(bl l)[k*3+2]?=some (l[k]).2:=by
 induction l generalizing k with
 | nil=>simp at h
 | cons a l ih=>
  cases k with
  | zero=>simp[bl]
  | succ k=>
   have:=ih k (by simpa using h)
   have e:∀j,(bl (a::l))[(k+1)*3+j]?=(bl l)[k*3+j]?:=by
    intro j
    have:bl (a::l)=[.int .i64 a.1.at_,.string a.1.pred,a.2]++bl l:=by simp[bl]
    rw[this,List.getElem?_append_right (by simp;omega)]
    congr 1
    simp;omega
   have e0:=e 0
   simp only[Nat.add_zero]at e0
   rw[e0,e 1,e 2]
   simpa using this
theorem ye(w:World)(a:Ax.Atom)(ad:Option Addr)(c:Nat)(hn:a.ag.length≤9223372036854775807):
 Calls Tryz.prog 182 #[.agg #[.int .i64 a.at_,.string a.pred,.slice ad a.ag.length c]] w fun e w'=>e=.returned (.bool (Ax.wide a))∧Below w.heap.size w w':=by
 go_enter Tryz.func182,Tryz.ntmps182
 go_wp2_with fail
 go_ret
 exact⟨eY (by unfold Ax.wide;rw[Bool.eq_iff_iff];simp;omega),(Below.refl _ _).alloc (Nat.le_refl _) _⟩
theorem rp(w:World)(x:Int)(y:ByteArray)(b:Nat)(ad:Option Addr)(c:Nat)(l:List Ax.Term)(t:Ax.Term)(tb:Nat)(h:w.ownsRow b 310 2 (.slice ad l.length c) l.length (b9 l))
 (ht:w.heap[tb]?=some (.cells #[.int .i64 t.kind,.string t.text] 310 (0,0))):
 Calls Tryz.prog 227 #[.agg #[.int .i64 x,.string y,.slice ad l.length c],.pointer (some ⟨tb,0,none⟩)] w fun e w'=>e=.returned (.bool (Ax.jl l t))∧Below w.heap.size w w':=by
 have k0:=ab ht 0
 have k1:=ab ht 1
 have aC:=lt_of_heap ht
 simp only[List.getElem?_toArray,List.getElem?_cons_zero,List.getElem?_cons_succ]at k0 k1
 have hle:=aZ h
 go_enter Tryz.func227,Tryz.ntmps227
 go_wp2_with (go_at_call 228;refine(tZ _ _ _ _ _ t (h.alloc _)).mono ?_;rintro e w' ⟨rfl,bk⟩)
 go_ret
 exact⟨rfl,((Below.refl _ _).alloc (Nat.le_refl _) _).trans (bk.mono (by simp))⟩
theorem zR(w:World)(b:Nat)(ad:Option Addr)(c:Nat)(l:List MA)(h:w.ownsRow b 219 3 (.slice ad l.length c) l.length (bl l))(cB:tA w l):
 Calls Tryz.prog 226 #[.slice ad l.length c,.func (Fn.func 182) #[] #[]] w fun e w'=>∃i:Int,e=.returned (.int .i64 i)∧(0≤i↔∃x,x∈l∧Ax.wide x.1=true)∧Below w.heap.size w w':=by
 have hle:=aZ h
 go_enter Tryz.func226,Tryz.ntmps226
 go_wp2_with fail
 go_loopw [8] (fun i wr=>∃k:Nat,k≤l.length∧i=.int .i64 k∧Below w.heap.size w wr∧∀j (hj:j<l.length),j<k→Ax.wide (l[j]).1=false) (fun i _=>l.length-(intOf i).toNat)
 case atStart=>exact⟨0,Nat.zero_le _,rfl,Below.refl _ _,fun j _ hj=>by omega⟩
 case round=>
  obtain⟨k,hk,rfl,aR,jO⟩:=hrel
  have C3:Hid (∀j (hj:j<l.length),j<k→Ax.wide (l[j]).1=false):=jO
  clear jO
  by_cases aC:k<l.length
  · have bV:=af h aR
    obtain⟨g,rfl,hg,hc,bA⟩:=ax bV (by omega)
    have gH:=bA _ _ (bF l k aC).1
    have gC:=bA _ _ (bF l k aC).2.1
    have iD:=bA _ _ (bF l k aC).2.2
    have yV:MA.ok wr l[k]:=mn cB aR _ (List.getElem_mem aC)
    obtain⟨Qz,c',u7⟩:=ah yV
    unfold MA.ok at yV
    rw[u7]at iD yV
    generalize ha:(l[k]).1=a at gH gC iD yV
    have HA:Hid ((l[k]).1=a):=ha
    clear ha u7 bA bV
    have hnk:=aZ yV
    cases hv:Ax.wide a
    case true=>
     go_wp2_with (go_at_call 182;refine(ye _ _ _ _ hnk).mono ?_;rintro e w1 ⟨rfl,bk⟩)
     go_ret
     refine⟨k,rfl,⟨fun _=>⟨l[k],List.getElem_mem aC,by rw[HA.out];exact hv⟩,fun _=>by omega⟩,aR.trans (bk.mono aR.size)⟩
    case false=>
     go_wp2_with (go_at_call 182;refine(ye _ _ _ _ hnk).mono ?_;rintro e w1 ⟨rfl,bk⟩)
     go_roundw
     case rel=>
      refine⟨k+1,by omega,by go_num,aR.trans (bk.mono aR.size),fun j hj hjk=> ?_⟩
      by_cases e:j=k
      · subst e;rw[HA.out];exact hv
      · exact C3.out j hj (by omega)
     case measure=>simp[intOf];omega
  · go_wp2_with fail
    go_ret
    refine⟨-1,rfl,⟨fun h=>by omega,fun hm=> ?_⟩,aR⟩
    obtain⟨x,hx,hp⟩:=hm
    obtain⟨j,hj,e⟩:=List.getElem_of_mem hx
    have:=C3.out j hj (by omega)
    rw[e,hp]at this
    cases this
theorem mL(w:World)(b:Nat)(ad:Option Addr)(c:Nat)(l:List MA)(h:w.ownsRow b 219 3 (.slice ad l.length c) l.length (bl l))(cB:tA w l):
 Calls Tryz.prog 181 #[.slice ad l.length c,.func (Fn.func 182) #[] #[]] w fun e w'=>e=.returned (.bool (Ax.iw (l.map Prod.fst)))∧Below w.heap.size w w':=by
 have hle:=aZ h
 go_enter Tryz.func181,Tryz.ntmps181
 go_wp2_with (go_at_call 226;refine(zR _ _ _ _ _ h cB).mono ?_;rintro e w' ⟨i,rfl,hi,bk⟩;have HI:Hid (0≤i↔∃x,x∈l∧Ax.wide x.1=true):=hi;clear hi)
 go_ret
 refine⟨eY ?_,bk⟩
 unfold Ax.iw
 rw[Bool.eq_iff_iff,List.any_eq_true]
 simp only[decide_eq_true_eq,List.mem_map]
 rw[HI.out]
 constructor
 · rintro⟨x,hx,hp⟩;exact⟨x.1,⟨x,hx,rfl⟩,hp⟩
 · rintro⟨_,⟨x,hx,rfl⟩,hp⟩;exact⟨x,hx,hp⟩
theorem Cs(w:World)(b:Nat)(ad:Option Addr)(c:Nat)(l:List MA)(h:w.ownsRow b 219 3 (.slice ad l.length c) l.length (bl l))(cB:tA w l)(t:Ax.Term)(tb:Nat)(ht:w.heap[tb]?=some (.cells #[.int .i64 t.kind,.string t.text] 310 (0,0))):
 Calls Tryz.prog 226 #[.slice ad l.length c,.func (Fn.func 227) #[] #[.pointer (some ⟨tb,0,none⟩)]] w fun e w'=>∃i:Int,e=.returned (.int .i64 i)∧(0≤i↔∃x,x∈l∧Ax.jl x.1.ag t=true)∧Below w.heap.size w w':=by
 have hle:=aZ h
 go_enter Tryz.func226,Tryz.ntmps226
 go_wp2_with fail
 go_loopw [8] (fun i wr=>∃k:Nat,k≤l.length∧i=.int .i64 k∧Below w.heap.size w wr∧∀j (hj:j<l.length),j<k→Ax.jl (l[j]).1.ag t=false) (fun i _=>l.length-(intOf i).toNat)
 case atStart=>exact⟨0,Nat.zero_le _,rfl,Below.refl _ _,fun j _ hj=>by omega⟩
 case round=>
  obtain⟨k,hk,rfl,aR,jO⟩:=hrel
  have C3:Hid (∀j (hj:j<l.length),j<k→Ax.jl (l[j]).1.ag t=false):=jO
  clear jO
  by_cases aC:k<l.length
  · have bV:=af h aR
    obtain⟨g,rfl,hg,hc,bA⟩:=ax bV (by omega)
    have gH:=bA _ _ (bF l k aC).1
    have gC:=bA _ _ (bF l k aC).2.1
    have iD:=bA _ _ (bF l k aC).2.2
    have yV:MA.ok wr l[k]:=mn cB aR _ (List.getElem_mem aC)
    obtain⟨Qz,c',u7⟩:=ah yV
    unfold MA.ok at yV
    rw[u7]at iD yV
    generalize ha:(l[k]).1=a at gH gC iD yV
    have HA:Hid ((l[k]).1=a):=ha
    clear ha u7 bA bV
    have oh:=(aR.block tb (lt_of_heap ht)).trans ht
    cases hv:Ax.jl a.ag t
    case true=>
     go_wp2_with (go_at_call 227;refine(rp _ _ _ _ _ _ _ t tb yV oh).mono ?_;rintro e w1 ⟨rfl,bk⟩)
     go_ret
     refine⟨k,rfl,⟨fun _=>⟨l[k],List.getElem_mem aC,by rw[HA.out];exact hv⟩,fun _=>by omega⟩,aR.trans (bk.mono aR.size)⟩
    case false=>
     go_wp2_with (go_at_call 227;refine(rp _ _ _ _ _ _ _ t tb yV oh).mono ?_;rintro e w1 ⟨rfl,bk⟩)
     go_roundw
     case rel=>
      refine⟨k+1,by omega,by go_num,aR.trans (bk.mono aR.size),fun j hj hjk=> ?_⟩
      by_cases e:j=k
      · subst e;rw[HA.out];exact hv
      · exact C3.out j hj (by omega)
     case measure=>simp[intOf];omega
  · go_wp2_with fail
    go_ret
    refine⟨-1,rfl,⟨fun h=>by omega,fun hm=> ?_⟩,aR⟩
    obtain⟨x,hx,hp⟩:=hm
    obtain⟨j,hj,e⟩:=List.getElem_of_mem hx
    have:=C3.out j hj (by omega)
    rw[e,hp]at this
    cases this
theorem vi(w:World)(b:Nat)(ad:Option Addr)(c:Nat)(l:List MA)(h:w.ownsRow b 219 3 (.slice ad l.length c) l.length (bl l))(cB:tA w l)(t:Ax.Term)(tb:Nat)(ht:w.heap[tb]?=some (.cells #[.int .i64 t.kind,.string t.text] 310 (0,0))):
 Calls Tryz.prog 181 #[.slice ad l.length c,.func (Fn.func 227) #[] #[.pointer (some ⟨tb,0,none⟩)]] w fun e w'=>e=.returned (.bool (Ax.nH (l.map Prod.fst) t))∧Below w.heap.size w w':=by
 have hle:=aZ h
 go_enter Tryz.func181,Tryz.ntmps181
 go_wp2_with (go_at_call 226;refine(Cs _ _ _ _ _ h cB t tb ht).mono ?_;rintro e w' ⟨i,rfl,hi,bk⟩;have HI:Hid (0≤i↔∃x,x∈l∧Ax.jl x.1.ag t=true):=hi;clear hi)
 go_ret
 refine⟨eY ?_,bk⟩
 unfold Ax.nH
 rw[Bool.eq_iff_iff,List.any_eq_true]
 simp only[decide_eq_true_eq,List.mem_map]
 rw[HI.out]
 constructor
 · rintro⟨x,hx,hp⟩;exact⟨x.1,⟨x,hx,rfl⟩,hp⟩
 · rintro⟨_,⟨x,hx,rfl⟩,hp⟩;exact⟨x,hx,hp⟩
end
/- (Rule).atoms, bodyHas. -/
section
open Go.RowKit
theorem ownsRow_lit{w:World}{b:Nat}{e:TypeId}{xs:List Value}{size:Nat}(hs:xs.length=size)(hb:b≤w.heap.size):(w.alloc (.cells xs.toArray e)).ownsRow b e size (.slice (some ⟨w.heap.size,0,none⟩) 1 1) 1 xs:=
 ⟨by simpa using hs,.inr ⟨w.heap.size,1,xs.toArray,rfl,hb,heap_alloc_new _ _,Nat.le_refl _,by unfold maxLen;omega,by simpa using hs,by simp[←hs]⟩⟩
theorem U5(w:World)(o:Obj)(e:TypeId)(x y z:Value):((w.alloc o).alloc (.cells #[x,y,z] e)).ownsRow (w.heap.size+1) e 3 (.slice (some ⟨w.heap.size+1,0,none⟩) 1 1) 1 [x,y,z]:=by
 have:=ownsRow_lit (w:=w.alloc o) (b:=w.heap.size+1) (e:=e) (xs:=[x,y,z]) (size:=3) rfl (by simp)
 rw[World.size_alloc]at this
 exact this
theorem pN(w:World)(o o':Obj):((w.alloc o).alloc o').heap[w.heap.size+1]?=some o':=by
 have:=heap_alloc_new (w.alloc o) o'
 rw[World.size_alloc]at this
 exact this
theorem zo(l:List MA):(bl l).length=l.length*3:=by induction l with | nil=>rfl | cons a l ih=>simp[bl]at ih ⊢;omega
theorem zt{w:World}{l:List MA}(h:tA w l):∀u∈bl l,u.oneCell'=true:=by
 intro u hu
 simp only[bl,List.mem_flatMap,List.mem_cons,List.not_mem_nil,or_false]at hu
 obtain⟨x,hx,hu⟩:=hu
 rcases hu with rfl | rfl | rfl
 · rfl
 · rfl
 · obtain⟨a,c,e⟩:=ah (h x hx)
   rw[e];rfl
theorem jD(w:World)(a:Ax.Atom)(ad:Option Addr)(c:Nat)(bd:Option Addr)(d:Nat)(l:List MA)(h:MR.ok w ⟨(a,.slice ad a.ag.length c),.slice bd l.length d,l⟩)(hl:l.length≤1000):
 Calls Tryz.prog 112 #[.agg #[.int .i64 a.at_,.string a.pred,.slice ad a.ag.length c,.slice bd l.length d]] w fun e w'=>∃Qz c',e=.returned (.slice Qz (l.length+1) c')∧w'.ownsRow 0 219 3 (.slice Qz (l.length+1) c') (l.length+1) (bl ((a,.slice ad a.ag.length c)::l))∧tA w' ((a,.slice ad a.ag.length c)::l)∧Below w.heap.size w w':=by
 obtain⟨i0,hi,eX,eP,eA⟩:=info_parts Tryz.EN
 obtain⟨hh,hb,jt⟩:=h
 simp only at hh hb jt
 have ju:tA w ((a,.slice ad a.ag.length c)::l):=by
  intro x hx
  rcases List.mem_cons.1 hx with rfl | hx
  · exact hh
  · exact jt x hx
 have h1:=zt jt
 have hlen:=zo l
 have dU:∀w',Below w.heap.size w w'→tA w' ((a,.slice ad a.ag.length c)::l):=fun w' hw=>mn ju hw
 have dt:bl ((a,.slice ad a.ag.length c)::l)=[.int .i64 a.at_,.string a.pred,.slice ad a.ag.length c]++bl l:=by simp[bl]
 have HC:Hid (bl ((a,.slice ad a.ag.length c)::l)=[.int .i64 a.at_,.string a.pred,.slice ad a.ag.length c]++bl l):=dt
 clear dt
 rcases hb.2 with⟨e1,e2⟩ | ⟨g,cap,cur,e1,_,hg,My,_⟩
 · simp only[Value.slice.injEq]at e1
   obtain⟨rfl,_,rfl⟩:=e1
   obtain rfl:l=[]:=List.eq_nil_of_length_eq_zero e2
   simp only[List.length_nil]at*
   clear h1 hlen jt
   go_enter Tryz.func112,Tryz.ntmps112
   go_wp2_with (at_builtin;refine wpList_append_own_none rfl (.tmp 5) (.tmp 7) 220 rfl (w.heap.size+1) 219 i0 3 Tryz.underlying220 hi _ _ _ rfl (U5 _ _ _ _ _ _) rfl ?_)
   go_ret
   have cM:Below w.heap.size w ((w.alloc (.cells #[.int .i64 a.at_,.string a.pred,.slice ad a.ag.length c,.slice none 0 0] 222)).alloc (.cells #[.int .i64 a.at_,.string a.pred,.slice ad a.ag.length c] 219)):=((Below.refl _ _).alloc (Nat.le_refl _) _).alloc (by simp) _
   exact⟨_,_,rfl,by rw[HC.out];exact aN (U5 _ _ _ _ _ _) (Nat.zero_le _),dU _ cM,cM⟩
 · simp only[Value.slice.injEq]at e1
   obtain⟨rfl,_,rfl⟩:=e1
   have bA:=World.ownsRow.cells hb (g:=g) rfl
   go_enter Tryz.func112,Tryz.ntmps112
   go_wp2_with (at_builtin;refine wpList_append_own _ rfl (.tmp 5) (.tmp 7) 220 rfl (w.heap.size+1) 219 i0 _ 3 48 Tryz.underlying220 hi eX eP eA rfl (by decide) _ _ _ rfl (U5 _ _ _ _ _ _) ⟨g,0,none⟩ l.length d (bl l) rfl hlen (World.ownsRow.cells ((hb.alloc _).alloc _) (g:=g) rfl) h1 (by unfold maxLen;omega) (by omega) (by simp) ?_;intro v2 w2 aO bx _;obtain⟨Qz,c',rfl⟩:=ah aO)
   go_ret
   have cM:Below w.heap.size w w2:=by
    refine(((Below.refl _ _).alloc (Nat.le_refl _) _).alloc (by simp) _).grown bx (by simp;omega) ?_
    intro k hk
    have BZ:some (w.heap.size+1)=some k:=hk
    simp only[Option.some.injEq]at BZ
    omega
   rw[Nat.add_comm 1 l.length]at aO
   refine⟨Qz,c',by rw[Nat.add_comm 1 l.length];rfl, ?_,dU _ cM,cM⟩
   rw[HC.out]
   exact aN aO (Nat.zero_le _)
theorem uI(w:World)(a:Ax.Atom)(ad:Option Addr)(c:Nat)(bd:Option Addr)(d:Nat)(l:List MA)(h:MR.ok w ⟨(a,.slice ad a.ag.length c),.slice bd l.length d,l⟩)(t:Ax.Term):
 Calls Tryz.prog 183 #[.agg #[.int .i64 a.at_,.string a.pred,.slice ad a.ag.length c,.slice bd l.length d],.agg #[.int .i64 t.kind,.string t.text]] w fun e w'=>e=.returned (.bool (Ax.nH (l.map Prod.fst) t))∧Below w.heap.size w w':=by
 obtain⟨_,hb,jt⟩:=h
 simp only at hb jt
 go_enter Tryz.func183,Tryz.ntmps183
 go_wp2_with (go_at_call 181;refine(vi _ _ _ _ l ((hb.alloc _).alloc _) (fun x hx=>MA.alloc (MA.alloc (jt x hx) _) _) t (w.heap.size+1) (pN _ _ _)).mono ?_;rintro e w1 ⟨rfl,bk⟩)
 go_ret
 exact⟨rfl,(((Below.refl _ _).alloc (Nat.le_refl _) _).alloc (by simp) _).trans (bk.mono (by simp;omega))⟩
end
end Go.Proofs.YtdmicblafmhflaaGreatDoor
