/- slices.SortFunc at predicates. -/
import Derived.Test.YtdmicblafmhflaaGreatDoorC22
import Derived.Shelf.SlSortCmp.WholeK
import Derived.Lib.Bytealg
import Derived.Test.YtdmicblafmhflaaGreatDoorC23
import Derived.Test.YtdmicblafmhflaaGreatDoorC27
import Derived.Test.YtdmicblafmhflaaGreatDoorC24
set_option linter.unusedSimpArgs false
set_option linter.unusedVariables false
set_option maxHeartbeats 2000000
set_option maxRecDepth 100000
namespace Go.Proofs.YtdmicblafmhflaaGreatDoor
section
open Go.Shelf Go.RowKit
open Go.Sort (grow PermIn SortedIn SWO flatK get_flatK size_flatK HoldsK)
def Qn:Ren:=⟨fun | 6=>113 | 15=>191 | 14=>190 | 28=>241 | 29=>242 | 20=>233 | 21=>234 | 22=>235 | 23=>236 | 24=>237 | 25=>238 | 26=>239 | 27=>240 | 46=>267 | 47=>268 | 48=>269 | 49=>270 | 50=>271 | 57=>288 | n=>n,fun | 22=>144 | 24=>112 | 25=>226 | 3=>3 | 39=>246 | 0=>0 | 53=>228 | 55=>285 | 4=>4 | 46=>373 | 45=>372 | 50=>129 | 5=>5 | 9=>9 | 66=>396 | 70=>400 | 76=>422 | 77=>288 | n=>n,fun n=>n⟩
theorem Ox:SlLaysF0.n6 Tryz.prog Qn where
 mixed:=by kernel_rfl
 f6:=⟨(Tryz.f113).name,by kernel_rfl,Tryz.func113.trans (congrArg some (by kernel_rfl))⟩
 f14:=⟨(Tryz.f190).name,by kernel_rfl,Tryz.func190.trans (congrArg some (by kernel_rfl))⟩
 f15:=Tryz.func191.trans (congrArg some (by kernel_rfl))
 f20:=⟨(Tryz.f233).name,by kernel_rfl,Tryz.func233.trans (congrArg some (by kernel_rfl))⟩
 f21:=⟨(Tryz.f234).name,by kernel_rfl,Tryz.func234.trans (congrArg some (by kernel_rfl))⟩
 f22:=⟨(Tryz.f235).name,by kernel_rfl,Tryz.func235.trans (congrArg some (by kernel_rfl))⟩
 f23:=⟨(Tryz.f236).name,by kernel_rfl,Tryz.func236.trans (congrArg some (by kernel_rfl))⟩
 f24:=⟨(Tryz.f237).name,by kernel_rfl,Tryz.func237.trans (congrArg some (by kernel_rfl))⟩
 f25:=⟨(Tryz.f238).name,by kernel_rfl,Tryz.func238.trans (congrArg some (by kernel_rfl))⟩
 f26:=⟨(Tryz.f239).name,by kernel_rfl,Tryz.func239.trans (congrArg some (by kernel_rfl))⟩
 f27:=⟨(Tryz.f240).name,by kernel_rfl,Tryz.func240.trans (congrArg some (by kernel_rfl))⟩
 f28:=Tryz.func241.trans (congrArg some (by kernel_rfl))
 f29:=Tryz.func242.trans (congrArg some (by kernel_rfl))
 f46:=⟨(Tryz.f267).name,by kernel_rfl,Tryz.func267.trans (congrArg some (by kernel_rfl))⟩
 f47:=Tryz.func268.trans (congrArg some (by kernel_rfl))
 f48:=Tryz.func269.trans (congrArg some (by kernel_rfl))
 f49:=⟨(Tryz.f270).name,by kernel_rfl,Tryz.func270.trans (congrArg some (by kernel_rfl))⟩
 f50:=⟨(Tryz.f271).name,by kernel_rfl,Tryz.func271.trans (congrArg some (by kernel_rfl))⟩
 f57:=⟨(Tryz.f288).name,by kernel_rfl,Tryz.func288.trans (congrArg some (by kernel_rfl))⟩
 t0:=Tryz.underlying0
 a0:=Tryz.isAgg0
 z0:=Tryz.sizeOf0
 v0:=Tryz.zeroValue0
 t3:=Tryz.underlying3
 a3:=Tryz.isAgg3
 z3:=Tryz.sizeOf3
 v3:=Tryz.zeroValue3
 t4:=Tryz.underlying4
 a4:=Tryz.isAgg4
 z4:=Tryz.sizeOf4
 v4:=Tryz.zeroValue4
 t5:=Tryz.underlying5
 a5:=Tryz.isAgg5
 z5:=Tryz.sizeOf5
 v5:=Tryz.zeroValue5
 t9:=Tryz.underlying9
 a9:=Tryz.isAgg9
 z9:=Tryz.sizeOf9
 v9:=Tryz.zeroValue9
 t22:=Tryz.underlying144
 a22:=Tryz.isAgg144
 z22:=Tryz.sizeOf144
 v22:=Tryz.zeroValue144
 t25:=Tryz.underlying226
 a25:=Tryz.isAgg226
 z25:=Tryz.sizeOf226
 v25:=Tryz.zeroValue226
 t39:=Tryz.underlying246
 a39:=Tryz.isAgg246
 z39:=Tryz.sizeOf246
 v39:=Tryz.zeroValue246
 t45:=Tryz.underlying372
 a45:=Tryz.isAgg372
 z45:=Tryz.sizeOf372
 v45:=Tryz.zeroValue372
 t46:=Tryz.underlying373
 a46:=Tryz.isAgg373
 z46:=Tryz.sizeOf373
 v46:=Tryz.zeroValue373
 t50:=Tryz.underlying129
 a50:=Tryz.isAgg129
 z50:=Tryz.sizeOf129
 v50:=Tryz.zeroValue129
 t53:=Tryz.underlying228
 a53:=Tryz.isAgg228
 z53:=Tryz.sizeOf228
 v53:=Tryz.zeroValue228
 t55:=Tryz.underlying285
 a55:=Tryz.isAgg285
 z55:=Tryz.sizeOf285
 v55:=Tryz.zeroValue285
 t66:=Tryz.underlying396
 a66:=Tryz.isAgg396
 z66:=Tryz.sizeOf396
 v66:=Tryz.zeroValue396
 t70:=Tryz.underlying400
 a70:=Tryz.isAgg400
 z70:=Tryz.sizeOf400
 v70:=Tryz.zeroValue400
 t76:=Tryz.underlying422
 a76:=Tryz.isAgg422
 z76:=Tryz.sizeOf422
 v76:=Tryz.zeroValue422
 t77:=Tryz.underlying288
 a77:=Tryz.isAgg288
 z77:=Tryz.sizeOf288
 v77:=Tryz.zeroValue288
theorem nO:∀(a b:List UInt8),Lib.compareBytes a b=if a<b then-1 else if b<a then 1 else 0
 | [],[]=>by simp[Lib.compareBytes]
 | [],_::_=>by simp[Lib.compareBytes]
 | _::_,[]=>by simp[Lib.compareBytes]
 | a::u,b::v=>by
  unfold Lib.compareBytes
  rw[nO u v]
  by_cases h1:a<b
  · simp[h1,List.cons_lt_cons_iff]
  · by_cases h2:b<a
    · have h3:¬a=b:=fun e=>by subst e;exact h1 h2
      simp[h1,h2,h3,List.cons_lt_cons_iff]
    · have h3:a=b:=UInt8.le_antisymm (UInt8.not_lt.1 h2) (UInt8.not_lt.1 h1)
      subst h3
      simp[List.cons_lt_cons_iff]
theorem rU(a b:ByteArray):Lib.compareBytes a.data.toList b.data.toList=Tb.ia a b:=by
 rw[nO,←ByteArray.toList_eq,←ByteArray.toList_eq]
 unfold Tb.ia
 simp only[Tb.mT]
theorem zx(a b:ByteArray)(w:World):Calls Tryz.prog 192 #[.string a,.string b] w fun e w'=>e=.returned (.int .i64 (Tb.ia a b))∧w'=w:=by
 go_enter Tryz.func192,Tryz.ntmps192
 go_wp2
 rw[run_callFunc_extern Tryz.func243 (by kernel_rfl) (by kernel_rfl) (by kernel_rfl) (e:=Extern.BytealgCompare.compare) (by kernel_rfl),Lib.run_compareString,rU]
 simp only[Result.andThen]
 rw[Oper.upon_value]
 go_wp2
 go_ret
 exact⟨rfl,rfl⟩
theorem xx(a b:ByteArray)(w:World):Calls Tryz.prog 115 #[.string a,.string b] w fun e w'=>e=.returned (.int .i64 (Tb.ia a b))∧w'=w:=by
 have hc:=zx a b
 generalize Tb.ia a b=r at hc ⊢
 go_enter Tryz.func115,Tryz.ntmps115
 go_wp2_with (go_at_call 192;refine(hc _).mono ?_;rintro e w' ⟨rfl,rfl⟩)
 go_ret
 exact⟨rfl,rfl⟩
def kN(p:Pd.Pr):List Value:=[.string p.1,.int .i64 p.2]
def F9(a b:Pd.Pr):Int:=Tb.ia a.1 b.1
theorem QZ(a b:Pd.Pr):ltOf F9 a b=Tb.slt a.1 b.1:=by
 unfold ltOf F9
 rw[Bool.eq_iff_iff,decide_eq_true_iff]
 exact Tb.oL
theorem Y7:SWO (ltOf F9) where
 irrefl x:=by rw[QZ];exact Tb.na _
 trans x y z h1 h2:=by rw[QZ]at *;exact Tb.pw h1 h2
 ntrans x y z h1 h2:=by
  rw[QZ]at*
  cases h:Tb.slt x.1 z.1 with
  | false=>rfl
  | true=>
   cases h3:Tb.slt y.1 x.1 with
   | true=>rw[Tb.pw h3 h]at h2;cases h2
   | false=>rw[Tb.vG h1 h3]at h;rw[h]at h2;cases h2
theorem Jc(x y:Pd.Pr)(W:World):Calls Tryz.prog 114 #[.agg #[.string x.1,.int .i64 x.2],.agg #[.string y.1,.int .i64 y.2]] W fun e w'=>e=.returned (.int .i64 (F9 x y))∧∃q os',w'=grow (W.drewN q) os':=by
 have qC:=fun W'=>xx x.1 y.1 W'
 unfold F9
 generalize Tb.ia x.1 y.1=r at qC ⊢
 go_enter Tryz.func114,Tryz.ntmps114
 go_wp2_with (go_at_call 115;refine(qC _).mono ?_;rintro e w' ⟨rfl,rfl⟩)
 go_ret
 exact⟨rfl,0,_,by rw[Go.Sort.alloc_eq_grow,Go.Sort.alloc_eq_grow,Go.Sort.grow_grow];rfl⟩
theorem Jh(cU off size:Nat)(w:World):CmpLays Tryz.prog 114 #[] kN 2 F9 cU off size w:=fun _ _ _ _ x y=>Jc x y _
theorem L3(d:Array Pd.Pr):(flatK kN 2 d).toList=aB d.toList:=by
 apply List.ext_getElem
 · simp[lS]
 · intro t h1 h2
   have hs:t<d.size*2:=by simpa using h1
   have e:=get_flatK kN 2 d t hs
   rw[getElem!_pos _ t (by simpa using hs)]at e
   rw[Array.getElem_toList,e]
   obtain⟨k,hk⟩:∃k,t=k*2∨t=k*2+1:=⟨t/2,by omega⟩
   have CB:k<d.toList.length:=by simp;omega
   obtain⟨g0,g1⟩:=aT d.toList k CB
   have hd:d[k]! =d.toList[k]:=by rw[getElem!_pos d k (by simpa using CB)];simp
   rcases hk with rfl | rfl
   · rw[show k*2/2=k by omega,show k*2%2=0 by omega,hd]
     rw[List.getElem?_eq_getElem h2]at g0
     simp only[Option.some.injEq]at g0
     rw[g0]
     rfl
   · rw[show(k*2+1)/2=k by omega,show(k*2+1)%2=1 by omega,hd]
     rw[List.getElem?_eq_getElem h2]at g1
     simp only[Option.some.injEq]at g1
     rw[g1]
     rfl
theorem yL(F c:Array Value)(h:F.size≤c.size):(Go.Sort.putCells id 0 F c).toList.take F.size=F.toList∧(Go.Sort.putCells id 0 F c).size=c.size:=by
 have hs:(Go.Sort.putCells id 0 F c).size=c.size:=by simp[Go.Sort.putCells]
 refine⟨?_,hs⟩
 apply List.ext_getElem
 · simp[hs];omega
 · intro t h1 h2
   have ht:t<F.size:=by simpa using h2
   rw[List.getElem_take,Array.getElem_toList]
   simp only[Go.Sort.putCells,Array.getElem_mapIdx]
   rw[if_pos ⟨Nat.zero_le _,by omega⟩,Nat.sub_zero,getElem!_pos F t ht]
   simp
theorem zw{B:Nat}{w:World}{g pc n:Nat}{D:List Pd.Pr}{d':Array Pd.Pr}{os:Array Obj}(al:w.ownsRow B 112 2 (.slice (some ⟨g,0,none⟩) D.length pc) D.length (aB D))(hs:d'.size=D.length):
 (sortWorldK kN 2 w g 0 n d' os).ownsRow B 112 2 (.slice (some ⟨g,0,none⟩) D.length pc) D.length (aB d'.toList)∧Kb [g] w (sortWorldK kN 2 w g 0 n d' os):=by
 rcases al.2 with⟨e,_⟩ | ⟨g',cap,cur,e,hB,hg,Ko,uI,vm,_⟩
 · simp at e
 · simp only[Value.slice.injEq,Option.some.injEq,Addr.mk.injEq,and_true,true_and]at e
   obtain⟨rfl,rfl⟩:=e
   have hF:(flatK kN 2 d').size=D.length*2:=by rw[size_flatK,hs]
   have aE:=lt_of_heap hg
   have xl:(sortWorldK kN 2 w g 0 n d' os).heap=w.heap.modify g (Go.Sort.onCells (Go.Sort.putCells id 0 (flatK kN 2 d')))++os:=rfl
   obtain⟨p1,p2⟩:=yL (flatK kN 2 d') cur (by rw[hF,vm];exact Nat.mul_le_mul_right _ Ko)
   refine⟨⟨by simp[lS,hs],.inr ⟨g,pc,Go.Sort.putCells id 0 (flatK kN 2 d') cur,rfl,hB, ?_,Ko,uI,by rw[p2,vm], ?_⟩⟩,⟨rfl,rfl,rfl, ?_, ?_⟩⟩
   · rw[xl,Array.getElem?_append_left (by simpa using aE),Array.getElem?_modify,if_pos rfl,hg]
     rfl
   · rw[←hF,p1,L3]
   · rw[xl];simp
   · intro k hk cA
     rw[xl,Array.getElem?_append_left (by simpa using hk),Array.getElem?_modify,if_neg (by simp at cA;omega)]
theorem zm(B:Nat)(w:World)(g pc:Nat)(D:List Pd.Pr)(al:w.ownsRow B 112 2 (.slice (some ⟨g,0,none⟩) D.length pc) D.length (aB D))(hD:D.length≤2000000):
 Calls Tryz.prog 113 #[.slice (some ⟨g,0,none⟩) D.length pc,.func (.func 114) #[] #[]] w fun e w'=>e=.returned (.tuple #[])∧∃D':List Pd.Pr,D'.Perm D∧D'.Pairwise (fun a b=>Tb.slt b.1 a.1=false)∧w'.ownsRow B 112 2 (.slice (some ⟨g,0,none⟩) D'.length pc) D'.length (aB D')∧Kb [g] w w':=by
 have eg:∀args w,(callFunc 114 args).run Tryz.prog w=.ok (.enter 114 args) w:=enters_of Tryz.func114 (by kernel_rfl) rfl
 obtain⟨cur,hg⟩:=aH al (b:=g) rfl
 have kG:=World.ownsRow.cells al (g:=g) rfl
 have hH:HoldsK kN 2 w g 0 D.toArray:=by
  intro j hj
  refine⟨?_,by simp[World.frozen?,hg]⟩
  have e:(aB D)[j]?=some ((flatK kN 2 D.toArray)[j]!):=by
   rw[show aB D=(flatK kN 2 D.toArray).toList from(L3 D.toArray).symm,Array.getElem?_toList,getElem!_pos _ j hj,Array.getElem?_eq_getElem hj]
  have:=kG j _ e
  rcases j with _ | j
  · simpa [Addr.add]using this
  · simpa [Addr.add]using this
 have qC:=AnyQ.slices_SortFunc Ox 2 Tryz.isAgg112 Tryz.sizeOf112 kN (fun _=>rfl) (fun x v hv=>by simp[kN]at hv;rcases hv with rfl | rfl<;>rfl) F9 Y7 114 #[] g 0 pc D.toArray w eg (Jh g 0 D.toArray.size w) hH (lt_of_heap hg) (by simp;omega)
 change Calls Tryz.prog 113 #[.slice (some ⟨g,0,none⟩) D.length pc,.func (.func 114) #[] #[]] w _ at qC
 refine qC.mono ?_
 rintro e w' ⟨rfl,d',n,os,hp,hso,rfl⟩
 have hs:d'.size=D.length:=hp.1
 obtain⟨r1,r2⟩:=zw (n:=n) (os:=os) al hs
 have Mt:d'.toList.Perm D:=by
  have:=hp.2.2
  rw[Array.extract_eq_self_of_le (by rw[hs];simp),Array.extract_eq_self_of_le (by simp)]at this
  simpa using this
 refine⟨rfl,d'.toList,Mt, ?_, ?_,r2⟩
 · rw[List.pairwise_iff_getElem]
   intro i j hi hj YG
   have:=hso i j (Nat.zero_le _) YG (by simpa [hs]using hj)
   rw[getElem!_pos d' j (by simpa using hj),getElem!_pos d' i (by simpa using hi),QZ]at this
   simpa using this
 · rw[show d'.toList.length=D.length by simpa using hs]
   exact r1
end
/- Preds. -/
section
open Go.RowKit
theorem mf(w:World)(pl:ByteArray)(rd:Option Addr)(rc:Nat)(l:List MR)(h:aI w rd rc l)(yD:l.length≤1000)(h1:Pd.One (bP (l.map MR.aw)))(cA:l≠[]):
 Calls Tryz.prog 59 #[.agg #[.string pl,.slice rd l.length rc]] w fun e w'=>∃qd qc Q,e=.returned (.slice qd (List.length Q) qc)∧w'.ownsRow w.heap.size 112 2 (.slice qd Q.length qc) Q.length (aB Q)∧Below w.heap.size w w'∧Hid (Pd.vF Q∧∀p,p∈Q↔p∈bP (l.map MR.aw)):=by
 obtain⟨i0,jy,ew,dZ,dX⟩:=info_parts Tryz.M8
 have HI:Hid (Tryz.prog.info? 112=some i0):=jy
 have H0:Hid (i0.zero=some (.agg #[.string ByteArray.empty,.int .i64 0])):=ew
 have H1:Hid (i0.size=2):=dZ
 have H2:Hid (i0.bytes=24):=dX
 clear jy ew dZ dX
 have Y2:Hid (Pd.One (bP (l.map MR.aw))):=h1
 have bL:Below w.heap.size w (w.alloc (.cells #[.string pl,.slice rd l.length rc] 101)):=(Below.refl _ _).alloc (Nat.le_refl _) _
 have hlp:0<l.length:=List.length_pos_iff.2 cA
 clear h1 cA
 have PQ:Hid (∀k,k≤l.length→(bP ((l.take k).map MR.aw)).length≤1001*k):=by
  intro k hk
  have:=Lq (l:=l.take k) (fun r hr=>h.2.2 r (List.mem_of_mem_take hr))
  rw[List.length_take,Nat.min_eq_left hk]at this
  exact this
 go_enter Tryz.func59,Tryz.ntmps59
 go_wp2_with fail
 go_loopw [3,11] (fun v i wr=>∃k:Nat,k≤l.length∧i=.int .i64 k∧Ab w wr v (bP ((l.take k).map MR.aw))) (fun _ i _=>l.length-(intOf i).toNat)
 case atStart=>exact⟨0,Nat.zero_le _,rfl,World.ownsRow_nil _ _ _ _,bL⟩
 case round=>
  obtain⟨k,hk,rfl,al,aU⟩:=hrel
  obtain⟨qd,qc,YA⟩:=ah al
  subst YA
  obtain⟨w0,rfl⟩:∃x,x=wr:=⟨_,rfl⟩
  have cE:=aU.size
  have JQ:=PQ.out k hk
  by_cases aE:k<l.length
  · obtain⟨g,a,ad,c,bd,d,body,rfl,hg,mG,d0,d1,d2,d3,wh,fm,gC⟩:=(h.below aU).at aE
    have Ip:Hid (bP ((l.take (k+1)).map MR.aw)=bP ((l.take k).map MR.aw)++(a::body.map Prod.fst).map pC):=by
     rw[F6 aE,gC];rfl
    generalize bP ((l.take k).map MR.aw)=P at al JQ Ip
    clear gC
    go_wp2_with (go_at_call 112;refine(jg _ _ _ _ _ _ _ (MR.below wh ((Below.refl _ _).alloc (Nat.le_refl _) _)) fm).mono ?_;rintro e w1 ⟨QB,c',rfl,pE,jz,a8⟩)
    have fQ:Below w0.heap.size w0 w1:=((Below.refl _ _).alloc (Nat.le_refl _) _).trans (a8.mono (by simp))
    have bq:=ae al fQ
    have kV:=fQ.size
    have se:=aU.trans (fQ.mono cE)
    clear a8 wh al fQ d0 d1 d2 d3 aU
    generalize hL:(a,Value.slice ad a.ag.length c)::body=L at pE jz
    have SO:L.length=body.length+1:=by rw[←hL];rfl
    have Qt:L.map Prod.fst=a::body.map Prod.fst:=by rw[←hL];rfl
    have hLa:L.length≤body.length+1:=by omega
    have hLb:body.length+1≤L.length:=by omega
    rw[←Qt]at Ip
    clear hL Qt SO
    go_loopw [3,18] (fun v i w2=>∃q:Nat,q≤L.length∧i=.int .i64 q∧Ab w w2 v (P++((L.map Prod.fst).take q).map pC)∧Lib.OthersKept 112 none w1 w2) (fun _ i _=>L.length-(intOf i).toNat)
    case atStart=>exact⟨0,Nat.zero_le _,rfl,by simpa using⟨bq,se⟩,Lib.OthersKept.refl _ _ _⟩
    case round=>
     obtain⟨q,hq,rfl,nK,ho⟩:=hrel
     obtain⟨xd,xc,Lp⟩:=ah nK.1
     subst Lp
     have tS:Hid (Ab w wr (.slice xd (P++((L.map Prod.fst).take q).map pC).length xc) (P++((L.map Prod.fst).take q).map pC)):=nK
     have HO:Hid (Lib.OthersKept 112 none w1 wr):=ho
     have hPq:(P++((L.map Prod.fst).take q).map pC).length≤1003003:=by simp;omega
     by_cases mL:q<L.length
     · have bQ:=bJ pE ho (by decide)
       obtain⟨g2,rfl,dM,uI,bH⟩:=aD bQ (by omega)
       have fG:=bH _ _ (bK L q mL).1
       have fC:=bH _ _ (bK L q mL).2.1
       have gW:=bH _ _ (bK L q mL).2.2
       have yB:MA.ok wr L[q]:=ql jz ho (by decide) _ (List.getElem_mem mL)
       obtain⟨yd,yc,tU⟩:=ah yB
       rw[tU]at gW
       have fR:Hid (P++((L.map Prod.fst).take (q+1)).map pC=(P++((L.map Prod.fst).take q).map pC)++[pC (L[q]).1]):=by
        have e0:(L.map Prod.fst).take (q+1)=(L.map Prod.fst).take q++[(L[q]).1]:=by
         rw[List.take_add_one,List.getElem?_eq_getElem (by simpa using mL),List.getElem_map];rfl
        rw[e0,List.map_append,List.append_assoc]
        rfl
       have al:=nK.1
       have hsw:=nK.2.size
       generalize (L[q]).1=x at fG fC gW fR
       generalize P++((L.map Prod.fst).take q).map pC=P1 at al tS fR hPq
       clear tU bH bQ yB nK ho pE jz bq se
       go_wp2_with (at_builtin;go_must (refine wpList_append_own _ rfl (.tmp 22) (.tmp 29) 144 rfl w.heap.size 112 i0 _ 2 24 Tryz.underlying144 HI.out H0.out H1.out H2.out rfl (by decide) _ _ _ rfl ((al.alloc _).alloc _) ⟨wr.heap.size+1,0,none⟩ 1 1 [.string x.pred,.int .i64 x.ag.length] rfl rfl (eL _ _ _ _) (by simp[Value.oneCell']) (by unfold maxLen;omega) (by omega) (by simp;omega) ?_;intro v2 w2 aR bR _;obtain⟨ad2,yE⟩:=Qw (p:=pC x) tS.out aR bR HO.out;clear aR bR))
       go_roundw
       case rel=>exact⟨q+1,by omega,by go_num,by rw[fR.out];exact ad2,yE⟩
       case measure=>simp[intOf];omega
     · have HE:Hid (Ab w wr (.slice xd (P++((L.map Prod.fst).take q).map pC).length xc) (bP ((l.take (k+1)).map MR.aw))):=by
        have e:(L.map Prod.fst).take q=L.map Prod.fst:=List.take_of_length_le (by simp;omega)
        rw[Ip.out]
        have:=tS.out
        rw[e]at this ⊢
        exact this
       clear nK ho tS Ip
       go_wp2_with fail
       go_roundw
       case rel=>exact⟨k+1,by omega,by go_num,HE.out⟩
       case measure=>simp[intOf];omega
  · have va:k=l.length:=by omega
    subst va
    rw[List.take_length]at al JQ ⊢
    have Ez:0<(bP (l.map MR.aw)).length:=by
     cases l with
     | nil=>simp at hlp
     | cons r l=>simp[bP,Ax.br.atoms]
    have tJ:Hid (∀D':List Pd.Pr,D'.Perm (bP (l.map MR.aw))→D'.Pairwise (fun a b=>Tb.slt b.1 a.1=false)→Pd.vF (Pd.mv D')∧∀p,p∈Pd.mv D'↔p∈bP (l.map MR.aw)):=by
     intro D' hp hs
     refine⟨Pd.Q0 D' hs ?_,fun p=>by rw[Pd.Bi,hp.mem_iff]⟩
     intro x hx y hy e
     exact Y2.out x (hp.mem_iff.1 hx) y (hp.mem_iff.1 hy) e
    have hDl:(bP (l.map MR.aw)).length≤1001000:=by omega
    generalize hDD:bP (l.map MR.aw)=D at al tJ Ez hDl ⊢
    have HDD:Hid (bP (l.map MR.aw)=D):=hDD
    clear hDD
    obtain⟨g,rfl,hg,mG,_⟩:=aD al Ez
    have GM:=(al.lt g rfl).1
    clear h Y2 PQ
    have Ni:Hid (Calls Tryz.prog 113 #[.slice (some ⟨g,0,none⟩) D.length qc,.func (.func 114) #[] #[]] w0 fun e w'=>e=.returned (.tuple #[])∧∃D':List Pd.Pr,Hid (D'.length=D.length)∧Hid (Pd.vF (Pd.mv D')∧∀p,p∈Pd.mv D'↔p∈D)∧w'.ownsRow w.heap.size 112 2 (.slice (some ⟨g,0,none⟩) D.length qc) D.length (aB D')∧Kb [g] w0 w'∧Calls Tryz.prog 116 #[.slice (some ⟨g,0,none⟩) D.length qc] w' fun e w3=>e=.returned (.slice (some ⟨g,0,none⟩) (Pd.mv D').length qc)∧w3.ownsRow w.heap.size 112 2 (.slice (some ⟨g,0,none⟩) (Pd.mv D').length qc) (Pd.mv D').length (aB (Pd.mv D'))∧Kb [g] w' w3):=by
     refine(zm w.heap.size _ g qc D al (by omega)).mono ?_
     rintro e w2 ⟨rfl,D',hp,hso,aR,lN⟩
     have hc:=uO w.heap.size w2 _ qc D' aR (by rw[hp.length_eq];omega)
     rw[hp.length_eq]at hc aR
     exact⟨rfl,D',hp.length_eq,tJ.out D' hp hso,aR,lN,hc⟩
    clear tJ al
    go_wp2_with (first | (go_at_call 113;refine Ni.out.mono ?_;rintro e w2 ⟨rfl,D',tH,Lb,aR,lN,Ci⟩) | (go_at_call 116;refine Ci.mono ?_;rintro e w3 ⟨rfl,fB,KS⟩))
    have zX:=lN.size
    have dU:Below w.heap.size w w3:=KS.aK (lN.aK aU cE (by simp;omega)) (by omega) (by simp;omega)
    go_ret
    exact⟨_,_,Pd.mv D',rfl,fB,dU,by rw[HDD.out];exact Lb⟩
end
/- Package follow: Model: what it begins with, and how it goes on. -/
namespace En
theorem Nh{F:Type}(k:Nat)(P:List F)(z:F):(nX k P z).length≤2*P.length+1:=by
 unfold nX
 split
 · simp
 · simp
 · simp;omega
theorem AB{F:Type}(P:List F)(z:F):∀R:List (eo F),(l8 R P z).length≤R.length*(2*P.length+1)
 | []=>by simp[l8]
 | r::R=>by
  have ih:=AB P z R
  have h1:=Nh r.k P z
  have h2:=List.length_filterMap_le r.inst (nX r.k P z)
  unfold l8 at ih ⊢
  rw[List.flatMap_cons,List.length_append,List.length_cons,Nat.add_mul]
  omega
theorem Hu{F:Type}:∀R:List (eo F),(S6 R).length≤R.length
 | []=>Nat.le_refl _
 | r::R=>by
  have ih:=Hu R
  unfold S6 at ih ⊢
  rw[List.flatMap_cons,List.length_append,List.length_cons]
  have:(if r.k=0 then (r.inst []).toList else []).length≤1:=by
   split
   · cases r.inst []<;>simp
   · simp
  omega
section
variable {F : Type} [DecidableEq F]
theorem zR(s:dB F)(f:F)(n:Nat):(hold s f n).found.length≤s.found.length+1:=by
 unfold hold
 simp only
 split<;>simp
theorem qe:∀(l:List F) (s:dB F),(holds s l).found.length≤s.found.length+l.length∧∀f,(holds s l).count f≤s.count f+l.length
 | [],s=>⟨Nat.le_refl _,fun _=>Nat.le_refl _⟩
 | x::l,s=>by
  obtain⟨h1,h2⟩:=qe l (hold s x 1)
  have h3:=zR s x 1
  rw[kh,List.length_cons]
  refine⟨by omega,fun f=> ?_⟩
  have h4:=h2 f
  rw[iV]at h4
  split at h4<;>omega
theorem me:∀(l:List F) (s:dB F),(cL s l).found.length≤s.found.length+l.length
 | [],s=>Nat.le_refl _
 | x::l,s=>by
  have h1:=me l (hold s x 0)
  have h3:=zR s x 0
  rw[qA,List.length_cons]
  omega
theorem DC:∀(l:List F) (s:dB F),s.found.length≤(cL s l).found.length
 | [],s=>Nat.le_refl _
 | x::l,s=>by
  have h1:=DC l (hold s x 0)
  have h3:s.found.length≤(hold s x 0).found.length:=by
   unfold hold
   simp only
   split<;>simp
  rw[qA]
  omega
theorem Fz(s:dB F)(l:List F)(f:F):cL s (l++[f])=hold (cL s l) f 0:=by simp[cL]
theorem lz(l:List F)(s:dB F)(f:F):(cL s l).count f=s.count f:=(qh l s).2.2 f
theorem Kx{R:List (eo F)}{fuel n:Nat}{s:dB F}(h1:n<s.found.length)(h2:s.found.length≤200):search R 200 (fuel+1) n s=search R 200 fuel (n+1) (meet R s n):=by
 rw[search,if_pos h1,if_neg (by omega)]
theorem C4{R:List (eo F)}{fuel n:Nat}{s:dB F}(h1:n<s.found.length)(h2:200<s.found.length):search R 200 (fuel+1) n s=none:=by
 rw[search,if_pos h1,if_pos h2]
theorem G3{R:List (eo F)}{fuel n:Nat}{s:dB F}(h1:¬n<s.found.length):search R 200 (fuel+1) n s=some s:=by
 rw[search,if_neg h1]
theorem QR{R:List (eo F)}{n:Nat}{s:dB F}(h:n<s.found.length):meet R s n=holds s (l8 R (s.found.take n) s.found[n]):=by
 unfold meet
 rw[List.getElem?_eq_getElem h]
end
end En
section
open Go.RowKit Go.Maps Go.WideMaps Go.WideElems
def rowsOf(G:List GT)(p:ByteArray):List (List ByteArray):=match G.find? fun t=>decide (t.nm=p)with
 | some t=>t.L
 | none=>[]
theorem qF{G:List GT}(hn:(G.map GT.nm).Nodup){t:GT}(ht:t∈G):rowsOf G t.nm=t.L:=by
 induction G with
 | nil=>cases ht
 | cons a G ih=>
  rw[List.map_cons,List.nodup_cons]at hn
  unfold rowsOf
  rw[List.find?_cons]
  rcases List.mem_cons.1 ht with rfl | ht
  · simp
  · have cA:¬a.nm=t.nm:=fun e=>hn.1 (by rw[e];exact List.mem_map.2 ⟨t,ht,rfl⟩)
    simp only[cA,decide_false]
    exact ih hn.2 ht
def dm(Q:List Pd.Pr)(G:List GT):List En.cl:=Q.flatMap fun p=>(rowsOf G p.1).map fun r=>(p.1,r)
theorem KU{Q:List Pd.Pr}{k:Nat}(h:k<Q.length)(G:List GT):dm (Q.take (k+1)) G=dm (Q.take k) G++(rowsOf G (Q[k]).1).map fun r=>((Q[k]).1,r):=by
 have e:Q.take (k+1)=Q.take k++[Q[k]]:=by rw[List.take_add_one,List.getElem?_eq_getElem h];rfl
 unfold dm
 rw[e,List.flatMap_append]
 simp
theorem zb(Q:List Pd.Pr)(k:Nat)(G:List GT):(dm (Q.take k) G).length≤(dm Q G).length:=by
 have e:Q=Q.take k++Q.drop k:=(List.take_append_drop k Q).symm
 conv=>rhs;rw[e]
 unfold dm
 rw[List.flatMap_append,List.length_append]
 omega
theorem FH{l:List MR}(h:∀r,r∈l→r.body.length≤2):(bP (l.map MR.aw)).length≤3*l.length:=by
 induction l with
 | nil=>simp[bP]
 | cons r l ih=>
  have h1:=ih (fun x hx=>h x (by simp[hx]))
  have h2:=h r (by simp)
  unfold bP at h1 ⊢
  simp only[List.map_cons,List.flatMap_cons,List.map_append,List.length_append,List.length_map]at h1 ⊢
  have e:(Ax.br.atoms r.aw).length=r.body.length+1:=by simp[Ax.br.atoms,MR.aw]
  rw[e,List.length_cons]
  omega
theorem pz{Q:List Pd.Pr}(h:Pd.vF Q):(Q.map Prod.fst).Nodup:=by
 refine List.Pairwise.map _ ?_ h
 intro a b pD e
 rw[e,Tb.na]at pD
 cases pD
theorem tu{Q:List Pd.Pr}(h:Pd.vF Q):Q.Nodup:=by
 refine List.Pairwise.imp ?_ h
 intro a b pD e
 rw[e,Tb.na]at pD
 cases pD
theorem Nb{Q:List Pd.Pr}{G:List GT}(hG:∀t,t∈G→t.L.length≤1000):(dm Q G).length≤1000*Q.length:=by
 have hr:∀p,(rowsOf G p).length≤1000:=by
  intro p
  unfold rowsOf
  split
  · rename_i t ht
    exact hG t (List.mem_of_find?_eq_some ht)
  · simp
 induction Q with
 | nil=>simp[dm]
 | cons p Q ih=>
  unfold dm at ih ⊢
  rw[List.flatMap_cons,List.length_append,List.length_map,List.length_cons]
  have:=hr p.1
  omega
theorem Q2{T T0:List HT}(h:T.map HT.key=T0.map HT.key):T.map ig=T0.map ig:=by
 have e:∀l:List HT,l.map ig=(l.map HT.key).map fun k=>(k.1,k.2.2):=fun l=>by rw[List.map_map];rfl
 rw[e,e,h]
def cK(mb:Nat)(T:List HT):List Nat:=mb::T.flatMap HT.bZ
theorem Ky{sb mb:Nat}{fd:Option Addr}{fc n B:Nat}{T:List HT}(hm:B≤mb)(h:∀b,b∈dA sb fd fc n T→B≤b):∀b,b∈cK mb T→B≤b:=by
 intro b hb
 unfold cK at hb
 rcases List.mem_cons.1 hb with rfl | hb
 · exact hm
 · refine h b ?_
   unfold dA
   simp only[List.mem_cons,List.mem_append]
   exact .inr (.inr hb)
structure u7(w wr:World)(sb mb:Nat)(rv:Value)(K:List (ByteArray×Nat×Nat))(s:En.dB En.cl):Prop where
 at_:∃fd fc T,mM wr sb mb rv fd fc T s∧T.map HT.key=K∧∀b,b∈dA sb fd fc s.found.length T→w.heap.size≤b
 aZ:Below w.heap.size w wr
theorem u7.on{w wr w':World}{sb mb:Nat}{rv:Value}{K:List (ByteArray×Nat×Nat)}{s s':En.dB En.cl}{fd:Option Addr}{fc:Nat}{T:List HT}(hb:Below w.heap.size w wr)(hk:T.map HT.key=K)(hf:∀b,b∈dA sb fd fc s.found.length T→w.heap.size≤b)(mw:iy wr w' sb mb rv fd fc T s s'):u7 w w' sb mb rv K s':=by
 obtain⟨OE,Oj,T',h1,h2,h3⟩:=mw.on
 refine⟨⟨OE,Oj,T',h1,h2.trans hk,fun b wy=> ?_⟩,mw.kept.aK hb hb.size hf⟩
 rcases h3 b wy with e | e
 · exact hf b e
 · exact Nat.le_trans hb.size e
structure pG(w:World)(mb:Nat)(T:List HT)(s:En.dB En.cl):Prop where
 map:ks w mb (T.map HT.pk)
 b7:∀t,t∈T→t.ok w
 names:(T.map HT.nm).Nodup
 rows:∀t,t∈T→∀r,r∈t.L↔(t.nm,r)∈s.found
 vx:∀t,t∈T→t.C=t.L.map fun r=>s.count (t.nm,r)
 zero:∀f,¬f∈s.found→s.count f=0
 short:∀t,t∈T→t.nm.size≤1000000
 CZ:∀t,t∈T→t.L.length≤s.found.length
theorem mM.toH{w:World}{sb mb:Nat}{rv:Value}{fd:Option Addr}{fc:Nat}{T:List HT}{s:En.dB En.cl}(h:mM w sb mb rv fd fc T s):pG w mb T s:=⟨h.map,h.b7,h.names,h.rows,h.vx,h.zero,h.short,fun _ ht=>AL h ht⟩
theorem pG.below{w w':World}{mb:Nat}{T:List HT}{s:En.dB En.cl}(h:pG w mb T s)(hb:Below w.heap.size w w'):pG w' mb T s:=⟨h.map.below hb,fun t ht=>(h.b7 t ht).below hb,h.names,h.rows,h.vx,h.zero,h.short,h.CZ⟩
theorem pG.kept{w w':World}{S:List Nat}{mb:Nat}{T:List HT}{s:En.dB En.cl}(h:pG w mb T s)(hk:Kb S w w')(hS:∀b,b∈cK mb T→¬b∈S):pG w' mb T s:=by
 refine⟨h.map.kept hk (hS mb (by simp[cK])),fun t ht=>(h.b7 t ht).kept hk fun b hb=>hS b ?_,h.names,h.rows,h.vx,h.zero,h.short,h.CZ⟩
 unfold cK
 simp only[List.mem_cons,List.mem_flatMap]
 exact .inr ⟨t,ht,hb⟩
theorem pG.lt{w:World}{mb:Nat}{T:List HT}{s:En.dB En.cl}(h:pG w mb T s){b:Nat}(hb:b∈cK mb T):b<w.heap.size:=by
 unfold cK at hb
 rcases List.mem_cons.1 hb with rfl | hb
 · obtain⟨es,ck,e⟩:=h.map.block
   exact lt_of_heap e
 · obtain⟨t,ht,hb⟩:=List.mem_flatMap.1 hb
   exact(h.b7 t ht).lt hb
theorem DL{w1 W w2:World}(hW:W.heap=(w1.alloc (.cells #[.slice none 0 0,.map none,.slice none 0 0] 322)).heap)(h:Below W.heap.size W w2):
 w2.heap[w1.heap.size]?=some (.cells #[.slice none 0 0,.map none,.slice none 0 0] 322 (0,0))∧w2.cell? ⟨w1.heap.size,0,none⟩=some (.slice none 0 0)∧w2.cell? ⟨w1.heap.size,1,none⟩=some (.map none)∧w2.cell? ⟨w1.heap.size,2,none⟩=some (.slice none 0 0)∧
  w2.frozen? ⟨w1.heap.size,0,none⟩=false∧w2.frozen? ⟨w1.heap.size,1,none⟩=false∧w2.frozen? ⟨w1.heap.size,2,none⟩=false∧w1.heap.size<w2.heap.size:=by
 have hz:w2.heap[w1.heap.size]?=some (.cells #[.slice none 0 0,.map none,.slice none 0 0] 322 (0,0)):=by
  rw[h.block _ (by rw[hW];simp),hW]
  exact heap_alloc_new _ _
 refine⟨hz, ?_, ?_, ?_, ?_, ?_, ?_,lt_of_heap hz⟩
 · rw[cell_of_row _ _ 0 _ _ _ hz];rfl
 · rw[cell_of_row _ _ 1 _ _ _ hz];rfl
 · rw[cell_of_row _ _ 2 _ _ _ hz];rfl
 · simp[World.frozen?,hz]
 · simp[World.frozen?,hz]
 · simp[World.frozen?,hz]
theorem uR{W w2 w3:World}{mb:Nat}{Q:List Pd.Pr}{T:List HT}{rv:Value}(hT:kA W w2 mb Q.length Q T)(hn:(Q.map Prod.fst).Nodup)(hs:∀p,p∈Q→p.1.size≤1000000)(hq:Q.length≤1000){sb:Nat}(hk:Kb [sb] w2 w3)(hsb:sb<mb∨w2.heap.size≤sb)(hblk:w3.heap[sb]?=some (.cells #[rv,.map (some mb),.slice none 0 0] 322 (0,0))):
 mM w3 sb mb rv none 0 T En.cB∧∀b,b∈dA sb none 0 0 T→b=sb∨mb<b:=by
 obtain⟨D,al,hD⟩:=hT.map
 have Pz:=al.lt
 have ga:T.map HT.nm=(Q.map Prod.fst).reverse:=by
  have:=congrArg (List.map Prod.fst) hT.ny
  rw[List.map_map,List.take_length,List.map_reverse]at this
  exact this
 have hL:∀t,t∈T→t.L=[]∧t.C=[]∧t.bZ=[t.g]∧mb<t.g:=by
  intro t ht
  obtain⟨_,p,g,rfl,hg⟩:=hT.b7 t ht
  exact⟨rfl,rfl,rfl,hg⟩
 refine⟨⟨hblk,(ks.of al ?_ hD).kept hk ?_,World.ownsRow_nil _ _ _ _,fun t ht=>(hT.b7 t ht).1.kept hk ?_,hT.apart, ?_, ?_, ?_,fun _ _=>rfl, ?_, ?_⟩, ?_⟩
 · omega
 · simp;omega
 · intro b hb
   have h1:=(hT.b7 t ht).1.lt hb
   rw[(hL t ht).2.2.1,List.mem_singleton]at hb
   have h2:=(hL t ht).2.2.2
   simp;omega
 · rw[ga]
   exact(List.reverse_perm _).nodup_iff.2 hn
 · intro t ht r
   rw[(hL t ht).1]
   simp[En.cB]
 · intro t ht
   rw[(hL t ht).1,(hL t ht).2.1]
   rfl
 · intro f hf
   simp[En.cB]at hf
 · intro t ht
   have:t.nm∈T.map HT.nm:=List.mem_map.2 ⟨t,ht,rfl⟩
   rw[ga,List.mem_reverse]at this
   obtain⟨p,hp,e⟩:=List.mem_map.1 this
   rw[←e]
   exact hs p hp
 · intro b hb
   unfold dA at hb
   rcases List.mem_cons.1 hb with rfl | hb
   · exact .inl rfl
   · simp only[Value.ownBlock,Option.toList_none,List.nil_append,List.mem_flatMap]at hb
     obtain⟨t,ht,hb⟩:=hb
     rw[(hL t ht).2.2.1,List.mem_singleton]at hb
     rw[hb]
     exact .inr (hL t ht).2.2.2
end
end Go.Proofs.YtdmicblafmhflaaGreatDoor
