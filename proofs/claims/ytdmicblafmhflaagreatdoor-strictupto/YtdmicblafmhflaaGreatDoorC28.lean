/- slices.SortFunc at predicates. -/
import Derived.Test.YtdmicblafmhflaaGreatDoorC22
import Derived.Shelf.SlSortCmp.WholeK
import Derived.Lib.Bytealg
import Derived.Test.YtdmicblafmhflaaGreatDoorC23
import Derived.Test.YtdmicblafmhflaaGreatDoorC11
set_option linter.unusedSimpArgs false
set_option linter.unusedVariables false
set_option maxHeartbeats 2000000
set_option maxRecDepth 100000
namespace Go.Proofs.YtdmicblafmhflaaGreatDoor
section
open Go.Shelf Go.RowKit
open Go.Sort (grow PermIn SortedIn SWO flatK get_flatK size_flatK HoldsK)
def R2:Ren:=⟨fun | 6=>113 | 15=>191 | 14=>190 | 28=>241 | 29=>242 | 20=>233 | 21=>234 | 22=>235 | 23=>236 | 24=>237 | 25=>238 | 26=>239 | 27=>240 | 46=>267 | 47=>268 | 48=>269 | 49=>270 | 50=>271 | 57=>288 | n=>n,fun | 22=>144 | 24=>112 | 25=>226 | 3=>3 | 39=>246 | 0=>0 | 53=>228 | 55=>285 | 4=>4 | 46=>373 | 45=>372 | 50=>129 | 5=>5 | 9=>9 | 66=>396 | 70=>400 | 76=>422 | 77=>288 | n=>n,fun n=>n⟩
theorem PA:SlLaysF0.n6 Tryz.prog R2 where
 mixed:=by kernel_rfl
 f6:=⟨(Tryz.f113).name,by kernel_rfl,Tryz.func113.trans (congrArg some (by kernel_rfl))⟩
 f14:=⟨(Tryz.f190).name,by kernel_rfl,Tryz.func190.trans (congrArg some (by kernel_rfl))⟩
 f15:=Tryz.func191.trans (congrArg some (by kernel_rfl))
 f20:=⟨(Tryz.f233).name,by kernel_rfl,Tryz.func233.trans (congrArg some (by kernel_rfl))⟩
 f21:=⟨(Tryz.f234).name,by kernel_rfl,Tryz.func234.trans (congrArg some (by kernel_rfl))⟩
 f22:=⟨(Tryz.f235).name,by kernel_rfl,Tryz.func235.trans (congrArg some (by kernel_rfl))⟩
 f23:=⟨(Tryz.f236).name,by kernel_rfl,Tryz.func236.trans (congrArg some (by kernel_rfl))⟩
 f24:=⟨(Tryz.f237).name,by kernel_rfl,Tryz.func237.trans (congrArg some (by kernel_rfl))⟩
 f25:=⟨(Tryz.f238).name,by kernel_rfl,Tryz.func238.trans (congrArg some (by kernel_rfl))⟩
 f26:=⟨(Tryz.f239).name,by kernel_rfl,Tryz.func239.trans (congrArg some (by kernel_rfl))⟩
 f27:=⟨(Tryz.f240).name,by kernel_rfl,Tryz.func240.trans (congrArg some (by kernel_rfl))⟩
 f28:=Tryz.func241.trans (congrArg some (by kernel_rfl))
 f29:=Tryz.func242.trans (congrArg some (by kernel_rfl))
 f46:=⟨(Tryz.f267).name,by kernel_rfl,Tryz.func267.trans (congrArg some (by kernel_rfl))⟩
 f47:=Tryz.func268.trans (congrArg some (by kernel_rfl))
 f48:=Tryz.func269.trans (congrArg some (by kernel_rfl))
 f49:=⟨(Tryz.f270).name,by kernel_rfl,Tryz.func270.trans (congrArg some (by kernel_rfl))⟩
 f50:=⟨(Tryz.f271).name,by kernel_rfl,Tryz.func271.trans (congrArg some (by kernel_rfl))⟩
 f57:=⟨(Tryz.f288).name,by kernel_rfl,Tryz.func288.trans (congrArg some (by kernel_rfl))⟩
 t0:=Tryz.underlying0
 a0:=Tryz.isAgg0
 z0:=Tryz.sizeOf0
 v0:=Tryz.zeroValue0
 t3:=Tryz.underlying3
 a3:=Tryz.isAgg3
 z3:=Tryz.sizeOf3
 v3:=Tryz.zeroValue3
 t4:=Tryz.underlying4
 a4:=Tryz.isAgg4
 z4:=Tryz.sizeOf4
 v4:=Tryz.zeroValue4
 t5:=Tryz.underlying5
 a5:=Tryz.isAgg5
 z5:=Tryz.sizeOf5
 v5:=Tryz.zeroValue5
 t9:=Tryz.underlying9
 a9:=Tryz.isAgg9
 z9:=Tryz.sizeOf9
 v9:=Tryz.zeroValue9
 t22:=Tryz.underlying144
 a22:=Tryz.isAgg144
 z22:=Tryz.sizeOf144
 v22:=Tryz.zeroValue144
 t25:=Tryz.underlying226
 a25:=Tryz.isAgg226
 z25:=Tryz.sizeOf226
 v25:=Tryz.zeroValue226
 t39:=Tryz.underlying246
 a39:=Tryz.isAgg246
 z39:=Tryz.sizeOf246
 v39:=Tryz.zeroValue246
 t45:=Tryz.underlying372
 a45:=Tryz.isAgg372
 z45:=Tryz.sizeOf372
 v45:=Tryz.zeroValue372
 t46:=Tryz.underlying373
 a46:=Tryz.isAgg373
 z46:=Tryz.sizeOf373
 v46:=Tryz.zeroValue373
 t50:=Tryz.underlying129
 a50:=Tryz.isAgg129
 z50:=Tryz.sizeOf129
 v50:=Tryz.zeroValue129
 t53:=Tryz.underlying228
 a53:=Tryz.isAgg228
 z53:=Tryz.sizeOf228
 v53:=Tryz.zeroValue228
 t55:=Tryz.underlying285
 a55:=Tryz.isAgg285
 z55:=Tryz.sizeOf285
 v55:=Tryz.zeroValue285
 t66:=Tryz.underlying396
 a66:=Tryz.isAgg396
 z66:=Tryz.sizeOf396
 v66:=Tryz.zeroValue396
 t70:=Tryz.underlying400
 a70:=Tryz.isAgg400
 z70:=Tryz.sizeOf400
 v70:=Tryz.zeroValue400
 t76:=Tryz.underlying422
 a76:=Tryz.isAgg422
 z76:=Tryz.sizeOf422
 v76:=Tryz.zeroValue422
 t77:=Tryz.underlying288
 a77:=Tryz.isAgg288
 z77:=Tryz.sizeOf288
 v77:=Tryz.zeroValue288
theorem nW:∀(a b:List UInt8),Lib.compareBytes a b=if a<b then-1 else if b<a then 1 else 0
 | [],[]=>by simp[Lib.compareBytes]
 | [],_::_=>by simp[Lib.compareBytes]
 | _::_,[]=>by simp[Lib.compareBytes]
 | a::u,b::v=>by
  unfold Lib.compareBytes
  rw[nW u v]
  by_cases h1:a<b
  · simp[h1,List.cons_lt_cons_iff]
  · by_cases h2:b<a
    · have h3:¬a=b:=fun e=>by subst e;exact h1 h2
      simp[h1,h2,h3,List.cons_lt_cons_iff]
    · have h3:a=b:=UInt8.le_antisymm (UInt8.not_lt.1 h2) (UInt8.not_lt.1 h1)
      subst h3
      simp[List.cons_lt_cons_iff]
theorem su(a b:ByteArray):Lib.compareBytes a.data.toList b.data.toList=Tb.iA a b:=by
 rw[nW,←ByteArray.toList_eq,←ByteArray.toList_eq]
 unfold Tb.iA
 simp only[Tb.nw]
theorem zr(a b:ByteArray)(w:World):Calls Tryz.prog 192 #[.string a,.string b] w fun e w'=>e=.returned (.int .i64 (Tb.iA a b))∧w'=w:=by
 go_enter Tryz.func192,Tryz.ntmps192
 go_wp2
 rw[run_callFunc_extern Tryz.func243 (by kernel_rfl) (by kernel_rfl) (by kernel_rfl) (e:=Extern.BytealgCompare.compare) (by kernel_rfl),Lib.run_compareString,su]
 simp only[Result.andThen]
 rw[Oper.upon_value]
 go_wp2
 go_ret
 exact⟨rfl,rfl⟩
theorem xJ(a b:ByteArray)(w:World):Calls Tryz.prog 115 #[.string a,.string b] w fun e w'=>e=.returned (.int .i64 (Tb.iA a b))∧w'=w:=by
 have hc:=zr a b
 generalize Tb.iA a b=r at hc ⊢
 go_enter Tryz.func115,Tryz.ntmps115
 go_wp2_with (go_at_call 192;refine(hc _).mono ?_;rintro e w' ⟨rfl,rfl⟩)
 go_ret
 exact⟨rfl,rfl⟩
def kZ(p:Pd.Pr):List Value:=[.string p.1,.int .i64 p.2]
def GS(a b:Pd.Pr):Int:=Tb.iA a.1 b.1
theorem RV(a b:Pd.Pr):ltOf GS a b=Tb.slt a.1 b.1:=by
 unfold ltOf GS
 rw[Bool.eq_iff_iff,decide_eq_true_iff]
 exact Tb.ou
theorem Zt:SWO (ltOf GS) where
 irrefl x:=by rw[RV];exact Tb.nP _
 trans x y z h1 h2:=by rw[RV]at *;exact Tb.pH h1 h2
 ntrans x y z h1 h2:=by
  rw[RV]at*
  cases h:Tb.slt x.1 z.1 with
  | false=>rfl
  | true=>
   cases h3:Tb.slt y.1 x.1 with
   | true=>rw[Tb.pH h3 h]at h2;cases h2
   | false=>rw[Tb.vP h1 h3]at h;rw[h]at h2;cases h2
theorem LA(x y:Pd.Pr)(W:World):Calls Tryz.prog 114 #[.agg #[.string x.1,.int .i64 x.2],.agg #[.string y.1,.int .i64 y.2]] W fun e w'=>e=.returned (.int .i64 (GS x y))∧∃q os',w'=grow (W.drewN q) os':=by
 have ql:=fun W'=>xJ x.1 y.1 W'
 unfold GS
 generalize Tb.iA x.1 y.1=r at ql ⊢
 go_enter Tryz.func114,Tryz.ntmps114
 go_wp2_with (go_at_call 115;refine(ql _).mono ?_;rintro e w' ⟨rfl,rfl⟩)
 go_ret
 exact⟨rfl,0,_,by rw[Go.Sort.alloc_eq_grow,Go.Sort.alloc_eq_grow,Go.Sort.grow_grow];rfl⟩
theorem KD(da off size:Nat)(w:World):CmpLays Tryz.prog 114 #[] kZ 2 GS da off size w:=fun _ _ _ _ x y=>LA x y _
theorem ND(d:Array Pd.Pr):(flatK kZ 2 d).toList=au d.toList:=by
 apply List.ext_getElem
 · simp[lP]
 · intro t h1 h2
   have hs:t<d.size*2:=by simpa using h1
   have e:=get_flatK kZ 2 d t hs
   rw[getElem!_pos _ t (by simpa using hs)]at e
   rw[Array.getElem_toList,e]
   obtain⟨k,hk⟩:∃k,t=k*2∨t=k*2+1:=⟨t/2,by omega⟩
   have KL:k<d.toList.length:=by simp;omega
   obtain⟨g0,g1⟩:=aU d.toList k KL
   have hd:d[k]! =d.toList[k]:=by rw[getElem!_pos d k (by simpa using KL)];simp
   rcases hk with rfl | rfl
   · rw[show k*2/2=k by omega,show k*2%2=0 by omega,hd]
     rw[List.getElem?_eq_getElem h2]at g0
     simp only[Option.some.injEq]at g0
     rw[g0]
     rfl
   · rw[show(k*2+1)/2=k by omega,show(k*2+1)%2=1 by omega,hd]
     rw[List.getElem?_eq_getElem h2]at g1
     simp only[Option.some.injEq]at g1
     rw[g1]
     rfl
theorem zE(F c:Array Value)(h:F.size≤c.size):(Go.Sort.putCells id 0 F c).toList.take F.size=F.toList∧(Go.Sort.putCells id 0 F c).size=c.size:=by
 have hs:(Go.Sort.putCells id 0 F c).size=c.size:=by simp[Go.Sort.putCells]
 refine⟨?_,hs⟩
 apply List.ext_getElem
 · simp[hs];omega
 · intro t h1 h2
   have ht:t<F.size:=by simpa using h2
   rw[List.getElem_take,Array.getElem_toList]
   simp only[Go.Sort.putCells,Array.getElem_mapIdx]
   rw[if_pos ⟨Nat.zero_le _,by omega⟩,Nat.sub_zero,getElem!_pos F t ht]
   simp
theorem zI{B:Nat}{w:World}{g pc n:Nat}{D:List Pd.Pr}{d':Array Pd.Pr}{os:Array Obj}(aj:w.ownsRow B 112 2 (.slice (some ⟨g,0,none⟩) D.length pc) D.length (au D))(hs:d'.size=D.length):
 (sortWorldK kZ 2 w g 0 n d' os).ownsRow B 112 2 (.slice (some ⟨g,0,none⟩) D.length pc) D.length (au d'.toList)∧Kb [g] w (sortWorldK kZ 2 w g 0 n d' os):=by
 rcases aj.2 with⟨e,_⟩ | ⟨g',cap,cur,e,hB,hg,NP,uw,uP,_⟩
 · simp at e
 · simp only[Value.slice.injEq,Option.some.injEq,Addr.mk.injEq,and_true,true_and]at e
   obtain⟨rfl,rfl⟩:=e
   have hF:(flatK kZ 2 d').size=D.length*2:=by rw[size_flatK,hs]
   have aC:=lt_of_heap hg
   have xC:(sortWorldK kZ 2 w g 0 n d' os).heap=w.heap.modify g (Go.Sort.onCells (Go.Sort.putCells id 0 (flatK kZ 2 d')))++os:=rfl
   obtain⟨p1,p2⟩:=zE (flatK kZ 2 d') cur (by rw[hF,uP];exact Nat.mul_le_mul_right _ NP)
   refine⟨⟨by simp[lP,hs],.inr ⟨g,pc,Go.Sort.putCells id 0 (flatK kZ 2 d') cur,rfl,hB, ?_,NP,uw,by rw[p2,uP], ?_⟩⟩,⟨rfl,rfl,rfl, ?_, ?_⟩⟩
   · rw[xC,Array.getElem?_append_left (by simpa using aC),Array.getElem?_modify,if_pos rfl,hg]
     rfl
   · rw[←hF,p1,ND]
   · rw[xC];simp
   · intro k hk cL
     rw[xC,Array.getElem?_append_left (by simpa using hk),Array.getElem?_modify,if_neg (by simp at cL;omega)]
theorem zG(B:Nat)(w:World)(g pc:Nat)(D:List Pd.Pr)(aj:w.ownsRow B 112 2 (.slice (some ⟨g,0,none⟩) D.length pc) D.length (au D))(hD:D.length≤2000000):
 Calls Tryz.prog 113 #[.slice (some ⟨g,0,none⟩) D.length pc,.func (.func 114) #[] #[]] w fun e w'=>e=.returned (.tuple #[])∧∃D':List Pd.Pr,D'.Perm D∧D'.Pairwise (fun a b=>Tb.slt b.1 a.1=false)∧w'.ownsRow B 112 2 (.slice (some ⟨g,0,none⟩) D'.length pc) D'.length (au D')∧Kb [g] w w':=by
 have eg:∀args w,(callFunc 114 args).run Tryz.prog w=.ok (.enter 114 args) w:=enters_of Tryz.func114 (by kernel_rfl) rfl
 obtain⟨cur,hg⟩:=ay aj (b:=g) rfl
 have kR:=World.ownsRow.cells aj (g:=g) rfl
 have hH:HoldsK kZ 2 w g 0 D.toArray:=by
  intro j hj
  refine⟨?_,by simp[World.frozen?,hg]⟩
  have e:(au D)[j]?=some ((flatK kZ 2 D.toArray)[j]!):=by
   rw[show au D=(flatK kZ 2 D.toArray).toList from(ND D.toArray).symm,Array.getElem?_toList,getElem!_pos _ j hj,Array.getElem?_eq_getElem hj]
  have:=kR j _ e
  rcases j with _ | j
  · simpa [Addr.add]using this
  · simpa [Addr.add]using this
 have ql:=AnyQ.slices_SortFunc PA 2 Tryz.isAgg112 Tryz.sizeOf112 kZ (fun _=>rfl) (fun x v hv=>by simp[kZ]at hv;rcases hv with rfl | rfl<;>rfl) GS Zt 114 #[] g 0 pc D.toArray w eg (KD g 0 D.toArray.size w) hH (lt_of_heap hg) (by simp;omega)
 change Calls Tryz.prog 113 #[.slice (some ⟨g,0,none⟩) D.length pc,.func (.func 114) #[] #[]] w _ at ql
 refine ql.mono ?_
 rintro e w' ⟨rfl,d',n,os,hp,hso,rfl⟩
 have hs:d'.size=D.length:=hp.1
 obtain⟨r1,r2⟩:=zI (n:=n) (os:=os) aj hs
 have OK:d'.toList.Perm D:=by
  have:=hp.2.2
  rw[Array.extract_eq_self_of_le (by rw[hs];simp),Array.extract_eq_self_of_le (by simp)]at this
  simpa using this
 refine⟨rfl,d'.toList,OK, ?_, ?_,r2⟩
 · rw[List.pairwise_iff_getElem]
   intro i j hi hj YH
   have:=hso i j (Nat.zero_le _) YH (by simpa [hs]using hj)
   rw[getElem!_pos d' j (by simpa using hj),getElem!_pos d' i (by simpa using hi),RV]at this
   simpa using this
 · rw[show d'.toList.length=D.length by simpa using hs]
   exact r1
end
/- Preds of no rules: slices.SortFunc of nothing. -/
section
open Go.RowKit
theorem QL(w:World):Calls Tryz.prog 242 #[.int .u64 0] w fun e w'=>e=.returned (.int .i64 0)∧w'=w:=by
 go_enter Tryz.func242,Tryz.ntmps242
 go_wp2_with fail
 go_ret
 exact⟨by kernel_rfl,rfl⟩
theorem ZI(w:World):Calls Tryz.prog 191 #[.int .u64 0] w fun e w'=>e=.returned (.int .i64 0)∧w'=w:=by
 have h:=QL
 go_enter Tryz.func191,Tryz.ntmps191
 go_wp2_with (go_at_call 242;refine(h _).mono ?_;rintro e w1 ⟨rfl,rfl⟩)
 go_ret
 exact⟨rfl,rfl⟩
theorem Dx(w:World)(f:Value):Calls Tryz.prog 233 #[.slice none 0 0,.int .i64 0,.int .i64 0,f] w fun e w'=>e=.returned (.tuple #[])∧w'=w:=by
 go_enter Tryz.func233,Tryz.ntmps233
 go_wp2_with fail
 go_loopw [8] (fun i wr=>i=.int .i64 1∧wr=w) (fun _ _=>0)
 case atStart=>exact⟨rfl,rfl⟩
 case round=>
  obtain⟨rfl,rfl⟩:=hrel
  go_wp2_with fail
  go_end0
  exact⟨rfl,rfl⟩
theorem QZ(w:World)(f:Value):Calls Tryz.prog 190 #[.slice none 0 0,.int .i64 0,.int .i64 0,.int .i64 0,f] w fun e w'=>e=.returned (.tuple #[])∧w'=w:=by
 have h:=Dx
 go_enter Tryz.func190,Tryz.ntmps190
 go_wp2_with fail
 go_loopw [1,2] (fun a b wr=>a=.int .i64 0∧b=.int .i64 0∧wr=w) (fun _ _ _=>0)
 case atStart=>exact⟨rfl,rfl,rfl⟩
 case round=>
  obtain⟨rfl,rfl,rfl⟩:=hrel
  go_wp2_with (go_at_call 233;refine(h _ _).mono ?_;rintro e w1 ⟨rfl,rfl⟩)
  exact bodyPost_ret (results_none rfl _ _ _) rfl ⟨rfl,rfl⟩
theorem NR(w:World)(f:Value):Calls Tryz.prog 113 #[.slice none 0 0,f] w fun e w'=>e=.returned (.tuple #[])∧w'=w:=by
 have h:=QZ
 have h2:=ZI
 go_enter Tryz.func113,Tryz.ntmps113
 go_wp2_with (first | (go_at_call 191;refine(h2 _).mono ?_;rintro e w1 ⟨rfl,rfl⟩) | (go_at_call 190;refine(h _ _).mono ?_;rintro e w1 ⟨rfl,rfl⟩))
 go_end0
 exact⟨rfl,rfl⟩
theorem Kd(w:World)(pl:ByteArray)(rd:Option Addr)(rc:Nat):
 Calls Tryz.prog 59 #[.agg #[.string pl,.slice rd 0 rc]] w fun e w'=>e=.returned (.slice none 0 0)∧Below w.heap.size w w':=by
 have bK:Below w.heap.size w (w.alloc (.cells #[.string pl,.slice rd 0 rc] 101)):=(Below.refl _ _).alloc (Nat.le_refl _) _
 have MV:=NR
 have sU:Hid (∀W,Calls Tryz.prog 116 #[.slice none 0 0] W fun e w'=>e=.returned (.slice none 0 0)∧Hid (Below W.heap.size W w')):=by
  intro W
  refine(ui W.heap.size W none 0 [] (World.ownsRow_nil _ _ _ _) (by decide)).mono ?_
  rintro e w' ⟨rfl,_,q⟩
  exact⟨rfl,q.aK (Below.refl _ _) (Nat.le_refl _) (by simp[Value.ownBlock])⟩
 go_enter Tryz.func59,Tryz.ntmps59
 go_wp2_with fail
 go_loopw [3,11] (fun v i wr=>v=.slice none 0 0∧i=.int .i64 0∧Hid (Below w.heap.size w wr)) (fun _ _ _=>0)
 case atStart=>exact⟨rfl,rfl,bK⟩
 case round=>
  obtain⟨rfl,rfl,hb⟩:=hrel
  clear bK
  go_wp2_with (first | (go_at_call 113;refine(MV _ _).mono ?_;rintro e w2 ⟨rfl,rfl⟩) | (go_at_call 116;refine(sU.out _).mono ?_;rintro e w3 ⟨rfl,h3⟩))
  go_ret
  exact⟨rfl,hb.out.trans (h3.out.mono hb.out.size)⟩
end
/- Preds. -/
section
open Go.RowKit
theorem pD(w:World)(pl:ByteArray)(rd:Option Addr)(rc:Nat)(l:List MR)(h:aB w rd rc l)(wu:l.length≤1000)(h1:Pd.One (aS (l.map MR.ak))):
 Calls Tryz.prog 59 #[.agg #[.string pl,.slice rd l.length rc]] w fun e w'=>∃qd qc Q,e=.returned (.slice qd (List.length Q) qc)∧w'.ownsRow w.heap.size 112 2 (.slice qd Q.length qc) Q.length (au Q)∧Below w.heap.size w w'∧Hid (Pd.lX Q∧∀p,p∈Q↔p∈aS (l.map MR.ak)):=by
 by_cases cL:l=[]
 · subst cL
   refine(Kd w pl rd rc).mono ?_
   rintro e w' ⟨rfl,hb⟩
   exact⟨none,0,[],rfl,World.ownsRow_nil _ _ _ _,hb,List.Pairwise.nil,fun p=>by simp[aS]⟩
 obtain⟨i0,kP,eX,eP,eA⟩:=info_parts Tryz.Oy
 have HI:Hid (Tryz.prog.info? 112=some i0):=kP
 have H0:Hid (i0.zero=some (.agg #[.string ByteArray.empty,.int .i64 0])):=eX
 have H1:Hid (i0.size=2):=eP
 have H2:Hid (i0.bytes=24):=eA
 clear kP eX eP eA
 have Xw:Hid (Pd.One (aS (l.map MR.ak))):=h1
 have bK:Below w.heap.size w (w.alloc (.cells #[.string pl,.slice rd l.length rc] 101)):=(Below.refl _ _).alloc (Nat.le_refl _) _
 have hlp:0<l.length:=List.length_pos_iff.2 cL
 clear h1 cL
 have P7:Hid (∀k,k≤l.length→(aS ((l.take k).map MR.ak)).length≤1001*k):=by
  intro k hk
  have:=Ky (l:=l.take k) (fun r hr=>h.2.2 r (List.mem_of_mem_take hr))
  rw[List.length_take,Nat.min_eq_left hk]at this
  exact this
 go_enter Tryz.func59,Tryz.ntmps59
 go_wp2_with fail
 go_loopw [3,11] (fun v i wr=>∃k:Nat,k≤l.length∧i=.int .i64 k∧A2 w wr v (aS ((l.take k).map MR.ak))) (fun _ i _=>l.length-(intOf i).toNat)
 case atStart=>exact⟨0,Nat.zero_le _,rfl,World.ownsRow_nil _ _ _ _,bK⟩
 case round=>
  obtain⟨k,hk,rfl,aj,aR⟩:=hrel
  obtain⟨qd,qc,Xr⟩:=ah aj
  subst Xr
  obtain⟨w0,rfl⟩:∃x,x=wr:=⟨_,rfl⟩
  have cr:=aR.size
  have JF:=P7.out k hk
  by_cases aC:k<l.length
  · obtain⟨g,a,ad,c,bd,d,body,rfl,hg,na,d0,d1,d2,d3,x7,fE,gS⟩:=(h.below aR).at aC
    have LX:Hid (aS ((l.take (k+1)).map MR.ak)=aS ((l.take k).map MR.ak)++(a::body.map Prod.fst).map oc):=by
     rw[Gw aC,gS];rfl
    generalize aS ((l.take k).map MR.ak)=P at aj JF LX
    clear gS
    go_wp2_with (go_at_call 112;refine(jD _ _ _ _ _ _ _ (MR.below x7 ((Below.refl _ _).alloc (Nat.le_refl _) _)) fE).mono ?_;rintro e w1 ⟨Qz,c',rfl,pP,jt,bk⟩)
    have fY:Below w0.heap.size w0 w1:=((Below.refl _ _).alloc (Nat.le_refl _) _).trans (bk.mono (by simp))
    have bj:=af aj fY
    have kW:=fY.size
    have rN:=aR.trans (fY.mono cr)
    clear bk x7 aj fY d0 d1 d2 d3 aR
    generalize hL:(a,Value.slice ad a.ag.length c)::body=L at pP jt
    have TG:L.length=body.length+1:=by rw[←hL];rfl
    have RD:L.map Prod.fst=a::body.map Prod.fst:=by rw[←hL];rfl
    have hLa:L.length≤body.length+1:=by omega
    have hLb:body.length+1≤L.length:=by omega
    rw[←RD]at LX
    clear hL RD TG
    go_loopw [3,18] (fun v i w2=>∃q:Nat,q≤L.length∧i=.int .i64 q∧A2 w w2 v (P++((L.map Prod.fst).take q).map oc)∧Lib.OthersKept 112 none w1 w2) (fun _ i _=>L.length-(intOf i).toNat)
    case atStart=>exact⟨0,Nat.zero_le _,rfl,by simpa using⟨bj,rN⟩,Lib.OthersKept.refl _ _ _⟩
    case round=>
     obtain⟨q,hq,rfl,l6,ho⟩:=hrel
     obtain⟨xd,xc,FL⟩:=ah l6.1
     subst FL
     have AJ:Hid (A2 w wr (.slice xd (P++((L.map Prod.fst).take q).map oc).length xc) (P++((L.map Prod.fst).take q).map oc)):=l6
     have HO:Hid (Lib.OthersKept 112 none w1 wr):=ho
     have hPq:(P++((L.map Prod.fst).take q).map oc).length≤1003003:=by simp;omega
     by_cases pw:q<L.length
     · have bV:=bD pP ho (by decide)
       obtain⟨g2,rfl,dL,uw,bA⟩:=ax bV (by omega)
       have gH:=bA _ _ (bF L q pw).1
       have gC:=bA _ _ (bF L q pw).2.1
       have iD:=bA _ _ (bF L q pw).2.2
       have yV:MA.ok wr L[q]:=qi jt ho (by decide) _ (List.getElem_mem pw)
       obtain⟨yd,yc,u7⟩:=ah yV
       rw[u7]at iD
       have gG:Hid (P++((L.map Prod.fst).take (q+1)).map oc=(P++((L.map Prod.fst).take q).map oc)++[oc (L[q]).1]):=by
        have e0:(L.map Prod.fst).take (q+1)=(L.map Prod.fst).take q++[(L[q]).1]:=by
         rw[List.take_add_one,List.getElem?_eq_getElem (by simpa using pw),List.getElem_map];rfl
        rw[e0,List.map_append,List.append_assoc]
        rfl
       have aj:=l6.1
       have hsw:=l6.2.size
       generalize (L[q]).1=x at gH gC iD gG
       generalize P++((L.map Prod.fst).take q).map oc=P1 at aj AJ gG hPq
       clear u7 bA bV yV l6 ho pP jt bj rN
       go_wp2_with (at_builtin;go_must (refine wpList_append_own _ rfl (.tmp 22) (.tmp 29) 144 rfl w.heap.size 112 i0 _ 2 24 Tryz.underlying144 HI.out H0.out H1.out H2.out rfl (by decide) _ _ _ rfl ((aj.alloc _).alloc _) ⟨wr.heap.size+1,0,none⟩ 1 1 [.string x.pred,.int .i64 x.ag.length] rfl rfl (eM _ _ _ _) (by simp[Value.oneCell']) (by unfold maxLen;omega) (by omega) (by simp;omega) ?_;intro v2 w2 aO ch _;obtain⟨aby,yW⟩:=Ss (p:=oc x) AJ.out aO ch HO.out;clear aO ch))
       go_roundw
       case rel=>exact⟨q+1,by omega,by go_num,by rw[gG.out];exact aby,yW⟩
       case measure=>simp[intOf];omega
     · have HE:Hid (A2 w wr (.slice xd (P++((L.map Prod.fst).take q).map oc).length xc) (aS ((l.take (k+1)).map MR.ak))):=by
        have e:(L.map Prod.fst).take q=L.map Prod.fst:=List.take_of_length_le (by simp;omega)
        rw[LX.out]
        have:=AJ.out
        rw[e]at this ⊢
        exact this
       clear l6 ho AJ LX
       go_wp2_with fail
       go_roundw
       case rel=>exact⟨k+1,by omega,by go_num,HE.out⟩
       case measure=>simp[intOf];omega
  · have CZ:k=l.length:=by omega
    subst CZ
    rw[List.take_length]at aj JF ⊢
    have Fx:0<(aS (l.map MR.ak)).length:=by
     cases l with
     | nil=>simp at hlp
     | cons r l=>simp[aS,Ax.aP.atoms]
    have pQ:Hid (∀D':List Pd.Pr,D'.Perm (aS (l.map MR.ak))→D'.Pairwise (fun a b=>Tb.slt b.1 a.1=false)→Pd.lX (Pd.mw D')∧∀p,p∈Pd.mw D'↔p∈aS (l.map MR.ak)):=by
     intro D' hp hs
     refine⟨Pd.QB D' hs ?_,fun p=>by rw[Pd.BK,hp.mem_iff]⟩
     intro x hx y hy e
     exact Xw.out x (hp.mem_iff.1 hx) y (hp.mem_iff.1 hy) e
    have hDl:(aS (l.map MR.ak)).length≤1001000:=by omega
    generalize hDD:aS (l.map MR.ak)=D at aj pQ Fx hDl ⊢
    have HDD:Hid (aS (l.map MR.ak)=D):=hDD
    clear hDD
    obtain⟨g,rfl,hg,na,_⟩:=ax aj Fx
    have Ia:=(aj.lt g rfl).1
    clear h Xw P7
    have MV:Hid (Calls Tryz.prog 113 #[.slice (some ⟨g,0,none⟩) D.length qc,.func (.func 114) #[] #[]] w0 fun e w'=>e=.returned (.tuple #[])∧∃D':List Pd.Pr,Hid (D'.length=D.length)∧Hid (Pd.lX (Pd.mw D')∧∀p,p∈Pd.mw D'↔p∈D)∧w'.ownsRow w.heap.size 112 2 (.slice (some ⟨g,0,none⟩) D.length qc) D.length (au D')∧Kb [g] w0 w'∧Calls Tryz.prog 116 #[.slice (some ⟨g,0,none⟩) D.length qc] w' fun e w3=>e=.returned (.slice (some ⟨g,0,none⟩) (Pd.mw D').length qc)∧w3.ownsRow w.heap.size 112 2 (.slice (some ⟨g,0,none⟩) (Pd.mw D').length qc) (Pd.mw D').length (au (Pd.mw D'))∧Kb [g] w' w3):=by
     refine(zG w.heap.size _ g qc D aj (by omega)).mono ?_
     rintro e w2 ⟨rfl,D',hp,hso,aO,ml⟩
     have hc:=ui w.heap.size w2 _ qc D' aO (by rw[hp.length_eq];omega)
     rw[hp.length_eq]at hc aO
     exact⟨rfl,D',hp.length_eq,pQ.out D' hp hso,aO,ml,hc⟩
    clear pQ aj
    go_wp2_with (first | (go_at_call 113;refine MV.out.mono ?_;rintro e w2 ⟨rfl,D',zv,P2,aO,ml,Ca⟩) | (go_at_call 116;refine Ca.mono ?_;rintro e w3 ⟨rfl,fG,Gk⟩))
    have vI:=ml.size
    have dU:Below w.heap.size w w3:=Gk.aK (ml.aK aR cr (by simp;omega)) (by omega) (by simp;omega)
    go_ret
    exact⟨_,_,Pd.mw D',rfl,fG,dU,by rw[HDD.out];exact P2⟩
theorem KG(w:World)(pl:ByteArray)(rd:Option Addr)(rc:Nat)(l:List MR)(h:aB w rd rc l)(wu:l.length≤1000)(h1:Pd.One (aS (l.map MR.ak)))(_:l≠[]):
 Calls Tryz.prog 59 #[.agg #[.string pl,.slice rd l.length rc]] w fun e w'=>∃qd qc Q,e=.returned (.slice qd (List.length Q) qc)∧w'.ownsRow w.heap.size 112 2 (.slice qd Q.length qc) Q.length (au Q)∧Below w.heap.size w w'∧Hid (Pd.lX Q∧∀p,p∈Q↔p∈aS (l.map MR.ak)):=
 pD w pl rd rc l h wu h1
end
end Go.Proofs.YtdmicblafmhflaaGreatDoor
