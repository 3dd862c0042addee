/- facts.Table.Row: a row of names, each cloned. -/
import Derived.Test.YtdmicblafmhflaaGreatDoorC11
import Derived.Test.YtdmicblafmhflaaGreatDoorC13
import Derived.Test.YtdmicblafmhflaaGreatDoorC16
import Derived.Laws.ResultCell
import Derived.Laws.Rows
import Derived.Test.YtdmicblafmhflaaGreatDoorC08
set_option linter.unusedSimpArgs false
set_option linter.unusedVariables false
set_option maxHeartbeats 2000000
set_option maxRecDepth 100000
namespace Go.Proofs.YtdmicblafmhflaaGreatDoor
section
open Go.RowKit
namespace Tb
def ef(l:List ByteArray)(k:Nat):ByteArray:=l.getD k ⟨#[]⟩
def eu(l:List ByteArray):List ByteArray:=[ef l 0,ef l 1,ef l 2]
def fA(l:List ByteArray):Array Value:=#[.string (ef l 0),.string (ef l 1),.string (ef l 2)]
theorem NN{l:List ByteArray}{k j:Nat}:ef (l.take k) j=if j<k then ef l j else ⟨#[]⟩:=by
 unfold ef
 simp only[List.getD_eq_getElem?_getD,List.getElem?_take]
 split<;>rfl
theorem FK{l:List ByteArray}{k:Nat}(hk:k<l.length)(h3:l.length≤3):(fA (l.take k)).setIfInBounds k (.string l[k])=fA (l.take (k+1)):=by
 have e:ef l k=l[k]:=by simp[ef,List.getD_eq_getElem?_getD,hk]
 rw[←e]
 have KS:k<3:=by omega
 unfold fA
 simp only[NN]
 match k,KS with
 | 0,_=>simp[Array.setIfInBounds]
 | 1,_=>simp[Array.setIfInBounds]
 | 2,_=>simp[Array.setIfInBounds]
end Tb
theorem Tb.KI(l:List ByteArray){k:Nat}(h:k<3):(Tb.fA l)[k]?=some (.string (Tb.ef l k)):=by
 match k,h with
 | 0,_=>rfl
 | 1,_=>rfl
 | 2,_=>rfl
theorem cQ{P:Program}{fn:Func}{p u:Tmp}{ty:TypeId}(h:fn.results=#[.cell p ty,.tmp u])(tmps:Array Value)(w:World)(g:Nat)(t:TypeId)(cs:Array Value)(fr:Nat×Nat)(d:TypeDesc)
 (hp:tmps.getD p undef=.pointer (some ⟨g,0,none⟩))(hg:w.heap[g]?=some (.cells cs t fr))
 (hu:P.underlying ty=some d)(hd:(match d with | .struct _ | .array _ _=>true | _=>false)=true)(hi:(P.info? ty).map (·.size)=some cs.size):
 (results fn tmps).run P w=.ok (.tuple #[.agg cs,tmps.getD u undef]) w:=by
 rw[results_cell_tmp h,hp]
 simp only[asAddr,Sem.run_pure,Result.andThen_ok,run_loadVar_row w g t ty cs fr d hg hu hd hi]
theorem Cl{w:World}{g:Nat}{x y z:Value}{T:TypeId}{fr:Nat×Nat}(h:w.heap[g]?=some (.cells #[x,y,z] T fr))(a b c:Value):
 (((w.setCell ⟨g,0,none⟩ a).setCell ⟨g,1,none⟩ b).setCell ⟨g,2,none⟩ c).heap[g]?=some (.cells #[a,b,c] T fr):=by
 have h1:=an w h 0 a
 have h2:=an _ h1 1 b
 have h3:=an _ h2 2 c
 simpa [Array.setIfInBounds]using h3
structure rJ(w wr:World)(l:List ByteArray):Prop where
 aZ:Below w.heap.size w wr
 res:wr.heap[w.heap.size]?=some (.cells #[.string ⟨#[]⟩,.string ⟨#[]⟩,.string ⟨#[]⟩] 119 (0,0))
 row:wr.heap[w.heap.size+1]?=some (.cells (Tb.fA l) 119 (0,0))
theorem rJ.size{w wr:World}{l:List ByteArray}(h:rJ w wr l):wr.heap.size≥w.heap.size+2:=lt_of_heap h.row
theorem rJ.below{w wr w':World}{l:List ByteArray}(h:rJ w wr l)(hb:Below wr.heap.size wr w'):rJ w w' l:=
 ⟨h.aZ.trans (hb.mono h.aZ.size),by rw[hb.block _ (lt_of_heap h.res)];exact h.res,by rw[hb.block _ (lt_of_heap h.row)];exact h.row⟩
theorem rJ.set{w wr:World}{l:List ByteArray}(h:rJ w wr l)(k:Nat)(q:ByteArray):Below w.heap.size w (wr.setCell ⟨w.heap.size+1,k,none⟩ (.string q))∧(wr.setCell ⟨w.heap.size+1,k,none⟩ (.string q)).heap[w.heap.size]?=some (.cells #[.string ⟨#[]⟩,.string ⟨#[]⟩,.string ⟨#[]⟩] 119 (0,0))∧(wr.setCell ⟨w.heap.size+1,k,none⟩ (.string q)).heap[w.heap.size+1]?=some (.cells ((Tb.fA l).setIfInBounds k (.string q)) 119 (0,0)):=
 ⟨h.aZ.setCell (p:=⟨w.heap.size+1,k,none⟩) (by simp) _,(Below.heap_setCell _ _ _ _ (by simp)).trans h.res,an _ h.row _ _⟩
theorem IJ(w:World)(g pl:Nat)(names:List ByteArray)(v:Value)(hc:w.cell? ⟨g,1,none⟩=some (.int .i64 pl))(hv:w.ownsRow 0 9 1 v names.length (strCells names))(hl:names.length=pl)(h3:names.length≤3)
 (hn:∀a,a∈names→Ax.mR a=true)(hs:∀a,a∈names→a.size≤1000)(hT:eW w):
 Calls Tryz.prog 74 #[.pointer (some ⟨g,0,none⟩),v] w fun e w'=>e=.returned (.tuple #[.agg (Tb.fA names),.bool true])∧Below w.heap.size w w':=by
 subst hl
 obtain⟨ad,ac,LB⟩:=ah hv
 subst LB
 have HT:Hid (eW w):=hT
 have HV:Hid (w.ownsRow 0 9 1 (.slice ad names.length ac) names.length (strCells names)):=hv
 have HN:Hid (∀a,a∈names→Ax.mR a=true∧a.size≤1000):=fun a ha=>⟨hn a ha,hs a ha⟩
 have ZU:=block_lt_of_cell hc
 clear hT hv hn hs
 have HS:Hid (rJ w ((w.alloc (.cells #[.string ⟨#[]⟩,.string ⟨#[]⟩,.string ⟨#[]⟩] 119)).alloc (.cells #[.string ⟨#[]⟩,.string ⟨#[]⟩,.string ⟨#[]⟩] 119)) (names.take 0)):=
  ⟨((Below.refl _ _).alloc (Nat.le_refl _) _).alloc (by simp) _,by rw[Below.heap_alloc _ _ _ (by simp)];exact heap_alloc_new w _,by
   have:=qv w (.cells #[.string ⟨#[]⟩,.string ⟨#[]⟩,.string ⟨#[]⟩] 119) (.cells #[.string ⟨#[]⟩,.string ⟨#[]⟩,.string ⟨#[]⟩] 119)
   simpa [Tb.fA,Tb.ef]using this⟩
 go_enter Tryz.func74,Tryz.ntmps74
 go_wp2_with fail
 go_loopw [20] (fun i wr=>∃(k:Nat),k≤names.length∧i=.int .i64 k∧rJ w wr (names.take k)) (fun i _=>names.length-(intOf i).toNat)
 case atStart=>exact⟨0,Nat.zero_le _,rfl,HS.out⟩
 case round=>
  obtain⟨k,hk,rfl,hr⟩:=hrel
  have HR:Hid (rJ w wr (names.take k)):=hr
  by_cases aE:k<names.length
  · have bQ:=ae HV.out hr.aZ
    obtain⟨g3,rfl,nP,vm,mc⟩:=aD bQ (by omega)
    have ca:wr.cell? ⟨g3,k,none⟩=some (.string names[k]):=mc k _ (by rw[strCells,List.getElem?_map,List.getElem?_eq_getElem aE];rfl)
    have HQ:Hid (Ax.mR names[k]=true∧names[k].size≤1000):=HN.out _ (List.getElem_mem aE)
    have fR:Hid ((Tb.fA (names.take k)).setIfInBounds k (.string names[k])=Tb.fA (names.take (k+1))):=Tb.FK aE h3
    have HLT:Hid (k<names.length):=aE
    have KS:k<3:=by omega
    generalize names[k]=q at ca HQ fR
    have dN:Hid (Calls Tryz.prog 130 #[.string q] wr fun e w5=>e=.returned (.bool true)∧Hid (rJ w w5 (names.take k))∧w5.heap.size≥w.heap.size+2):=by
     refine(Fq q wr (Utf8Tabs_below HT.out HR.out.aZ) (by have:=HQ.out.2;unfold maxLen;omega)).mono ?_
     rintro e w5 ⟨rfl,hb⟩
     rw[HQ.out.1]
     have h5:=HR.out.below hb
     exact⟨rfl,h5,h5.size⟩
    have vD:Hid (∀w5,Hid (rJ w w5 (names.take k))→Calls Tryz.prog 102 #[.string q] w5 fun e w6=>e=.returned (.string q)∧Hid (rJ w (w6.setCell ⟨w.heap.size+1,k,none⟩ (.string q)) (names.take (k+1)))∧w6.cell? ⟨w.heap.size+1,k,none⟩=some (.string (Tb.ef (names.take k) k))∧w6.frozen? ⟨w.heap.size+1,k,none⟩=false):=by
     intro w5 h5
     refine(iU q w5 (by have:=HQ.out.2;omega)).mono ?_
     rintro e w6 ⟨rfl,hb⟩
     have h6:=h5.out.below hb
     refine⟨rfl, ?_, ?_, ?_⟩
     · have:=h6.set k q
       rw[fR.out]at this
       exact⟨this.1,this.2.1,this.2.2⟩
     · rw[cell_of_row _ _ _ _ _ _ h6.row]
       exact Tb.KI _ KS
     · simp[World.frozen?,h6.row]
    clear hr bQ mc
    go_wp2_with (first | (go_at_call 130;refine dN.out.mono ?_;rintro e w5 ⟨rfl,H5,Wv⟩) | (go_at_call 102;refine(vD.out _ H5).mono ?_;rintro e w6 ⟨rfl,H6,hc6,hf6⟩))
    go_roundw
    case rel=>exact⟨k+1,HLT.out,by go_num,H6.out⟩
    case measure=>
     have h9:=HLT.out
     simp[intOf]
     omega
  · have HE:Hid (rJ w wr names):=by
     have e0:names.take k=names:=List.take_of_length_le (by omega)
     rw[e0]at hr
     exact hr
    have Ha:wr.heap[w.heap.size+1]?=some (.cells #[.string (Tb.ef names 0),.string (Tb.ef names 1),.string (Tb.ef names 2)] 119 (0,0)):=HE.out.row
    have E7:=HE.out.res
    have c0:wr.cell? ⟨w.heap.size+1,0,none⟩=some (.string (Tb.ef names 0)):=by rw[cell_of_row _ _ _ _ _ _ Ha];rfl
    have c1:wr.cell? ⟨w.heap.size+1,1,none⟩=some (.string (Tb.ef names 1)):=by rw[cell_of_row _ _ _ _ _ _ Ha];rfl
    have c2:wr.cell? ⟨w.heap.size+1,2,none⟩=some (.string (Tb.ef names 2)):=by rw[cell_of_row _ _ _ _ _ _ Ha];rfl
    have d0:wr.cell? ⟨w.heap.size,0,none⟩=some (.string ⟨#[]⟩):=by rw[cell_of_row _ _ _ _ _ _ E7];rfl
    have d1:wr.cell? ⟨w.heap.size,1,none⟩=some (.string ⟨#[]⟩):=by rw[cell_of_row _ _ _ _ _ _ E7];rfl
    have d2:wr.cell? ⟨w.heap.size,2,none⟩=some (.string ⟨#[]⟩):=by rw[cell_of_row _ _ _ _ _ _ E7];rfl
    have f0:∀o,wr.frozen? ⟨w.heap.size,o,none⟩=false:=fun o=>by simp[World.frozen?,E7]
    have fm:=HE.out.aZ
    clear hr Ha E7
    go_wp2_with fail
    refine bodyPost_ret (v:=.tuple #[.agg (Tb.fA names),.bool true]) ?_ rfl ⟨rfl,((fm.setCell (p:=⟨w.heap.size,0,none⟩) (Nat.le_refl _) _).setCell (p:=⟨w.heap.size,1,none⟩) (Nat.le_refl _) _).setCell (p:=⟨w.heap.size,2,none⟩) (Nat.le_refl _) _⟩
    refine Eq.trans (cQ rfl _ _ _ _ _ _ _ rfl (Cl HE.out.res _ _ _) Tryz.underlying119 rfl (by kernel_rfl)) ?_
    rfl
end
/- Hold: a fact holds by so many instances more. -/
namespace Tb
def eJ(L:List Rw)(C:List Nat)(r:Rw):List Nat:=if mg L r=true then C else C.take (pos L r)++[0]++C.drop (pos L r)
def pY(L:List Rw)(C:List Nat)(r:Rw)(n:Nat):List Nat:=(eJ L C r).set (pos L r) ((eJ L C r).getD (pos L r) 0+n)
theorem Bo{L:List Rw}(r:Rw):(put L r).length=if mg L r=true then L.length else L.length+1:=by
 unfold put
 split
 · rfl
 · have:=qg L r
   simp only[ins,List.length_append,List.length_cons,List.length_take,List.length_drop]
   omega
theorem FE{L:List Rw}{C:List Nat}(hC:C.length=L.length)(r:Rw):(eJ L C r).length=(put L r).length:=by
 rw[Bo]
 unfold eJ
 split
 · exact hC
 · have:=qg L r
   simp only[List.length_append,List.length_cons,List.length_nil,List.length_take,List.length_drop]
   omega
theorem Fb{L:List Rw}(h:Ord L)(r:Rw):pos L r<(put L r).length:=by
 rw[Bo]
 split
 · rename_i dN
   exact(List.getElem?_eq_some_iff.1 ((fK h r).2 (dY.1 dN))).1
 · have:=qg L r
   omega
theorem Ql{L:List Rw}(h:Ord L)(r:Rw)(n:Nat)(f:Rw→Nat)(hf:¬r∈L→f r=0):pY L (L.map f) r n=(put L r).map (fun x=>if x=r then f x+n else f x):=by
 have cA:∀x,x∈L.take (pos L r)→x≠r:=by
  intro x hx e
  have:=(qT h r).1 x hx
  rw[e,oo]at this
  omega
 have Fs:∀l:List Rw,(∀x,x∈l→x≠r)→l.map (fun x=>if x=r then f x+n else f x)=l.map f:=by
  intro l hl
  refine List.map_congr_left fun x hx=> ?_
  rw[if_neg (hl x hx)]
 cases dN:mg L r with
 | true=>
  have aE:pos L r<L.length:=(List.getElem?_eq_some_iff.1 ((fK h r).2 (dY.1 dN))).1
  have hg:L[pos L r]=r:=(List.getElem?_eq_some_iff.1 ((fK h r).2 (dY.1 dN))).2
  have e:L=L.take (pos L r)++r::L.drop (pos L r+1):=by
   conv=>lhs;rw[←List.take_append_drop (pos L r) L]
   rw[List.drop_eq_getElem_cons aE,hg]
  have C6:=h.nodup
  rw[e,List.nodup_append]at C6
  have Ke:∀x,x∈L.drop (pos L r+1)→x≠r:=fun x hx e2=>(List.nodup_cons.1 C6.2.1).1 (e2▸hx)
  unfold pY eJ put
  rw[dN]
  simp only[if_true]
  have Aq:(L.map f).getD (pos L r) 0=f r:=by
   rw[List.getD_eq_getElem?_getD,List.getElem?_map,List.getElem?_eq_getElem aE,hg]
   rfl
  rw[Aq]
  generalize hp:pos L r=p at*
  have ti:(L.take p).length=p:=by rw[List.length_take];omega
  conv=>rhs;rw[e]
  rw[List.map_append,List.map_cons,Fs _ cA,Fs _ Ke,if_pos rfl]
  conv=>lhs;rw[e]
  rw[List.map_append,List.map_cons,List.set_append_right _ _ (by rw[List.length_map,ti];exact Nat.le_refl _),List.length_map,ti,Nat.sub_self,List.set_cons_zero]
 | false=>
  have ga:¬r∈L:=fun hc=>by rw[dY.2 hc]at dN;cases dN
  have Vd:=qg L r
  unfold pY eJ put
  rw[dN]
  simp only[Bool.false_eq_true,if_false]
  have ti:((L.map f).take (pos L r)).length=pos L r:=by rw[List.length_take,List.length_map];omega
  have Ke:∀x,x∈L.drop (pos L r)→x≠r:=fun x hx e2=>ga (e2▸List.mem_of_mem_drop hx)
  rw[List.append_assoc,List.set_append_right _ _ (by rw[ti];exact Nat.le_refl _),ti,Nat.sub_self]
  have Aq:((L.map f).take (pos L r)++([0]++(L.map f).drop (pos L r))).getD (pos L r) 0=0:=by
   rw[List.getD_eq_getElem?_getD,List.getElem?_append_right (by rw[ti];exact Nat.le_refl _),ti,Nat.sub_self]
   rfl
  rw[Aq]
  unfold ins
  rw[List.map_append,List.map_cons,Fs _ cA,Fs _ Ke,if_pos rfl,hf ga,List.map_take,List.map_drop]
  rfl
end Tb
/- Hold, walked. -/
section
open Go.RowKit
open Go.Sort (grow)
structure eP(w:World)(g:Nat)(nm:ByteArray)(pl:Nat)(rd:Option Addr)(rc:Nat)(cd:Option Addr)(cc:Nat)(L:List (List ByteArray))(C:List Nat):Prop where
 o7:cp w g 117 nm pl rd rc L [.slice cd L.length cc]
 lu:w.ownsRow 0 3 1 (.slice cd L.length cc) L.length (aA C)
theorem BT(l:List Nat):(aA l).length=l.length:=by simp[aA]
theorem Br(l:List Nat):∀u∈aA l,u.oneCell'=true:=by
 intro u hu
 obtain⟨x,_,rfl⟩:=List.mem_map.1 hu
 rfl
theorem eP.len{w:World}{g:Nat}{nm:ByteArray}{pl:Nat}{rd:Option Addr}{rc:Nat}{cd:Option Addr}{cc:Nat}{L:List (List ByteArray)}{C:List Nat}(h:eP w g nm pl rd rc cd cc L C):C.length=L.length:=by
 have:=h.lu.1
 rw[BT]at this
 omega
theorem eP.below{w w':World}{g:Nat}{nm:ByteArray}{pl:Nat}{rd:Option Addr}{rc:Nat}{cd:Option Addr}{cc:Nat}{L:List (List ByteArray)}{C:List Nat}(h:eP w g nm pl rd rc cd cc L C)(hb:Below w.heap.size w w'):eP w' g nm pl rd rc cd cc L C:=⟨h.o7.below hb,ae h.lu hb⟩
def km(g:Nat)(rd:Option Addr)(rc:Nat)(cd:Option Addr)(cc n:Nat):List Nat:=g::((Value.ownBlock (.slice rd n rc)).toList++(Value.ownBlock (.slice cd n cc)).toList)
theorem eP.kept{w w':World}{S:List Nat}{g:Nat}{nm:ByteArray}{pl:Nat}{rd:Option Addr}{rc:Nat}{cd:Option Addr}{cc:Nat}{L:List (List ByteArray)}{C:List Nat}(h:eP w g nm pl rd rc cd cc L C)(hk:Kb S w w')(hS:∀b,b∈km g rd rc cd cc L.length→¬b∈S):eP w' g nm pl rd rc cd cc L C:=
 ⟨h.o7.kept hk (hS g (by simp[km])) (fun b hb=>hS b (by simp[km,hb])),hk.row h.lu (fun b hb=>hS b (by simp[km,hb]))⟩
theorem aH{w:World}{B:Nat}{e:TypeId}{k n:Nat}{v:Value}{xs:List Value}(h:w.ownsRow B e k v n xs){b:Nat}(hb:v.ownBlock=some b):∃cur,w.heap[b]?=some (.cells cur e (0,0)):=by
 rcases h.2 with⟨rfl,_⟩ | ⟨g,cap,cur,rfl,_,hg,_⟩
 · cases hb
 · simp only[Value.ownBlock,Option.some.injEq]at hb
   subst hb
   exact⟨cur,hg⟩
theorem Io{w W w1:World}{g:Nat}{nm:ByteArray}{pl:Nat}{rd:Option Addr}{rc:Nat}{cd:Option Addr}{cc:Nat}{L:List (List ByteArray)}{C:List Nat}(h:eP w g nm pl rd rc cd cc L C)(hW:Below w.heap.size w W)(hk:Kb (g::(Value.ownBlock (.slice rd L.length rc)).toList) W w1):
 w1.ownsRow 0 3 1 (.slice cd L.length cc) L.length (aA C)∧Kb (km g rd rc cd cc L.length) w w1:=by
 have hb:=h.below hW
 refine⟨hk.dQ hb.lu ?_,(Kb.bF hW _).trans (hk.mono ?_)⟩
 · intro b cur fz fU kG
   rcases List.mem_cons.1 fU with rfl | fU
   · rw[hb.o7.cU]at kG
     simp at kG
   · rw[Option.mem_toList]at fU
     obtain⟨jX,e⟩:=aH hb.o7.rows.own fU
     rw[e]at kG
     simp at kG
 · intro i hi _
   rcases List.mem_cons.1 hi with rfl | hi
   · simp[km]
   · simp only[km,List.mem_cons,List.mem_append];exact .inr (.inl hi)
theorem RA{w w1 W w3:World}{g:Nat}{nm:ByteArray}{pl:Nat}{rd':Option Addr}{rc':Nat}{cd:Option Addr}{cc:Nat}{L L':List (List ByteArray)}{C C':List Nat}{S:List Nat}
 (ht:cp w1 g 117 nm pl rd' rc' L' [.slice cd L.length cc])(hc:w1.ownsRow 0 3 1 (.slice cd L.length cc) L.length (aA C))(hW:Below w1.heap.size w1 W)
 {g' cap:Nat}(al:w3.ownsRow 0 3 1 (.slice (some ⟨g',0,none⟩) (L.length+1) cap) (L.length+1) (aA C'))(hk:Kb (Value.ownBlock (.slice cd L.length cc)).toList W w3)(hL':L'.length=L.length+1):
 eP (w3.setCell ⟨g,3,none⟩ (.slice (some ⟨g',0,none⟩) (L.length+1) cap)) g nm pl rd' rc' (some ⟨g',0,none⟩) cap L' C'∧Kb (g::(Value.ownBlock (.slice cd L.length cc)).toList) w1 (w3.setCell ⟨g,3,none⟩ (.slice (some ⟨g',0,none⟩) (L.length+1) cap)):=by
 have U7:=ht.below hW
 have hcW:=ae hc hW
 have hng:¬g∈(Value.ownBlock (.slice cd L.length cc)).toList:=by
  intro hm
  rw[Option.mem_toList]at hm
  obtain⟨jX,e⟩:=aH hcW hm
  rw[U7.cU]at e
  simp at e
 have wT:cp w3 g 117 nm pl rd' rc' L' [.slice cd L.length cc]:=by
  refine U7.kept hk hng ?_
  intro b hb hm
  rw[Option.mem_toList]at hm
  obtain⟨c1,e1⟩:=aH hcW hm
  obtain⟨c2,e2⟩:=aH U7.rows.own hb
  rw[e1]at e2
  simp at e2
 have sk:=Kb.setCell w3 ⟨g,3,none⟩ (.slice (some ⟨g',0,none⟩) (L.length+1) cap)
 refine⟨⟨⟨?_,⟨wT.rows.three,sk.row wT.rows.own ?_⟩,wT.ord,wT.type⟩, ?_⟩, ?_⟩
 · rw[an w3 wT.cU,hL']
   rfl
 · intro b hb hm
   simp only[List.mem_singleton]at hm
   subst hm
   obtain⟨c2,e2⟩:=aH wT.rows.own hb
   rw[wT.cU]at e2
   simp at e2
 · rw[hL']
   refine sk.row al ?_
   intro b hb hm
   simp only[List.mem_singleton]at hm
   subst hm
   obtain⟨c2,e2⟩:=aH al hb
   rw[wT.cU]at e2
   simp at e2
 · refine Kb.trans' ((Kb.bF hW _).trans (hk.mono ?_)) sk ?_
   · intro i hi _;exact List.mem_cons_of_mem _ hi
   · intro i hi _
     simp only[List.mem_singleton]at hi
     subst hi
     simp
theorem Ht{w:World}{g:Nat}{nm:ByteArray}{pl:Nat}{rd:Option Addr}{rc:Nat}{gc cc:Nat}{L:List (List ByteArray)}{C:List Nat}(h:eP w g nm pl rd rc (some ⟨gc,0,none⟩) cc L C){p:Nat}(hp:p<L.length)(x:Nat):
 eP (w.setCell ⟨gc,p,none⟩ (.int .i64 x)) g nm pl rd rc (some ⟨gc,0,none⟩) cc L (C.set p x)∧Kb [gc] w (w.setCell ⟨gc,p,none⟩ (.int .i64 x)):=by
 have sk:=Kb.setCell w ⟨gc,p,none⟩ (.int .i64 (x:Int))
 have TL:gc≠g:=by
  rintro rfl
  obtain⟨c2,e2⟩:=aH h.lu (b:=gc) rfl
  rw[h.o7.cU]at e2
  simp at e2
 refine⟨⟨h.o7.kept sk (by simpa using fun e=>TL e.symm) ?_, ?_⟩,sk⟩
 · intro b hb hm
   simp only[List.mem_singleton]at hm
   rw[hm]at hb
   obtain⟨c1,e1⟩:=aH h.lu (b:=gc) rfl
   obtain⟨c2,e2⟩:=aH h.o7.rows.own hb
   rw[e1]at e2
   simp at e2
 · have:=World.ownsRow.stored h.lu p (.int .i64 (x:Int))
   have e:aA (C.set p x)=(aA C).set p (.int .i64 (x:Int)):=by
    unfold aA
    rw[List.map_set]
   rw[e]
   exact this.1
theorem MZ(w:World)(g:Nat)(nm:ByteArray)(pl:Nat)(rd:Option Addr)(rc:Nat)(cd:Option Addr)(cc:Nat)(L:List (List ByteArray))(C:List Nat)(a b c:ByteArray)(n:Nat)(h:eP w g nm pl rd rc cd cc L C)(hL:L.length≤999999)(hn:n≤1000)(hC:∀x,x∈C→x≤1000000000000):
 Calls Tryz.prog 230 #[.pointer (some ⟨g,0,none⟩),.agg #[.string a,.string b,.string c],.int .i64 n] w fun e w'=>∃rd' rc' cd' cc',
  e=.returned (.bool (!Tb.mg L [a,b,c]))∧eP w' g nm pl rd' rc' cd' cc' (Tb.put L [a,b,c]) (Tb.pY L C [a,b,c] n)∧
   Kb (km g rd rc cd cc L.length) w w'∧cw w (.slice rd L.length rc) (.slice rd' (Tb.put L [a,b,c]).length rc')∧cw w (.slice cd L.length cc) (.slice cd' (Tb.put L [a,b,c]).length cc'):=by
 obtain⟨w0,cZ⟩:∃w0,w0=w.alloc (.cells #[.string a,.string b,.string c] 119):=⟨_,rfl⟩
 have bL:Below w.heap.size w w0:=by rw[cZ];exact(Below.refl _ _).alloc (Nat.le_refl _) _
 have lX:w0.heap[w.heap.size]?=some (.cells #[.string a,.string b,.string c] 119 (0,0)):=by rw[cZ];exact heap_alloc_new w _
 have t0:w0.cell? ⟨w.heap.size,0,none⟩=some (.string a):=by rw[cell_of_row _ _ 0 _ _ _ lX];rfl
 have t1:w0.cell? ⟨w.heap.size,1,none⟩=some (.string b):=by rw[cell_of_row _ _ 1 _ _ _ lX];rfl
 have t2:w0.cell? ⟨w.heap.size,2,none⟩=some (.string c):=by rw[cell_of_row _ _ 2 _ _ _ lX];rfl
 have h0:=h.below bL
 have hp:∀W,W.heap=w0.heap→Calls Tryz.prog 196 #[.pointer (some ⟨g,0,none⟩),.agg #[.string a,.string b,.string c]] W fun e w1=>∃rd' rc',
  e=.returned (.tuple #[.int .i64 (Tb.pos L [a,b,c]:Nat),.bool (!Tb.mg L [a,b,c])])∧(cp w1 g 117 nm pl rd' rc' (Tb.put L [a,b,c]) [.slice cd L.length cc]∧
   Kb (g::(Value.ownBlock (.slice rd L.length rc)).toList) W w1∧cw W (.slice rd L.length rc) (.slice rd' (Tb.put L [a,b,c]).length rc'))∧w1.cell? ⟨g,3,none⟩=some (.slice cd L.length cc)∧w1.frozen? ⟨g,3,none⟩=false:=by
  intro W hW
  have hT:cp W g 117 nm pl rd rc L [.slice cd L.length cc]:=by
   obtain⟨x1,⟨x2,x3⟩,x4,x5⟩:=h0.o7
   refine⟨by rw[hW];exact x1,⟨x2,⟨x3.1, ?_⟩⟩,x4,x5⟩
   rw[hW]
   exact x3.2
  refine(Hm W g _ nm pl rd rc L _ a b c hT hL).mono ?_
  rintro e w1 ⟨rd',rc',rfl,q1,q2,q3⟩
  exact⟨rd',rc',rfl,⟨q1,q2,q3⟩,by rw[cell_of_row _ _ 3 _ _ _ q1.cU];simp,by simp[World.frozen?,q1.cU]⟩
 have O1:=h.o7.ord
 have mO:=lt_of_heap h0.o7.cU
 have hCl:=h.len
 have Jb:=Tb.Fb O1 [a,b,c]
 have WO:Hid ((Tb.eJ L C [a,b,c]).length=(Tb.put L [a,b,c]).length):=Tb.FE hCl [a,b,c]
 cases dN:Tb.mg L [a,b,c]with
 | true=>
  rw[dN]at hp
  have Es:Tb.put L [a,b,c]=L:=by unfold Tb.put;rw[dN];rfl
  have AA:Tb.eJ L C [a,b,c]=C:=by unfold Tb.eJ;rw[dN];rfl
  have uJ:Hid (Tb.pY L C [a,b,c] n=C.set (Tb.pos L [a,b,c]) (C.getD (Tb.pos L [a,b,c]) 0+n)):=by
   have:Tb.pY L C [a,b,c] n=(Tb.eJ L C [a,b,c]).set (Tb.pos L [a,b,c]) ((Tb.eJ L C [a,b,c]).getD (Tb.pos L [a,b,c]) 0+n):=rfl
   rw[AA]at this
   exact this
  rw[Es]at hp Jb ⊢
  rw[uJ.out]
  generalize Tb.pos L [a,b,c]=ps at hp Jb ⊢
  obtain⟨x,hx⟩:∃x,C[ps]?=some x:=⟨_,List.getElem?_eq_getElem (by omega)⟩
  have hxb:x≤1000000000000:=hC x (List.mem_of_getElem? hx)
  have Kh:C.getD ps 0=x:=by rw[List.getD_eq_getElem?_getD,hx];rfl
  rw[Kh]
  clear lX dN Es AA uJ WO h0 Kh
  go_enter Tryz.func230,Tryz.ntmps230
  go_wp2_with fail
  rw[←cZ]
  have WI:Hid (w0=w.alloc (.cells #[.string a,.string b,.string c] 119)):=cZ
  clear cZ
  go_region_with (go_at_call 196;refine(hp _ (by rfl)).mono ?_;rintro e w1 ⟨rd',rc',rfl,hI,k3,kf⟩)
  all_goals
   (obtain⟨q1,q2,q3⟩:=hI
    obtain⟨r1,r2⟩:=Io h bL.drew q2
    have hH:eP w1 g nm pl rd' rc' cd cc L C:=⟨q1,r1⟩
    obtain⟨gc,rfl,TL,Oq,bH⟩:=aD r1 (by omega)
    have kG:=bH ps _ (show(aA C)[ps]?=some (.int .i64 x) by simp[aA,hx])
    have SD:=World.ownsRow.frozenAt r1 ps
    obtain⟨z1,z2⟩:=Ht hH Jb (x+n)
    have Hg:((x+n:Nat):Int)=(x:Int)+(n:Int):=by omega
    rw[Hg]at z1 z2
    have vB:=q3.mono (w:=w) bL.size
    have fq:=r2.trans' z2 (fun i hi _=>by simp only[List.mem_singleton]at hi;subst hi;simp[km,Value.ownBlock])
    have ZU:g<w1.heap.size:=lt_of_heap q1.cU
    clear bH hp r1 r2 q1 q2 q3 hH z2 t0 t1 t2 WI Hg h
    go_wp2_with fail
    go_ret
    exact⟨rd',rc',some ⟨gc,0,none⟩,cc,rfl,z1,fq,vB,cw.refl _ _⟩)
 | false=>
  rw[dN]at hp
  have AA:Tb.eJ L C [a,b,c]=C.take (Tb.pos L [a,b,c])++[0]++C.drop (Tb.pos L [a,b,c]):=by unfold Tb.eJ;rw[dN];rfl
  have kY:(Tb.put L [a,b,c]).length=L.length+1:=by rw[Tb.Bo,dN];rfl
  have Vd:=Tb.qg L [a,b,c]
  have Kh:(Tb.eJ L C [a,b,c]).getD (Tb.pos L [a,b,c]) 0=0:=by
   rw[AA,List.append_assoc,List.getD_eq_getElem?_getD,List.getElem?_append_right (by rw[List.length_take];omega),List.length_take,Nat.min_eq_left (by omega),Nat.sub_self]
   rfl
  have uJ:Hid (Tb.pY L C [a,b,c] n=(Tb.eJ L C [a,b,c]).set (Tb.pos L [a,b,c]) n):=by
   have:Tb.pY L C [a,b,c] n=(Tb.eJ L C [a,b,c]).set (Tb.pos L [a,b,c]) ((Tb.eJ L C [a,b,c]).getD (Tb.pos L [a,b,c]) 0+n):=rfl
   rw[Kh,Nat.zero_add]at this
   exact this
  rw[uJ.out]
  have CN:∀(w1 W:World) (rd':Option Addr) (rc':Nat),cp w1 g 117 nm pl rd' rc' (Tb.put L [a,b,c]) [.slice cd L.length cc]→w1.ownsRow 0 3 1 (.slice cd L.length cc) L.length (aA C)→W.heap=(w1.alloc (.cells #[.int .i64 0] 3)).heap→
   Calls Tryz.prog 264 #[.slice cd L.length cc,.int .i64 (Tb.pos L [a,b,c]:Nat),.slice (some ⟨w1.heap.size,0,none⟩) 1 1] W fun e w3=>∃g' cap,e=.returned (.slice (some ⟨g',0,none⟩) (L.length+1) cap)∧
    (w3.ownsRow 0 3 1 (.slice (some ⟨g',0,none⟩) (L.length+1) cap) (L.length+1) (aA (Tb.eJ L C [a,b,c]))∧Kb (Value.ownBlock (.slice cd L.length cc)).toList W w3∧cw W (.slice cd L.length cc) (.slice (some ⟨g',0,none⟩) (L.length+1) cap))∧w3.cell? ⟨g,3,none⟩=some (.slice cd L.length cc)∧w3.frozen? ⟨g,3,none⟩=false∧g<w3.heap.size:=by
   intro w1 W rd' rc' hT DB hW
   have KK:W.ownsRow 0 3 1 (.slice cd L.length cc) L.length (aA C):=by
    have:=DB.alloc (.cells #[.int .i64 0] 3)
    refine⟨this.1, ?_⟩
    rw[hW]
    exact this.2
   have dM:W.heap[g]?=some (.cells (Value.string nm:: .int .i64 pl:: .slice rd' (Tb.put L [a,b,c]).length rc'::[.slice cd L.length cc]).toArray 117 (0,0)):=by
    rw[hW,Below.heap_alloc _ _ _ (lt_of_heap hT.cU)]
    exact hT.cU
   refine(yQ W 0 cd cc L.length (Tb.pos L [a,b,c]) w1.heap.size (aA C) [.int .i64 0] KK (Nat.zero_le _) Vd (by omega) (Br C) rfl (by rw[hW];exact heap_alloc_new w1 _) ?_ (by intro u hu;simp at hu;subst hu;rfl)).mono ?_
   · intro uI
     have:=(World.ownsRow.lt DB w1.heap.size uI.symm).2
     omega
   · rintro e w3 ⟨g',cap,rfl,h2,h3,h4⟩
     have hng:¬g∈(Value.ownBlock (.slice cd L.length cc)).toList:=by
      intro hm
      rw[Option.mem_toList]at hm
      obtain⟨jX,e⟩:=aH KK hm
      rw[dM]at e
      simp at e
     have nP:=h3.heap dM hng
     have ec:aA C=aA C:=rfl
     refine⟨g',cap,rfl,⟨?_,h3,h4⟩,by rw[cell_of_row _ _ 3 _ _ _ nP];simp,by simp[World.frozen?,nP],lt_of_heap nP⟩
     rw[AA]
     have e2:aA (C.take (Tb.pos L [a,b,c])++[0]++C.drop (Tb.pos L [a,b,c]))=(aA C).take (Tb.pos L [a,b,c])++[.int .i64 0]++(aA C).drop (Tb.pos L [a,b,c]):=by
      simp[aA]
     rw[e2]
     exact h2
  generalize Tb.eJ L C [a,b,c]=C' at Kh uJ CN WO ⊢
  generalize Tb.pos L [a,b,c]=ps at hp Jb Kh CN ⊢
  generalize Tb.put L [a,b,c]=L' at hp Jb CN kY WO ⊢
  have hx:C'[ps]?=some 0:=by
   have:ps<C'.length:=by rw[WO.out];omega
   rw[List.getD_eq_getElem?_getD,List.getElem?_eq_getElem this]at Kh
   rw[List.getElem?_eq_getElem this]
   simpa using Kh
  have aj9:ps<L.length+1:=by omega
  clear lX dN AA uJ WO h0 Kh Vd
  have Gn:Hid (L'.length=L.length+1):=kY
  clear kY
  go_enter Tryz.func230,Tryz.ntmps230
  go_wp2_with fail
  rw[←cZ]
  have WI:Hid (w0=w.alloc (.cells #[.string a,.string b,.string c] 119)):=cZ
  clear cZ
  go_region_with (go_at_call 196;refine(hp _ (by rfl)).mono ?_;rintro e w1 ⟨rd',rc',rfl,hI,k3,kf⟩)
  all_goals
   (obtain⟨q1,q2,q3⟩:=hI
    obtain⟨r1,r2⟩:=Io h bL.drew q2
    have SC:=fun W=>CN w1 W rd' rc' q1 r1
    have ZU:g<w1.heap.size:=lt_of_heap q1.cU
    clear hp t0 t1 t2 WI CN
    go_upto_region 4 with(go_at_call 264;refine(SC _ (by rfl)).mono ?_;rintro e w3 ⟨g',cap,rfl,hJ,k4,kf4,ajj⟩)
    obtain⟨j1,j2,j3⟩:=hJ
    obtain⟨y1,y2⟩:=RA (w:=w) (S:=[]) q1 r1 ((Below.refl _ _).alloc (Nat.le_refl _) _) j1 j2 Gn.out
    have vB:=q3.mono (w:=w) bL.size
    have kV:w.heap.size≤w1.heap.size:=r2.size
    have PU:cw w (.slice cd L.length cc) (.slice (some ⟨g',0,none⟩) L'.length cap):=by
     intro x LP
     rcases j3 x LP with e | e
     · exact .inl e
     · exact .inr (by simp only[World.size_alloc]at e;omega)
    have BS:=r2.trans' y2 (fun i hi _=>by
     rcases List.mem_cons.1 hi with rfl | hi
     · simp[km]
     · simp only[km,List.mem_cons,List.mem_append];exact .inr (.inr hi))
    clear j1 j2 j3 q1 q2 q3 r1 r2 SC k3 kf k4 kf4 y2 h bL
    generalize w3.setCell ⟨g,3,none⟩ (.slice (some ⟨g',0,none⟩) (L.length+1) cap)=w4 at y1 BS ⊢
    have d0:w4.cell? ⟨g,3,none⟩=some (.slice (some ⟨g',0,none⟩) (L.length+1) cap):=by
     rw[cell_of_row _ _ 3 _ _ _ y1.o7.cU,Gn.out];simp
    have ajM:g<w4.heap.size:=lt_of_heap y1.o7.cU
    have P9:=y1.lu
    rw[Gn.out]at P9
    obtain⟨gc,egc,TL,Oq,bH⟩:=aD P9 (by omega)
    simp only[Option.some.injEq,Addr.mk.injEq,and_true]at egc
    subst egc
    have kG:=bH ps _ (show(aA C')[ps]?=some (.int .i64 0) by simp[aA,hx])
    have SD:=World.ownsRow.frozenAt P9 ps
    obtain⟨z1,z2⟩:=Ht y1 Jb n
    have fq:=BS.trans' z2 (fun i hi aE=>by
     simp only[List.mem_singleton]at hi
     subst hi
     rcases PU i rfl with e | e
     · simp only[km,List.mem_cons,List.mem_append,Option.mem_toList];exact .inr (.inr e)
     · omega)
    clear bH P9 y1 z2 BS hx
    go_wp2_with fail
    go_ret
    exact⟨rd',rc',some ⟨g',0,none⟩,cap,rfl,z1,fq,vB,PU⟩)
end
/- Has, Count, Len. -/
namespace Tb
def Ag(L:List Rw)(C:List Nat)(r:Rw):Nat:=if mg L r=true then C.getD (pos L r) 0 else 0
end Tb
section
open Go.RowKit
open Go.Sort (grow)
theorem R2(w:World)(g:Nat)(T:TypeId)(nm:ByteArray)(pl:Nat)(rd:Option Addr)(rc:Nat)(L:List (List ByteArray))(rest:List Value)(a b c:ByteArray)(h:cp w g T nm pl rd rc L rest)(hL:L.length≤999999):
 Calls Tryz.prog 42 #[.pointer (some ⟨g,0,none⟩),.agg #[.string a,.string b,.string c]] w fun e w'=>e=.returned (.bool (Tb.mg L [a,b,c]))∧Below w.heap.size w w':=by
 have ud:Hid (∀W,Below w.heap.size w W→Calls Tryz.prog 75 #[.pointer (some ⟨g,0,none⟩),.agg #[.string a,.string b,.string c]] W fun e w'=>e=.returned (.tuple #[.int .i64 (Tb.pos L [a,b,c]:Nat),.bool (Tb.mg L [a,b,c])])∧Below w.heap.size w w'):=by
  intro W hW
  have h1:=h.below hW
  refine(ss W g rd rc L a b c h1.rows (by omega) h1.ord h1.lE.1).mono ?_
  rintro e w' ⟨rfl,hb⟩
  exact⟨rfl,hW.trans (hb.mono hW.size)⟩
 generalize Tb.pos L [a,b,c]=ps at ud
 generalize Tb.mg L [a,b,c]=fb at ud ⊢
 clear h
 go_enter Tryz.func42,Tryz.ntmps42
 go_wp2_with (go_at_call 75;refine(ud.out _ (by exact(Below.refl _ _).alloc (Nat.le_refl _) _)).mono ?_;rintro e w1 ⟨rfl,a8⟩)
 go_ret
 exact⟨rfl,a8⟩
theorem IP(w:World)(g:Nat)(T:TypeId)(nm:ByteArray)(pl:Nat)(rd:Option Addr)(rc:Nat)(L:List (List ByteArray))(rest:List Value)(h:cp w g T nm pl rd rc L rest):
 Calls Tryz.prog 136 #[.pointer (some ⟨g,0,none⟩)] w fun e w'=>e=.returned (.int .i64 L.length)∧w'=w:=by
 have c2:=h.lE.1
 have hg:=lt_of_heap h.cU
 clear h
 go_enter Tryz.func136,Tryz.ntmps136
 go_wp2_with fail
 go_ret
 exact⟨rfl,rfl⟩
theorem JZ(w:World)(g:Nat)(nm:ByteArray)(pl:Nat)(rd:Option Addr)(rc:Nat)(cd:Option Addr)(cc:Nat)(L:List (List ByteArray))(C:List Nat)(a b c:ByteArray)(h:eP w g nm pl rd rc cd cc L C)(hL:L.length≤999999):
 Calls Tryz.prog 43 #[.pointer (some ⟨g,0,none⟩),.agg #[.string a,.string b,.string c]] w fun e w'=>e=.returned (.int .i64 (Tb.Ag L C [a,b,c]:Nat))∧Below w.heap.size w w':=by
 obtain⟨w0,cZ⟩:∃w0,w0=w.alloc (.cells #[.string a,.string b,.string c] 119):=⟨_,rfl⟩
 have bL:Below w.heap.size w w0:=by rw[cZ];exact(Below.refl _ _).alloc (Nat.le_refl _) _
 have lX:w0.heap[w.heap.size]?=some (.cells #[.string a,.string b,.string c] 119 (0,0)):=by rw[cZ];exact heap_alloc_new w _
 have t0:w0.cell? ⟨w.heap.size,0,none⟩=some (.string a):=by rw[cell_of_row _ _ 0 _ _ _ lX];rfl
 have t1:w0.cell? ⟨w.heap.size,1,none⟩=some (.string b):=by rw[cell_of_row _ _ 1 _ _ _ lX];rfl
 have t2:w0.cell? ⟨w.heap.size,2,none⟩=some (.string c):=by rw[cell_of_row _ _ 2 _ _ _ lX];rfl
 have h0:=h.below bL
 have k0:=cell_regrown t0
 have k1:=cell_regrown t1
 have k2:=cell_regrown t2
 have cC:∀d os,Calls Tryz.prog 75 #[.pointer (some ⟨g,0,none⟩),.agg #[.string a,.string b,.string c]] (grow (redrawn w0 d) os) fun e Yh=>e=.returned (.tuple #[.int .i64 (Tb.pos L [a,b,c]:Nat),.bool (Tb.mg L [a,b,c])])∧∃p:Regrown,Yh=grow (redrawn w0 p.d) p.os:=fun d os=>Calls.regrown_of (by
  have h1:=h0.below (below_regrown w0 d os)
  exact ss _ g rd rc L a b c h1.o7.rows (by omega) h1.o7.ord h1.o7.lE.1)
 have aE:Hid (Tb.mg L [a,b,c]=true→Tb.pos L [a,b,c]<L.length):=fun dN=>(List.getElem?_eq_some_iff.1 ((Tb.fK h.o7.ord _).2 (Tb.dY.1 dN))).1
 have hR:Hid (Tb.Ag L C [a,b,c]=if Tb.mg L [a,b,c]=true then C.getD (Tb.pos L [a,b,c]) 0 else 0):=rfl
 generalize Tb.Ag L C [a,b,c]=R at hR ⊢
 generalize Tb.pos L [a,b,c]=ps at cC aE hR
 generalize Tb.mg L [a,b,c]=fb at cC aE hR
 have hCl:=h.len
 have mO:=lt_of_heap h0.o7.cU
 have H0:Hid (eP w0 g nm pl rd rc cd cc L C):=h0
 clear h h0 lX
 go_enter Tryz.func43,Tryz.ntmps43
 go_wp2_with fail
 rw[←cZ]
 clear cZ t0 t1 t2
 refine wp_region_quiet_below (by kernel_rfl) (by kernel_rfl) ?_
 repeat (quiet_step (first | exact cC _ _))
 refine wpQuiet_nil ?_
 intro _ Rs
 obtain⟨⟨dq,Lz⟩,FR⟩:=Rs
 subst FR
 have SS:=below_regrown w0 dq Lz
 have dU:Below w.heap.size w (grow (redrawn w0 dq) Lz):=bL.trans (SS.mono bL.size)
 have h2:=H0.out.below SS
 generalize grow (redrawn w0 dq) Lz=wq at SS dU h2 ⊢
 clear k0 k1 k2 cC
 cases fb with
 | true=>
  have ux:=aE.out rfl
  have c3:wq.cell? ⟨g,3,none⟩=some (.slice cd L.length cc):=by rw[cell_of_row _ _ 3 _ _ _ h2.o7.cU];simp
  have hgq:=lt_of_heap h2.o7.cU
  obtain⟨gc,rfl,TL,Oq,bH⟩:=aD h2.lu (by omega)
  obtain⟨x,hx⟩:∃x,C[ps]?=some x:=⟨_,List.getElem?_eq_getElem (by omega)⟩
  have kG:=bH ps _ (show(aA C)[ps]?=some (.int .i64 x) by simp[aA,hx])
  have Kh:Hid (C.getD ps 0=x):=by rw[List.getD_eq_getElem?_getD,hx];rfl
  have HX:Hid (R=x):=by rw[hR.out,if_pos rfl];exact Kh.out
  clear bH h2 hx
  go_wp2_with fail
  go_ret
  exact⟨by rw[HX.out];rfl,dU⟩
 | false=>
  have HX:Hid (R=0):=hR.out
  clear h2
  go_wp2_with fail
  go_ret
  exact⟨by rw[HX.out];rfl,dU⟩
end
end Go.Proofs.YtdmicblafmhflaaGreatDoor
