/- facts.Table.Row: a row of names, each cloned. -/
import Derived.Test.YtdmicblafmhflaaGreatDoorC11
import Derived.Test.YtdmicblafmhflaaGreatDoorC13
import Derived.Test.YtdmicblafmhflaaGreatDoorC16
import Derived.Laws.ResultCell
import Derived.Laws.Rows
import Derived.Test.YtdmicblafmhflaaGreatDoorC08
set_option linter.unusedSimpArgs false
set_option linter.unusedVariables false
set_option maxHeartbeats 2000000
set_option maxRecDepth 100000
namespace Go.Proofs.YtdmicblafmhflaaGreatDoor
section
open Go.RowKit
namespace Tb
def eh(l:List ByteArray)(k:Nat):ByteArray:=l.getD k ⟨#[]⟩
def dh(l:List ByteArray):List ByteArray:=[eh l 0,eh l 1,eh l 2]
def dE(l:List ByteArray):Array Value:=#[.string (eh l 0),.string (eh l 1),.string (eh l 2)]
theorem Ox{l:List ByteArray}{k j:Nat}:eh (l.take k) j=if j<k then eh l j else ⟨#[]⟩:=by
 unfold eh
 simp only[List.getD_eq_getElem?_getD,List.getElem?_take]
 split<;>rfl
theorem xu{l:List ByteArray}{k:Nat}(hk:k<l.length)(h3:l.length≤3):(dE (l.take k)).setIfInBounds k (.string l[k])=dE (l.take (k+1)):=by
 have e:eh l k=l[k]:=by simp[eh,List.getD_eq_getElem?_getD,hk]
 rw[←e]
 have Gk:k<3:=by omega
 unfold dE
 simp only[Ox]
 match k,Gk with
 | 0,_=>simp[Array.setIfInBounds]
 | 1,_=>simp[Array.setIfInBounds]
 | 2,_=>simp[Array.setIfInBounds]
end Tb
theorem Tb.Bi(l:List ByteArray){k:Nat}(h:k<3):(Tb.dE l)[k]?=some (.string (Tb.eh l k)):=by
 match k,h with
 | 0,_=>rfl
 | 1,_=>rfl
 | 2,_=>rfl
theorem ba{P:Program}{fn:Func}{p u:Tmp}{ty:TypeId}(h:fn.results=#[.cell p ty,.tmp u])(tmps:Array Value)(w:World)(g:Nat)(t:TypeId)(cs:Array Value)(fr:Nat×Nat)(d:TypeDesc)
 (hp:tmps.getD p undef=.pointer (some ⟨g,0,none⟩))(hg:w.heap[g]?=some (.cells cs t fr))
 (hu:P.underlying ty=some d)(hd:(match d with | .struct _ | .array _ _=>true | _=>false)=true)(hi:(P.info? ty).map (·.size)=some cs.size):
 (results fn tmps).run P w=.ok (.tuple #[.agg cs,tmps.getD u undef]) w:=by
 rw[results_cell_tmp h,hp]
 simp only[asAddr,Sem.run_pure,Result.andThen_ok,run_loadVar_row w g t ty cs fr d hg hu hd hi]
theorem vY{w:World}{g:Nat}{x y z:Value}{T:TypeId}{fr:Nat×Nat}(h:w.heap[g]?=some (.cells #[x,y,z] T fr))(a b c:Value):
 (((w.setCell ⟨g,0,none⟩ a).setCell ⟨g,1,none⟩ b).setCell ⟨g,2,none⟩ c).heap[g]?=some (.cells #[a,b,c] T fr):=by
 have h1:=an w h 0 a
 have h2:=an _ h1 1 b
 have h3:=an _ h2 2 c
 simpa [Array.setIfInBounds]using h3
structure mJ(w wr:World)(l:List ByteArray):Prop where
 be:Below w.heap.size w wr
 res:wr.heap[w.heap.size]?=some (.cells #[.string ⟨#[]⟩,.string ⟨#[]⟩,.string ⟨#[]⟩] 119 (0,0))
 row:wr.heap[w.heap.size+1]?=some (.cells (Tb.dE l) 119 (0,0))
theorem mJ.size{w wr:World}{l:List ByteArray}(h:mJ w wr l):wr.heap.size≥w.heap.size+2:=lt_of_heap h.row
theorem mJ.below{w wr w':World}{l:List ByteArray}(h:mJ w wr l)(hb:Below wr.heap.size wr w'):mJ w w' l:=
 ⟨h.be.trans (hb.mono h.be.size),by rw[hb.block _ (lt_of_heap h.res)];exact h.res,by rw[hb.block _ (lt_of_heap h.row)];exact h.row⟩
theorem mJ.set{w wr:World}{l:List ByteArray}(h:mJ w wr l)(k:Nat)(q:ByteArray):Below w.heap.size w (wr.setCell ⟨w.heap.size+1,k,none⟩ (.string q))∧(wr.setCell ⟨w.heap.size+1,k,none⟩ (.string q)).heap[w.heap.size]?=some (.cells #[.string ⟨#[]⟩,.string ⟨#[]⟩,.string ⟨#[]⟩] 119 (0,0))∧(wr.setCell ⟨w.heap.size+1,k,none⟩ (.string q)).heap[w.heap.size+1]?=some (.cells ((Tb.dE l).setIfInBounds k (.string q)) 119 (0,0)):=
 ⟨h.be.setCell (p:=⟨w.heap.size+1,k,none⟩) (by simp) _,(Below.heap_setCell _ _ _ _ (by simp)).trans h.res,an _ h.row _ _⟩
theorem Je(w:World)(g pl:Nat)(names:List ByteArray)(v:Value)(hc:w.cell? ⟨g,1,none⟩=some (.int .i64 pl))(hv:w.ownsRow 0 9 1 v names.length (strCells names))(hl:names.length=pl)(h3:names.length≤3)
 (hn:∀a,a∈names→Ax.cf a=true)(hs:∀a,a∈names→a.size≤1000)(hT:fw w):
 Calls Tryz.prog 74 #[.pointer (some ⟨g,0,none⟩),v] w fun e w'=>e=.returned (.tuple #[.agg (Tb.dE names),.bool true])∧Below w.heap.size w w':=by
 subst hl
 obtain⟨ad,ac,Jq⟩:=ah hv
 subst Jq
 have HT:Hid (fw w):=hT
 have HV:Hid (w.ownsRow 0 9 1 (.slice ad names.length ac) names.length (strCells names)):=hv
 have HN:Hid (∀a,a∈names→Ax.cf a=true∧a.size≤1000):=fun a ha=>⟨hn a ha,hs a ha⟩
 have X4:=block_lt_of_cell hc
 clear hT hv hn hs
 have HS:Hid (mJ w ((w.alloc (.cells #[.string ⟨#[]⟩,.string ⟨#[]⟩,.string ⟨#[]⟩] 119)).alloc (.cells #[.string ⟨#[]⟩,.string ⟨#[]⟩,.string ⟨#[]⟩] 119)) (names.take 0)):=
  ⟨((Below.refl _ _).alloc (Nat.le_refl _) _).alloc (by simp) _,by rw[Below.heap_alloc _ _ _ (by simp)];exact heap_alloc_new w _,by
   have:=pN w (.cells #[.string ⟨#[]⟩,.string ⟨#[]⟩,.string ⟨#[]⟩] 119) (.cells #[.string ⟨#[]⟩,.string ⟨#[]⟩,.string ⟨#[]⟩] 119)
   simpa [Tb.dE,Tb.eh]using this⟩
 go_enter Tryz.func74,Tryz.ntmps74
 go_wp2_with fail
 go_loopw [20] (fun i wr=>∃(k:Nat),k≤names.length∧i=.int .i64 k∧mJ w wr (names.take k)) (fun i _=>names.length-(intOf i).toNat)
 case atStart=>exact⟨0,Nat.zero_le _,rfl,HS.out⟩
 case round=>
  obtain⟨k,hk,rfl,hr⟩:=hrel
  have HR:Hid (mJ w wr (names.take k)):=hr
  by_cases aC:k<names.length
  · have bV:=af HV.out hr.be
    obtain⟨g3,rfl,nB,uP,kk⟩:=ax bV (by omega)
    have ca:wr.cell? ⟨g3,k,none⟩=some (.string names[k]):=kk k _ (by rw[strCells,List.getElem?_map,List.getElem?_eq_getElem aC];rfl)
    have HQ:Hid (Ax.cf names[k]=true∧names[k].size≤1000):=HN.out _ (List.getElem_mem aC)
    have gG:Hid ((Tb.dE (names.take k)).setIfInBounds k (.string names[k])=Tb.dE (names.take (k+1))):=Tb.xu aC h3
    have Tf:Hid (k<names.length):=aC
    have Gk:k<3:=by omega
    generalize names[k]=q at ca HQ gG
    have dQ:Hid (Calls Tryz.prog 130 #[.string q] wr fun e w5=>e=.returned (.bool true)∧Hid (mJ w w5 (names.take k))∧w5.heap.size≥w.heap.size+2):=by
     refine(wN q wr (Utf8Tabs_below HT.out HR.out.be) (by have:=HQ.out.2;unfold maxLen;omega)).mono ?_
     rintro e w5 ⟨rfl,hb⟩
     rw[HQ.out.1]
     have h5:=HR.out.below hb
     exact⟨rfl,h5,h5.size⟩
    have vE:Hid (∀w5,Hid (mJ w w5 (names.take k))→Calls Tryz.prog 102 #[.string q] w5 fun e w6=>e=.returned (.string q)∧Hid (mJ w (w6.setCell ⟨w.heap.size+1,k,none⟩ (.string q)) (names.take (k+1)))∧w6.cell? ⟨w.heap.size+1,k,none⟩=some (.string (Tb.eh (names.take k) k))∧w6.frozen? ⟨w.heap.size+1,k,none⟩=false):=by
     intro w5 h5
     refine(gY q w5 (by have:=HQ.out.2;omega)).mono ?_
     rintro e w6 ⟨rfl,hb⟩
     have h6:=h5.out.below hb
     refine⟨rfl, ?_, ?_, ?_⟩
     · have:=h6.set k q
       rw[gG.out]at this
       exact⟨this.1,this.2.1,this.2.2⟩
     · rw[cell_of_row _ _ _ _ _ _ h6.row]
       exact Tb.Bi _ Gk
     · simp[World.frozen?,h6.row]
    clear hr bV kk
    go_wp2_with (first | (go_at_call 130;refine dQ.out.mono ?_;rintro e w5 ⟨rfl,H5,TY⟩) | (go_at_call 102;refine(vE.out _ H5).mono ?_;rintro e w6 ⟨rfl,H6,hc6,hf6⟩))
    go_roundw
    case rel=>exact⟨k+1,Tf.out,by go_num,H6.out⟩
    case measure=>
     have h9:=Tf.out
     simp[intOf]
     omega
  · have HE:Hid (mJ w wr names):=by
     have e0:names.take k=names:=List.take_of_length_le (by omega)
     rw[e0]at hr
     exact hr
    have Gh:wr.heap[w.heap.size+1]?=some (.cells #[.string (Tb.eh names 0),.string (Tb.eh names 1),.string (Tb.eh names 2)] 119 (0,0)):=HE.out.row
    have Cn:=HE.out.res
    have c0:wr.cell? ⟨w.heap.size+1,0,none⟩=some (.string (Tb.eh names 0)):=by rw[cell_of_row _ _ _ _ _ _ Gh];rfl
    have c1:wr.cell? ⟨w.heap.size+1,1,none⟩=some (.string (Tb.eh names 1)):=by rw[cell_of_row _ _ _ _ _ _ Gh];rfl
    have c2:wr.cell? ⟨w.heap.size+1,2,none⟩=some (.string (Tb.eh names 2)):=by rw[cell_of_row _ _ _ _ _ _ Gh];rfl
    have d0:wr.cell? ⟨w.heap.size,0,none⟩=some (.string ⟨#[]⟩):=by rw[cell_of_row _ _ _ _ _ _ Cn];rfl
    have d1:wr.cell? ⟨w.heap.size,1,none⟩=some (.string ⟨#[]⟩):=by rw[cell_of_row _ _ _ _ _ _ Cn];rfl
    have d2:wr.cell? ⟨w.heap.size,2,none⟩=some (.string ⟨#[]⟩):=by rw[cell_of_row _ _ _ _ _ _ Cn];rfl
    have f0:∀o,wr.frozen? ⟨w.heap.size,o,none⟩=false:=fun o=>by simp[World.frozen?,Cn]
    have fE:=HE.out.be
    clear hr Gh Cn
    go_wp2_with fail
    refine bodyPost_ret (v:=.tuple #[.agg (Tb.dE names),.bool true]) ?_ rfl ⟨rfl,((fE.setCell (p:=⟨w.heap.size,0,none⟩) (Nat.le_refl _) _).setCell (p:=⟨w.heap.size,1,none⟩) (Nat.le_refl _) _).setCell (p:=⟨w.heap.size,2,none⟩) (Nat.le_refl _) _⟩
    refine Eq.trans (ba rfl _ _ _ _ _ _ _ rfl (vY HE.out.res _ _ _) Tryz.underlying119 rfl (by kernel_rfl)) ?_
    rfl
end
/- Hold: a fact holds by so many instances more. -/
namespace Tb
def eL(L:List Rw)(C:List Nat)(r:Rw):List Nat:=if lO L r=true then C else C.take (pos L r)++[0]++C.drop (pos L r)
def p8(L:List Rw)(C:List Nat)(r:Rw)(n:Nat):List Nat:=(eL L C r).set (pos L r) ((eL L C r).getD (pos L r) 0+n)
theorem pJ{L:List Rw}(r:Rw):(put L r).length=if lO L r=true then L.length else L.length+1:=by
 unfold put
 split
 · rfl
 · have:=qu L r
   simp only[ins,List.length_append,List.length_cons,List.length_take,List.length_drop]
   omega
theorem Ic{L:List Rw}{C:List Nat}(hC:C.length=L.length)(r:Rw):(eL L C r).length=(put L r).length:=by
 rw[pJ]
 unfold eL
 split
 · exact hC
 · have:=qu L r
   simp only[List.length_append,List.length_cons,List.length_nil,List.length_take,List.length_drop]
   omega
theorem Hw{L:List Rw}(h:Ord L)(r:Rw):pos L r<(put L r).length:=by
 rw[pJ]
 split
 · rename_i dQ
   exact(List.getElem?_eq_some_iff.1 ((fQ h r).2 (dM.1 dQ))).1
 · have:=qu L r
   omega
theorem Qx{L:List Rw}(h:Ord L)(r:Rw)(n:Nat)(f:Rw→Nat)(hf:¬r∈L→f r=0):p8 L (L.map f) r n=(put L r).map (fun x=>if x=r then f x+n else f x):=by
 have cL:∀x,x∈L.take (pos L r)→x≠r:=by
  intro x hx e
  have:=(rB h r).1 x hx
  rw[e,ky]at this
  omega
 have Hi:∀l:List Rw,(∀x,x∈l→x≠r)→l.map (fun x=>if x=r then f x+n else f x)=l.map f:=by
  intro l hl
  refine List.map_congr_left fun x hx=> ?_
  rw[if_neg (hl x hx)]
 cases dQ:lO L r with
 | true=>
  have aC:pos L r<L.length:=(List.getElem?_eq_some_iff.1 ((fQ h r).2 (dM.1 dQ))).1
  have hg:L[pos L r]=r:=(List.getElem?_eq_some_iff.1 ((fQ h r).2 (dM.1 dQ))).2
  have e:L=L.take (pos L r)++r::L.drop (pos L r+1):=by
   conv=>lhs;rw[←List.take_append_drop (pos L r) L]
   rw[List.drop_eq_getElem_cons aC,hg]
  have vz:=h.nodup
  rw[e,List.nodup_append]at vz
  have N2:∀x,x∈L.drop (pos L r+1)→x≠r:=fun x hx e2=>(List.nodup_cons.1 vz.2.1).1 (e2▸hx)
  unfold p8 eL put
  rw[dQ]
  simp only[if_true]
  have zU:(L.map f).getD (pos L r) 0=f r:=by
   rw[List.getD_eq_getElem?_getD,List.getElem?_map,List.getElem?_eq_getElem aC,hg]
   rfl
  rw[zU]
  generalize hp:pos L r=p at*
  have sM:(L.take p).length=p:=by rw[List.length_take];omega
  conv=>rhs;rw[e]
  rw[List.map_append,List.map_cons,Hi _ cL,Hi _ N2,if_pos rfl]
  conv=>lhs;rw[e]
  rw[List.map_append,List.map_cons,List.set_append_right _ _ (by rw[List.length_map,sM];exact Nat.le_refl _),List.length_map,sM,Nat.sub_self,List.set_cons_zero]
 | false=>
  have iG:¬r∈L:=fun hc=>by rw[dM.2 hc]at dQ;cases dQ
  have VR:=qu L r
  unfold p8 eL put
  rw[dQ]
  simp only[Bool.false_eq_true,if_false]
  have sM:((L.map f).take (pos L r)).length=pos L r:=by rw[List.length_take,List.length_map];omega
  have N2:∀x,x∈L.drop (pos L r)→x≠r:=fun x hx e2=>iG (e2▸List.mem_of_mem_drop hx)
  rw[List.append_assoc,List.set_append_right _ _ (by rw[sM];exact Nat.le_refl _),sM,Nat.sub_self]
  have zU:((L.map f).take (pos L r)++([0]++(L.map f).drop (pos L r))).getD (pos L r) 0=0:=by
   rw[List.getD_eq_getElem?_getD,List.getElem?_append_right (by rw[sM];exact Nat.le_refl _),sM,Nat.sub_self]
   rfl
  rw[zU]
  unfold ins
  rw[List.map_append,List.map_cons,Hi _ cL,Hi _ N2,if_pos rfl,hf iG,List.map_take,List.map_drop]
  rfl
end Tb
/- Hold, walked. -/
section
open Go.RowKit
open Go.Sort (grow)
structure eV(w:World)(g:Nat)(nm:ByteArray)(pl:Nat)(rd:Option Addr)(rc:Nat)(cd:Option Addr)(cc:Nat)(L:List (List ByteArray))(C:List Nat):Prop where
 ot:cl w g 117 nm pl rd rc L [.slice cd L.length cc]
 jG:w.ownsRow 0 3 1 (.slice cd L.length cc) L.length (aE C)
theorem BR(l:List Nat):(aE l).length=l.length:=by simp[aE]
theorem CA(l:List Nat):∀u∈aE l,u.oneCell'=true:=by
 intro u hu
 obtain⟨x,_,rfl⟩:=List.mem_map.1 hu
 rfl
theorem eV.len{w:World}{g:Nat}{nm:ByteArray}{pl:Nat}{rd:Option Addr}{rc:Nat}{cd:Option Addr}{cc:Nat}{L:List (List ByteArray)}{C:List Nat}(h:eV w g nm pl rd rc cd cc L C):C.length=L.length:=by
 have:=h.jG.1
 rw[BR]at this
 omega
theorem eV.below{w w':World}{g:Nat}{nm:ByteArray}{pl:Nat}{rd:Option Addr}{rc:Nat}{cd:Option Addr}{cc:Nat}{L:List (List ByteArray)}{C:List Nat}(h:eV w g nm pl rd rc cd cc L C)(hb:Below w.heap.size w w'):eV w' g nm pl rd rc cd cc L C:=⟨h.ot.below hb,af h.jG hb⟩
def kT(g:Nat)(rd:Option Addr)(rc:Nat)(cd:Option Addr)(cc n:Nat):List Nat:=g::((Value.ownBlock (.slice rd n rc)).toList++(Value.ownBlock (.slice cd n cc)).toList)
theorem eV.kept{w w':World}{S:List Nat}{g:Nat}{nm:ByteArray}{pl:Nat}{rd:Option Addr}{rc:Nat}{cd:Option Addr}{cc:Nat}{L:List (List ByteArray)}{C:List Nat}(h:eV w g nm pl rd rc cd cc L C)(hk:Kb S w w')(hS:∀b,b∈kT g rd rc cd cc L.length→¬b∈S):eV w' g nm pl rd rc cd cc L C:=
 ⟨h.ot.kept hk (hS g (by simp[kT])) (fun b hb=>hS b (by simp[kT,hb])),hk.row h.jG (fun b hb=>hS b (by simp[kT,hb]))⟩
theorem ay{w:World}{B:Nat}{e:TypeId}{k n:Nat}{v:Value}{xs:List Value}(h:w.ownsRow B e k v n xs){b:Nat}(hb:v.ownBlock=some b):∃cur,w.heap[b]?=some (.cells cur e (0,0)):=by
 rcases h.2 with⟨rfl,_⟩ | ⟨g,cap,cur,rfl,_,hg,_⟩
 · cases hb
 · simp only[Value.ownBlock,Option.some.injEq]at hb
   subst hb
   exact⟨cur,hg⟩
theorem IA{w W w1:World}{g:Nat}{nm:ByteArray}{pl:Nat}{rd:Option Addr}{rc:Nat}{cd:Option Addr}{cc:Nat}{L:List (List ByteArray)}{C:List Nat}(h:eV w g nm pl rd rc cd cc L C)(hW:Below w.heap.size w W)(hk:Kb (g::(Value.ownBlock (.slice rd L.length rc)).toList) W w1):
 w1.ownsRow 0 3 1 (.slice cd L.length cc) L.length (aE C)∧Kb (kT g rd rc cd cc L.length) w w1:=by
 have hb:=h.below hW
 refine⟨hk.ie hb.jG ?_,(Kb.bG hW _).trans (hk.mono ?_)⟩
 · intro b cur fz fk kR
   rcases List.mem_cons.1 fk with rfl | fk
   · rw[hb.ot.da]at kR
     simp at kR
   · rw[Option.mem_toList]at fk
     obtain⟨oJ,e⟩:=ay hb.ot.rows.own fk
     rw[e]at kR
     simp at kR
 · intro i hi _
   rcases List.mem_cons.1 hi with rfl | hi
   · simp[kT]
   · simp only[kT,List.mem_cons,List.mem_append];exact .inr (.inl hi)
theorem QX{w w1 W w3:World}{g:Nat}{nm:ByteArray}{pl:Nat}{rd':Option Addr}{rc':Nat}{cd:Option Addr}{cc:Nat}{L L':List (List ByteArray)}{C C':List Nat}{S:List Nat}
 (ht:cl w1 g 117 nm pl rd' rc' L' [.slice cd L.length cc])(hc:w1.ownsRow 0 3 1 (.slice cd L.length cc) L.length (aE C))(hW:Below w1.heap.size w1 W)
 {g' cap:Nat}(aj:w3.ownsRow 0 3 1 (.slice (some ⟨g',0,none⟩) (L.length+1) cap) (L.length+1) (aE C'))(hk:Kb (Value.ownBlock (.slice cd L.length cc)).toList W w3)(hL':L'.length=L.length+1):
 eV (w3.setCell ⟨g,3,none⟩ (.slice (some ⟨g',0,none⟩) (L.length+1) cap)) g nm pl rd' rc' (some ⟨g',0,none⟩) cap L' C'∧Kb (g::(Value.ownBlock (.slice cd L.length cc)).toList) w1 (w3.setCell ⟨g,3,none⟩ (.slice (some ⟨g',0,none⟩) (L.length+1) cap)):=by
 have VK:=ht.below hW
 have hcW:=af hc hW
 have hng:¬g∈(Value.ownBlock (.slice cd L.length cc)).toList:=by
  intro hm
  rw[Option.mem_toList]at hm
  obtain⟨oJ,e⟩:=ay hcW hm
  rw[VK.da]at e
  simp at e
 have C6:cl w3 g 117 nm pl rd' rc' L' [.slice cd L.length cc]:=by
  refine VK.kept hk hng ?_
  intro b hb hm
  rw[Option.mem_toList]at hm
  obtain⟨c1,e1⟩:=ay hcW hm
  obtain⟨c2,e2⟩:=ay VK.rows.own hb
  rw[e1]at e2
  simp at e2
 have sj:=Kb.setCell w3 ⟨g,3,none⟩ (.slice (some ⟨g',0,none⟩) (L.length+1) cap)
 refine⟨⟨⟨?_,⟨C6.rows.three,sj.row C6.rows.own ?_⟩,C6.ord,C6.type⟩, ?_⟩, ?_⟩
 · rw[an w3 C6.da,hL']
   rfl
 · intro b hb hm
   simp only[List.mem_singleton]at hm
   subst hm
   obtain⟨c2,e2⟩:=ay C6.rows.own hb
   rw[C6.da]at e2
   simp at e2
 · rw[hL']
   refine sj.row aj ?_
   intro b hb hm
   simp only[List.mem_singleton]at hm
   subst hm
   obtain⟨c2,e2⟩:=ay aj hb
   rw[C6.da]at e2
   simp at e2
 · refine Kb.trans' ((Kb.bG hW _).trans (hk.mono ?_)) sj ?_
   · intro i hi _;exact List.mem_cons_of_mem _ hi
   · intro i hi _
     simp only[List.mem_singleton]at hi
     subst hi
     simp
theorem IE{w:World}{g:Nat}{nm:ByteArray}{pl:Nat}{rd:Option Addr}{rc:Nat}{gc cc:Nat}{L:List (List ByteArray)}{C:List Nat}(h:eV w g nm pl rd rc (some ⟨gc,0,none⟩) cc L C){p:Nat}(hp:p<L.length)(x:Nat):
 eV (w.setCell ⟨gc,p,none⟩ (.int .i64 x)) g nm pl rd rc (some ⟨gc,0,none⟩) cc L (C.set p x)∧Kb [gc] w (w.setCell ⟨gc,p,none⟩ (.int .i64 x)):=by
 have sj:=Kb.setCell w ⟨gc,p,none⟩ (.int .i64 (x:Int))
 have UO:gc≠g:=by
  rintro rfl
  obtain⟨c2,e2⟩:=ay h.jG (b:=gc) rfl
  rw[h.ot.da]at e2
  simp at e2
 refine⟨⟨h.ot.kept sj (by simpa using fun e=>UO e.symm) ?_, ?_⟩,sj⟩
 · intro b hb hm
   simp only[List.mem_singleton]at hm
   rw[hm]at hb
   obtain⟨c1,e1⟩:=ay h.jG (b:=gc) rfl
   obtain⟨c2,e2⟩:=ay h.ot.rows.own hb
   rw[e1]at e2
   simp at e2
 · have:=World.ownsRow.stored h.jG p (.int .i64 (x:Int))
   have e:aE (C.set p x)=(aE C).set p (.int .i64 (x:Int)):=by
    unfold aE
    rw[List.map_set]
   rw[e]
   exact this.1
theorem Pu(w:World)(g:Nat)(nm:ByteArray)(pl:Nat)(rd:Option Addr)(rc:Nat)(cd:Option Addr)(cc:Nat)(L:List (List ByteArray))(C:List Nat)(a b c:ByteArray)(n:Nat)(h:eV w g nm pl rd rc cd cc L C)(hL:L.length≤999999)(hn:n≤1000)(hC:∀x,x∈C→x≤1000000000000):
 Calls Tryz.prog 230 #[.pointer (some ⟨g,0,none⟩),.agg #[.string a,.string b,.string c],.int .i64 n] w fun e w'=>∃rd' rc' cd' cc',
  e=.returned (.bool (!Tb.lO L [a,b,c]))∧eV w' g nm pl rd' rc' cd' cc' (Tb.put L [a,b,c]) (Tb.p8 L C [a,b,c] n)∧
   Kb (kT g rd rc cd cc L.length) w w'∧cn w (.slice rd L.length rc) (.slice rd' (Tb.put L [a,b,c]).length rc')∧cn w (.slice cd L.length cc) (.slice cd' (Tb.put L [a,b,c]).length cc'):=by
 obtain⟨w0,di⟩:∃w0,w0=w.alloc (.cells #[.string a,.string b,.string c] 119):=⟨_,rfl⟩
 have bK:Below w.heap.size w w0:=by rw[di];exact(Below.refl _ _).alloc (Nat.le_refl _) _
 have lY:w0.heap[w.heap.size]?=some (.cells #[.string a,.string b,.string c] 119 (0,0)):=by rw[di];exact heap_alloc_new w _
 have t0:w0.cell? ⟨w.heap.size,0,none⟩=some (.string a):=by rw[cell_of_row _ _ 0 _ _ _ lY];rfl
 have t1:w0.cell? ⟨w.heap.size,1,none⟩=some (.string b):=by rw[cell_of_row _ _ 1 _ _ _ lY];rfl
 have t2:w0.cell? ⟨w.heap.size,2,none⟩=some (.string c):=by rw[cell_of_row _ _ 2 _ _ _ lY];rfl
 have h0:=h.below bK
 have hp:∀W,W.heap=w0.heap→Calls Tryz.prog 196 #[.pointer (some ⟨g,0,none⟩),.agg #[.string a,.string b,.string c]] W fun e w1=>∃rd' rc',
  e=.returned (.tuple #[.int .i64 (Tb.pos L [a,b,c]:Nat),.bool (!Tb.lO L [a,b,c])])∧(cl w1 g 117 nm pl rd' rc' (Tb.put L [a,b,c]) [.slice cd L.length cc]∧
   Kb (g::(Value.ownBlock (.slice rd L.length rc)).toList) W w1∧cn W (.slice rd L.length rc) (.slice rd' (Tb.put L [a,b,c]).length rc'))∧w1.cell? ⟨g,3,none⟩=some (.slice cd L.length cc)∧w1.frozen? ⟨g,3,none⟩=false:=by
  intro W hW
  have hT:cl W g 117 nm pl rd rc L [.slice cd L.length cc]:=by
   obtain⟨x1,⟨x2,x3⟩,x4,x5⟩:=h0.ot
   refine⟨by rw[hW];exact x1,⟨x2,⟨x3.1, ?_⟩⟩,x4,x5⟩
   rw[hW]
   exact x3.2
  refine(Jl W g _ nm pl rd rc L _ a b c hT hL).mono ?_
  rintro e w1 ⟨rd',rc',rfl,q1,q2,q3⟩
  exact⟨rd',rc',rfl,⟨q1,q2,q3⟩,by rw[cell_of_row _ _ 3 _ _ _ q1.da];simp,by simp[World.frozen?,q1.da]⟩
 have Oj:=h.ot.ord
 have mh:=lt_of_heap h0.ot.da
 have hCl:=h.len
 have JT:=Tb.Hw Oj [a,b,c]
 have ZB:Hid ((Tb.eL L C [a,b,c]).length=(Tb.put L [a,b,c]).length):=Tb.Ic hCl [a,b,c]
 cases dQ:Tb.lO L [a,b,c]with
 | true=>
  rw[dQ]at hp
  have EK:Tb.put L [a,b,c]=L:=by unfold Tb.put;rw[dQ];rfl
  have AG:Tb.eL L C [a,b,c]=C:=by unfold Tb.eL;rw[dQ];rfl
  have uO:Hid (Tb.p8 L C [a,b,c] n=C.set (Tb.pos L [a,b,c]) (C.getD (Tb.pos L [a,b,c]) 0+n)):=by
   have:Tb.p8 L C [a,b,c] n=(Tb.eL L C [a,b,c]).set (Tb.pos L [a,b,c]) ((Tb.eL L C [a,b,c]).getD (Tb.pos L [a,b,c]) 0+n):=rfl
   rw[AG]at this
   exact this
  rw[EK]at hp JT ⊢
  rw[uO.out]
  generalize Tb.pos L [a,b,c]=ps at hp JT ⊢
  obtain⟨x,hx⟩:∃x,C[ps]?=some x:=⟨_,List.getElem?_eq_getElem (by omega)⟩
  have hxb:x≤1000000000000:=hC x (List.mem_of_getElem? hx)
  have Kx:C.getD ps 0=x:=by rw[List.getD_eq_getElem?_getD,hx];rfl
  rw[Kx]
  clear lY dQ EK AG uO ZB h0 Kx
  go_enter Tryz.func230,Tryz.ntmps230
  go_wp2_with fail
  rw[←di]
  have WB:Hid (w0=w.alloc (.cells #[.string a,.string b,.string c] 119)):=di
  clear di
  go_region_with (go_at_call 196;refine(hp _ (by rfl)).mono ?_;rintro e w1 ⟨rd',rc',rfl,hI,k3,kf⟩)
  all_goals
   (obtain⟨q1,q2,q3⟩:=hI
    obtain⟨r1,r2⟩:=IA h bK.drew q2
    have hH:eV w1 g nm pl rd' rc' cd cc L C:=⟨q1,r1⟩
    obtain⟨gc,rfl,UO,My,bA⟩:=ax r1 (by omega)
    have kR:=bA ps _ (show(aE C)[ps]?=some (.int .i64 x) by simp[aE,hx])
    have SD:=World.ownsRow.frozenAt r1 ps
    obtain⟨z1,z2⟩:=IE hH JT (x+n)
    have Ji:((x+n:Nat):Int)=(x:Int)+(n:Int):=by omega
    rw[Ji]at z1 z2
    have zO:=q3.mono (w:=w) bK.size
    have fC:=r2.trans' z2 (fun i hi _=>by simp only[List.mem_singleton]at hi;subst hi;simp[kT,Value.ownBlock])
    have X4:g<w1.heap.size:=lt_of_heap q1.da
    clear bA hp r1 r2 q1 q2 q3 hH z2 t0 t1 t2 WB Ji h
    go_wp2_with fail
    go_ret
    exact⟨rd',rc',some ⟨gc,0,none⟩,cc,rfl,z1,fC,zO,cn.refl _ _⟩)
 | false=>
  rw[dQ]at hp
  have AG:Tb.eL L C [a,b,c]=C.take (Tb.pos L [a,b,c])++[0]++C.drop (Tb.pos L [a,b,c]):=by unfold Tb.eL;rw[dQ];rfl
  have lu:(Tb.put L [a,b,c]).length=L.length+1:=by rw[Tb.pJ,dQ];rfl
  have VR:=Tb.qu L [a,b,c]
  have Kx:(Tb.eL L C [a,b,c]).getD (Tb.pos L [a,b,c]) 0=0:=by
   rw[AG,List.append_assoc,List.getD_eq_getElem?_getD,List.getElem?_append_right (by rw[List.length_take];omega),List.length_take,Nat.min_eq_left (by omega),Nat.sub_self]
   rfl
  have uO:Hid (Tb.p8 L C [a,b,c] n=(Tb.eL L C [a,b,c]).set (Tb.pos L [a,b,c]) n):=by
   have:Tb.p8 L C [a,b,c] n=(Tb.eL L C [a,b,c]).set (Tb.pos L [a,b,c]) ((Tb.eL L C [a,b,c]).getD (Tb.pos L [a,b,c]) 0+n):=rfl
   rw[Kx,Nat.zero_add]at this
   exact this
  rw[uO.out]
  have Fb:∀(w1 W:World) (rd':Option Addr) (rc':Nat),cl w1 g 117 nm pl rd' rc' (Tb.put L [a,b,c]) [.slice cd L.length cc]→w1.ownsRow 0 3 1 (.slice cd L.length cc) L.length (aE C)→W.heap=(w1.alloc (.cells #[.int .i64 0] 3)).heap→
   Calls Tryz.prog 264 #[.slice cd L.length cc,.int .i64 (Tb.pos L [a,b,c]:Nat),.slice (some ⟨w1.heap.size,0,none⟩) 1 1] W fun e w3=>∃g' cap,e=.returned (.slice (some ⟨g',0,none⟩) (L.length+1) cap)∧
    (w3.ownsRow 0 3 1 (.slice (some ⟨g',0,none⟩) (L.length+1) cap) (L.length+1) (aE (Tb.eL L C [a,b,c]))∧Kb (Value.ownBlock (.slice cd L.length cc)).toList W w3∧cn W (.slice cd L.length cc) (.slice (some ⟨g',0,none⟩) (L.length+1) cap))∧w3.cell? ⟨g,3,none⟩=some (.slice cd L.length cc)∧w3.frozen? ⟨g,3,none⟩=false∧g<w3.heap.size:=by
   intro w1 W rd' rc' hT IZ hW
   have P5:W.ownsRow 0 3 1 (.slice cd L.length cc) L.length (aE C):=by
    have:=IZ.alloc (.cells #[.int .i64 0] 3)
    refine⟨this.1, ?_⟩
    rw[hW]
    exact this.2
   have dL:W.heap[g]?=some (.cells (Value.string nm:: .int .i64 pl:: .slice rd' (Tb.put L [a,b,c]).length rc'::[.slice cd L.length cc]).toArray 117 (0,0)):=by
    rw[hW,Below.heap_alloc _ _ _ (lt_of_heap hT.da)]
    exact hT.da
   refine(zP W 0 cd cc L.length (Tb.pos L [a,b,c]) w1.heap.size (aE C) [.int .i64 0] P5 (Nat.zero_le _) VR (by omega) (CA C) rfl (by rw[hW];exact heap_alloc_new w1 _) ?_ (by intro u hu;simp at hu;subst hu;rfl)).mono ?_
   · intro uw
     have:=(World.ownsRow.lt IZ w1.heap.size uw.symm).2
     omega
   · rintro e w3 ⟨g',cap,rfl,h2,h3,h4⟩
     have hng:¬g∈(Value.ownBlock (.slice cd L.length cc)).toList:=by
      intro hm
      rw[Option.mem_toList]at hm
      obtain⟨oJ,e⟩:=ay P5 hm
      rw[dL]at e
      simp at e
     have nB:=h3.heap dL hng
     have ec:aE C=aE C:=rfl
     refine⟨g',cap,rfl,⟨?_,h3,h4⟩,by rw[cell_of_row _ _ 3 _ _ _ nB];simp,by simp[World.frozen?,nB],lt_of_heap nB⟩
     rw[AG]
     have e2:aE (C.take (Tb.pos L [a,b,c])++[0]++C.drop (Tb.pos L [a,b,c]))=(aE C).take (Tb.pos L [a,b,c])++[.int .i64 0]++(aE C).drop (Tb.pos L [a,b,c]):=by
      simp[aE]
     rw[e2]
     exact h2
  generalize Tb.eL L C [a,b,c]=C' at Kx uO Fb ZB ⊢
  generalize Tb.pos L [a,b,c]=ps at hp JT Kx Fb ⊢
  generalize Tb.put L [a,b,c]=L' at hp JT Fb lu ZB ⊢
  have hx:C'[ps]?=some 0:=by
   have:ps<C'.length:=by rw[ZB.out];omega
   rw[List.getD_eq_getElem?_getD,List.getElem?_eq_getElem this]at Kx
   rw[List.getElem?_eq_getElem this]
   simpa using Kx
  have ajj:ps<L.length+1:=by omega
  clear lY dQ AG uO ZB h0 Kx VR
  have LS:Hid (L'.length=L.length+1):=lu
  clear lu
  go_enter Tryz.func230,Tryz.ntmps230
  go_wp2_with fail
  rw[←di]
  have WB:Hid (w0=w.alloc (.cells #[.string a,.string b,.string c] 119)):=di
  clear di
  go_region_with (go_at_call 196;refine(hp _ (by rfl)).mono ?_;rintro e w1 ⟨rd',rc',rfl,hI,k3,kf⟩)
  all_goals
   (obtain⟨q1,q2,q3⟩:=hI
    obtain⟨r1,r2⟩:=IA h bK.drew q2
    have Th:=fun W=>Fb w1 W rd' rc' q1 r1
    have X4:g<w1.heap.size:=lt_of_heap q1.da
    clear hp t0 t1 t2 WB Fb
    go_upto_region 4 with(go_at_call 264;refine(Th _ (by rfl)).mono ?_;rintro e w3 ⟨g',cap,rfl,hJ,k4,kf4,aj2⟩)
    obtain⟨j1,j2,j3⟩:=hJ
    obtain⟨y1,y2⟩:=QX (w:=w) (S:=[]) q1 r1 ((Below.refl _ _).alloc (Nat.le_refl _) _) j1 j2 LS.out
    have zO:=q3.mono (w:=w) bK.size
    have kW:w.heap.size≤w1.heap.size:=r2.size
    have PR:cn w (.slice cd L.length cc) (.slice (some ⟨g',0,none⟩) L'.length cap):=by
     intro x Jr
     rcases j3 x Jr with e | e
     · exact .inl e
     · exact .inr (by simp only[World.size_alloc]at e;omega)
    have Cd:=r2.trans' y2 (fun i hi _=>by
     rcases List.mem_cons.1 hi with rfl | hi
     · simp[kT]
     · simp only[kT,List.mem_cons,List.mem_append];exact .inr (.inr hi))
    clear j1 j2 j3 q1 q2 q3 r1 r2 Th k3 kf k4 kf4 y2 h bK
    generalize w3.setCell ⟨g,3,none⟩ (.slice (some ⟨g',0,none⟩) (L.length+1) cap)=w4 at y1 Cd ⊢
    have d0:w4.cell? ⟨g,3,none⟩=some (.slice (some ⟨g',0,none⟩) (L.length+1) cap):=by
     rw[cell_of_row _ _ 3 _ _ _ y1.ot.da,LS.out];simp
    have ah3:g<w4.heap.size:=lt_of_heap y1.ot.da
    have Sk:=y1.jG
    rw[LS.out]at Sk
    obtain⟨gc,egc,UO,My,bA⟩:=ax Sk (by omega)
    simp only[Option.some.injEq,Addr.mk.injEq,and_true]at egc
    subst egc
    have kR:=bA ps _ (show(aE C')[ps]?=some (.int .i64 0) by simp[aE,hx])
    have SD:=World.ownsRow.frozenAt Sk ps
    obtain⟨z1,z2⟩:=IE y1 JT n
    have fC:=Cd.trans' z2 (fun i hi aC=>by
     simp only[List.mem_singleton]at hi
     subst hi
     rcases PR i rfl with e | e
     · simp only[kT,List.mem_cons,List.mem_append,Option.mem_toList];exact .inr (.inr e)
     · omega)
    clear bA Sk y1 z2 Cd hx
    go_wp2_with fail
    go_ret
    exact⟨rd',rc',some ⟨g',0,none⟩,cap,rfl,z1,fC,zO,PR⟩)
end
/- Has, Count, Len. -/
namespace Tb
def Ap(L:List Rw)(C:List Nat)(r:Rw):Nat:=if lO L r=true then C.getD (pos L r) 0 else 0
end Tb
section
open Go.RowKit
open Go.Sort (grow)
theorem Sc(w:World)(g:Nat)(T:TypeId)(nm:ByteArray)(pl:Nat)(rd:Option Addr)(rc:Nat)(L:List (List ByteArray))(rest:List Value)(a b c:ByteArray)(h:cl w g T nm pl rd rc L rest)(hL:L.length≤999999):
 Calls Tryz.prog 42 #[.pointer (some ⟨g,0,none⟩),.agg #[.string a,.string b,.string c]] w fun e w'=>e=.returned (.bool (Tb.lO L [a,b,c]))∧Below w.heap.size w w':=by
 have ur:Hid (∀W,Below w.heap.size w W→Calls Tryz.prog 75 #[.pointer (some ⟨g,0,none⟩),.agg #[.string a,.string b,.string c]] W fun e w'=>e=.returned (.tuple #[.int .i64 (Tb.pos L [a,b,c]:Nat),.bool (Tb.lO L [a,b,c])])∧Below w.heap.size w w'):=by
  intro W hW
  have h1:=h.below hW
  refine(si W g rd rc L a b c h1.rows (by omega) h1.ord h1.lB.1).mono ?_
  rintro e w' ⟨rfl,hb⟩
  exact⟨rfl,hW.trans (hb.mono hW.size)⟩
 generalize Tb.pos L [a,b,c]=ps at ur
 generalize Tb.lO L [a,b,c]=fb at ur ⊢
 clear h
 go_enter Tryz.func42,Tryz.ntmps42
 go_wp2_with (go_at_call 75;refine(ur.out _ (by exact(Below.refl _ _).alloc (Nat.le_refl _) _)).mono ?_;rintro e w1 ⟨rfl,bk⟩)
 go_ret
 exact⟨rfl,bk⟩
theorem I1(w:World)(g:Nat)(T:TypeId)(nm:ByteArray)(pl:Nat)(rd:Option Addr)(rc:Nat)(L:List (List ByteArray))(rest:List Value)(h:cl w g T nm pl rd rc L rest):
 Calls Tryz.prog 136 #[.pointer (some ⟨g,0,none⟩)] w fun e w'=>e=.returned (.int .i64 L.length)∧w'=w:=by
 have c2:=h.lB.1
 have hg:=lt_of_heap h.da
 clear h
 go_enter Tryz.func136,Tryz.ntmps136
 go_wp2_with fail
 go_ret
 exact⟨rfl,rfl⟩
theorem Jv(w:World)(g:Nat)(nm:ByteArray)(pl:Nat)(rd:Option Addr)(rc:Nat)(cd:Option Addr)(cc:Nat)(L:List (List ByteArray))(C:List Nat)(a b c:ByteArray)(h:eV w g nm pl rd rc cd cc L C)(hL:L.length≤999999):
 Calls Tryz.prog 43 #[.pointer (some ⟨g,0,none⟩),.agg #[.string a,.string b,.string c]] w fun e w'=>e=.returned (.int .i64 (Tb.Ap L C [a,b,c]:Nat))∧Below w.heap.size w w':=by
 obtain⟨w0,di⟩:∃w0,w0=w.alloc (.cells #[.string a,.string b,.string c] 119):=⟨_,rfl⟩
 have bK:Below w.heap.size w w0:=by rw[di];exact(Below.refl _ _).alloc (Nat.le_refl _) _
 have lY:w0.heap[w.heap.size]?=some (.cells #[.string a,.string b,.string c] 119 (0,0)):=by rw[di];exact heap_alloc_new w _
 have t0:w0.cell? ⟨w.heap.size,0,none⟩=some (.string a):=by rw[cell_of_row _ _ 0 _ _ _ lY];rfl
 have t1:w0.cell? ⟨w.heap.size,1,none⟩=some (.string b):=by rw[cell_of_row _ _ 1 _ _ _ lY];rfl
 have t2:w0.cell? ⟨w.heap.size,2,none⟩=some (.string c):=by rw[cell_of_row _ _ 2 _ _ _ lY];rfl
 have h0:=h.below bK
 have k0:=cell_regrown t0
 have k1:=cell_regrown t1
 have k2:=cell_regrown t2
 have cC:∀d os,Calls Tryz.prog 75 #[.pointer (some ⟨g,0,none⟩),.agg #[.string a,.string b,.string c]] (grow (redrawn w0 d) os) fun e Y6=>e=.returned (.tuple #[.int .i64 (Tb.pos L [a,b,c]:Nat),.bool (Tb.lO L [a,b,c])])∧∃p:Regrown,Y6=grow (redrawn w0 p.d) p.os:=fun d os=>Calls.regrown_of (by
  have h1:=h0.below (below_regrown w0 d os)
  exact si _ g rd rc L a b c h1.ot.rows (by omega) h1.ot.ord h1.ot.lB.1)
 have aC:Hid (Tb.lO L [a,b,c]=true→Tb.pos L [a,b,c]<L.length):=fun dQ=>(List.getElem?_eq_some_iff.1 ((Tb.fQ h.ot.ord _).2 (Tb.dM.1 dQ))).1
 have hR:Hid (Tb.Ap L C [a,b,c]=if Tb.lO L [a,b,c]=true then C.getD (Tb.pos L [a,b,c]) 0 else 0):=rfl
 generalize Tb.Ap L C [a,b,c]=R at hR ⊢
 generalize Tb.pos L [a,b,c]=ps at cC aC hR
 generalize Tb.lO L [a,b,c]=fb at cC aC hR
 have hCl:=h.len
 have mh:=lt_of_heap h0.ot.da
 have H0:Hid (eV w0 g nm pl rd rc cd cc L C):=h0
 clear h h0 lY
 go_enter Tryz.func43,Tryz.ntmps43
 go_wp2_with fail
 rw[←di]
 clear di t0 t1 t2
 refine wp_region_quiet_below (by kernel_rfl) (by kernel_rfl) ?_
 repeat (quiet_step (first | exact cC _ _))
 refine wpQuiet_nil ?_
 intro _ RG
 obtain⟨⟨dq,LO⟩,Gb⟩:=RG
 subst Gb
 have S8:=below_regrown w0 dq LO
 have dU:Below w.heap.size w (grow (redrawn w0 dq) LO):=bK.trans (S8.mono bK.size)
 have h2:=H0.out.below S8
 generalize grow (redrawn w0 dq) LO=wq at S8 dU h2 ⊢
 clear k0 k1 k2 cC
 cases fb with
 | true=>
  have uK:=aC.out rfl
  have c3:wq.cell? ⟨g,3,none⟩=some (.slice cd L.length cc):=by rw[cell_of_row _ _ 3 _ _ _ h2.ot.da];simp
  have hgq:=lt_of_heap h2.ot.da
  obtain⟨gc,rfl,UO,My,bA⟩:=ax h2.jG (by omega)
  obtain⟨x,hx⟩:∃x,C[ps]?=some x:=⟨_,List.getElem?_eq_getElem (by omega)⟩
  have kR:=bA ps _ (show(aE C)[ps]?=some (.int .i64 x) by simp[aE,hx])
  have Kx:Hid (C.getD ps 0=x):=by rw[List.getD_eq_getElem?_getD,hx];rfl
  have HX:Hid (R=x):=by rw[hR.out,if_pos rfl];exact Kx.out
  clear bA h2 hx
  go_wp2_with fail
  go_ret
  exact⟨by rw[HX.out];rfl,dU⟩
 | false=>
  have HX:Hid (R=0):=hR.out
  clear h2
  go_wp2_with fail
  go_ret
  exact⟨by rw[HX.out];rfl,dU⟩
end
end Go.Proofs.YtdmicblafmhflaaGreatDoor
