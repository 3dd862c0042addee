/- facts.Table.Row: a row of names, each cloned. -/
import Derived.Test.YtdmicblafmhflaaGreatDoorC11
import Derived.Test.YtdmicblafmhflaaGreatDoorC13
import Derived.Test.YtdmicblafmhflaaGreatDoorC16
import Derived.Laws.ResultCell
import Derived.Laws.Rows
import Derived.Test.YtdmicblafmhflaaGreatDoorC08
set_option linter.unusedSimpArgs false
set_option linter.unusedVariables false
set_option maxHeartbeats 2000000
set_option maxRecDepth 100000
namespace Go.Proofs.YtdmicblafmhflaaGreatDoor
section
open Go.RowKit
namespace Tb
def eh(l:List ByteArray)(k:Nat):ByteArray:=l.getD k ⟨#[]⟩
def ev(l:List ByteArray):List ByteArray:=[eh l 0,eh l 1,eh l 2]
def fB(l:List ByteArray):Array Value:=#[.string (eh l 0),.string (eh l 1),.string (eh l 2)]
theorem Np{l:List ByteArray}{k j:Nat}:eh (l.take k) j=if j<k then eh l j else ⟨#[]⟩:=by
 unfold eh
 simp only[List.getD_eq_getElem?_getD,List.getElem?_take]
 split<;>rfl
theorem Gb{l:List ByteArray}{k:Nat}(hk:k<l.length)(h3:l.length≤3):(fB (l.take k)).setIfInBounds k (.string l[k])=fB (l.take (k+1)):=by
 have e:eh l k=l[k]:=by simp[eh,List.getD_eq_getElem?_getD,hk]
 rw[←e]
 have J9:k<3:=by omega
 unfold fB
 simp only[Np]
 match k,J9 with
 | 0,_=>simp[Array.setIfInBounds]
 | 1,_=>simp[Array.setIfInBounds]
 | 2,_=>simp[Array.setIfInBounds]
end Tb
theorem Tb.JF(l:List ByteArray){k:Nat}(h:k<3):(Tb.fB l)[k]?=some (.string (Tb.eh l k)):=by
 match k,h with
 | 0,_=>rfl
 | 1,_=>rfl
 | 2,_=>rfl
theorem cQ{P:Program}{fn:Func}{p u:Tmp}{ty:TypeId}(h:fn.results=#[.cell p ty,.tmp u])(tmps:Array Value)(w:World)(g:Nat)(t:TypeId)(cs:Array Value)(fr:Nat×Nat)(d:TypeDesc)
 (hp:tmps.getD p undef=.pointer (some ⟨g,0,none⟩))(hg:w.heap[g]?=some (.cells cs t fr))
 (hu:P.underlying ty=some d)(hd:(match d with | .struct _ | .array _ _=>true | _=>false)=true)(hi:(P.info? ty).map (·.size)=some cs.size):
 (results fn tmps).run P w=.ok (.tuple #[.agg cs,tmps.getD u undef]) w:=by
 rw[results_cell_tmp h,hp]
 simp only[asAddr,Sem.run_pure,Result.andThen_ok,run_loadVar_row w g t ty cs fr d hg hu hd hi]
theorem BQ{w:World}{g:Nat}{x y z:Value}{T:TypeId}{fr:Nat×Nat}(h:w.heap[g]?=some (.cells #[x,y,z] T fr))(a b c:Value):
 (((w.setCell ⟨g,0,none⟩ a).setCell ⟨g,1,none⟩ b).setCell ⟨g,2,none⟩ c).heap[g]?=some (.cells #[a,b,c] T fr):=by
 have h1:=an w h 0 a
 have h2:=an _ h1 1 b
 have h3:=an _ h2 2 c
 simpa [Array.setIfInBounds]using h3
structure rV(w wr:World)(l:List ByteArray):Prop where
 aZ:Below w.heap.size w wr
 res:wr.heap[w.heap.size]?=some (.cells #[.string ⟨#[]⟩,.string ⟨#[]⟩,.string ⟨#[]⟩] 119 (0,0))
 row:wr.heap[w.heap.size+1]?=some (.cells (Tb.fB l) 119 (0,0))
theorem rV.size{w wr:World}{l:List ByteArray}(h:rV w wr l):wr.heap.size≥w.heap.size+2:=lt_of_heap h.row
theorem rV.below{w wr w':World}{l:List ByteArray}(h:rV w wr l)(hb:Below wr.heap.size wr w'):rV w w' l:=
 ⟨h.aZ.trans (hb.mono h.aZ.size),by rw[hb.block _ (lt_of_heap h.res)];exact h.res,by rw[hb.block _ (lt_of_heap h.row)];exact h.row⟩
theorem rV.set{w wr:World}{l:List ByteArray}(h:rV w wr l)(k:Nat)(q:ByteArray):Below w.heap.size w (wr.setCell ⟨w.heap.size+1,k,none⟩ (.string q))∧(wr.setCell ⟨w.heap.size+1,k,none⟩ (.string q)).heap[w.heap.size]?=some (.cells #[.string ⟨#[]⟩,.string ⟨#[]⟩,.string ⟨#[]⟩] 119 (0,0))∧(wr.setCell ⟨w.heap.size+1,k,none⟩ (.string q)).heap[w.heap.size+1]?=some (.cells ((Tb.fB l).setIfInBounds k (.string q)) 119 (0,0)):=
 ⟨h.aZ.setCell (p:=⟨w.heap.size+1,k,none⟩) (by simp) _,(Below.heap_setCell _ _ _ _ (by simp)).trans h.res,an _ h.row _ _⟩
theorem IP(w:World)(g pl:Nat)(names:List ByteArray)(v:Value)(hc:w.cell? ⟨g,1,none⟩=some (.int .i64 pl))(hv:w.ownsRow 0 9 1 v names.length (strCells names))(hl:names.length=pl)(h3:names.length≤3)
 (hn:∀a,a∈names→Ax.nz a=true)(hs:∀a,a∈names→a.size≤1000)(hT:eY w):
 Calls Tryz.prog 74 #[.pointer (some ⟨g,0,none⟩),v] w fun e w'=>e=.returned (.tuple #[.agg (Tb.fB names),.bool true])∧Below w.heap.size w w':=by
 subst hl
 obtain⟨ad,ac,LO⟩:=ah hv
 subst LO
 have HT:Hid (eY w):=hT
 have HV:Hid (w.ownsRow 0 9 1 (.slice ad names.length ac) names.length (strCells names)):=hv
 have HN:Hid (∀a,a∈names→Ax.nz a=true∧a.size≤1000):=fun a ha=>⟨hn a ha,hs a ha⟩
 have hgw:=block_lt_of_cell hc
 clear hT hv hn hs
 have HS:Hid (rV w ((w.alloc (.cells #[.string ⟨#[]⟩,.string ⟨#[]⟩,.string ⟨#[]⟩] 119)).alloc (.cells #[.string ⟨#[]⟩,.string ⟨#[]⟩,.string ⟨#[]⟩] 119)) (names.take 0)):=
  ⟨((Below.refl _ _).alloc (Nat.le_refl _) _).alloc (by simp) _,by rw[Below.heap_alloc _ _ _ (by simp)];exact heap_alloc_new w _,by
   have:=qI w (.cells #[.string ⟨#[]⟩,.string ⟨#[]⟩,.string ⟨#[]⟩] 119) (.cells #[.string ⟨#[]⟩,.string ⟨#[]⟩,.string ⟨#[]⟩] 119)
   simpa [Tb.fB,Tb.eh]using this⟩
 go_enter Tryz.func74,Tryz.ntmps74
 go_wp2_with fail
 go_loopw [20] (fun i wr=>∃(k:Nat),k≤names.length∧i=.int .i64 k∧rV w wr (names.take k)) (fun i _=>names.length-(intOf i).toNat)
 case atStart=>exact⟨0,Nat.zero_le _,rfl,HS.out⟩
 case round=>
  obtain⟨k,hk,rfl,hr⟩:=hrel
  have HR:Hid (rV w wr (names.take k)):=hr
  by_cases aE:k<names.length
  · have bQ:=ae HV.out hr.aZ
    obtain⟨g3,rfl,nL,uY,mA⟩:=aD bQ (by omega)
    have ca:wr.cell? ⟨g3,k,none⟩=some (.string names[k]):=mA k _ (by rw[strCells,List.getElem?_map,List.getElem?_eq_getElem aE];rfl)
    have HQ:Hid (Ax.nz names[k]=true∧names[k].size≤1000):=HN.out _ (List.getElem_mem aE)
    have fS:Hid ((Tb.fB (names.take k)).setIfInBounds k (.string names[k])=Tb.fB (names.take (k+1))):=Tb.Gb aE h3
    have HLT:Hid (k<names.length):=aE
    have J9:k<3:=by omega
    generalize names[k]=q at ca HQ fS
    have dN:Hid (Calls Tryz.prog 130 #[.string q] wr fun e w5=>e=.returned (.bool true)∧Hid (rV w w5 (names.take k))∧w5.heap.size≥w.heap.size+2):=by
     refine(GG q wr (Utf8Tabs_below HT.out HR.out.aZ) (by have:=HQ.out.2;unfold maxLen;omega)).mono ?_
     rintro e w5 ⟨rfl,hb⟩
     rw[HQ.out.1]
     have h5:=HR.out.below hb
     exact⟨rfl,h5,h5.size⟩
    have vl:Hid (∀w5,Hid (rV w w5 (names.take k))→Calls Tryz.prog 102 #[.string q] w5 fun e w6=>e=.returned (.string q)∧Hid (rV w (w6.setCell ⟨w.heap.size+1,k,none⟩ (.string q)) (names.take (k+1)))∧w6.cell? ⟨w.heap.size+1,k,none⟩=some (.string (Tb.eh (names.take k) k))∧w6.frozen? ⟨w.heap.size+1,k,none⟩=false):=by
     intro w5 h5
     refine(iK q w5 (by have:=HQ.out.2;omega)).mono ?_
     rintro e w6 ⟨rfl,hb⟩
     have h6:=h5.out.below hb
     refine⟨rfl, ?_, ?_, ?_⟩
     · have:=h6.set k q
       rw[fS.out]at this
       exact⟨this.1,this.2.1,this.2.2⟩
     · rw[cell_of_row _ _ _ _ _ _ h6.row]
       exact Tb.JF _ J9
     · simp[World.frozen?,h6.row]
    clear hr bQ mA
    go_wp2_with (first | (go_at_call 130;refine dN.out.mono ?_;rintro e w5 ⟨rfl,H5,Wt⟩) | (go_at_call 102;refine(vl.out _ H5).mono ?_;rintro e w6 ⟨rfl,H6,hc6,hf6⟩))
    go_roundw
    case rel=>exact⟨k+1,HLT.out,by go_num,H6.out⟩
    case measure=>
     have h9:=HLT.out
     simp[intOf]
     omega
  · have HE:Hid (rV w wr names):=by
     have e0:names.take k=names:=List.take_of_length_le (by omega)
     rw[e0]at hr
     exact hr
    have Fl:wr.heap[w.heap.size+1]?=some (.cells #[.string (Tb.eh names 0),.string (Tb.eh names 1),.string (Tb.eh names 2)] 119 (0,0)):=HE.out.row
    have E6:=HE.out.res
    have c0:wr.cell? ⟨w.heap.size+1,0,none⟩=some (.string (Tb.eh names 0)):=by rw[cell_of_row _ _ _ _ _ _ Fl];rfl
    have c1:wr.cell? ⟨w.heap.size+1,1,none⟩=some (.string (Tb.eh names 1)):=by rw[cell_of_row _ _ _ _ _ _ Fl];rfl
    have c2:wr.cell? ⟨w.heap.size+1,2,none⟩=some (.string (Tb.eh names 2)):=by rw[cell_of_row _ _ _ _ _ _ Fl];rfl
    have d0:wr.cell? ⟨w.heap.size,0,none⟩=some (.string ⟨#[]⟩):=by rw[cell_of_row _ _ _ _ _ _ E6];rfl
    have d1:wr.cell? ⟨w.heap.size,1,none⟩=some (.string ⟨#[]⟩):=by rw[cell_of_row _ _ _ _ _ _ E6];rfl
    have d2:wr.cell? ⟨w.heap.size,2,none⟩=some (.string ⟨#[]⟩):=by rw[cell_of_row _ _ _ _ _ _ E6];rfl
    have f0:∀o,wr.frozen? ⟨w.heap.size,o,none⟩=false:=fun o=>by simp[World.frozen?,E6]
    have fl:=HE.out.aZ
    clear hr Fl E6
    go_wp2_with fail
    refine bodyPost_ret (v:=.tuple #[.agg (Tb.fB names),.bool true]) ?_ rfl ⟨rfl,((fl.setCell (p:=⟨w.heap.size,0,none⟩) (Nat.le_refl _) _).setCell (p:=⟨w.heap.size,1,none⟩) (Nat.le_refl _) _).setCell (p:=⟨w.heap.size,2,none⟩) (Nat.le_refl _) _⟩
    refine Eq.trans (cQ rfl _ _ _ _ _ _ _ rfl (BQ HE.out.res _ _ _) Tryz.underlying119 rfl (by kernel_rfl)) ?_
    rfl
end
/- Hold: a fact holds by so many instances more. -/
namespace Tb
def eN(L:List Rw)(C:List Nat)(r:Rw):List Nat:=if mD L r=true then C else C.take (pos L r)++[0]++C.drop (pos L r)
def p8(L:List Rw)(C:List Nat)(r:Rw)(n:Nat):List Nat:=(eN L C r).set (pos L r) ((eN L C r).getD (pos L r) 0+n)
theorem BS{L:List Rw}(r:Rw):(put L r).length=if mD L r=true then L.length else L.length+1:=by
 unfold put
 split
 · rfl
 · have:=qx L r
   simp only[ins,List.length_append,List.length_cons,List.length_take,List.length_drop]
   omega
theorem F9{L:List Rw}{C:List Nat}(hC:C.length=L.length)(r:Rw):(eN L C r).length=(put L r).length:=by
 rw[BS]
 unfold eN
 split
 · exact hC
 · have:=qx L r
   simp only[List.length_append,List.length_cons,List.length_nil,List.length_take,List.length_drop]
   omega
theorem FD{L:List Rw}(h:Ord L)(r:Rw):pos L r<(put L r).length:=by
 rw[BS]
 split
 · rename_i dN
   exact(List.getElem?_eq_some_iff.1 ((fM h r).2 (dW.1 dN))).1
 · have:=qx L r
   omega
theorem Rg{L:List Rw}(h:Ord L)(r:Rw)(n:Nat)(f:Rw→Nat)(hf:¬r∈L→f r=0):p8 L (L.map f) r n=(put L r).map (fun x=>if x=r then f x+n else f x):=by
 have cA:∀x,x∈L.take (pos L r)→x≠r:=by
  intro x hx e
  have:=(sm h r).1 x hx
  rw[e,oq]at this
  omega
 have G8:∀l:List Rw,(∀x,x∈l→x≠r)→l.map (fun x=>if x=r then f x+n else f x)=l.map f:=by
  intro l hl
  refine List.map_congr_left fun x hx=> ?_
  rw[if_neg (hl x hx)]
 cases dN:mD L r with
 | true=>
  have aE:pos L r<L.length:=(List.getElem?_eq_some_iff.1 ((fM h r).2 (dW.1 dN))).1
  have hg:L[pos L r]=r:=(List.getElem?_eq_some_iff.1 ((fM h r).2 (dW.1 dN))).2
  have e:L=L.take (pos L r)++r::L.drop (pos L r+1):=by
   conv=>lhs;rw[←List.take_append_drop (pos L r) L]
   rw[List.drop_eq_getElem_cons aE,hg]
  have DU:=h.nodup
  rw[e,List.nodup_append]at DU
  have Jv:∀x,x∈L.drop (pos L r+1)→x≠r:=fun x hx e2=>(List.nodup_cons.1 DU.2.1).1 (e2▸hx)
  unfold p8 eN put
  rw[dN]
  simp only[if_true]
  have zP:(L.map f).getD (pos L r) 0=f r:=by
   rw[List.getD_eq_getElem?_getD,List.getElem?_map,List.getElem?_eq_getElem aE,hg]
   rfl
  rw[zP]
  generalize hp:pos L r=p at*
  have s8:(L.take p).length=p:=by rw[List.length_take];omega
  conv=>rhs;rw[e]
  rw[List.map_append,List.map_cons,G8 _ cA,G8 _ Jv,if_pos rfl]
  conv=>lhs;rw[e]
  rw[List.map_append,List.map_cons,List.set_append_right _ _ (by rw[List.length_map,s8];exact Nat.le_refl _),List.length_map,s8,Nat.sub_self,List.set_cons_zero]
 | false=>
  have gh:¬r∈L:=fun hc=>by rw[dW.2 hc]at dN;cases dN
  have Uh:=qx L r
  unfold p8 eN put
  rw[dN]
  simp only[Bool.false_eq_true,if_false]
  have s8:((L.map f).take (pos L r)).length=pos L r:=by rw[List.length_take,List.length_map];omega
  have Jv:∀x,x∈L.drop (pos L r)→x≠r:=fun x hx e2=>gh (e2▸List.mem_of_mem_drop hx)
  rw[List.append_assoc,List.set_append_right _ _ (by rw[s8];exact Nat.le_refl _),s8,Nat.sub_self]
  have zP:((L.map f).take (pos L r)++([0]++(L.map f).drop (pos L r))).getD (pos L r) 0=0:=by
   rw[List.getD_eq_getElem?_getD,List.getElem?_append_right (by rw[s8];exact Nat.le_refl _),s8,Nat.sub_self]
   rfl
  rw[zP]
  unfold ins
  rw[List.map_append,List.map_cons,G8 _ cA,G8 _ Jv,if_pos rfl,hf gh,List.map_take,List.map_drop]
  rfl
end Tb
/- Hold, walked. -/
section
open Go.RowKit
open Go.Sort (grow)
structure eK(w:World)(g:Nat)(nm:ByteArray)(pl:Nat)(rd:Option Addr)(rc:Nat)(cd:Option Addr)(cc:Nat)(L:List (List ByteArray))(C:List Nat):Prop where
 ph:cp w g 117 nm pl rd rc L [.slice cd L.length cc]
 lC:w.ownsRow 0 3 1 (.slice cd L.length cc) L.length (aA C)
theorem Bi(l:List Nat):(aA l).length=l.length:=by simp[aA]
theorem Bq(l:List Nat):∀u∈aA l,u.oneCell'=true:=by
 intro u hu
 obtain⟨x,_,rfl⟩:=List.mem_map.1 hu
 rfl
theorem eK.len{w:World}{g:Nat}{nm:ByteArray}{pl:Nat}{rd:Option Addr}{rc:Nat}{cd:Option Addr}{cc:Nat}{L:List (List ByteArray)}{C:List Nat}(h:eK w g nm pl rd rc cd cc L C):C.length=L.length:=by
 have:=h.lC.1
 rw[Bi]at this
 omega
theorem eK.below{w w':World}{g:Nat}{nm:ByteArray}{pl:Nat}{rd:Option Addr}{rc:Nat}{cd:Option Addr}{cc:Nat}{L:List (List ByteArray)}{C:List Nat}(h:eK w g nm pl rd rc cd cc L C)(hb:Below w.heap.size w w'):eK w' g nm pl rd rc cd cc L C:=⟨h.ph.below hb,ae h.lC hb⟩
def ku(g:Nat)(rd:Option Addr)(rc:Nat)(cd:Option Addr)(cc n:Nat):List Nat:=g::((Value.ownBlock (.slice rd n rc)).toList++(Value.ownBlock (.slice cd n cc)).toList)
theorem eK.kept{w w':World}{S:List Nat}{g:Nat}{nm:ByteArray}{pl:Nat}{rd:Option Addr}{rc:Nat}{cd:Option Addr}{cc:Nat}{L:List (List ByteArray)}{C:List Nat}(h:eK w g nm pl rd rc cd cc L C)(hk:Kb S w w')(hS:∀b,b∈ku g rd rc cd cc L.length→¬b∈S):eK w' g nm pl rd rc cd cc L C:=
 ⟨h.ph.kept hk (hS g (by simp[ku])) (fun b hb=>hS b (by simp[ku,hb])),hk.row h.lC (fun b hb=>hS b (by simp[ku,hb]))⟩
theorem aH{w:World}{B:Nat}{e:TypeId}{k n:Nat}{v:Value}{xs:List Value}(h:w.ownsRow B e k v n xs){b:Nat}(hb:v.ownBlock=some b):∃cur,w.heap[b]?=some (.cells cur e (0,0)):=by
 rcases h.2 with⟨rfl,_⟩ | ⟨g,cap,cur,rfl,_,hg,_⟩
 · cases hb
 · simp only[Value.ownBlock,Option.some.injEq]at hb
   subst hb
   exact⟨cur,hg⟩
theorem Hq{w W w1:World}{g:Nat}{nm:ByteArray}{pl:Nat}{rd:Option Addr}{rc:Nat}{cd:Option Addr}{cc:Nat}{L:List (List ByteArray)}{C:List Nat}(h:eK w g nm pl rd rc cd cc L C)(hW:Below w.heap.size w W)(hk:Kb (g::(Value.ownBlock (.slice rd L.length rc)).toList) W w1):
 w1.ownsRow 0 3 1 (.slice cd L.length cc) L.length (aA C)∧Kb (ku g rd rc cd cc L.length) w w1:=by
 have hb:=h.below hW
 refine⟨hk.dV hb.lC ?_,(Kb.bF hW _).trans (hk.mono ?_)⟩
 · intro b cur fz fY kk
   rcases List.mem_cons.1 fY with rfl | fY
   · rw[hb.ph.cT]at kk
     simp at kk
   · rw[Option.mem_toList]at fY
     obtain⟨jU,e⟩:=aH hb.ph.rows.own fY
     rw[e]at kk
     simp at kk
 · intro i hi _
   rcases List.mem_cons.1 hi with rfl | hi
   · simp[ku]
   · simp only[ku,List.mem_cons,List.mem_append];exact .inr (.inl hi)
theorem Qk{w w1 W w3:World}{g:Nat}{nm:ByteArray}{pl:Nat}{rd':Option Addr}{rc':Nat}{cd:Option Addr}{cc:Nat}{L L':List (List ByteArray)}{C C':List Nat}{S:List Nat}
 (ht:cp w1 g 117 nm pl rd' rc' L' [.slice cd L.length cc])(hc:w1.ownsRow 0 3 1 (.slice cd L.length cc) L.length (aA C))(hW:Below w1.heap.size w1 W)
 {g' cap:Nat}(al:w3.ownsRow 0 3 1 (.slice (some ⟨g',0,none⟩) (L.length+1) cap) (L.length+1) (aA C'))(hk:Kb (Value.ownBlock (.slice cd L.length cc)).toList W w3)(hL':L'.length=L.length+1):
 eK (w3.setCell ⟨g,3,none⟩ (.slice (some ⟨g',0,none⟩) (L.length+1) cap)) g nm pl rd' rc' (some ⟨g',0,none⟩) cap L' C'∧Kb (g::(Value.ownBlock (.slice cd L.length cc)).toList) w1 (w3.setCell ⟨g,3,none⟩ (.slice (some ⟨g',0,none⟩) (L.length+1) cap)):=by
 have Vg:=ht.below hW
 have hcW:=ae hc hW
 have hng:¬g∈(Value.ownBlock (.slice cd L.length cc)).toList:=by
  intro hm
  rw[Option.mem_toList]at hm
  obtain⟨jU,e⟩:=aH hcW hm
  rw[Vg.cT]at e
  simp at e
 have we:cp w3 g 117 nm pl rd' rc' L' [.slice cd L.length cc]:=by
  refine Vg.kept hk hng ?_
  intro b hb hm
  rw[Option.mem_toList]at hm
  obtain⟨c1,e1⟩:=aH hcW hm
  obtain⟨c2,e2⟩:=aH Vg.rows.own hb
  rw[e1]at e2
  simp at e2
 have rl:=Kb.setCell w3 ⟨g,3,none⟩ (.slice (some ⟨g',0,none⟩) (L.length+1) cap)
 refine⟨⟨⟨?_,⟨we.rows.three,rl.row we.rows.own ?_⟩,we.ord,we.type⟩, ?_⟩, ?_⟩
 · rw[an w3 we.cT,hL']
   rfl
 · intro b hb hm
   simp only[List.mem_singleton]at hm
   subst hm
   obtain⟨c2,e2⟩:=aH we.rows.own hb
   rw[we.cT]at e2
   simp at e2
 · rw[hL']
   refine rl.row al ?_
   intro b hb hm
   simp only[List.mem_singleton]at hm
   subst hm
   obtain⟨c2,e2⟩:=aH al hb
   rw[we.cT]at e2
   simp at e2
 · refine Kb.trans' ((Kb.bF hW _).trans (hk.mono ?_)) rl ?_
   · intro i hi _;exact List.mem_cons_of_mem _ hi
   · intro i hi _
     simp only[List.mem_singleton]at hi
     subst hi
     simp
theorem Hr{w:World}{g:Nat}{nm:ByteArray}{pl:Nat}{rd:Option Addr}{rc:Nat}{gc cc:Nat}{L:List (List ByteArray)}{C:List Nat}(h:eK w g nm pl rd rc (some ⟨gc,0,none⟩) cc L C){p:Nat}(hp:p<L.length)(x:Nat):
 eK (w.setCell ⟨gc,p,none⟩ (.int .i64 x)) g nm pl rd rc (some ⟨gc,0,none⟩) cc L (C.set p x)∧Kb [gc] w (w.setCell ⟨gc,p,none⟩ (.int .i64 x)):=by
 have rl:=Kb.setCell w ⟨gc,p,none⟩ (.int .i64 (x:Int))
 have TE:gc≠g:=by
  rintro rfl
  obtain⟨c2,e2⟩:=aH h.lC (b:=gc) rfl
  rw[h.ph.cT]at e2
  simp at e2
 refine⟨⟨h.ph.kept rl (by simpa using fun e=>TE e.symm) ?_, ?_⟩,rl⟩
 · intro b hb hm
   simp only[List.mem_singleton]at hm
   rw[hm]at hb
   obtain⟨c1,e1⟩:=aH h.lC (b:=gc) rfl
   obtain⟨c2,e2⟩:=aH h.ph.rows.own hb
   rw[e1]at e2
   simp at e2
 · have:=World.ownsRow.stored h.lC p (.int .i64 (x:Int))
   have e:aA (C.set p x)=(aA C).set p (.int .i64 (x:Int)):=by
    unfold aA
    rw[List.map_set]
   rw[e]
   exact this.1
theorem NW(w:World)(g:Nat)(nm:ByteArray)(pl:Nat)(rd:Option Addr)(rc:Nat)(cd:Option Addr)(cc:Nat)(L:List (List ByteArray))(C:List Nat)(a b c:ByteArray)(n:Nat)(h:eK w g nm pl rd rc cd cc L C)(hL:L.length≤999999)(hn:n≤1000)(hC:∀x,x∈C→x≤1000000000000):
 Calls Tryz.prog 230 #[.pointer (some ⟨g,0,none⟩),.agg #[.string a,.string b,.string c],.int .i64 n] w fun e w'=>∃rd' rc' cd' cc',
  e=.returned (.bool (!Tb.mD L [a,b,c]))∧eK w' g nm pl rd' rc' cd' cc' (Tb.put L [a,b,c]) (Tb.p8 L C [a,b,c] n)∧
   Kb (ku g rd rc cd cc L.length) w w'∧cu w (.slice rd L.length rc) (.slice rd' (Tb.put L [a,b,c]).length rc')∧cu w (.slice cd L.length cc) (.slice cd' (Tb.put L [a,b,c]).length cc'):=by
 obtain⟨w0,cZ⟩:∃w0,w0=w.alloc (.cells #[.string a,.string b,.string c] 119):=⟨_,rfl⟩
 have bL:Below w.heap.size w w0:=by rw[cZ];exact(Below.refl _ _).alloc (Nat.le_refl _) _
 have lY:w0.heap[w.heap.size]?=some (.cells #[.string a,.string b,.string c] 119 (0,0)):=by rw[cZ];exact heap_alloc_new w _
 have t0:w0.cell? ⟨w.heap.size,0,none⟩=some (.string a):=by rw[cell_of_row _ _ 0 _ _ _ lY];rfl
 have t1:w0.cell? ⟨w.heap.size,1,none⟩=some (.string b):=by rw[cell_of_row _ _ 1 _ _ _ lY];rfl
 have t2:w0.cell? ⟨w.heap.size,2,none⟩=some (.string c):=by rw[cell_of_row _ _ 2 _ _ _ lY];rfl
 have h0:=h.below bL
 have hp:∀W,W.heap=w0.heap→Calls Tryz.prog 196 #[.pointer (some ⟨g,0,none⟩),.agg #[.string a,.string b,.string c]] W fun e w1=>∃rd' rc',
  e=.returned (.tuple #[.int .i64 (Tb.pos L [a,b,c]:Nat),.bool (!Tb.mD L [a,b,c])])∧(cp w1 g 117 nm pl rd' rc' (Tb.put L [a,b,c]) [.slice cd L.length cc]∧
   Kb (g::(Value.ownBlock (.slice rd L.length rc)).toList) W w1∧cu W (.slice rd L.length rc) (.slice rd' (Tb.put L [a,b,c]).length rc'))∧w1.cell? ⟨g,3,none⟩=some (.slice cd L.length cc)∧w1.frozen? ⟨g,3,none⟩=false:=by
  intro W hW
  have hT:cp W g 117 nm pl rd rc L [.slice cd L.length cc]:=by
   obtain⟨x1,⟨x2,x3⟩,x4,x5⟩:=h0.ph
   refine⟨by rw[hW];exact x1,⟨x2,⟨x3.1, ?_⟩⟩,x4,x5⟩
   rw[hW]
   exact x3.2
  refine(IY W g _ nm pl rd rc L _ a b c hT hL).mono ?_
  rintro e w1 ⟨rd',rc',rfl,q1,q2,q3⟩
  exact⟨rd',rc',rfl,⟨q1,q2,q3⟩,by rw[cell_of_row _ _ 3 _ _ _ q1.cT];simp,by simp[World.frozen?,q1.cT]⟩
 have NX:=h.ph.ord
 have mO:=lt_of_heap h0.ph.cT
 have hCl:=h.len
 have Lb:=Tb.FD NX [a,b,c]
 have YO:Hid ((Tb.eN L C [a,b,c]).length=(Tb.put L [a,b,c]).length):=Tb.F9 hCl [a,b,c]
 cases dN:Tb.mD L [a,b,c]with
 | true=>
  rw[dN]at hp
  have Eb:Tb.put L [a,b,c]=L:=by unfold Tb.put;rw[dN];rfl
  have AL:Tb.eN L C [a,b,c]=C:=by unfold Tb.eN;rw[dN];rfl
  have uf:Hid (Tb.p8 L C [a,b,c] n=C.set (Tb.pos L [a,b,c]) (C.getD (Tb.pos L [a,b,c]) 0+n)):=by
   have:Tb.p8 L C [a,b,c] n=(Tb.eN L C [a,b,c]).set (Tb.pos L [a,b,c]) ((Tb.eN L C [a,b,c]).getD (Tb.pos L [a,b,c]) 0+n):=rfl
   rw[AL]at this
   exact this
  rw[Eb]at hp Lb ⊢
  rw[uf.out]
  generalize Tb.pos L [a,b,c]=ps at hp Lb ⊢
  obtain⟨x,hx⟩:∃x,C[ps]?=some x:=⟨_,List.getElem?_eq_getElem (by omega)⟩
  have hxb:x≤1000000000000:=hC x (List.mem_of_getElem? hx)
  have Jk:C.getD ps 0=x:=by rw[List.getD_eq_getElem?_getD,hx];rfl
  rw[Jk]
  clear lY dN Eb AL uf YO h0 Jk
  go_enter Tryz.func230,Tryz.ntmps230
  go_wp2_with fail
  rw[←cZ]
  have V8:Hid (w0=w.alloc (.cells #[.string a,.string b,.string c] 119)):=cZ
  clear cZ
  go_region_with (go_at_call 196;refine(hp _ (by rfl)).mono ?_;rintro e w1 ⟨rd',rc',rfl,hI,k3,kf⟩)
  all_goals
   (obtain⟨q1,q2,q3⟩:=hI
    obtain⟨r1,r2⟩:=Hq h bL.drew q2
    have hH:eK w1 g nm pl rd' rc' cd cc L C:=⟨q1,r1⟩
    obtain⟨gc,rfl,TE,NL,bH⟩:=aD r1 (by omega)
    have kk:=bH ps _ (show(aA C)[ps]?=some (.int .i64 x) by simp[aA,hx])
    have SM:=World.ownsRow.frozenAt r1 ps
    obtain⟨z1,z2⟩:=Hr hH Lb (x+n)
    have Hx:((x+n:Nat):Int)=(x:Int)+(n:Int):=by omega
    rw[Hx]at z1 z2
    have vC:=q3.mono (w:=w) bL.size
    have fG:=r2.trans' z2 (fun i hi _=>by simp only[List.mem_singleton]at hi;subst hi;simp[ku,Value.ownBlock])
    have hgw:g<w1.heap.size:=lt_of_heap q1.cT
    clear bH hp r1 r2 q1 q2 q3 hH z2 t0 t1 t2 V8 Hx h
    go_wp2_with fail
    go_ret
    exact⟨rd',rc',some ⟨gc,0,none⟩,cc,rfl,z1,fG,vC,cu.refl _ _⟩)
 | false=>
  rw[dN]at hp
  have AL:Tb.eN L C [a,b,c]=C.take (Tb.pos L [a,b,c])++[0]++C.drop (Tb.pos L [a,b,c]):=by unfold Tb.eN;rw[dN];rfl
  have lj:(Tb.put L [a,b,c]).length=L.length+1:=by rw[Tb.BS,dN];rfl
  have Uh:=Tb.qx L [a,b,c]
  have Jk:(Tb.eN L C [a,b,c]).getD (Tb.pos L [a,b,c]) 0=0:=by
   rw[AL,List.append_assoc,List.getD_eq_getElem?_getD,List.getElem?_append_right (by rw[List.length_take];omega),List.length_take,Nat.min_eq_left (by omega),Nat.sub_self]
   rfl
  have uf:Hid (Tb.p8 L C [a,b,c] n=(Tb.eN L C [a,b,c]).set (Tb.pos L [a,b,c]) n):=by
   have:Tb.p8 L C [a,b,c] n=(Tb.eN L C [a,b,c]).set (Tb.pos L [a,b,c]) ((Tb.eN L C [a,b,c]).getD (Tb.pos L [a,b,c]) 0+n):=rfl
   rw[Jk,Nat.zero_add]at this
   exact this
  rw[uf.out]
  have Dl:∀(w1 W:World) (rd':Option Addr) (rc':Nat),cp w1 g 117 nm pl rd' rc' (Tb.put L [a,b,c]) [.slice cd L.length cc]→w1.ownsRow 0 3 1 (.slice cd L.length cc) L.length (aA C)→W.heap=(w1.alloc (.cells #[.int .i64 0] 3)).heap→
   Calls Tryz.prog 264 #[.slice cd L.length cc,.int .i64 (Tb.pos L [a,b,c]:Nat),.slice (some ⟨w1.heap.size,0,none⟩) 1 1] W fun e w3=>∃g' cap,e=.returned (.slice (some ⟨g',0,none⟩) (L.length+1) cap)∧
    (w3.ownsRow 0 3 1 (.slice (some ⟨g',0,none⟩) (L.length+1) cap) (L.length+1) (aA (Tb.eN L C [a,b,c]))∧Kb (Value.ownBlock (.slice cd L.length cc)).toList W w3∧cu W (.slice cd L.length cc) (.slice (some ⟨g',0,none⟩) (L.length+1) cap))∧w3.cell? ⟨g,3,none⟩=some (.slice cd L.length cc)∧w3.frozen? ⟨g,3,none⟩=false∧g<w3.heap.size:=by
   intro w1 W rd' rc' hT EC hW
   have I3:W.ownsRow 0 3 1 (.slice cd L.length cc) L.length (aA C):=by
    have:=EC.alloc (.cells #[.int .i64 0] 3)
    refine⟨this.1, ?_⟩
    rw[hW]
    exact this.2
   have dM:W.heap[g]?=some (.cells (Value.string nm:: .int .i64 pl:: .slice rd' (Tb.put L [a,b,c]).length rc'::[.slice cd L.length cc]).toArray 117 (0,0)):=by
    rw[hW,Below.heap_alloc _ _ _ (lt_of_heap hT.cT)]
    exact hT.cT
   refine(zw W 0 cd cc L.length (Tb.pos L [a,b,c]) w1.heap.size (aA C) [.int .i64 0] I3 (Nat.zero_le _) Uh (by omega) (Bq C) rfl (by rw[hW];exact heap_alloc_new w1 _) ?_ (by intro u hu;simp at hu;subst hu;rfl)).mono ?_
   · intro uD
     have:=(World.ownsRow.lt EC w1.heap.size uD.symm).2
     omega
   · rintro e w3 ⟨g',cap,rfl,h2,h3,h4⟩
     have hng:¬g∈(Value.ownBlock (.slice cd L.length cc)).toList:=by
      intro hm
      rw[Option.mem_toList]at hm
      obtain⟨jU,e⟩:=aH I3 hm
      rw[dM]at e
      simp at e
     have nL:=h3.heap dM hng
     have ec:aA C=aA C:=rfl
     refine⟨g',cap,rfl,⟨?_,h3,h4⟩,by rw[cell_of_row _ _ 3 _ _ _ nL];simp,by simp[World.frozen?,nL],lt_of_heap nL⟩
     rw[AL]
     have e2:aA (C.take (Tb.pos L [a,b,c])++[0]++C.drop (Tb.pos L [a,b,c]))=(aA C).take (Tb.pos L [a,b,c])++[.int .i64 0]++(aA C).drop (Tb.pos L [a,b,c]):=by
      simp[aA]
     rw[e2]
     exact h2
  generalize Tb.eN L C [a,b,c]=C' at Jk uf Dl YO ⊢
  generalize Tb.pos L [a,b,c]=ps at hp Lb Jk Dl ⊢
  generalize Tb.put L [a,b,c]=L' at hp Lb Dl lj YO ⊢
  have hx:C'[ps]?=some 0:=by
   have:ps<C'.length:=by rw[YO.out];omega
   rw[List.getD_eq_getElem?_getD,List.getElem?_eq_getElem this]at Jk
   rw[List.getElem?_eq_getElem this]
   simpa using Jk
  have aiW:ps<L.length+1:=by omega
  clear lY dN AL uf YO h0 Jk Uh
  have Gr:Hid (L'.length=L.length+1):=lj
  clear lj
  go_enter Tryz.func230,Tryz.ntmps230
  go_wp2_with fail
  rw[←cZ]
  have V8:Hid (w0=w.alloc (.cells #[.string a,.string b,.string c] 119)):=cZ
  clear cZ
  go_region_with (go_at_call 196;refine(hp _ (by rfl)).mono ?_;rintro e w1 ⟨rd',rc',rfl,hI,k3,kf⟩)
  all_goals
   (obtain⟨q1,q2,q3⟩:=hI
    obtain⟨r1,r2⟩:=Hq h bL.drew q2
    have SN:=fun W=>Dl w1 W rd' rc' q1 r1
    have hgw:g<w1.heap.size:=lt_of_heap q1.cT
    clear hp t0 t1 t2 V8 Dl
    go_upto_region 4 with(go_at_call 264;refine(SN _ (by rfl)).mono ?_;rintro e w3 ⟨g',cap,rfl,hJ,k4,kf4,aiF⟩)
    obtain⟨j1,j2,j3⟩:=hJ
    obtain⟨y1,y2⟩:=Qk (w:=w) (S:=[]) q1 r1 ((Below.refl _ _).alloc (Nat.le_refl _) _) j1 j2 Gr.out
    have vC:=q3.mono (w:=w) bL.size
    have kA:w.heap.size≤w1.heap.size:=r2.size
    have PI:cu w (.slice cd L.length cc) (.slice (some ⟨g',0,none⟩) L'.length cap):=by
     intro x LF
     rcases j3 x LF with e | e
     · exact .inl e
     · exact .inr (by simp only[World.size_alloc]at e;omega)
    have Cj:=r2.trans' y2 (fun i hi _=>by
     rcases List.mem_cons.1 hi with rfl | hi
     · simp[ku]
     · simp only[ku,List.mem_cons,List.mem_append];exact .inr (.inr hi))
    clear j1 j2 j3 q1 q2 q3 r1 r2 SN k3 kf k4 kf4 y2 h bL
    generalize w3.setCell ⟨g,3,none⟩ (.slice (some ⟨g',0,none⟩) (L.length+1) cap)=w4 at y1 Cj ⊢
    have d0:w4.cell? ⟨g,3,none⟩=some (.slice (some ⟨g',0,none⟩) (L.length+1) cap):=by
     rw[cell_of_row _ _ 3 _ _ _ y1.ph.cT,Gr.out];simp
    have akA:g<w4.heap.size:=lt_of_heap y1.ph.cT
    have QK:=y1.lC
    rw[Gr.out]at QK
    obtain⟨gc,egc,TE,NL,bH⟩:=aD QK (by omega)
    simp only[Option.some.injEq,Addr.mk.injEq,and_true]at egc
    subst egc
    have kk:=bH ps _ (show(aA C')[ps]?=some (.int .i64 0) by simp[aA,hx])
    have SM:=World.ownsRow.frozenAt QK ps
    obtain⟨z1,z2⟩:=Hr y1 Lb n
    have fG:=Cj.trans' z2 (fun i hi aE=>by
     simp only[List.mem_singleton]at hi
     subst hi
     rcases PI i rfl with e | e
     · simp only[ku,List.mem_cons,List.mem_append,Option.mem_toList];exact .inr (.inr e)
     · omega)
    clear bH QK y1 z2 Cj hx
    go_wp2_with fail
    go_ret
    exact⟨rd',rc',some ⟨g',0,none⟩,cap,rfl,z1,fG,vC,PI⟩)
end
/- Has, Count, Len. -/
namespace Tb
def Aa(L:List Rw)(C:List Nat)(r:Rw):Nat:=if mD L r=true then C.getD (pos L r) 0 else 0
end Tb
section
open Go.RowKit
open Go.Sort (grow)
theorem R6(w:World)(g:Nat)(T:TypeId)(nm:ByteArray)(pl:Nat)(rd:Option Addr)(rc:Nat)(L:List (List ByteArray))(rest:List Value)(a b c:ByteArray)(h:cp w g T nm pl rd rc L rest)(hL:L.length≤999999):
 Calls Tryz.prog 42 #[.pointer (some ⟨g,0,none⟩),.agg #[.string a,.string b,.string c]] w fun e w'=>e=.returned (.bool (Tb.mD L [a,b,c]))∧Below w.heap.size w w':=by
 have ue:Hid (∀W,Below w.heap.size w W→Calls Tryz.prog 75 #[.pointer (some ⟨g,0,none⟩),.agg #[.string a,.string b,.string c]] W fun e w'=>e=.returned (.tuple #[.int .i64 (Tb.pos L [a,b,c]:Nat),.bool (Tb.mD L [a,b,c])])∧Below w.heap.size w w'):=by
  intro W hW
  have h1:=h.below hW
  refine(rZ W g rd rc L a b c h1.rows (by omega) h1.ord h1.lH.1).mono ?_
  rintro e w' ⟨rfl,hb⟩
  exact⟨rfl,hW.trans (hb.mono hW.size)⟩
 generalize Tb.pos L [a,b,c]=ps at ue
 generalize Tb.mD L [a,b,c]=fb at ue ⊢
 clear h
 go_enter Tryz.func42,Tryz.ntmps42
 go_wp2_with (go_at_call 75;refine(ue.out _ (by exact(Below.refl _ _).alloc (Nat.le_refl _) _)).mono ?_;rintro e w1 ⟨rfl,a8⟩)
 go_ret
 exact⟨rfl,a8⟩
theorem IE(w:World)(g:Nat)(T:TypeId)(nm:ByteArray)(pl:Nat)(rd:Option Addr)(rc:Nat)(L:List (List ByteArray))(rest:List Value)(h:cp w g T nm pl rd rc L rest):
 Calls Tryz.prog 136 #[.pointer (some ⟨g,0,none⟩)] w fun e w'=>e=.returned (.int .i64 L.length)∧w'=w:=by
 have c2:=h.lH.1
 have hg:=lt_of_heap h.cT
 clear h
 go_enter Tryz.func136,Tryz.ntmps136
 go_wp2_with fail
 go_ret
 exact⟨rfl,rfl⟩
theorem Jt(w:World)(g:Nat)(nm:ByteArray)(pl:Nat)(rd:Option Addr)(rc:Nat)(cd:Option Addr)(cc:Nat)(L:List (List ByteArray))(C:List Nat)(a b c:ByteArray)(h:eK w g nm pl rd rc cd cc L C)(hL:L.length≤999999):
 Calls Tryz.prog 43 #[.pointer (some ⟨g,0,none⟩),.agg #[.string a,.string b,.string c]] w fun e w'=>e=.returned (.int .i64 (Tb.Aa L C [a,b,c]:Nat))∧Below w.heap.size w w':=by
 obtain⟨w0,cZ⟩:∃w0,w0=w.alloc (.cells #[.string a,.string b,.string c] 119):=⟨_,rfl⟩
 have bL:Below w.heap.size w w0:=by rw[cZ];exact(Below.refl _ _).alloc (Nat.le_refl _) _
 have lY:w0.heap[w.heap.size]?=some (.cells #[.string a,.string b,.string c] 119 (0,0)):=by rw[cZ];exact heap_alloc_new w _
 have t0:w0.cell? ⟨w.heap.size,0,none⟩=some (.string a):=by rw[cell_of_row _ _ 0 _ _ _ lY];rfl
 have t1:w0.cell? ⟨w.heap.size,1,none⟩=some (.string b):=by rw[cell_of_row _ _ 1 _ _ _ lY];rfl
 have t2:w0.cell? ⟨w.heap.size,2,none⟩=some (.string c):=by rw[cell_of_row _ _ 2 _ _ _ lY];rfl
 have h0:=h.below bL
 have k0:=cell_regrown t0
 have k1:=cell_regrown t1
 have k2:=cell_regrown t2
 have cC:∀d os,Calls Tryz.prog 75 #[.pointer (some ⟨g,0,none⟩),.agg #[.string a,.string b,.string c]] (grow (redrawn w0 d) os) fun e XZ=>e=.returned (.tuple #[.int .i64 (Tb.pos L [a,b,c]:Nat),.bool (Tb.mD L [a,b,c])])∧∃p:Regrown,XZ=grow (redrawn w0 p.d) p.os:=fun d os=>Calls.regrown_of (by
  have h1:=h0.below (below_regrown w0 d os)
  exact rZ _ g rd rc L a b c h1.ph.rows (by omega) h1.ph.ord h1.ph.lH.1)
 have aE:Hid (Tb.mD L [a,b,c]=true→Tb.pos L [a,b,c]<L.length):=fun dN=>(List.getElem?_eq_some_iff.1 ((Tb.fM h.ph.ord _).2 (Tb.dW.1 dN))).1
 have hR:Hid (Tb.Aa L C [a,b,c]=if Tb.mD L [a,b,c]=true then C.getD (Tb.pos L [a,b,c]) 0 else 0):=rfl
 generalize Tb.Aa L C [a,b,c]=R at hR ⊢
 generalize Tb.pos L [a,b,c]=ps at cC aE hR
 generalize Tb.mD L [a,b,c]=fb at cC aE hR
 have hCl:=h.len
 have mO:=lt_of_heap h0.ph.cT
 have H0:Hid (eK w0 g nm pl rd rc cd cc L C):=h0
 clear h h0 lY
 go_enter Tryz.func43,Tryz.ntmps43
 go_wp2_with fail
 rw[←cZ]
 clear cZ t0 t1 t2
 refine wp_region_quiet_below (by kernel_rfl) (by kernel_rfl) ?_
 repeat (quiet_step (first | exact cC _ _))
 refine wpQuiet_nil ?_
 intro _ Qf
 obtain⟨⟨dq,LR⟩,GB⟩:=Qf
 subst GB
 have Sj:=below_regrown w0 dq LR
 have dY:Below w.heap.size w (grow (redrawn w0 dq) LR):=bL.trans (Sj.mono bL.size)
 have h2:=H0.out.below Sj
 generalize grow (redrawn w0 dq) LR=wq at Sj dY h2 ⊢
 clear k0 k1 k2 cC
 cases fb with
 | true=>
  have uH:=aE.out rfl
  have c3:wq.cell? ⟨g,3,none⟩=some (.slice cd L.length cc):=by rw[cell_of_row _ _ 3 _ _ _ h2.ph.cT];simp
  have hgq:=lt_of_heap h2.ph.cT
  obtain⟨gc,rfl,TE,NL,bH⟩:=aD h2.lC (by omega)
  obtain⟨x,hx⟩:∃x,C[ps]?=some x:=⟨_,List.getElem?_eq_getElem (by omega)⟩
  have kk:=bH ps _ (show(aA C)[ps]?=some (.int .i64 x) by simp[aA,hx])
  have Jk:Hid (C.getD ps 0=x):=by rw[List.getD_eq_getElem?_getD,hx];rfl
  have HX:Hid (R=x):=by rw[hR.out,if_pos rfl];exact Jk.out
  clear bH h2 hx
  go_wp2_with fail
  go_ret
  exact⟨by rw[HX.out];rfl,dY⟩
 | false=>
  have HX:Hid (R=0):=hR.out
  clear h2
  go_wp2_with fail
  go_ret
  exact⟨by rw[HX.out];rfl,dY⟩
end
end Go.Proofs.YtdmicblafmhflaaGreatDoor
