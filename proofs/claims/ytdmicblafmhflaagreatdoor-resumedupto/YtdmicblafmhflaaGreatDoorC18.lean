/- facts.Table.Row: a row of names, each cloned. -/
import Derived.Test.YtdmicblafmhflaaGreatDoorC12
import Derived.Test.YtdmicblafmhflaaGreatDoorC14
import Derived.Test.YtdmicblafmhflaaGreatDoorC17
import Derived.Laws.ResultCell
import Derived.Laws.Rows
import Derived.Test.YtdmicblafmhflaaGreatDoorC08
set_option linter.unusedSimpArgs false
set_option linter.unusedVariables false
set_option maxHeartbeats 2000000
set_option maxRecDepth 100000
namespace Go.Proofs.YtdmicblafmhflaaGreatDoor
section
open Go.RowKit
namespace Tb
def dZ(l:List ByteArray)(k:Nat):ByteArray:=l.getD k ⟨#[]⟩
def dw(l:List ByteArray):List ByteArray:=[dZ l 0,dZ l 1,dZ l 2]
def fJ(l:List ByteArray):Array Value:=#[.string (dZ l 0),.string (dZ l 1),.string (dZ l 2)]
theorem Mr{l:List ByteArray}{k j:Nat}:dZ (l.take k) j=if j<k then dZ l j else ⟨#[]⟩:=by
 unfold dZ
 simp only[List.getD_eq_getElem?_getD,List.getElem?_take]
 split<;>rfl
theorem Ff{l:List ByteArray}{k:Nat}(hk:k<l.length)(h3:l.length≤3):(fJ (l.take k)).setIfInBounds k (.string l[k])=fJ (l.take (k+1)):=by
 have e:dZ l k=l[k]:=by simp[dZ,List.getD_eq_getElem?_getD,hk]
 rw[←e]
 have Ig:k<3:=by omega
 unfold fJ
 simp only[Mr]
 match k,Ig with
 | 0,_=>simp[Array.setIfInBounds]
 | 1,_=>simp[Array.setIfInBounds]
 | 2,_=>simp[Array.setIfInBounds]
end Tb
theorem Tb.JG(l:List ByteArray){k:Nat}(h:k<3):(Tb.fJ l)[k]?=some (.string (Tb.dZ l k)):=by
 match k,h with
 | 0,_=>rfl
 | 1,_=>rfl
 | 2,_=>rfl
theorem dn{P:Program}{fn:Func}{p u:Tmp}{ty:TypeId}(h:fn.results=#[.cell p ty,.tmp u])(tmps:Array Value)(w:World)(g:Nat)(t:TypeId)(cs:Array Value)(fr:Nat×Nat)(d:TypeDesc)
 (hp:tmps.getD p undef=.pointer (some ⟨g,0,none⟩))(hg:w.heap[g]?=some (.cells cs t fr))
 (hu:P.underlying ty=some d)(hd:(match d with | .struct _ | .array _ _=>true | _=>false)=true)(hi:(P.info? ty).map (·.size)=some cs.size):
 (results fn tmps).run P w=.ok (.tuple #[.agg cs,tmps.getD u undef]) w:=by
 rw[results_cell_tmp h,hp]
 simp only[asAddr,Sem.run_pure,Result.andThen_ok,run_loadVar_row w g t ty cs fr d hg hu hd hi]
theorem re{w:World}{g:Nat}{x y z:Value}{T:TypeId}{fr:Nat×Nat}(h:w.heap[g]?=some (.cells #[x,y,z] T fr))(a b c:Value):
 (((w.setCell ⟨g,0,none⟩ a).setCell ⟨g,1,none⟩ b).setCell ⟨g,2,none⟩ c).heap[g]?=some (.cells #[a,b,c] T fr):=by
 have h1:=aw w h 0 a
 have h2:=aw _ h1 1 b
 have h3:=aw _ h2 2 c
 simpa [Array.setIfInBounds]using h3
structure si(w wr:World)(l:List ByteArray):Prop where
 aQ:Below w.heap.size w wr
 res:wr.heap[w.heap.size]?=some (.cells #[.string ⟨#[]⟩,.string ⟨#[]⟩,.string ⟨#[]⟩] 119 (0,0))
 row:wr.heap[w.heap.size+1]?=some (.cells (Tb.fJ l) 119 (0,0))
theorem si.size{w wr:World}{l:List ByteArray}(h:si w wr l):wr.heap.size≥w.heap.size+2:=lt_of_heap h.row
theorem si.below{w wr w':World}{l:List ByteArray}(h:si w wr l)(hb:Below wr.heap.size wr w'):si w w' l:=
 ⟨h.aQ.trans (hb.mono h.aQ.size),by rw[hb.block _ (lt_of_heap h.res)];exact h.res,by rw[hb.block _ (lt_of_heap h.row)];exact h.row⟩
theorem si.set{w wr:World}{l:List ByteArray}(h:si w wr l)(k:Nat)(q:ByteArray):Below w.heap.size w (wr.setCell ⟨w.heap.size+1,k,none⟩ (.string q))∧(wr.setCell ⟨w.heap.size+1,k,none⟩ (.string q)).heap[w.heap.size]?=some (.cells #[.string ⟨#[]⟩,.string ⟨#[]⟩,.string ⟨#[]⟩] 119 (0,0))∧(wr.setCell ⟨w.heap.size+1,k,none⟩ (.string q)).heap[w.heap.size+1]?=some (.cells ((Tb.fJ l).setIfInBounds k (.string q)) 119 (0,0)):=
 ⟨h.aQ.setCell (p:=⟨w.heap.size+1,k,none⟩) (by simp) _,(Below.heap_setCell _ _ _ _ (by simp)).trans h.res,aw _ h.row _ _⟩
theorem Iy(w:World)(g pl:Nat)(names:List ByteArray)(v:Value)(hc:w.cell? ⟨g,1,none⟩=some (.int .i64 pl))(hv:w.ownsRow 0 9 1 v names.length (strCells names))(hl:names.length=pl)(h3:names.length≤3)
 (hn:∀a,a∈names→Ax.lL a=true)(hs:∀a,a∈names→a.size≤1000)(hT:eM w):
 Calls Tryz.prog 74 #[.pointer (some ⟨g,0,none⟩),v] w fun e w'=>e=.returned (.tuple #[.agg (Tb.fJ names),.bool true])∧Below w.heap.size w w':=by
 subst hl
 obtain⟨ad,ac,Lt⟩:=aj hv
 subst Lt
 have HT:Hid (eM w):=hT
 have HV:Hid (w.ownsRow 0 9 1 (.slice ad names.length ac) names.length (strCells names)):=hv
 have HN:Hid (∀a,a∈names→Ax.lL a=true∧a.size≤1000):=fun a ha=>⟨hn a ha,hs a ha⟩
 have Zv:=block_lt_of_cell hc
 clear hT hv hn hs
 have HS:Hid (si w ((w.alloc (.cells #[.string ⟨#[]⟩,.string ⟨#[]⟩,.string ⟨#[]⟩] 119)).alloc (.cells #[.string ⟨#[]⟩,.string ⟨#[]⟩,.string ⟨#[]⟩] 119)) (names.take 0)):=
  ⟨((Below.refl _ _).alloc (Nat.le_refl _) _).alloc (by simp) _,by rw[Below.heap_alloc _ _ _ (by simp)];exact heap_alloc_new w _,by
   have:=pM w (.cells #[.string ⟨#[]⟩,.string ⟨#[]⟩,.string ⟨#[]⟩] 119) (.cells #[.string ⟨#[]⟩,.string ⟨#[]⟩,.string ⟨#[]⟩] 119)
   simpa [Tb.fJ,Tb.dZ]using this⟩
 go_enter Tryz.func74,Tryz.ntmps74
 go_wp2_with fail
 go_loopw [20] (fun i wr=>∃(k:Nat),k≤names.length∧i=.int .i64 k∧si w wr (names.take k)) (fun i _=>names.length-(intOf i).toNat)
 case atStart=>exact⟨0,Nat.zero_le _,rfl,HS.out⟩
 case round=>
  obtain⟨k,hk,rfl,hr⟩:=hrel
  have HR:Hid (si w wr (names.take k)):=hr
  by_cases aG:k<names.length
  · have bF:=ah HV.out hr.aQ
    obtain⟨g3,rfl,nN,qo,mg⟩:=aD bF (by omega)
    have ca:wr.cell? ⟨g3,k,none⟩=some (.string names[k]):=mg k _ (by rw[strCells,List.getElem?_map,List.getElem?_eq_getElem aG];rfl)
    have HQ:Hid (Ax.lL names[k]=true∧names[k].size≤1000):=HN.out _ (List.getElem_mem aG)
    have eX:Hid ((Tb.fJ (names.take k)).setIfInBounds k (.string names[k])=Tb.fJ (names.take (k+1))):=Tb.Ff aG h3
    have Qk:Hid (k<names.length):=aG
    have Ig:k<3:=by omega
    generalize names[k]=q at ca HQ eX
    have dS:Hid (Calls Tryz.prog 130 #[.string q] wr fun e w5=>e=.returned (.bool true)∧Hid (si w w5 (names.take k))∧w5.heap.size≥w.heap.size+2):=by
     refine(F0 q wr (Utf8Tabs_below HT.out HR.out.aQ) (by have:=HQ.out.2;unfold maxLen;omega)).mono ?_
     rintro e w5 ⟨rfl,hb⟩
     rw[HQ.out.1]
     have h5:=HR.out.below hb
     exact⟨rfl,h5,h5.size⟩
    have xI:Hid (∀w5,Hid (si w w5 (names.take k))→Calls Tryz.prog 102 #[.string q] w5 fun e w6=>e=.returned (.string q)∧Hid (si w (w6.setCell ⟨w.heap.size+1,k,none⟩ (.string q)) (names.take (k+1)))∧w6.cell? ⟨w.heap.size+1,k,none⟩=some (.string (Tb.dZ (names.take k) k))∧w6.frozen? ⟨w.heap.size+1,k,none⟩=false):=by
     intro w5 h5
     refine(zY q w5 (by have:=HQ.out.2;omega)).mono ?_
     rintro e w6 ⟨rfl,hb⟩
     have h6:=h5.out.below hb
     refine⟨rfl, ?_, ?_, ?_⟩
     · have:=h6.set k q
       rw[eX.out]at this
       exact⟨this.1,this.2.1,this.2.2⟩
     · rw[cell_of_row _ _ _ _ _ _ h6.row]
       exact Tb.JG _ Ig
     · simp[World.frozen?,h6.row]
    clear hr bF mg
    go_wp2_with (first | (go_at_call 130;refine dS.out.mono ?_;rintro e w5 ⟨rfl,H5,YW⟩) | (go_at_call 102;refine(xI.out _ H5).mono ?_;rintro e w6 ⟨rfl,H6,hc6,hf6⟩))
    go_roundw
    case rel=>exact⟨k+1,Qk.out,by go_num,H6.out⟩
    case measure=>
     have h9:=Qk.out
     simp[intOf]
     omega
  · have HE:Hid (si w wr names):=by
     have e0:names.take k=names:=List.take_of_length_le (by omega)
     rw[e0]at hr
     exact hr
    have Gw:wr.heap[w.heap.size+1]?=some (.cells #[.string (Tb.dZ names 0),.string (Tb.dZ names 1),.string (Tb.dZ names 2)] 119 (0,0)):=HE.out.row
    have LB:=HE.out.res
    have c0:wr.cell? ⟨w.heap.size+1,0,none⟩=some (.string (Tb.dZ names 0)):=by rw[cell_of_row _ _ _ _ _ _ Gw];rfl
    have c1:wr.cell? ⟨w.heap.size+1,1,none⟩=some (.string (Tb.dZ names 1)):=by rw[cell_of_row _ _ _ _ _ _ Gw];rfl
    have c2:wr.cell? ⟨w.heap.size+1,2,none⟩=some (.string (Tb.dZ names 2)):=by rw[cell_of_row _ _ _ _ _ _ Gw];rfl
    have d0:wr.cell? ⟨w.heap.size,0,none⟩=some (.string ⟨#[]⟩):=by rw[cell_of_row _ _ _ _ _ _ LB];rfl
    have d1:wr.cell? ⟨w.heap.size,1,none⟩=some (.string ⟨#[]⟩):=by rw[cell_of_row _ _ _ _ _ _ LB];rfl
    have d2:wr.cell? ⟨w.heap.size,2,none⟩=some (.string ⟨#[]⟩):=by rw[cell_of_row _ _ _ _ _ _ LB];rfl
    have f0:∀o,wr.frozen? ⟨w.heap.size,o,none⟩=false:=fun o=>by simp[World.frozen?,LB]
    have ff:=HE.out.aQ
    clear hr Gw LB
    go_wp2_with fail
    refine bodyPost_ret (v:=.tuple #[.agg (Tb.fJ names),.bool true]) ?_ rfl ⟨rfl,((ff.setCell (p:=⟨w.heap.size,0,none⟩) (Nat.le_refl _) _).setCell (p:=⟨w.heap.size,1,none⟩) (Nat.le_refl _) _).setCell (p:=⟨w.heap.size,2,none⟩) (Nat.le_refl _) _⟩
    refine Eq.trans (dn rfl _ _ _ _ _ _ _ rfl (re HE.out.res _ _ _) Tryz.underlying119 rfl (by kernel_rfl)) ?_
    rfl
end
/- Hold: a fact holds by so many instances more. -/
namespace Tb
def eQ(L:List Rw)(C:List Nat)(r:Rw):List Nat:=if jT L r=true then C else C.take (pos L r)++[0]++C.drop (pos L r)
def p5(L:List Rw)(C:List Nat)(r:Rw)(n:Nat):List Nat:=(eQ L C r).set (pos L r) ((eQ L C r).getD (pos L r) 0+n)
theorem BW{L:List Rw}(r:Rw):(put L r).length=if jT L r=true then L.length else L.length+1:=by
 unfold put
 split
 · rfl
 · have:=qt L r
   simp only[ins,List.length_append,List.length_cons,List.length_take,List.length_drop]
   omega
theorem FN{L:List Rw}{C:List Nat}(hC:C.length=L.length)(r:Rw):(eQ L C r).length=(put L r).length:=by
 rw[BW]
 unfold eQ
 split
 · exact hC
 · have:=qt L r
   simp only[List.length_append,List.length_cons,List.length_nil,List.length_take,List.length_drop]
   omega
theorem FB{L:List Rw}(h:Ord L)(r:Rw):pos L r<(put L r).length:=by
 rw[BW]
 split
 · rename_i dS
   exact(List.getElem?_eq_some_iff.1 ((fM h r).2 (dA.1 dS))).1
 · have:=qt L r
   omega
theorem Qj{L:List Rw}(h:Ord L)(r:Rw)(n:Nat)(f:Rw→Nat)(hf:¬r∈L→f r=0):p5 L (L.map f) r n=(put L r).map (fun x=>if x=r then f x+n else f x):=by
 have cE:∀x,x∈L.take (pos L r)→x≠r:=by
  intro x hx e
  have:=(rh h r).1 x hx
  rw[e,oF]at this
  omega
 have ET:∀l:List Rw,(∀x,x∈l→x≠r)→l.map (fun x=>if x=r then f x+n else f x)=l.map f:=by
  intro l hl
  refine List.map_congr_left fun x hx=> ?_
  rw[if_neg (hl x hx)]
 cases dS:jT L r with
 | true=>
  have aG:pos L r<L.length:=(List.getElem?_eq_some_iff.1 ((fM h r).2 (dA.1 dS))).1
  have hg:L[pos L r]=r:=(List.getElem?_eq_some_iff.1 ((fM h r).2 (dA.1 dS))).2
  have e:L=L.take (pos L r)++r::L.drop (pos L r+1):=by
   conv=>lhs;rw[←List.take_append_drop (pos L r) L]
   rw[List.drop_eq_getElem_cons aG,hg]
  have DE:=h.nodup
  rw[e,List.nodup_append]at DE
  have Pp:∀x,x∈L.drop (pos L r+1)→x≠r:=fun x hx e2=>(List.nodup_cons.1 DE.2.1).1 (e2▸hx)
  unfold p5 eQ put
  rw[dS]
  simp only[if_true]
  have Aa:(L.map f).getD (pos L r) 0=f r:=by
   rw[List.getD_eq_getElem?_getD,List.getElem?_map,List.getElem?_eq_getElem aG,hg]
   rfl
  rw[Aa]
  generalize hp:pos L r=p at*
  have s5:(L.take p).length=p:=by rw[List.length_take];omega
  conv=>rhs;rw[e]
  rw[List.map_append,List.map_cons,ET _ cE,ET _ Pp,if_pos rfl]
  conv=>lhs;rw[e]
  rw[List.map_append,List.map_cons,List.set_append_right _ _ (by rw[List.length_map,s5];exact Nat.le_refl _),List.length_map,s5,Nat.sub_self,List.set_cons_zero]
 | false=>
  have iJ:¬r∈L:=fun hc=>by rw[dA.2 hc]at dS;cases dS
  have Uf:=qt L r
  unfold p5 eQ put
  rw[dS]
  simp only[Bool.false_eq_true,if_false]
  have s5:((L.map f).take (pos L r)).length=pos L r:=by rw[List.length_take,List.length_map];omega
  have Pp:∀x,x∈L.drop (pos L r)→x≠r:=fun x hx e2=>iJ (e2▸List.mem_of_mem_drop hx)
  rw[List.append_assoc,List.set_append_right _ _ (by rw[s5];exact Nat.le_refl _),s5,Nat.sub_self]
  have Aa:((L.map f).take (pos L r)++([0]++(L.map f).drop (pos L r))).getD (pos L r) 0=0:=by
   rw[List.getD_eq_getElem?_getD,List.getElem?_append_right (by rw[s5];exact Nat.le_refl _),s5,Nat.sub_self]
   rfl
  rw[Aa]
  unfold ins
  rw[List.map_append,List.map_cons,ET _ cE,ET _ Pp,if_pos rfl,hf iJ,List.map_take,List.map_drop]
  rfl
end Tb
/- Hold, walked. -/
section
open Go.RowKit
open Go.Sort (grow)
structure eV(w:World)(g:Nat)(nm:ByteArray)(pl:Nat)(rd:Option Addr)(rc:Nat)(cd:Option Addr)(cc:Nat)(L:List (List ByteArray))(C:List Nat):Prop where
 nW:bW w g 117 nm pl rd rc L [.slice cd L.length cc]
 jX:w.ownsRow 0 3 1 (.slice cd L.length cc) L.length (an C)
theorem BM(l:List Nat):(an l).length=l.length:=by simp[an]
theorem Bs(l:List Nat):∀u∈an l,u.oneCell'=true:=by
 intro u hu
 obtain⟨x,_,rfl⟩:=List.mem_map.1 hu
 rfl
theorem eV.len{w:World}{g:Nat}{nm:ByteArray}{pl:Nat}{rd:Option Addr}{rc:Nat}{cd:Option Addr}{cc:Nat}{L:List (List ByteArray)}{C:List Nat}(h:eV w g nm pl rd rc cd cc L C):C.length=L.length:=by
 have:=h.jX.1
 rw[BM]at this
 omega
theorem eV.below{w w':World}{g:Nat}{nm:ByteArray}{pl:Nat}{rd:Option Addr}{rc:Nat}{cd:Option Addr}{cc:Nat}{L:List (List ByteArray)}{C:List Nat}(h:eV w g nm pl rd rc cd cc L C)(hb:Below w.heap.size w w'):eV w' g nm pl rd rc cd cc L C:=⟨h.nW.below hb,ah h.jX hb⟩
def kO(g:Nat)(rd:Option Addr)(rc:Nat)(cd:Option Addr)(cc n:Nat):List Nat:=g::((Value.ownBlock (.slice rd n rc)).toList++(Value.ownBlock (.slice cd n cc)).toList)
theorem eV.kept{w w':World}{S:List Nat}{g:Nat}{nm:ByteArray}{pl:Nat}{rd:Option Addr}{rc:Nat}{cd:Option Addr}{cc:Nat}{L:List (List ByteArray)}{C:List Nat}(h:eV w g nm pl rd rc cd cc L C)(hk:Kb S w w')(hS:∀b,b∈kO g rd rc cd cc L.length→¬b∈S):eV w' g nm pl rd rc cd cc L C:=
 ⟨h.nW.kept hk (hS g (by simp[kO])) (fun b hb=>hS b (by simp[kO,hb])),hk.row h.jX (fun b hb=>hS b (by simp[kO,hb]))⟩
theorem aI{w:World}{B:Nat}{e:TypeId}{k n:Nat}{v:Value}{xs:List Value}(h:w.ownsRow B e k v n xs){b:Nat}(hb:v.ownBlock=some b):∃cur,w.heap[b]?=some (.cells cur e (0,0)):=by
 rcases h.2 with⟨rfl,_⟩ | ⟨g,cap,cur,rfl,_,hg,_⟩
 · cases hb
 · simp only[Value.ownBlock,Option.some.injEq]at hb
   subst hb
   exact⟨cur,hg⟩
theorem Ij{w W w1:World}{g:Nat}{nm:ByteArray}{pl:Nat}{rd:Option Addr}{rc:Nat}{cd:Option Addr}{cc:Nat}{L:List (List ByteArray)}{C:List Nat}(h:eV w g nm pl rd rc cd cc L C)(hW:Below w.heap.size w W)(hk:Kb (g::(Value.ownBlock (.slice rd L.length rc)).toList) W w1):
 w1.ownsRow 0 3 1 (.slice cd L.length cc) L.length (an C)∧Kb (kO g rd rc cd cc L.length) w w1:=by
 have hb:=h.below hW
 refine⟨hk.fC hb.jX ?_,(Kb.bM hW _).trans (hk.mono ?_)⟩
 · intro b cur fz fy kq
   rcases List.mem_cons.1 fy with rfl | fy
   · rw[hb.nW.cP]at kq
     simp at kq
   · rw[Option.mem_toList]at fy
     obtain⟨lN,e⟩:=aI hb.nW.rows.own fy
     rw[e]at kq
     simp at kq
 · intro i hi _
   rcases List.mem_cons.1 hi with rfl | hi
   · simp[kO]
   · simp only[kO,List.mem_cons,List.mem_append];exact .inr (.inl hi)
theorem PQ{w w1 W w3:World}{g:Nat}{nm:ByteArray}{pl:Nat}{rd':Option Addr}{rc':Nat}{cd:Option Addr}{cc:Nat}{L L':List (List ByteArray)}{C C':List Nat}{S:List Nat}
 (ht:bW w1 g 117 nm pl rd' rc' L' [.slice cd L.length cc])(hc:w1.ownsRow 0 3 1 (.slice cd L.length cc) L.length (an C))(hW:Below w1.heap.size w1 W)
 {g' cap:Nat}(au:w3.ownsRow 0 3 1 (.slice (some ⟨g',0,none⟩) (L.length+1) cap) (L.length+1) (an C'))(hk:Kb (Value.ownBlock (.slice cd L.length cc)).toList W w3)(hL':L'.length=L.length+1):
 eV (w3.setCell ⟨g,3,none⟩ (.slice (some ⟨g',0,none⟩) (L.length+1) cap)) g nm pl rd' rc' (some ⟨g',0,none⟩) cap L' C'∧Kb (g::(Value.ownBlock (.slice cd L.length cc)).toList) w1 (w3.setCell ⟨g,3,none⟩ (.slice (some ⟨g',0,none⟩) (L.length+1) cap)):=by
 have U3:=ht.below hW
 have hcW:=ah hc hW
 have hng:¬g∈(Value.ownBlock (.slice cd L.length cc)).toList:=by
  intro hm
  rw[Option.mem_toList]at hm
  obtain⟨lN,e⟩:=aI hcW hm
  rw[U3.cP]at e
  simp at e
 have Ch:bW w3 g 117 nm pl rd' rc' L' [.slice cd L.length cc]:=by
  refine U3.kept hk hng ?_
  intro b hb hm
  rw[Option.mem_toList]at hm
  obtain⟨c1,e1⟩:=aI hcW hm
  obtain⟨c2,e2⟩:=aI U3.rows.own hb
  rw[e1]at e2
  simp at e2
 have qZ:=Kb.setCell w3 ⟨g,3,none⟩ (.slice (some ⟨g',0,none⟩) (L.length+1) cap)
 refine⟨⟨⟨?_,⟨Ch.rows.three,qZ.row Ch.rows.own ?_⟩,Ch.ord,Ch.type⟩, ?_⟩, ?_⟩
 · rw[aw w3 Ch.cP,hL']
   rfl
 · intro b hb hm
   simp only[List.mem_singleton]at hm
   subst hm
   obtain⟨c2,e2⟩:=aI Ch.rows.own hb
   rw[Ch.cP]at e2
   simp at e2
 · rw[hL']
   refine qZ.row au ?_
   intro b hb hm
   simp only[List.mem_singleton]at hm
   subst hm
   obtain⟨c2,e2⟩:=aI au hb
   rw[Ch.cP]at e2
   simp at e2
 · refine Kb.trans' ((Kb.bM hW _).trans (hk.mono ?_)) qZ ?_
   · intro i hi _;exact List.mem_cons_of_mem _ hi
   · intro i hi _
     simp only[List.mem_singleton]at hi
     subst hi
     simp
theorem Ia{w:World}{g:Nat}{nm:ByteArray}{pl:Nat}{rd:Option Addr}{rc:Nat}{gc cc:Nat}{L:List (List ByteArray)}{C:List Nat}(h:eV w g nm pl rd rc (some ⟨gc,0,none⟩) cc L C){p:Nat}(hp:p<L.length)(x:Nat):
 eV (w.setCell ⟨gc,p,none⟩ (.int .i64 x)) g nm pl rd rc (some ⟨gc,0,none⟩) cc L (C.set p x)∧Kb [gc] w (w.setCell ⟨gc,p,none⟩ (.int .i64 x)):=by
 have qZ:=Kb.setCell w ⟨gc,p,none⟩ (.int .i64 (x:Int))
 have Tr:gc≠g:=by
  rintro rfl
  obtain⟨c2,e2⟩:=aI h.jX (b:=gc) rfl
  rw[h.nW.cP]at e2
  simp at e2
 refine⟨⟨h.nW.kept qZ (by simpa using fun e=>Tr e.symm) ?_, ?_⟩,qZ⟩
 · intro b hb hm
   simp only[List.mem_singleton]at hm
   rw[hm]at hb
   obtain⟨c1,e1⟩:=aI h.jX (b:=gc) rfl
   obtain⟨c2,e2⟩:=aI h.nW.rows.own hb
   rw[e1]at e2
   simp at e2
 · have:=World.ownsRow.stored h.jX p (.int .i64 (x:Int))
   have e:an (C.set p x)=(an C).set p (.int .i64 (x:Int)):=by
    unfold an
    rw[List.map_set]
   rw[e]
   exact this.1
theorem MJ(w:World)(g:Nat)(nm:ByteArray)(pl:Nat)(rd:Option Addr)(rc:Nat)(cd:Option Addr)(cc:Nat)(L:List (List ByteArray))(C:List Nat)(a b c:ByteArray)(n:Nat)(h:eV w g nm pl rd rc cd cc L C)(hL:L.length≤999999)(hn:n≤1000)(hC:∀x,x∈C→x≤1000000000000):
 Calls Tryz.prog 230 #[.pointer (some ⟨g,0,none⟩),.agg #[.string a,.string b,.string c],.int .i64 n] w fun e w'=>∃rd' rc' cd' cc',
  e=.returned (.bool (!Tb.jT L [a,b,c]))∧eV w' g nm pl rd' rc' cd' cc' (Tb.put L [a,b,c]) (Tb.p5 L C [a,b,c] n)∧
   Kb (kO g rd rc cd cc L.length) w w'∧cr w (.slice rd L.length rc) (.slice rd' (Tb.put L [a,b,c]).length rc')∧cr w (.slice cd L.length cc) (.slice cd' (Tb.put L [a,b,c]).length cc'):=by
 obtain⟨w0,db⟩:∃w0,w0=w.alloc (.cells #[.string a,.string b,.string c] 119):=⟨_,rfl⟩
 have bU:Below w.heap.size w w0:=by rw[db];exact(Below.refl _ _).alloc (Nat.le_refl _) _
 have lX:w0.heap[w.heap.size]?=some (.cells #[.string a,.string b,.string c] 119 (0,0)):=by rw[db];exact heap_alloc_new w _
 have t0:w0.cell? ⟨w.heap.size,0,none⟩=some (.string a):=by rw[cell_of_row _ _ 0 _ _ _ lX];rfl
 have t1:w0.cell? ⟨w.heap.size,1,none⟩=some (.string b):=by rw[cell_of_row _ _ 1 _ _ _ lX];rfl
 have t2:w0.cell? ⟨w.heap.size,2,none⟩=some (.string c):=by rw[cell_of_row _ _ 2 _ _ _ lX];rfl
 have h0:=h.below bU
 have hp:∀W,W.heap=w0.heap→Calls Tryz.prog 196 #[.pointer (some ⟨g,0,none⟩),.agg #[.string a,.string b,.string c]] W fun e w1=>∃rd' rc',
  e=.returned (.tuple #[.int .i64 (Tb.pos L [a,b,c]:Nat),.bool (!Tb.jT L [a,b,c])])∧(bW w1 g 117 nm pl rd' rc' (Tb.put L [a,b,c]) [.slice cd L.length cc]∧
   Kb (g::(Value.ownBlock (.slice rd L.length rc)).toList) W w1∧cr W (.slice rd L.length rc) (.slice rd' (Tb.put L [a,b,c]).length rc'))∧w1.cell? ⟨g,3,none⟩=some (.slice cd L.length cc)∧w1.frozen? ⟨g,3,none⟩=false:=by
  intro W hW
  have hT:bW W g 117 nm pl rd rc L [.slice cd L.length cc]:=by
   obtain⟨x1,⟨x2,x3⟩,x4,x5⟩:=h0.nW
   refine⟨by rw[hW];exact x1,⟨x2,⟨x3.1, ?_⟩⟩,x4,x5⟩
   rw[hW]
   exact x3.2
  refine(Hg W g _ nm pl rd rc L _ a b c hT hL).mono ?_
  rintro e w1 ⟨rd',rc',rfl,q1,q2,q3⟩
  exact⟨rd',rc',rfl,⟨q1,q2,q3⟩,by rw[cell_of_row _ _ 3 _ _ _ q1.cP];simp,by simp[World.frozen?,q1.cP]⟩
 have Gh:=h.nW.ord
 have mO:=lt_of_heap h0.nW.cP
 have hCl:=h.len
 have KF:=Tb.FB Gh [a,b,c]
 have Zp:Hid ((Tb.eQ L C [a,b,c]).length=(Tb.put L [a,b,c]).length):=Tb.FN hCl [a,b,c]
 cases dS:Tb.jT L [a,b,c]with
 | true=>
  rw[dS]at hp
  have CZ:Tb.put L [a,b,c]=L:=by unfold Tb.put;rw[dS];rfl
  have zZ:Tb.eQ L C [a,b,c]=C:=by unfold Tb.eQ;rw[dS];rfl
  have uw:Hid (Tb.p5 L C [a,b,c] n=C.set (Tb.pos L [a,b,c]) (C.getD (Tb.pos L [a,b,c]) 0+n)):=by
   have:Tb.p5 L C [a,b,c] n=(Tb.eQ L C [a,b,c]).set (Tb.pos L [a,b,c]) ((Tb.eQ L C [a,b,c]).getD (Tb.pos L [a,b,c]) 0+n):=rfl
   rw[zZ]at this
   exact this
  rw[CZ]at hp KF ⊢
  rw[uw.out]
  generalize Tb.pos L [a,b,c]=ps at hp KF ⊢
  obtain⟨x,hx⟩:∃x,C[ps]?=some x:=⟨_,List.getElem?_eq_getElem (by omega)⟩
  have hxb:x≤1000000000000:=hC x (List.mem_of_getElem? hx)
  have Fw:C.getD ps 0=x:=by rw[List.getD_eq_getElem?_getD,hx];rfl
  rw[Fw]
  clear lX dS CZ zZ uw Zp h0 Fw
  go_enter Tryz.func230,Tryz.ntmps230
  go_wp2_with fail
  rw[←db]
  have VK:Hid (w0=w.alloc (.cells #[.string a,.string b,.string c] 119)):=db
  clear db
  go_region_with (go_at_call 196;refine(hp _ (by rfl)).mono ?_;rintro e w1 ⟨rd',rc',rfl,hI,k3,kf⟩)
  all_goals
   (obtain⟨q1,q2,q3⟩:=hI
    obtain⟨r1,r2⟩:=Ij h bU.drew q2
    have hH:eV w1 g nm pl rd' rc' cd cc L C:=⟨q1,r1⟩
    obtain⟨gc,rfl,Tr,JF,br⟩:=aD r1 (by omega)
    have kq:=br ps _ (show(an C)[ps]?=some (.int .i64 x) by simp[an,hx])
    have Sr:=World.ownsRow.frozenAt r1 ps
    obtain⟨z1,z2⟩:=Ia hH KF (x+n)
    have G9:((x+n:Nat):Int)=(x:Int)+(n:Int):=by omega
    rw[G9]at z1 z2
    have u9:=q3.mono (w:=w) bU.size
    have fK:=r2.trans' z2 (fun i hi _=>by simp only[List.mem_singleton]at hi;subst hi;simp[kO,Value.ownBlock])
    have Zv:g<w1.heap.size:=lt_of_heap q1.cP
    clear br hp r1 r2 q1 q2 q3 hH z2 t0 t1 t2 VK G9 h
    go_wp2_with fail
    go_ret
    exact⟨rd',rc',some ⟨gc,0,none⟩,cc,rfl,z1,fK,u9,cr.refl _ _⟩)
 | false=>
  rw[dS]at hp
  have zZ:Tb.eQ L C [a,b,c]=C.take (Tb.pos L [a,b,c])++[0]++C.drop (Tb.pos L [a,b,c]):=by unfold Tb.eQ;rw[dS];rfl
  have la:(Tb.put L [a,b,c]).length=L.length+1:=by rw[Tb.BW,dS];rfl
  have Uf:=Tb.qt L [a,b,c]
  have Fw:(Tb.eQ L C [a,b,c]).getD (Tb.pos L [a,b,c]) 0=0:=by
   rw[zZ,List.append_assoc,List.getD_eq_getElem?_getD,List.getElem?_append_right (by rw[List.length_take];omega),List.length_take,Nat.min_eq_left (by omega),Nat.sub_self]
   rfl
  have uw:Hid (Tb.p5 L C [a,b,c] n=(Tb.eQ L C [a,b,c]).set (Tb.pos L [a,b,c]) n):=by
   have:Tb.p5 L C [a,b,c] n=(Tb.eQ L C [a,b,c]).set (Tb.pos L [a,b,c]) ((Tb.eQ L C [a,b,c]).getD (Tb.pos L [a,b,c]) 0+n):=rfl
   rw[Fw,Nat.zero_add]at this
   exact this
  rw[uw.out]
  have Ef:∀(w1 W:World) (rd':Option Addr) (rc':Nat),bW w1 g 117 nm pl rd' rc' (Tb.put L [a,b,c]) [.slice cd L.length cc]→w1.ownsRow 0 3 1 (.slice cd L.length cc) L.length (an C)→W.heap=(w1.alloc (.cells #[.int .i64 0] 3)).heap→
   Calls Tryz.prog 264 #[.slice cd L.length cc,.int .i64 (Tb.pos L [a,b,c]:Nat),.slice (some ⟨w1.heap.size,0,none⟩) 1 1] W fun e w3=>∃g' cap,e=.returned (.slice (some ⟨g',0,none⟩) (L.length+1) cap)∧
    (w3.ownsRow 0 3 1 (.slice (some ⟨g',0,none⟩) (L.length+1) cap) (L.length+1) (an (Tb.eQ L C [a,b,c]))∧Kb (Value.ownBlock (.slice cd L.length cc)).toList W w3∧cr W (.slice cd L.length cc) (.slice (some ⟨g',0,none⟩) (L.length+1) cap))∧w3.cell? ⟨g,3,none⟩=some (.slice cd L.length cc)∧w3.frozen? ⟨g,3,none⟩=false∧g<w3.heap.size:=by
   intro w1 W rd' rc' hT DN hW
   have Pb:W.ownsRow 0 3 1 (.slice cd L.length cc) L.length (an C):=by
    have:=DN.alloc (.cells #[.int .i64 0] 3)
    refine⟨this.1, ?_⟩
    rw[hW]
    exact this.2
   have eE:W.heap[g]?=some (.cells (Value.string nm:: .int .i64 pl:: .slice rd' (Tb.put L [a,b,c]).length rc'::[.slice cd L.length cc]).toArray 117 (0,0)):=by
    rw[hW,Below.heap_alloc _ _ _ (lt_of_heap hT.cP)]
    exact hT.cP
   refine(yJ W 0 cd cc L.length (Tb.pos L [a,b,c]) w1.heap.size (an C) [.int .i64 0] Pb (Nat.zero_le _) Uf (by omega) (Bs C) rfl (by rw[hW];exact heap_alloc_new w1 _) ?_ (by intro u hu;simp at hu;subst hu;rfl)).mono ?_
   · intro qD
     have:=(World.ownsRow.lt DN w1.heap.size qD.symm).2
     omega
   · rintro e w3 ⟨g',cap,rfl,h2,h3,h4⟩
     have hng:¬g∈(Value.ownBlock (.slice cd L.length cc)).toList:=by
      intro hm
      rw[Option.mem_toList]at hm
      obtain⟨lN,e⟩:=aI Pb hm
      rw[eE]at e
      simp at e
     have nN:=h3.heap eE hng
     have ec:an C=an C:=rfl
     refine⟨g',cap,rfl,⟨?_,h3,h4⟩,by rw[cell_of_row _ _ 3 _ _ _ nN];simp,by simp[World.frozen?,nN],lt_of_heap nN⟩
     rw[zZ]
     have e2:an (C.take (Tb.pos L [a,b,c])++[0]++C.drop (Tb.pos L [a,b,c]))=(an C).take (Tb.pos L [a,b,c])++[.int .i64 0]++(an C).drop (Tb.pos L [a,b,c]):=by
      simp[an]
     rw[e2]
     exact h2
  generalize Tb.eQ L C [a,b,c]=C' at Fw uw Ef Zp ⊢
  generalize Tb.pos L [a,b,c]=ps at hp KF Fw Ef ⊢
  generalize Tb.put L [a,b,c]=L' at hp KF Ef la Zp ⊢
  have hx:C'[ps]?=some 0:=by
   have:ps<C'.length:=by rw[Zp.out];omega
   rw[List.getD_eq_getElem?_getD,List.getElem?_eq_getElem this]at Fw
   rw[List.getElem?_eq_getElem this]
   simpa using Fw
  have akg:ps<L.length+1:=by omega
  clear lX dS zZ uw Zp h0 Fw Uf
  have Lm:Hid (L'.length=L.length+1):=la
  clear la
  go_enter Tryz.func230,Tryz.ntmps230
  go_wp2_with fail
  rw[←db]
  have VK:Hid (w0=w.alloc (.cells #[.string a,.string b,.string c] 119)):=db
  clear db
  go_region_with (go_at_call 196;refine(hp _ (by rfl)).mono ?_;rintro e w1 ⟨rd',rc',rfl,hI,k3,kf⟩)
  all_goals
   (obtain⟨q1,q2,q3⟩:=hI
    obtain⟨r1,r2⟩:=Ij h bU.drew q2
    have Sc:=fun W=>Ef w1 W rd' rc' q1 r1
    have Zv:g<w1.heap.size:=lt_of_heap q1.cP
    clear hp t0 t1 t2 VK Ef
    go_upto_region 4 with(go_at_call 264;refine(Sc _ (by rfl)).mono ?_;rintro e w3 ⟨g',cap,rfl,hJ,k4,kf4,agW⟩)
    obtain⟨j1,j2,j3⟩:=hJ
    obtain⟨y1,y2⟩:=PQ (w:=w) (S:=[]) q1 r1 ((Below.refl _ _).alloc (Nat.le_refl _) _) j1 j2 Lm.out
    have u9:=q3.mono (w:=w) bU.size
    have kV:w.heap.size≤w1.heap.size:=r2.size
    have Pt:cr w (.slice cd L.length cc) (.slice (some ⟨g',0,none⟩) L'.length cap):=by
     intro x Ck
     rcases j3 x Ck with e | e
     · exact .inl e
     · exact .inr (by simp only[World.size_alloc]at e;omega)
    have Bv:=r2.trans' y2 (fun i hi _=>by
     rcases List.mem_cons.1 hi with rfl | hi
     · simp[kO]
     · simp only[kO,List.mem_cons,List.mem_append];exact .inr (.inr hi))
    clear j1 j2 j3 q1 q2 q3 r1 r2 Sc k3 kf k4 kf4 y2 h bU
    generalize w3.setCell ⟨g,3,none⟩ (.slice (some ⟨g',0,none⟩) (L.length+1) cap)=w4 at y1 Bv ⊢
    have d0:w4.cell? ⟨g,3,none⟩=some (.slice (some ⟨g',0,none⟩) (L.length+1) cap):=by
     rw[cell_of_row _ _ 3 _ _ _ y1.nW.cP,Lm.out];simp
    have ako:g<w4.heap.size:=lt_of_heap y1.nW.cP
    have Rm:=y1.jX
    rw[Lm.out]at Rm
    obtain⟨gc,egc,Tr,JF,br⟩:=aD Rm (by omega)
    simp only[Option.some.injEq,Addr.mk.injEq,and_true]at egc
    subst egc
    have kq:=br ps _ (show(an C')[ps]?=some (.int .i64 0) by simp[an,hx])
    have Sr:=World.ownsRow.frozenAt Rm ps
    obtain⟨z1,z2⟩:=Ia y1 KF n
    have fK:=Bv.trans' z2 (fun i hi aG=>by
     simp only[List.mem_singleton]at hi
     subst hi
     rcases Pt i rfl with e | e
     · simp only[kO,List.mem_cons,List.mem_append,Option.mem_toList];exact .inr (.inr e)
     · omega)
    clear br Rm y1 z2 Bv hx
    go_wp2_with fail
    go_ret
    exact⟨rd',rc',some ⟨g',0,none⟩,cap,rfl,z1,fK,u9,Pt⟩)
end
/- Has, Count, Len. -/
namespace Tb
def pR(L:List Rw)(C:List Nat)(r:Rw):Nat:=if jT L r=true then C.getD (pos L r) 0 else 0
end Tb
section
open Go.RowKit
open Go.Sort (grow)
theorem Bt(w:World)(g:Nat)(T:TypeId)(nm:ByteArray)(pl:Nat)(rd:Option Addr)(rc:Nat)(L:List (List ByteArray))(rest:List Value)(a b c:ByteArray)(h:bW w g T nm pl rd rc L rest)(hL:L.length≤999999):
 Calls Tryz.prog 42 #[.pointer (some ⟨g,0,none⟩),.agg #[.string a,.string b,.string c]] w fun e w'=>e=.returned (.bool (Tb.jT L [a,b,c]))∧Below w.heap.size w w':=by
 have yh:Hid (∀W,Below w.heap.size w W→Calls Tryz.prog 75 #[.pointer (some ⟨g,0,none⟩),.agg #[.string a,.string b,.string c]] W fun e w'=>e=.returned (.tuple #[.int .i64 (Tb.pos L [a,b,c]:Nat),.bool (Tb.jT L [a,b,c])])∧Below w.heap.size w w'):=by
  intro W hW
  have h1:=h.below hW
  refine(qV W g rd rc L a b c h1.rows (by omega) h1.ord h1.kz.1).mono ?_
  rintro e w' ⟨rfl,hb⟩
  exact⟨rfl,hW.trans (hb.mono hW.size)⟩
 generalize Tb.pos L [a,b,c]=ps at yh
 generalize Tb.jT L [a,b,c]=fb at yh ⊢
 clear h
 go_enter Tryz.func42,Tryz.ntmps42
 go_wp2_with (go_at_call 75;refine(yh.out _ (by exact(Below.refl _ _).alloc (Nat.le_refl _) _)).mono ?_;rintro e w1 ⟨rfl,bq⟩)
 go_ret
 exact⟨rfl,bq⟩
theorem Hd(w:World)(g:Nat)(T:TypeId)(nm:ByteArray)(pl:Nat)(rd:Option Addr)(rc:Nat)(L:List (List ByteArray))(rest:List Value)(h:bW w g T nm pl rd rc L rest):
 Calls Tryz.prog 136 #[.pointer (some ⟨g,0,none⟩)] w fun e w'=>e=.returned (.int .i64 L.length)∧w'=w:=by
 have c2:=h.kz.1
 have hg:=lt_of_heap h.cP
 clear h
 go_enter Tryz.func136,Tryz.ntmps136
 go_wp2_with fail
 go_ret
 exact⟨rfl,rfl⟩
theorem Ar(w:World)(g:Nat)(nm:ByteArray)(pl:Nat)(rd:Option Addr)(rc:Nat)(cd:Option Addr)(cc:Nat)(L:List (List ByteArray))(C:List Nat)(a b c:ByteArray)(h:eV w g nm pl rd rc cd cc L C)(hL:L.length≤999999):
 Calls Tryz.prog 43 #[.pointer (some ⟨g,0,none⟩),.agg #[.string a,.string b,.string c]] w fun e w'=>e=.returned (.int .i64 (Tb.pR L C [a,b,c]:Nat))∧Below w.heap.size w w':=by
 obtain⟨w0,db⟩:∃w0,w0=w.alloc (.cells #[.string a,.string b,.string c] 119):=⟨_,rfl⟩
 have bU:Below w.heap.size w w0:=by rw[db];exact(Below.refl _ _).alloc (Nat.le_refl _) _
 have lX:w0.heap[w.heap.size]?=some (.cells #[.string a,.string b,.string c] 119 (0,0)):=by rw[db];exact heap_alloc_new w _
 have t0:w0.cell? ⟨w.heap.size,0,none⟩=some (.string a):=by rw[cell_of_row _ _ 0 _ _ _ lX];rfl
 have t1:w0.cell? ⟨w.heap.size,1,none⟩=some (.string b):=by rw[cell_of_row _ _ 1 _ _ _ lX];rfl
 have t2:w0.cell? ⟨w.heap.size,2,none⟩=some (.string c):=by rw[cell_of_row _ _ 2 _ _ _ lX];rfl
 have h0:=h.below bU
 have k0:=cell_regrown t0
 have k1:=cell_regrown t1
 have k2:=cell_regrown t2
 have cC:∀d os,Calls Tryz.prog 75 #[.pointer (some ⟨g,0,none⟩),.agg #[.string a,.string b,.string c]] (grow (redrawn w0 d) os) fun e Zk=>e=.returned (.tuple #[.int .i64 (Tb.pos L [a,b,c]:Nat),.bool (Tb.jT L [a,b,c])])∧∃p:Regrown,Zk=grow (redrawn w0 p.d) p.os:=fun d os=>Calls.regrown_of (by
  have h1:=h0.below (below_regrown w0 d os)
  exact qV _ g rd rc L a b c h1.nW.rows (by omega) h1.nW.ord h1.nW.kz.1)
 have aG:Hid (Tb.jT L [a,b,c]=true→Tb.pos L [a,b,c]<L.length):=fun dS=>(List.getElem?_eq_some_iff.1 ((Tb.fM h.nW.ord _).2 (Tb.dA.1 dS))).1
 have hR:Hid (Tb.pR L C [a,b,c]=if Tb.jT L [a,b,c]=true then C.getD (Tb.pos L [a,b,c]) 0 else 0):=rfl
 generalize Tb.pR L C [a,b,c]=R at hR ⊢
 generalize Tb.pos L [a,b,c]=ps at cC aG hR
 generalize Tb.jT L [a,b,c]=fb at cC aG hR
 have hCl:=h.len
 have mO:=lt_of_heap h0.nW.cP
 have H0:Hid (eV w0 g nm pl rd rc cd cc L C):=h0
 clear h h0 lX
 go_enter Tryz.func43,Tryz.ntmps43
 go_wp2_with fail
 rw[←db]
 clear db t0 t1 t2
 refine wp_region_quiet_below (by kernel_rfl) (by kernel_rfl) ?_
 repeat (quiet_step (first | exact cC _ _))
 refine wpQuiet_nil ?_
 intro _ QW
 obtain⟨⟨dq,Ly⟩,GD⟩:=QW
 subst GD
 have Sw:=below_regrown w0 dq Ly
 have eh:Below w.heap.size w (grow (redrawn w0 dq) Ly):=bU.trans (Sw.mono bU.size)
 have h2:=H0.out.below Sw
 generalize grow (redrawn w0 dq) Ly=wq at Sw eh h2 ⊢
 clear k0 k1 k2 cC
 cases fb with
 | true=>
  have sI:=aG.out rfl
  have c3:wq.cell? ⟨g,3,none⟩=some (.slice cd L.length cc):=by rw[cell_of_row _ _ 3 _ _ _ h2.nW.cP];simp
  have hgq:=lt_of_heap h2.nW.cP
  obtain⟨gc,rfl,Tr,JF,br⟩:=aD h2.jX (by omega)
  obtain⟨x,hx⟩:∃x,C[ps]?=some x:=⟨_,List.getElem?_eq_getElem (by omega)⟩
  have kq:=br ps _ (show(an C)[ps]?=some (.int .i64 x) by simp[an,hx])
  have Fw:Hid (C.getD ps 0=x):=by rw[List.getD_eq_getElem?_getD,hx];rfl
  have HX:Hid (R=x):=by rw[hR.out,if_pos rfl];exact Fw.out
  clear br h2 hx
  go_wp2_with fail
  go_ret
  exact⟨by rw[HX.out];rfl,eh⟩
 | false=>
  have HX:Hid (R=0):=hR.out
  clear h2
  go_wp2_with fail
  go_ret
  exact⟨by rw[HX.out];rfl,eh⟩
end
end Go.Proofs.YtdmicblafmhflaaGreatDoor
