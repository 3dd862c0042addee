/- What an export is written as, as a function of the rules and of what is given; a state's parts as they lie. -/
import Derived.Test.YtdmicblafmhflaaGreatDoorC39
set_option linter.unusedSimpArgs false
set_option linter.unusedVariables false
set_option maxHeartbeats 4000000
set_option maxRecDepth 100000
namespace Go.Proofs.YtdmicblafmhflaaGreatDoor
section
open Go.Shelf Go.RowKit Go.Maps
def gQ:List Pd.Pr:=[(Ax.cq 1,2),(Ax.cq 0,1),(Ax.cq 2,2)]
theorem agu{Q:List Pd.Pr}(hs:Pd.lX Q)(hm:∀p,p∈Q↔p∈oj):Q=gQ:=by
 refine Pd.mV hs (by unfold Pd.lX gQ;decide+kernel) (fun x=>(hm x).trans ?_)
 unfold oj gQ
 simp only[List.mem_cons,List.not_mem_nil,or_false]
 constructor
 · rintro(h | h | h)<;>simp[h]
 · rintro(h | h | h)<;>simp[h]
theorem Vr{p:Pd.Pr}(h:p∈gQ):p∈oj:=by
 unfold gQ at h
 unfold oj
 simp only[List.mem_cons,List.not_mem_nil,or_false]at h ⊢
 rcases h with h | h | h<;>simp[h]
namespace Ex
def ME(l:List ByteArray):List (List UInt8):=Lib.compact ((l.map ByteArray.toList).mergeSort fun x y=>decide (x≤y))
theorem ab1(l:List ByteArray):strCells l=vG (l.map ByteArray.toList):=by
 simp[strCells,vG,encStr,ByteArray.toList_eq]
theorem adZ(l:List (List UInt8)):strCells (l.map fun b=>(⟨b.toArray⟩:ByteArray))=vG l:=by
 simp[strCells,vG,encStr]
end Ex
structure Sj(w:World)(kl:List Ax.aM)(gv:Nat→Bool)(hm:Nat)(p:ByteArray)(ug:Nat):Prop where
 lt:ug<w.heap.size
 look:∀W:World,Below w.heap.size w W→(Instr.lookup 103 (.map (some hm)) (.string p) false).run Tryz.prog W=.ok (.pointer (some ⟨ug,0,none⟩)) W
 len:∀W:World,Below w.heap.size w W→Calls Tryz.prog 136 #[.pointer (some ⟨ug,0,none⟩)] W fun e w'=>e=.returned (.int .i64 (A8 (En.c8 (En.cF kl) gv) p).length)∧w'=W
 rows:∀W:World,Below w.heap.size w W→Calls Tryz.prog 133 #[.pointer (some ⟨ug,0,none⟩)] W fun e w'=>∃rd rc,e=.returned (.slice rd (A8 (En.c8 (En.cF kl) gv) p).length rc)∧w'.ownsRow W.heap.size 119 3 (.slice rd (A8 (En.c8 (En.cF kl) gv) p).length rc) (A8 (En.c8 (En.cF kl) gv) p).length (aF ((A8 (En.c8 (En.cF kl) gv) p).map fun j=>Tb.dh (cP j).2))∧Below W.heap.size W w'
 count:∀W:World,Below w.heap.size w W→∀j,j∈A8 (En.c8 (En.cF kl) gv) p→Calls Tryz.prog 43 #[.pointer (some ⟨ug,0,none⟩),.agg (Tb.dE (cP j).2)] W fun e w'=>e=.returned (.int .i64 (cnN kl gv j:Nat))∧Below W.heap.size W w'
structure Sg(w:World)(gv:Nat→Bool)(gm:Nat)(p:ByteArray)(tg:Nat):Prop where
 lt:tg<w.heap.size
 look:∀W:World,Below w.heap.size w W→(Instr.lookup 102 (.map (some gm)) (.string p) false).run Tryz.prog W=.ok (.pointer (some ⟨tg,0,none⟩)) W
 has:∀W:World,Below w.heap.size w W→∀j,j<36→(cP j).1=p→Calls Tryz.prog 42 #[.pointer (some ⟨tg,0,none⟩),.agg (Tb.dE (cP j).2)] W fun e w'=>e=.returned (.bool (gv j))∧Below W.heap.size W w'
structure zW(w:World)(kl:List Ax.aM)(gv:Nat→Bool)(rv:Value)(gm hm:Nat):Prop where
 cD:∀W:World,Below w.heap.size w W→Calls Tryz.prog 59 #[.agg #[.string (Ax.aH kl),rv]] W fun e w'=>∃qd qc,e=.returned (.slice qd 3 qc)∧w'.ownsRow W.heap.size 112 2 (.slice qd 3 qc) 3 (au gQ)∧Below W.heap.size W w'
 Yv:∀p,p∈gQ→∃ug,Sj w kl gv hm p.1 ug
 rA:∀p,p∈gQ→∃tg,Sg w gv gm p.1 tg
theorem zW.below{w w':World}{kl:List Ax.aM}{gv:Nat→Bool}{rv:Value}{gm hm:Nat}(h:zW w kl gv rv gm hm)(hb:Below w.heap.size w w'):zW w' kl gv rv gm hm:=by
 have key:∀W,Below w'.heap.size w' W→Below w.heap.size w W:=fun W hW=>hb.trans (hW.mono hb.size)
 refine⟨fun W hW=>h.cD W (key W hW),fun p hp=> ?_,fun p hp=> ?_⟩
 · obtain⟨ug,k⟩:=h.Yv p hp
   exact⟨ug,Nat.lt_of_lt_of_le k.lt hb.size,fun W hW=>k.look W (key W hW),fun W hW=>k.len W (key W hW),fun W hW=>k.rows W (key W hW),fun W hW=>k.count W (key W hW)⟩
 · obtain⟨tg,k⟩:=h.rA p hp
   exact⟨tg,Nat.lt_of_lt_of_le k.lt hb.size,fun W hW=>k.look W (key W hW),fun W hW=>k.has W (key W hW)⟩
end
/- A state in general, as data; what it is written as; its parts as their calls answer. -/
section
open Go.Shelf Go.RowKit Go.Maps
namespace Gs
structure St where
 pl:ByteArray
 Q:List Pd.Pr
 hold:ByteArray→List (List ByteArray×Nat)
 rA:ByteArray→List ByteArray→Bool
def iK(D:St)(Q:List Pd.Pr):List ByteArray:=Q.flatMap fun p=>(D.hold p.1).flatMap fun j=>j.1
def iJ(D:St):List ByteArray:=(Ex.ME (iK D D.Q)).map fun l=>⟨l.toArray⟩
def place(D:St)(x:ByteArray):Nat:=(iJ D).findIdx fun y=>decide (y=x)
def fact(D:St)(p:ByteArray)(j:List ByteArray×Nat):List UInt8:=Rc.aV (if D.rA p j.1=true then 1 else 0)++Rc.aV j.2++j.1.flatMap fun x=>Rc.aV (place D x)
def facts(D:St)(p:ByteArray):List UInt8:=Rc.aV (D.hold p).length++(D.hold p).flatMap (fact D p)
def body(D:St):List UInt8:=Rc.aL D.pl++Rc.aV (iJ D).length++(iJ D).flatMap Rc.aL++D.Q.flatMap fun p=>facts D p.1
structure Ok(D:St):Prop where
 plz:D.pl.size≤600
 qs:D.Q.length≤6
 TB:∀p,p∈D.Q→1≤p.2∧p.2≤3
 len:∀p,p∈D.Q→∀j,j∈D.hold p.1→j.1.length=p.2
 oo:∀p,p∈D.Q→(D.hold p.1).length≤200
 jG:∀p,p∈D.Q→∀j,j∈D.hold p.1→j.2≤1000000
 nmz:∀p,p∈D.Q→∀j,j∈D.hold p.1→∀x,x∈j.1→x.size≤1000
theorem Ix(D:St)(x:ByteArray):x∈iJ D↔x∈iK D D.Q:=by
 unfold iJ
 rw[List.mem_map]
 constructor
 · rintro⟨l,hl,rfl⟩
   have h:=((rF ((iK D D.Q).map ByteArray.toList)).2 l).1 hl
   obtain⟨y,hy,rfl⟩:=List.mem_map.1 h
   simpa [ByteArray.toList_eq]using hy
 · intro h
   refine⟨x.toList,((rF ((iK D D.Q).map ByteArray.toList)).2 _).2 (List.mem_map_of_mem h),by simp[ByteArray.toList_eq]⟩
theorem Hy(D:St):(iJ D).Pairwise fun a b=>a.toList<b.toList:=by
 unfold iJ
 rw[List.pairwise_map]
 exact(rF ((iK D D.Q).map ByteArray.toList)).1.imp (fun h=>by simpa [ByteArray.toList_eq]using h)
theorem Fh(D:St){p:Pd.Pr}(hp:p∈D.Q){j:List ByteArray×Nat}(hj:j∈D.hold p.1){x:ByteArray}(hx:x∈j.1):(iJ D)[place D x]?=some x:=by
 have hm:x∈iJ D:=(Ix D x).2 (List.mem_flatMap.2 ⟨p,hp,List.mem_flatMap.2 ⟨j,hj,hx⟩⟩)
 have aC:place D x<(iJ D).length:=List.findIdx_lt_length_of_exists ⟨x,hm,by simp⟩
 have hp:=List.findIdx_getElem (p:=fun y=>decide (y=x)) (xs:=iJ D) (w:=aC)
 rw[List.getElem?_eq_getElem aC]
 exact congrArg some (of_decide_eq_true hp)
theorem N7{D:St}(h:Ok D){p:Pd.Pr}(hp:p∈D.Q):∀l:List (List ByteArray×Nat),(∀j,j∈l→j∈D.hold p.1)→(l.flatMap fun j=>j.1).length≤3*l.length
 | [],_=>by simp
 | a::l,ha=>by
  rw[List.flatMap_cons,List.length_append,List.length_cons]
  have h1:=h.len p hp a (ha a (by simp))
  have h2:=(h.TB p hp).2
  have h3:=N7 h hp l (fun j hj=>ha j (by simp[hj]))
  omega
theorem rk{D:St}(h:Ok D):∀Q:List Pd.Pr,(∀p,p∈Q→p∈D.Q)→(iK D Q).length≤600*Q.length
 | [],_=>by simp[iK]
 | p::Q,hQ=>by
  have e:iK D (p::Q)=((D.hold p.1).flatMap fun j=>j.1)++iK D Q:=by simp[iK]
  rw[e,List.length_append,List.length_cons]
  have hp:=hQ p (by simp)
  have h1:=N7 h hp (D.hold p.1) (fun j hj=>hj)
  have h2:=h.oo p hp
  have h3:=rk h Q (fun q hq=>hQ q (by simp[hq]))
  omega
theorem Kf{D:St}(h:Ok D)(k:Nat):(iK D (D.Q.take k)).length≤3600:=by
 have h1:=rk h (D.Q.take k) (fun p hp=>List.mem_of_mem_take hp)
 have h2:=h.qs
 rw[List.length_take]at h1
 omega
theorem px{D:St}(h:Ok D):(iJ D).length≤3600:=by
 unfold iJ Ex.ME
 rw[List.length_map]
 refine Nat.le_trans (nT _) ?_
 rw[List.length_mergeSort,List.length_map]
 have h1:=rk h D.Q (fun p hp=>hp)
 have h2:=h.qs
 omega
theorem rW{D:St}(h:Ok D)(x:ByteArray):place D x≤3600:=Nat.le_trans List.findIdx_le_length (px h)
theorem tw{D:St}(h:Ok D){x:ByteArray}(hx:x∈iJ D):x.size≤1000:=by
 rw[Ix]at hx
 obtain⟨p,hp,hx⟩:=List.mem_flatMap.1 hx
 obtain⟨j,hj,hx⟩:=List.mem_flatMap.1 hx
 exact h.nmz p hp j hj x hx
structure Sj(w:World)(D:St)(hm:Nat)(p:ByteArray)(ug:Nat):Prop where
 lt:ug<w.heap.size
 look:∀W:World,Below w.heap.size w W→(Instr.lookup 103 (.map (some hm)) (.string p) false).run Tryz.prog W=.ok (.pointer (some ⟨ug,0,none⟩)) W
 len:∀W:World,Below w.heap.size w W→Calls Tryz.prog 136 #[.pointer (some ⟨ug,0,none⟩)] W fun e w'=>e=.returned (.int .i64 (D.hold p).length)∧w'=W
 rows:∀W:World,Below w.heap.size w W→Calls Tryz.prog 133 #[.pointer (some ⟨ug,0,none⟩)] W fun e w'=>∃rd rc,e=.returned (.slice rd (D.hold p).length rc)∧w'.ownsRow W.heap.size 119 3 (.slice rd (D.hold p).length rc) (D.hold p).length (aF ((D.hold p).map fun j=>Tb.dh j.1))∧Below W.heap.size W w'
 count:∀W:World,Below w.heap.size w W→∀j,j∈D.hold p→Calls Tryz.prog 43 #[.pointer (some ⟨ug,0,none⟩),.agg (Tb.dE j.1)] W fun e w'=>e=.returned (.int .i64 (j.2:Nat))∧Below W.heap.size W w'
structure Sg(w:World)(D:St)(gm:Nat)(p:ByteArray)(tg:Nat):Prop where
 lt:tg<w.heap.size
 look:∀W:World,Below w.heap.size w W→(Instr.lookup 102 (.map (some gm)) (.string p) false).run Tryz.prog W=.ok (.pointer (some ⟨tg,0,none⟩)) W
 has:∀W:World,Below w.heap.size w W→∀j,j∈D.hold p→Calls Tryz.prog 42 #[.pointer (some ⟨tg,0,none⟩),.agg (Tb.dE j.1)] W fun e w'=>e=.returned (.bool (D.rA p j.1))∧Below W.heap.size W w'
structure zW(w:World)(D:St)(rv:Value)(gm hm:Nat):Prop where
 cD:∀W:World,Below w.heap.size w W→Calls Tryz.prog 59 #[.agg #[.string D.pl,rv]] W fun e w'=>∃qd qc,e=.returned (.slice qd D.Q.length qc)∧w'.ownsRow W.heap.size 112 2 (.slice qd D.Q.length qc) D.Q.length (au D.Q)∧Below W.heap.size W w'
 Yv:∀p,p∈D.Q→∃ug,Sj w D hm p.1 ug
 rA:∀p,p∈D.Q→∃tg,Sg w D gm p.1 tg
theorem zW.below{w w':World}{D:St}{rv:Value}{gm hm:Nat}(h:zW w D rv gm hm)(hb:Below w.heap.size w w'):zW w' D rv gm hm:=by
 have key:∀W,Below w'.heap.size w' W→Below w.heap.size w W:=fun W hW=>hb.trans (hW.mono hb.size)
 refine⟨fun W hW=>h.cD W (key W hW),fun p hp=> ?_,fun p hp=> ?_⟩
 · obtain⟨ug,k⟩:=h.Yv p hp
   exact⟨ug,Nat.lt_of_lt_of_le k.lt hb.size,fun W hW=>k.look W (key W hW),fun W hW=>k.len W (key W hW),fun W hW=>k.rows W (key W hW),fun W hW=>k.count W (key W hW)⟩
 · obtain⟨tg,k⟩:=h.rA p hp
   exact⟨tg,Nat.lt_of_lt_of_le k.lt hb.size,fun W hW=>k.look W (key W hW),fun W hW=>k.has W (key W hW)⟩
end Gs
end
/- An engine's state, as its calls answer. -/
section
open Go.RowKit Go.Maps
theorem qL(l:List ByteArray):Tb.dE l=#[.string (Tb.eh l 0),.string (Tb.eh l 1),.string (Tb.eh l 2)]:=rfl
end
/- state.State.names, walked. -/
section
open Go.Shelf Go.RowKit Go.Maps
structure Ja(w1 wr:World)(v:Value)(n:Nat)(l:List ByteArray):Prop where
 own:wr.ownsRow w1.heap.size 9 1 v n (strCells l)
 be:Below w1.heap.size w1 wr
theorem Ja.len{w1 wr:World}{v:Value}{n:Nat}{l:List ByteArray}(h:Ja w1 wr v n l):n=l.length:=by
 have:=h.own.1
 simp[strCells]at this
 omega
theorem Ja.grow{w1 w2 w4:World}{v v4:Value}{n p:Nat}{l m:List ByteArray}{o:Obj}(h:Ja w1 w2 v n l)(aj:w4.ownsRow w1.heap.size 9 1 v4 (n+p) (strCells l++strCells m))(bx:(w2.alloc o).grownBy w4 v.ownBlock):Ja w1 w4 v4 (n+p) (l++m):=by
 refine⟨by simpa [strCells]using aj, ?_⟩
 exact(h.be.alloc h.be.size o).grown bx (by simp;have:=h.be.size;omega) (fun k hk=>(h.own.lt k hk).1)
theorem Ja.below{w1 w2 w3:World}{v:Value}{n:Nat}{l:List ByteArray}(h:Ja w1 w2 v n l)(hb:Below w2.heap.size w2 w3):Ja w1 w3 v n l:=⟨af h.own hb,h.be.trans (hb.mono h.be.size)⟩
theorem IF{l:List ByteArray}(hl:l.length≤3){x:Nat}{u:Value}(h:(strCells l)[x]?=some u):[Value.string (Tb.eh l 0),.string (Tb.eh l 1),.string (Tb.eh l 2)][x]?=some u:=by
 rw[strCells,List.getElem?_map]at h
 obtain⟨y,hy,rfl⟩:=Option.map_eq_some_iff.1 h
 have aC:=(List.getElem?_eq_some_iff.1 hy).1
 have e:Tb.eh l x=y:=by unfold Tb.eh;rw[List.getD_eq_getElem?_getD,hy];rfl
 have hx:x=0∨x=1∨x=2:=by omega
 rcases hx with rfl | rfl | rfl<;>simp[e]
end
/- state.State.names of any state, walked. -/
section
open Go.Shelf Go.RowKit Go.Maps
theorem BL(w1 w:World)(d:Option Addr)(n c:Nat)(l:List ByteArray)(h:Ja w1 w (.slice d n c) n l)(hl:n≤100000):
 Calls Tryz.prog 134 #[.slice d n c] w fun e w'=>e=.returned (.tuple #[])∧Hid (Below w1.heap.size w1 w')∧Hid (Calls Tryz.prog 135 #[.slice d n c] w' fun e w3=>∃d' c',e=.returned (.slice d' (Ex.ME l).length c')∧Hid (w3.ownsRow w1.heap.size 9 1 (.slice d' (Ex.ME l).length c') (Ex.ME l).length (vG (Ex.ME l))∧Below w1.heap.size w1 w3)):=by
 have aj:=h.own
 have KE:=h.len
 rcases h.own.2 with⟨e1,e2⟩ | ⟨g,cap,cur,e1,hB,hg,NP,uw,uP,_⟩
 · simp only[Value.slice.injEq]at e1
   obtain⟨rfl,rfl,rfl⟩:=e1
   have Qq:l=[]:=List.eq_nil_of_length_eq_zero KE.symm
   subst Qq
   refine Calls.mono (AnyG.slices_Sort_string_none Br none 0 w) ?_
   rintro e w' ⟨rfl,rfl⟩
   refine⟨rfl,h.be, ?_⟩
   refine Calls.mono (AnyG.slices_Compact_string_empty A6 none 0 w') ?_
   rintro e w3 ⟨rfl,rfl⟩
   have e0:Ex.ME []=[]:=by
    refine List.eq_nil_iff_forall_not_mem.2 fun x hx=> ?_
    have h9:=((rF []).2 x).1 hx
    cases h9
   rw[e0]
   exact⟨none,0,rfl,World.ownsRow_nil _ _ _ _,h.be⟩
 · simp only[Value.slice.injEq]at e1
   obtain⟨rfl,_,rfl⟩:=e1
   rw[Ex.ab1]at aj
   have Ia:=hB
   have cr:=h.be.size
   have mh:=lt_of_heap hg
   refine(Ll w1.heap.size w g n c _ aj (by omega)).mono ?_
   rintro e w' ⟨rfl,yW,ml⟩
   have vI:=ml.size
   have cM:Below w1.heap.size w1 w':=ml.aK h.be cr (by simp;omega)
   refine⟨rfl,cM, ?_⟩
   refine(LI w1.heap.size w' g n c _ yW (by omega) (by omega)).mono ?_
   rintro e w3 ⟨rfl,Xt,Gk⟩
   exact⟨_,_,rfl,Xt,Gk.aK cM (by omega) (by simp;omega)⟩
theorem Gs.Lr(w:World)(D:Gs.St)(hD:Gs.Ok D)(rd:Option Addr)(rn rc gm hm:Nat)(hd:List UInt8)(hS:Gs.zW w D (.slice rd rn rc) gm hm):
 Calls Tryz.prog 76 #[.agg (aI D.pl (.slice rd rn rc) gm hm hd)] w fun e w'=>∃d c,e=.returned (.slice d (Gs.iJ D).length c)∧w'.ownsRow w.heap.size 9 1 (.slice d (Gs.iJ D).length c) (Gs.iJ D).length (strCells (Gs.iJ D))∧Below w.heap.size w w':=by
 obtain⟨i0,kP,eX,eP,eA⟩:=info_parts Tryz.vL
 have HI:Hid (Tryz.prog.info? 9=some i0):=kP
 have H0:Hid (i0.zero=some (.string ByteArray.empty)):=eX
 have H1:Hid (i0.size=1):=eP
 have H2:Hid (i0.bytes=16):=eA
 clear kP eX eP eA
 have HD:Hid (Gs.Ok D):=hD
 clear hD
 have HS:Hid (Gs.zW w D (.slice rd rn rc) gm hm):=hS
 obtain⟨cs,bA⟩:∃cs,cs=aI D.pl (.slice rd rn rc) gm hm hd:=⟨_,rfl⟩
 obtain⟨w0,di⟩:∃w0,w0=w.alloc (.cells cs 107):=⟨_,rfl⟩
 have bK:Below w.heap.size w w0:=by rw[di];exact(Below.refl _ _).alloc (Nat.le_refl _) _
 have nD:w0.heap[w.heap.size]?=some (.cells cs 107 (0,0)):=by rw[di];exact heap_alloc_new w _
 have t0:w0.cell? ⟨w.heap.size,0,none⟩=some (.string D.pl):=by rw[cell_of_row _ _ _ _ _ _ nD,bA];rfl
 have t1:w0.cell? ⟨w.heap.size,1,none⟩=some (.slice rd rn rc):=by rw[cell_of_row _ _ _ _ _ _ nD,bA];rfl
 have t3:w0.cell? ⟨w.heap.size,3,none⟩=some (.map (some hm)):=by rw[cell_of_row _ _ _ _ _ _ nD,bA];rfl
 have QF:=lt_of_heap nD
 have AJ:Hid (Calls Tryz.prog 59 #[.agg #[.string D.pl,.slice rd rn rc]] w0 fun e w1=>∃qd qc,e=.returned (.slice qd D.Q.length qc)∧w1.cell? ⟨w.heap.size,3,none⟩=some (.map (some hm))∧Hid (w1.ownsRow w0.heap.size 112 2 (.slice qd D.Q.length qc) D.Q.length (au D.Q)∧Below w.heap.size w w1)):=by
  refine(hS.cD w0 bK).mono ?_
  rintro e w1 ⟨qd,qc,rfl,h1,h2⟩
  exact⟨qd,qc,rfl,by rw[h2.cell QF];exact t3,h1,bK.trans (h2.mono bK.size)⟩
 rw[←bA]
 clear bA hS nD
 go_enter Tryz.func76,Tryz.ntmps76
 go_upto_region 2 with fail
 rw[←di]
 clear di
 go_wp2_with (go_at_call 59;refine AJ.out.mono ?_;rintro e w1 ⟨qd,qc,rfl,x3,WM⟩)
 have C2:Hid (Below w.heap.size w w1):=WM.out.2
 have Ir:w.heap.size<w1.heap.size:=block_lt_of_cell x3
 clear AJ t0 t1 t3 QF bK
 go_loopw [3,12] (fun a i wr=>∃(k n:Nat),k≤D.Q.length∧i=.int .i64 k∧Ja w1 wr a n (Gs.iK D (D.Q.take k))) (fun _ i _=>D.Q.length-(intOf i).toNat)
 case atStart=>exact⟨0,0,Nat.zero_le _,rfl,World.ownsRow_nil _ _ _ _,Below.refl _ _⟩
 case round=>
  obtain⟨k,n,hk,rfl,hN⟩:=hrel
  obtain⟨ad,ac,Jq⟩:=ah hN.own
  subst Jq
  have hn9:n≤3600:=by
   rw[hN.len]
   exact Gs.Kf HD.out k
  have Wb:=HD.out.qs
  obtain⟨wA,rfl⟩:∃x,x=wr:=⟨_,rfl⟩
  have PW:Below w.heap.size w wA:=C2.out.trans (hN.be.mono C2.out.size)
  have x3A:wA.cell? ⟨w.heap.size,3,none⟩=some (.map (some hm)):=by rw[hN.be.cell Ir];exact x3
  have ab7:w.heap.size<wA.heap.size:=block_lt_of_cell x3A
  by_cases aC:k<D.Q.length
  · have pw:k<D.Q.length:=aC
    obtain⟨g2,rfl,dL,uw,bA⟩:=ax (af WM.out.1 hN.be) (by omega)
    have c0:=bA _ _ (aU D.Q k pw).1
    have c1:=bA _ _ (aU D.Q k pw).2
    have Fe:D.Q[k]∈D.Q:=List.getElem_mem pw
    obtain⟨ug,hA⟩:=HS.out.Yv _ Fe
    have LX:Hid (Gs.iK D (D.Q.take (k+1))=Gs.iK D (D.Q.take k)++(D.hold (D.Q[k]).1).flatMap fun j=>j.1):=by
     have e0:D.Q.take (k+1)=D.Q.take k++[D.Q[k]]:=by rw[List.take_add_one,List.getElem?_eq_getElem pw];rfl
     have e1:Gs.iK D (D.Q.take (k+1))=Gs.iK D (D.Q.take k)++(D.hold (D.Q[k]).1).flatMap fun j=>j.1:=by unfold Gs.iK;rw[e0,List.flatMap_append,List.flatMap_singleton]
     exact e1
    have Yj:Hid (∀j,j∈D.hold (D.Q[k]).1→j.1.length=(D.Q[k]).2):=fun j hj=>HD.out.len _ Fe j hj
    have F4:(D.Q[k]).2≤3:=(HD.out.TB _ Fe).2
    have RE:=HD.out.oo _ Fe
    generalize D.Q[k]=p at c0 c1 hA LX Yj F4 RE
    obtain⟨pn,pp⟩:=p
    simp only at c0 c1 hA LX Yj F4 RE
    have hug:ug<wA.heap.size:=Nat.lt_of_lt_of_le hA.lt PW.size
    obtain⟨wP,IV⟩:∃wP,wP=wA.alloc (.cells #[.string pn,.int .i64 (pp:Nat)] 112):=⟨_,rfl⟩
    have IU:Below wA.heap.size wA wP:=by rw[IV];exact(Below.refl _ _).alloc (Nat.le_refl _) _
    have LQ:wP.heap[wA.heap.size]?=some (.cells #[.string pn,.int .i64 (pp:Nat)] 112 (0,0)):=by rw[IV];exact heap_alloc_new wA _
    have p0:wP.cell? ⟨wA.heap.size,0,none⟩=some (.string pn):=by rw[cell_of_row _ _ _ _ _ _ LQ];rfl
    have p3:wP.cell? ⟨w.heap.size,3,none⟩=some (.map (some hm)):=by rw[IU.cell ab7];exact x3A
    have TQ:Below w.heap.size w wP:=PW.trans (IU.mono PW.size)
    have oe:=hA.look wP TQ
    have ahF:ug<wP.heap.size:=Nat.lt_of_lt_of_le hug IU.size
    generalize PF:D.hold pn=js at LX Yj
    have MS:Hid (Calls Tryz.prog 133 #[.pointer (some ⟨ug,0,none⟩)] wP fun e w3=>∃xd xc,e=.returned (.slice xd js.length xc)∧Hid (w3.ownsRow wP.heap.size 119 3 (.slice xd js.length xc) js.length (aF (js.map fun j=>Tb.dh j.1))∧Ja w1 w3 (.slice ad n ac) n (Gs.iK D (D.Q.take k))∧w3.heap[wA.heap.size]?=some (.cells #[.string pn,.int .i64 (pp:Nat)] 112 (0,0)))):=by
     refine(hA.rows wP TQ).mono ?_
     rintro e w3 ⟨xd,xc,rfl,q1,q2⟩
     rw[PF]at q1 ⊢
     exact⟨xd,xc,rfl,q1,(hN.below IU).below q2,by rw[q2.block _ (lt_of_heap LQ)];exact LQ⟩
    have Lh:js.length≤200:=by rw[←PF];exact RE
    clear bA hA PF RE hN PW LQ Fe TQ IU WM
    go_upto_region 5 with fail
    rw[←IV]
    clear IV
    go_wp2_with (go_at_call 133;refine MS.out.mono ?_;rintro e w3 ⟨xd,xc,rfl,H3⟩)
    clear MS oe p0 p3 c0 c1
    generalize Gs.iK D (D.Q.take k)=base at H3 LX
    go_loopw [3,25] (fun a i w4=>∃(q m:Nat),q≤js.length∧i=.int .i64 q∧Ja w1 w4 a m (base++(js.take q).flatMap fun j=>j.1)∧Lib.OthersKept 9 none w3 w4) (fun _ i _=>js.length-(intOf i).toNat)
    case atStart=>exact⟨0,n,Nat.zero_le _,rfl,by simpa using H3.out.2.1,Lib.OthersKept.refl _ _ _⟩
    case round=>
     obtain⟨q,m,hq,rfl,Rx,ZF⟩:=hrel
     obtain⟨bd,bc,bK⟩:=ah Rx.own
     subst bK
     have HN4:Hid (Ja w1 wr (.slice bd m bc) m (base++(js.take q).flatMap fun j=>j.1)):=Rx
     have HO4:Hid (Lib.OthersKept 9 none w3 wr):=ZF
     have hblk:wr.heap[wA.heap.size]?=some (.cells #[.string pn,.int .i64 (pp:Nat)] 112 (0,0)):=ZF _ _ H3.out.2.2 (by simp) (fun c fz e=>by simp at e)
     have y1:wr.cell? ⟨wA.heap.size,1,none⟩=some (.int .i64 (pp:Nat)):=by rw[cell_of_row _ _ _ _ _ _ hblk];rfl
     have fE:=lt_of_heap hblk
     by_cases CU:q<js.length
     · have bV:=bD H3.out.1 ZF (by decide)
       obtain⟨g3,rfl,nB,uP,kk⟩:=ax bV (by omega)
       have h3:p9 (js.map fun j=>Tb.dh j.1):=fun r hr=>by
        obtain⟨j,_,rfl⟩:=List.mem_map.1 hr
        rfl
       obtain⟨r0,r1,r2⟩:=ko h3 (k:=q) (by simpa using CU) (a:=Tb.eh js[q].1 0) (b:=Tb.eh js[q].1 1) (c:=Tb.eh js[q].1 2) (by rw[List.getElem_map];rfl)
       have z0:=kk _ _ r0
       have z1:=kk _ _ r1
       have z2:=kk _ _ r2
       have gG:Hid (base++(js.take (q+1)).flatMap (fun j=>j.1)=base++(js.take q).flatMap (fun j=>j.1)++js[q].1):=by
        have e0:js.take (q+1)=js.take q++[js[q]]:=by rw[List.take_add_one,List.getElem?_eq_getElem CU];rfl
        have e1:base++(js.take (q+1)).flatMap (fun j=>j.1)=base++(js.take q).flatMap (fun j=>j.1)++js[q].1:=by rw[e0,List.flatMap_append];simp
        exact e1
       have PU:js[q].1.length=pp:=Yj.out _ (List.getElem_mem CU)
       have hm9:m≤100000:=by
        have h8:=Rx.len
        rw[List.length_append]at h8
        have h7:=H3.out.2.1.len
        have h6:∀l:List (List ByteArray×Nat),(∀j,j∈l→j.1.length=pp)→(l.flatMap fun j=>j.1).length≤3*l.length:=by
         intro l
         induction l with
         | nil=>intro _;simp
         | cons a l ih=>
          intro hl
          rw[List.flatMap_cons,List.length_append,List.length_cons]
          have:=hl a (by simp)
          have:=ih (fun j hj=>hl j (by simp[hj]))
          omega
        have h5:=h6 (js.take q) (fun j hj=>Yj.out j (List.mem_of_mem_take hj))
        rw[List.length_take]at h5
        omega
       have Xa:Hid (∀(x:Nat) u,(strCells js[q].1)[x]?=some u→(wr.alloc (.cells #[.string (Tb.eh js[q].1 0),.string (Tb.eh js[q].1 1),.string (Tb.eh js[q].1 2)] 119)).cell? ((⟨wr.heap.size,0,none⟩:Addr).add x)=some u):=by
        intro x u hu
        rw[Addr.add_lit,cell_of_row _ _ _ _ _ _ (heap_alloc_new wr _)]
        have h8:=IF (by omega) hu
        simpa using h8
       have aj:=Rx.own
       have ahB:w1.heap.size≤wr.heap.size:=Rx.be.size
       generalize Tb.eh js[q].1 0=s0 at*
       generalize Tb.eh js[q].1 1=s1 at*
       generalize Tb.eh js[q].1 2=s2 at*
       generalize js[q].1=dl at*
       have abt:(strCells dl).length=pp*1:=by simp[strCells,PU]
       have abS:∀u∈strCells dl,u.oneCell'=true:=by
        intro u hu
        obtain⟨x,_,rfl⟩:=List.mem_map.1 hu
        rfl
       have b1:(0:Int)≤(pp:Int):=by omega
       have b2:(pp:Int)≤3:=by omega
       clear kk bV r0 r1 r2 h3 Rx ZF hblk
       go_wp2_with (at_builtin;go_must (refine wpList_append_own _ rfl (.tmp 29) (.tmp 32) 46 rfl w1.heap.size 9 i0 _ 1 16 Tryz.underlying46 HI.out H0.out H1.out H2.out rfl (by decide) _ _ _ rfl (aj.alloc _) ⟨wr.heap.size,0,none⟩ pp 3 (strCells dl) rfl abt Xa.out abS (by unfold maxLen;omega) (by omega) (by simp;omega) ?_;intro v5 w5 OZ Mf _))
       have Zi:=(HO4.out.alloc _).grown Mf (cu (aj.alloc _))
       have hN5:=HN4.out.grow OZ Mf
       rw[←gG.out]at hN5
       go_roundw
       case rel=>exact⟨q+1,m+pp,CU,by go_num,hN5,Zi⟩
       case measure=>simp[intOf];omega
     · have HE:Hid (Ja w1 wr (.slice bd m bc) m (Gs.iK D (D.Q.take (k+1)))):=by
        rw[LX.out]
        have e:js.take q=js:=List.take_of_length_le (by omega)
        rw[e]at Rx
        exact Rx
       clear Rx ZF HN4
       go_wp2_with fail
       go_roundw
       case rel=>exact⟨k+1,m,by omega,by go_num,HE.out⟩
       case measure=>simp[intOf];omega
  · have CZ:k=D.Q.length:=by omega
    subst CZ
    have HN9:Hid (Calls Tryz.prog 134 #[.slice ad n ac] wA fun e w'=>e=.returned (.tuple #[])∧Hid (Below w1.heap.size w1 w')∧Hid (Calls Tryz.prog 135 #[.slice ad n ac] w' fun e w3=>∃d' c',e=.returned (.slice d' (Gs.iJ D).length c')∧Hid (w3.ownsRow w1.heap.size 9 1 (.slice d' (Gs.iJ D).length c') (Gs.iJ D).length (strCells (Gs.iJ D))∧Below w1.heap.size w1 w3))):=by
     have h9:=BL w1 wA ad n ac _ hN (by omega)
     have e1:(Gs.iJ D).length=(Ex.ME (Gs.iK D (D.Q.take D.Q.length))).length:=by unfold Gs.iJ;rw[List.length_map,List.take_length]
     have e2:strCells (Gs.iJ D)=vG (Ex.ME (Gs.iK D (D.Q.take D.Q.length))):=by unfold Gs.iJ;rw[Ex.adZ,List.take_length]
     rw[e1,e2]
     exact h9
    clear hN PW x3A x3
    go_wp2_with (first | (go_at_call 134;refine HN9.out.mono ?_;rintro e w5 ⟨rfl,SG,HC5⟩) | (go_at_call 135;refine HC5.out.mono ?_;rintro e w6 ⟨d',c',rfl,H6⟩))
    go_ret
    exact⟨d',c',rfl,aN H6.out.1 C2.out.size,C2.out.trans (H6.out.2.mono C2.out.size)⟩
end
/- state.State.appendFacts, walked. -/
section
open Go.Shelf Go.RowKit Go.Maps
theorem nb{α:Type}(f:α→List UInt8)(b:Nat):∀l:List α,(∀x,x∈l→(f x).length≤b)→(l.flatMap f).length≤b*l.length
 | [],_=>by simp
 | a::l,h=>by
  rw[List.flatMap_cons,List.length_append,List.length_cons,Nat.mul_succ]
  have h1:=h a (by simp)
  have h2:=nb f b l (fun x hx=>h x (by simp[hx]))
  omega
theorem kN{n:Nat}(h:n≤1000):(Rc.aV n).length≤10:=Rc.mC 10 n (by
 have:(128:Nat)^10=1180591620717411303424:=by decide
 omega) (by decide)
structure LV(B:Nat)(wR w':World)(rb pb:Nat)(x0 x1 x2:ByteArray)(pn:ByteArray)(pp:Nat):Prop where
 row:w'.heap[rb]?=some (.cells #[.string x0,.string x1,.string x2] 119 (0,0))
 Le:w'.heap[pb]?=some (.cells #[.string pn,.int .i64 (pp:Nat)] 112 (0,0))
 Ft:Lib.OthersKept 5 none wR w'
 be:Below B wR w'
theorem LV.next{B:Nat}{wR w1 w2:World}{rb pb:Nat}{x0 x1 x2 pn:ByteArray}{pp:Nat}(h:LV B wR w1 rb pb x0 x1 x2 pn pp)(ho:Lib.OthersKept 5 none w1 w2)(hb:Below B w1 w2):LV B wR w2 rb pb x0 x1 x2 pn pp:=
 ⟨ho _ _ h.row (by simp) (fun c fz e=>by simp at e),ho _ _ h.Le (by simp) (fun c fz e=>by simp at e),aJ h.Ft ho,h.be.trans hb⟩
theorem LV.cells{B:Nat}{wR w1:World}{rb pb:Nat}{x0 x1 x2 pn:ByteArray}{pp:Nat}(h:LV B wR w1 rb pb x0 x1 x2 pn pp):w1.cell? ⟨rb,0,none⟩=some (.string x0)∧w1.cell? ⟨rb,1,none⟩=some (.string x1)∧w1.cell? ⟨rb,2,none⟩=some (.string x2)∧w1.cell? ⟨pb,1,none⟩=some (.int .i64 (pp:Nat))∧rb<w1.heap.size∧pb<w1.heap.size:=
 ⟨by rw[cell_of_row _ _ _ _ _ _ h.row];rfl,by rw[cell_of_row _ _ _ _ _ _ h.row];rfl,by rw[cell_of_row _ _ _ _ _ _ h.row];rfl,by rw[cell_of_row _ _ _ _ _ _ h.Le];rfl,lt_of_heap h.row,lt_of_heap h.Le⟩
end
end Go.Proofs.YtdmicblafmhflaaGreatDoor
