/- state.Read of an export: what its last region keeps. -/
import Derived.Test.YtdmicblafmhflaaGreatDoorC45
set_option linter.unusedSimpArgs false
set_option linter.unusedVariables false
namespace Go.Proofs.YtdmicblafmhflaaGreatDoor
section
open Go.RowKit Go.Maps
structure MX(w1:World)(pb:Nat)(pl:ByteArray)(rv:Value)(hd:List UInt8)(b cb:Option Nat)(W:World):Prop where
 aZ:Below w1.heap.size w1 W
 V9:pb<w1.heap.size
 c0:W.cell? ⟨pb,0,none⟩=some (.string pl)
 c1:W.cell? ⟨pb,1,none⟩=some rv
 cU:∀x,b=some x→w1.heap.size≤x∧∃Z,W.heap[x]?=some (.cells Z 107 (0,0))∧Z.size=36
 YE:∀x,cb=some x→x<W.heap.size∧W.rangeAt x 0 (Rc.bA hd)
theorem MX.below{w1 W w':World}{pb:Nat}{pl:ByteArray}{rv:Value}{hd:List UInt8}{b cb:Option Nat}(h:MX w1 pb pl rv hd b cb W)(hb:Below W.heap.size W w'):MX w1 pb pl rv hd b cb w':=by
 have kY:pb<W.heap.size:=Nat.lt_of_lt_of_le h.V9 h.aZ.size
 refine⟨h.aZ.trans (hb.mono h.aZ.size),h.V9,by rw[hb.cell kY];exact h.c0,by rw[hb.cell kY];exact h.c1,fun x hx=> ?_,fun x hx=> ?_⟩
 · obtain⟨h1,Z,h2,h3⟩:=h.cU x hx
   exact⟨h1,Z,by rw[hb.block _ (lt_of_heap h2)];exact h2,h3⟩
 · obtain⟨h1,h2⟩:=h.YE x hx
   exact⟨Nat.lt_of_lt_of_le h1 hb.size,fun j v hv=>by rw[hb.cell (p:=⟨x,0+j,none⟩) h1];exact h2 j v hv⟩
theorem MX.drew{w1 W:World}{pb:Nat}{pl:ByteArray}{rv:Value}{hd:List UInt8}{b cb:Option Nat}(h:MX w1 pb pl rv hd b cb W):MX w1 pb pl rv hd b cb W.drew:=h.below (Below.refl _ _).drew
theorem MX.alloc{w1 W:World}{pb:Nat}{pl:ByteArray}{rv:Value}{hd:List UInt8}{cb:Option Nat}{Z:Array Value}(h:MX w1 pb pl rv hd none cb W)(hz:Z.size=36):MX w1 pb pl rv hd (some W.heap.size) cb (W.alloc (.cells Z 107)):=by
 have h2:=h.below (w':=W.alloc (.cells Z 107)) ((Below.refl _ _).alloc (Nat.le_refl _) _)
 refine⟨h2.aZ,h2.V9,h2.c0,h2.c1,fun x hx=> ?_,h2.YE⟩
 simp only[Option.some.injEq]at hx
 subst hx
 exact⟨h.aZ.size,Z,heap_alloc_new _ _,hz⟩
theorem MX.cells{w1 W:World}{pb:Nat}{pl:ByteArray}{rv:Value}{hd:List UInt8}{b cb:Option Nat}(h:MX w1 pb pl rv hd b cb W):W.cell? ⟨pb,0,none⟩=some (.string pl)∧W.cell? ⟨pb,1,none⟩=some rv:=⟨h.c0,h.c1⟩
theorem tm(W:World)(s:ByteArray):Below W.heap.size W (Lib.bytesWorld W 5 s):=by
 refine⟨?_, ?_, ?_, ?_,fun j hj=>Lib.bytesWorld_at_old W _ s j hj⟩
 · rfl
 · rfl
 · rfl
 · rw[Lib.bytesWorld_size];omega
theorem MX.conv{w1 W:World}{pb:Nat}{pl:ByteArray}{rv:Value}{hd:List UInt8}{b:Option Nat}(h:MX w1 pb pl rv hd b none W):MX w1 pb pl rv hd b (some W.heap.size) (Lib.bytesWorld W 5 ⟨hd.toArray⟩):=by
 have h2:=h.below (tm W ⟨hd.toArray⟩)
 refine⟨h2.aZ,h2.V9,h2.c0,h2.c1,h2.cU,fun x hx=> ?_⟩
 simp only[Option.some.injEq]at hx
 subst hx
 refine⟨by rw[Lib.bytesWorld_size];omega,fun j v hv=> ?_⟩
 have hj:j<hd.length:=by
  have:=(List.getElem?_eq_some_iff.1 hv).1
  rwa [Rc.bB]at this
 have h3:=Lib.bytesWorld_cell W 5 ⟨hd.toArray⟩ j hj
 rw[Nat.zero_add,h3]
 have e:(Rc.bA hd)[j]?=some (.int .u8 ((hd[j]).toNat:Int)):=by simp[Rc.bA,List.getElem?_eq_getElem hj]
 rw[e]at hv
 rw[←Option.some.inj hv]
 simp[List.getD_eq_getElem?_getD,List.getElem?_eq_getElem hj]
structure ME(w1:World)(pb:Nat)(pl:ByteArray)(rv:Value)(hd:List UInt8)(hm:Nat)(T:List HT)(s:En.dB En.cl)(b cb:Option Nat)(W:World):Prop where
 mx:MX w1 pb pl rv hd b cb W
 Uw:pG W hm T s
 ne:∀x,b=some x→∀y,y∈cK hm T→y≠x
theorem ME.alloc{w1 W:World}{pb:Nat}{pl:ByteArray}{rv:Value}{hd:List UInt8}{hm:Nat}{T:List HT}{s:En.dB En.cl}{cb:Option Nat}{Z:Array Value}(h:ME w1 pb pl rv hd hm T s none cb W)(hz:Z.size=36):ME w1 pb pl rv hd hm T s (some W.heap.size) cb (W.alloc (.cells Z 107)):=by
 refine⟨h.mx.alloc hz,h.Uw.below ((Below.refl _ _).alloc (Nat.le_refl _) _),fun x hx y hy e=> ?_⟩
 simp only[Option.some.injEq]at hx
 have:=h.Uw.lt hy
 omega
structure SJ(w1:World)(kl:List Ax.ay)(rv:Value)(gm:Nat)(gv:Nat→Bool)(hd:List UInt8)(v11 v10:Value)(wx:World):Prop where
 v10:v10=.bool true
 out:∃x hm T s,v11=.pointer (some ⟨x,0,none⟩)∧wx.heap[x]?=some (.cells (aO (Ax.au kl) rv gm hm hd) 107 (0,0))∧pG wx hm T s∧En.Inv (En.sR (En.aj kl)) (En.gF gv) s s.found.length∧(∀p,p∈T.map ig↔p∈jL)∧Below w1.heap.size w1 wx
theorem ME.cut{w1 W:World}{pb x:Nat}{rv:Value}{kl:List Ax.ay}{hd:List UInt8}{gm hm:Nat}{gv:Nat→Bool}{T:List HT}{s:En.dB En.cl}{cb:Option Nat}(h:ME w1 pb (Ax.au kl) rv hd hm T s (some x) cb W)(hh:hd.length=32)(hI:En.Inv (En.sR (En.aj kl)) (En.gF gv) s s.found.length)(hT:∀p,p∈T.map ig↔p∈jL):SJ w1 kl rv gm gv hd (.pointer (some ⟨x,0,none⟩)) (.bool true) (W.setCells x 0 (aO (Ax.au kl) rv gm hm hd).toList):=by
 obtain⟨h1,Z,h2,h3⟩:=h.mx.cU x rfl
 obtain⟨XQ,hk⟩:=bX x (aO (Ax.au kl) rv gm hm hd).toList 0 Z W h2 (by simp[aL _ _ _ _ hh,h3])
 exact⟨rfl,x,hm,T,s,rfl,fI h2 h3 (aL _ _ _ _ hh),h.Uw.kept hk (fun b hb=>by simpa using h.ne x rfl b hb),hI,hT,hk.aK h.mx.aZ h.mx.aZ.size (by simpa using h1)⟩
theorem ME.jT{w1 W:World}{pb x:Nat}{rv:Value}{pl:ByteArray}{hd:List UInt8}{hm:Nat}{T:List HT}{s:En.dB En.cl}{cb:Option Nat}{cs:Array Value}(h:ME w1 pb pl rv hd hm T s (some x) cb W)(hh:cs.size=36):(W.setCells x 0 cs.toList).cell? ⟨pb,0,none⟩=some (.string pl)∧(W.setCells x 0 cs.toList).cell? ⟨pb,1,none⟩=some rv:=by
 obtain⟨h1,Z,h2,h3⟩:=h.mx.cU x rfl
 obtain⟨_,hk⟩:=bX x cs.toList 0 Z W h2 (by simp;omega)
 have cA:pb≠x:=by have:=h.mx.V9;omega
 have hg:(W.setCells x 0 cs.toList).heap[pb]?=W.heap[pb]?:=hk.block pb (Nat.lt_of_lt_of_le h.mx.V9 h.mx.aZ.size) (by simpa using cA)
 exact⟨by rw[←h.mx.c0];simp only[World.cell?,hg],by rw[←h.mx.c1];simp only[World.cell?,hg]⟩
theorem N6{w1 W:World}{pb:Nat}{pl:ByteArray}{rv:Value}{hd:List UInt8}{b cb:Option Nat}{cs:Array Value}(h:MX w1 pb pl rv hd b cb W)(hc:cs.size=36)(h1:∀v,v∈cs.toList→v.oneCell'=true):u6 cs b W:=by
 cases b with
 | some x=>
  obtain⟨_,Z,h2,h3⟩:=h.cU x rfl
  exact cN h2 h3 hc h1
 | none=>
  intro Z hZ
  exact cN (heap_alloc_new _ _) hZ hc h1
theorem pG.kU{w:World}{hm:Nat}{T:List HT}{s:En.dB En.cl}(h:pG w hm T s){x:Nat}{Z:Array Value}{t:TypeId}{f:Nat×Nat}(hx:w.heap[x]?=some (.cells Z t f))(h1:t≠117)(h2:t≠119)(h3:t≠3):∀b,b∈cK hm T→¬b∈[x]:=by
 intro b hb e
 simp only[List.mem_cons,List.not_mem_nil,or_false]at e
 subst e
 unfold cK at hb
 rcases List.mem_cons.1 hb with rfl | hb
 · obtain⟨es,ck,e⟩:=h.map.block
   rw[e]at hx
   cases hx
 · obtain⟨u,hu,hb⟩:=List.mem_flatMap.1 hb
   obtain⟨cur,U,e,hU⟩:=(h.b7 u hu).types hb
   rw[e]at hx
   simp at hx
   rcases hU with rfl | rfl | rfl
   · exact h1 hx.2.1.symm
   · exact h2 hx.2.1.symm
   · exact h3 hx.2.1.symm
theorem sM{P:Program}{ops:Array Oper}{rest:List Oper}{o:Oper}{a:Act}{w:World}{Q:Exit→Act→World→Prop}(hw:Region.wanted o (yielded ops a.tmps)=true)(ty:TypeId)(x:Operand)(ho:o.op=.load ty x)(g:Nat)(hx:a.eval x=.pointer (some ⟨g,0,none⟩))(t:TypeId)(cs:Array Value)(fr:Nat×Nat)(d:TypeDesc)(hg:w.heap[g]?=some (.cells cs t fr))
 (hu:P.underlying ty=some d)(hd:(match d with | .struct _ | .array _ _=>true | _=>false)=true)(hi:(P.info? ty).map (·.size)=some cs.size)(h:wpList P ops Q rest (a.put o.dst (.agg cs)) w):wpList P ops Q (o::rest) a w:=
 wpList_step fun K hK=>by
  rw[if_pos hw]
  exact wp_load_row ty x ho g hx t cs fr d hg hu hd hi (hK _ _ h)
theorem Ud(W:World)(g c:Nat):(Instr.arrayAt 105 (.slice (some ⟨g,0,none⟩) 32 c)).run Tryz.prog W=.ok (.pointer (some ⟨g,0,none⟩)) W:=by
 simp[Instr.arrayAt,run_underlying Tryz.underlying105]
end
end Go.Proofs.YtdmicblafmhflaaGreatDoor
