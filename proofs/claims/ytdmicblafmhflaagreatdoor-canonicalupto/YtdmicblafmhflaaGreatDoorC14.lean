/- Package record: what came and went, as bytes. -/
import Derived.Test.YtdmicblafmhflaaGreatDoorC13
import Derived.Sort.Walk0
import Derived.Test.YtdmicblafmhflaaGreatDoorC07
import Derived.Test.YtdmicblafmhflaaGreatDoorC12
import Derived.Laws.Cover1
import Derived.Test.YtdmicblafmhflaaGreatDoorC08
import Derived.Deep.RegionWith
set_option linter.unusedSimpArgs false
set_option linter.unusedVariables false
namespace Go.Proofs.YtdmicblafmhflaaGreatDoor
open Go.RowKit
structure FI where
 pred : ByteArray
 args : List ByteArray
 av : Value
def fiCells (l : List FI) : List Value := l.flatMap fun f => [.string f.pred, f.av]
def FI.ok (w : World) (f : FI) : Prop := w.ownsRow 0 9 1 f.av f.args.length (strCells f.args)
structure FactsIn (w : World) (fd : Option Addr) (fc : Nat) (l : List FI) : Prop where
 row : w.ownsRow 0 48 2 (.slice fd l.length fc) l.length (fiCells l)
 each : ∀ f, f ∈ l → f.ok w
theorem FactsIn.below {w w' : World} {fd : Option Addr} {fc : Nat} {l : List FI} (h : FactsIn w fd fc l) (hb : Below w.heap.size w w') : FactsIn w' fd fc l := ⟨ownsRow_below h.row hb, fun f hf => ownsRow_below (h.each f hf) hb⟩
theorem FactsIn.others {w w' : World} {fd : Option Addr} {fc : Nat} {l : List FI} {e : TypeId} (h : FactsIn w fd fc l) (ho : Lib.OthersKept e none w w') (h1 : 48 ≠ e) (h2 : 9 ≠ e) : FactsIn w' fd fc l := ⟨ownsRow_others h.row ho h1, fun f hf => ownsRow_others (h.each f hf) ho h2⟩
theorem fiCells_get (l : List FI) (k : Nat) (h : k < l.length) : (fiCells l)[k * 2]? = some (.string (l[k]).pred) ∧ (fiCells l)[k * 2 + 1]? = some (l[k]).av := by
 induction l generalizing k with
 | nil => simp at h
 | cons a l ih =>
  cases k with
  | zero => simp [fiCells]
  | succ k =>
   have := ih k (by simpa using h)
   have e : fiCells (a :: l) = .string a.pred :: a.av :: fiCells l := rfl
   rw [e, show (k + 1) * 2 + 1 = (k * 2 + 1) + 1 + 1 by omega, show (k + 1) * 2 = k * 2 + 1 + 1 by omega]
   simpa using this
namespace Rc
def factB (f : FI) : List UInt8 := textB f.pred ++ f.args.flatMap textB
def factsB (l : List FI) : List UInt8 := numB l.length ++ l.flatMap factB
def contentB (come gone : List FI) : List UInt8 := factsB come ++ factsB gone
theorem numB_10 (n : Nat) (h : n ≤ 1000000000000) : (numB n).length ≤ 10 := by
 have e : (128 : Nat) ^ 10 = 1180591620717411303424 := by decide
 exact numB_len 10 n (by rw [e]; omega) (by decide)
theorem textB_len (t : ByteArray) (h : t.size ≤ 1000) : (textB t).length ≤ 1010 := by
 have := numB_10 t.size (by omega)
 unfold textB
 simp
 omega
theorem flat_len {α : Type} (f : α → List UInt8) (N : Nat) : ∀ l : List α, (∀ x, x ∈ l → (f x).length ≤ N) → (l.flatMap f).length ≤ N * l.length
 | [], _ => by simp
 | a :: l, h => by
  have h1 := flat_len f N l (fun x hx => h x (by simp [hx]))
  have h2 := h a (by simp)
  rw [List.flatMap_cons, List.length_append, List.length_cons, Nat.mul_add]
  omega
end Rc
structure FSmall (l : List FI) : Prop where
 few : l.length ≤ 1000
 preds : ∀ f, f ∈ l → f.pred.size ≤ 1000
 args : ∀ f, f ∈ l → f.args.length ≤ 1000
 names : ∀ f, f ∈ l → ∀ a, a ∈ f.args → a.size ≤ 1000
theorem FSmall.fact {l : List FI} (h : FSmall l) {f : FI} (hf : f ∈ l) : (Rc.factB f).length ≤ 1011010 := by
 have h1 := Rc.textB_len f.pred (h.preds f hf)
 have h2 := Rc.flat_len Rc.textB 1010 f.args (fun a ha => Rc.textB_len a (h.names f hf a ha))
 have h3 := h.args f hf
 unfold Rc.factB
 rw [List.length_append]
 omega
theorem FSmall.facts {l : List FI} (h : FSmall l) (k : Nat) : ((l.take k).flatMap Rc.factB).length ≤ 1011010000 := by
 have h1 := Rc.flat_len Rc.factB 1011010 (l.take k) (fun f hf => h.fact (List.mem_of_mem_take hf))
 have h2 := h.few
 have h3 : (l.take k).length ≤ l.length := by rw [List.length_take]; omega
 have : 1011010 * (l.take k).length ≤ 1011010 * 1000 := Nat.mul_le_mul_left _ (by omega)
 omega
structure BOn (B : Nat) (w w' : World) (v : Value) (n : Nat) (xs : List Value) : Prop where
 own : w'.ownsRow B 5 1 v n xs
 bel : Below B w w'
 oth : Lib.OthersKept 5 none w w'
theorem BOn.len {B : Nat} {w w' : World} {v : Value} {n : Nat} {xs : List Value} (h : BOn B w w' v n xs) : xs.length = n := by have := h.own.1; omega
theorem OthersKept_trans {e : TypeId} {w w1 w2 : World} (h : Lib.OthersKept e none w w1) (k : Lib.OthersKept e none w1 w2) : Lib.OthersKept e none w w2 := fun i o hi hn hne => k i o (h i o hi hn hne) hn hne
set_option maxRecDepth 100000 in
set_option maxHeartbeats 1000000 in
theorem appendFacts_any (B : Nat) (w : World) (v : Value) (n : Nat) (xs : List Value) (fd : Option Addr) (fc : Nat) (l : List FI) (hf : FactsIn w fd fc l) (hsm : FSmall l) (hown : w.ownsRow B 5 1 v n xs) (hB : B ≤ w.heap.size) (hn : n ≤ 10000000000) :
 Calls Tryz.prog 129 #[v, .slice fd l.length fc] w fun e w' => ∃ v' n', e = .returned v' ∧ BOn B w w' v' n' (xs ++ Rc.u8s (Rc.factsB l)) := by
 have hxl : xs.length = n := by have := hown.1; omega
 have hnum := appendNumber_any B w v n xs l.length hown hB (by omega) (by have := hsm.few; omega)
 obtain ⟨vd, vc, hv0⟩ := ownsRow_shape hown
 subst hv0
 have HSM : Hid (FSmall l) := hsm
 have HF : Hid (FactsIn w fd fc l) := hf
 have hle := ownsRow_le hf.row
 have hfew := hsm.few
 have HNL : Hid ((Rc.numB l.length).length ≤ 10) := Rc.numB_10 l.length (by omega)
 clear hown hf hsm
 go_enter Tryz.func129, Tryz.ntmps129
 go_wp2_with (go_at_call 78; refine hnum.mono ?_; rintro e w1 ⟨v1, n1, rfl, hown1, hb1, ho1⟩)
 have HON1 : Hid (BOn B w w1 v1 n1 (xs ++ Rc.u8s (Rc.numB l.length ++ (l.take 0).flatMap Rc.factB))) := ⟨by simpa using hown1, hb1, ho1⟩
 clear hown1 hb1 ho1 hnum
 go_loopw [0, 15] (fun a i wr => ∃ (k m : Nat), k ≤ l.length ∧ i = .int .i64 k ∧ BOn B w wr a m (xs ++ Rc.u8s (Rc.numB l.length ++ (l.take k).flatMap Rc.factB))) (fun _ i _ => l.length - (intOf i).toNat)
 case atStart => exact ⟨0, n1, Nat.zero_le _, rfl, HON1.out⟩
 case round =>
  obtain ⟨k, m, hk, rfl, hon⟩ := hrel
  obtain ⟨ad, ac, ha0⟩ := ownsRow_shape hon.own
  subst ha0
  have HON : Hid (BOn B w wr (.slice ad m ac) m (xs ++ Rc.u8s (Rc.numB l.length ++ (l.take k).flatMap Rc.factB))) := hon
  have hml : m ≤ 12000000000 := by
   have h1 := hon.len
   have h2 := HSM.out.facts k
   have h3 := HNL.out
   rw [List.length_append, Rc.u8s_len, List.length_append] at h1
   omega
  clear hon
  obtain ⟨wA, rfl⟩ : ∃ x, x = wr := ⟨_, rfl⟩
  by_cases hlt : k < l.length
  · have hfi : FactsIn wA fd fc l := HF.out.others HON.out.oth (by decide) (by decide)
    obtain ⟨g, rfl, hg, hc, hcs⟩ := row_cells hfi.row (by omega)
    have c0 := hcs _ _ (fiCells_get l k hlt).1
    have c1 := hcs _ _ (fiCells_get l k hlt).2
    have hfo := hfi.each _ (List.getElem_mem hlt)
    have HFK : Hid ((l[k]).pred.size ≤ 1000 ∧ (l[k]).args.length ≤ 1000 ∧ ∀ a, a ∈ (l[k]).args → a.size ≤ 1000) := ⟨HSM.out.preds _ (List.getElem_mem hlt), HSM.out.args _ (List.getElem_mem hlt), HSM.out.names _ (List.getElem_mem hlt)⟩
    have HNX : Hid ((l.take (k + 1)).flatMap Rc.factB = (l.take k).flatMap Rc.factB ++ Rc.factB l[k]) := by
     have e0 : l.take (k + 1) = l.take k ++ [l[k]] := by rw [List.take_add_one, List.getElem?_eq_getElem hlt]; rfl
     have e1 : (l.take (k + 1)).flatMap Rc.factB = (l.take k).flatMap Rc.factB ++ Rc.factB l[k] := by rw [e0, List.flatMap_append]; simp
     exact e1
    generalize l[k] = f at c0 c1 hfo HFK HNX
    obtain ⟨pd, args, av⟩ := f
    obtain ⟨xd, xc, hav⟩ := ownsRow_shape hfo
    simp only at hav c0 c1
    subst hav
    have HFO : Hid (wA.ownsRow 0 9 1 (.slice xd args.length xc) args.length (strCells args)) := hfo
    have htx : Hid (Calls Tryz.prog 77 #[.slice ad m ac, .string pd] (wA.alloc (.cells #[.string pd, .slice xd args.length xc] 48)) fun e w2 => ∃ v2 n2, e = .returned v2 ∧ Hid (BOn B w w2 v2 n2 (xs ++ Rc.u8s (Rc.numB l.length ++ (l.take k).flatMap Rc.factB) ++ Rc.u8s (Rc.textB pd ++ (args.take 0).flatMap Rc.textB))) ∧ Hid (Lib.OthersKept 5 none (wA.alloc (.cells #[.string pd, .slice xd args.length xc] 48)) w2) ∧ w2.cell? ⟨wA.heap.size, 1, none⟩ = some (.slice xd args.length xc) ∧ wA.heap.size < w2.heap.size) := by
     refine (appendText_any B _ (.slice ad m ac) m _ pd (HON.out.own.alloc _) (by have := HON.out.bel.size; simp; omega) (by omega) (by have := HFK.out.1; simp only at this; omega)).mono ?_
     rintro e w2 ⟨v2, n2, rfl, q1, q2, q3⟩
     refine ⟨v2, n2, rfl, ⟨by simpa using q1, (HON.out.bel.alloc (by have := HON.out.bel.size; omega) _).trans q2, OthersKept_trans (HON.out.oth.alloc _) q3⟩, q3, ?_, ?_⟩
     · have hb := q3 wA.heap.size _ (heap_alloc_new wA _) (by simp) (fun c fz e => by simp at e)
       rw [cell_of_row _ _ _ _ _ _ hb]
       rfl
     · exact lt_of_heap (q3 wA.heap.size _ (heap_alloc_new wA _) (by simp) (fun c fz e => by simp at e))
    clear hcs hfi hfo
    go_wp2_with (go_at_call 77; refine htx.out.mono ?_; rintro e w2 ⟨v2, n2, rfl, HON2, HO2, hc2, hl2⟩)
    generalize hbase : xs ++ Rc.u8s (Rc.numB l.length ++ (l.take k).flatMap Rc.factB) = base at HON2
    have HBASE : Hid (xs ++ Rc.u8s (Rc.numB l.length ++ (l.take k).flatMap Rc.factB) = base) := hbase
    have hbl : base.length ≤ 12000000000 := by
     rw [← hbase, HON.out.len]
     exact hml
    clear hbase htx c0 c1
    have HFB : Hid ((wA.alloc (.cells #[.string pd, .slice xd args.length xc] 48)).ownsRow 0 9 1 (.slice xd args.length xc) args.length (strCells args)) := HFO.out.alloc _
    generalize wA.alloc (.cells #[.string pd, .slice xd args.length xc] 48) = wB at HO2 HFB
    have HTL : Hid (∀ j, (Rc.textB pd ++ (args.take j).flatMap Rc.textB).length ≤ 1011010) := by
     intro j
     have h1 := Rc.textB_len pd HFK.out.1
     have h2 := Rc.flat_len Rc.textB 1010 (args.take j) (fun a ha => Rc.textB_len a (HFK.out.2.2 a (List.mem_of_mem_take ha)))
     have h3 : (args.take j).length ≤ 1000 := by have h9 := HFK.out.2.1; rw [List.length_take]; omega
     rw [List.length_append]
     omega
    have hal : args.length ≤ 1000 := HFK.out.2.1
    go_loopw [0, 26] (fun a i wr => ∃ (j m2 : Nat), j ≤ args.length ∧ i = .int .i64 j ∧ BOn B w wr a m2 (base ++ Rc.u8s (Rc.textB pd ++ (args.take j).flatMap Rc.textB)) ∧ Lib.OthersKept 5 none wB wr) (fun _ i _ => args.length - (intOf i).toNat)
    case atStart => exact ⟨0, n2, Nat.zero_le _, rfl, HON2.out, HO2.out⟩
    case round =>
     obtain ⟨j, m2, hj, rfl, hon3, ho3⟩ := hrel
     obtain ⟨bd, bc, hb0⟩ := ownsRow_shape hon3.own
     subst hb0
     have HON3 : Hid (BOn B w wr (.slice bd m2 bc) m2 (base ++ Rc.u8s (Rc.textB pd ++ (args.take j).flatMap Rc.textB))) := hon3
     have HO3 : Hid (Lib.OthersKept 5 none wB wr) := ho3
     by_cases hlj : j < args.length
     · have HLJ : Hid (j < args.length) := hlj
       have hrow := ownsRow_others HFB.out HO3.out (by decide)
       obtain ⟨g3, rfl, hg3, hc3, hcs3⟩ := row_cells hrow (by omega)
       have ca : wr.cell? ⟨g3, j, none⟩ = some (.string args[j]) := hcs3 j _ (by rw [strCells, List.getElem?_map, List.getElem?_eq_getElem hlj]; rfl)
       have hm2 : m2 ≤ 20000000000 := by
        have h1 := HON3.out.len
        have h2 := HTL.out j
        rw [List.length_append, Rc.u8s_len] at h1
        omega
       have HNX2 : Hid ((args.take (j + 1)).flatMap Rc.textB = (args.take j).flatMap Rc.textB ++ Rc.textB args[j]) := by
        have e0 : args.take (j + 1) = args.take j ++ [args[j]] := by rw [List.take_add_one, List.getElem?_eq_getElem hlj]; rfl
        have e1 : (args.take (j + 1)).flatMap Rc.textB = (args.take j).flatMap Rc.textB ++ Rc.textB args[j] := by rw [e0, List.flatMap_append]; simp
        exact e1
       have hsz : (args[j]).size ≤ 1000 := HFK.out.2.2 _ (List.getElem_mem hlj)
       generalize args[j] = q at ca HNX2 hsz
       have htx2 : Hid (Calls Tryz.prog 77 #[.slice bd m2 bc, .string q] wr fun e w5 => ∃ v5 n5, e = .returned v5 ∧ Hid (BOn B w w5 v5 n5 (base ++ Rc.u8s (Rc.textB pd ++ (args.take (j + 1)).flatMap Rc.textB))) ∧ Hid (Lib.OthersKept 5 none wB w5)) := by
        refine (appendText_any B wr (.slice bd m2 bc) m2 _ q HON3.out.own (Nat.le_trans hB HON3.out.bel.size) (by omega) (by omega)).mono ?_
        rintro e w5 ⟨v5, n5, rfl, q1, q2, q3⟩
        refine ⟨v5, n5, rfl, ⟨?_, HON3.out.bel.trans q2, OthersKept_trans HON3.out.oth q3⟩, OthersKept_trans HO3.out q3⟩
        rw [HNX2.out, ← List.append_assoc, Rc.u8s_app, ← List.append_assoc]
        exact q1
       clear hon3 ho3 hrow hcs3
       go_wp2_with (go_at_call 77; refine htx2.out.mono ?_; rintro e w5 ⟨v5, n5, rfl, HON5, HO5⟩)
       go_roundw
       case rel => exact ⟨j + 1, n5, HLJ.out, by go_num, HON5.out, HO5.out⟩
       case measure =>
        have h9 := HLJ.out
        simp [intOf]
        omega
     · have HE : Hid (BOn B w wr (.slice bd m2 bc) m2 (xs ++ Rc.u8s (Rc.numB l.length ++ (l.take (k + 1)).flatMap Rc.factB))) := by
        have h1 := HON3.out
        have e0 : args.take j = args := List.take_of_length_le (by omega)
        rw [e0, ← HBASE.out] at h1
        rw [HNX.out, ← List.append_assoc, Rc.u8s_app, ← List.append_assoc]
        exact h1
       clear hon3 ho3
       go_wp2_with fail
       go_roundw
       case rel => exact ⟨k + 1, m2, by omega, by go_num, HE.out⟩
       case measure => simp [intOf]; omega
  · have HE : Hid (BOn B w wA (.slice ad m ac) m (xs ++ Rc.u8s (Rc.factsB l))) := by
     have h1 := HON.out
     have e0 : l.take k = l := List.take_of_length_le (by omega)
     rw [e0] at h1
     exact h1
    go_wp2_with fail
    go_ret
    exact ⟨_, m, rfl, HE.out⟩
end Go.Proofs.YtdmicblafmhflaaGreatDoor
/- Tables of facts: rows in order, where one is found, where one is put. No program here. -/
namespace Go.Proofs.YtdmicblafmhflaaGreatDoor.Tb
def slt (a b : ByteArray) : Bool := Op.bytesLess a.toList b.toList
theorem toList_inj {a b : ByteArray} (h : a.toList = b.toList) : a = b := by
 rw [ByteArray.toList_eq, ByteArray.toList_eq] at h
 rcases a with ⟨⟨a⟩⟩
 rcases b with ⟨⟨b⟩⟩
 simp at h
 rw [h]
theorem slt_iff (a b : ByteArray) : slt a b = true ↔ a.toList < b.toList := by
 unfold slt
 rw [bytesLess_eq]
 simp
theorem slt_irr (a : ByteArray) : slt a a = false := by
 rw [Bool.eq_false_iff]
 intro h
 exact List.lt_irrefl _ ((slt_iff a a).1 h)
theorem slt_trans {a b c : ByteArray} (h : slt a b = true) (k : slt b c = true) : slt a c = true :=
 (slt_iff a c).2 (List.lt_trans ((slt_iff a b).1 h) ((slt_iff b c).1 k))
theorem slt_tri {a b : ByteArray} (h : slt a b = false) (k : slt b a = false) : a = b := by
 refine toList_inj ?_
 have h' : ¬ a.toList < b.toList := fun e => by rw [(slt_iff a b).2 e] at h; cases h
 have k' : ¬ b.toList < a.toList := fun e => by rw [(slt_iff b a).2 e] at k; cases k
 exact List.le_antisymm (List.not_lt.1 k') (List.not_lt.1 h')
theorem slt_asym {a b : ByteArray} (h : slt a b = true) : slt b a = false := by
 rw [Bool.eq_false_iff]
 intro k
 have := slt_trans h k
 rw [slt_irr] at this
 cases this
def scmp (a b : ByteArray) : Int := if slt a b = true then -1 else if slt b a = true then 1 else 0
theorem scmp_zero {a b : ByteArray} : scmp a b = 0 ↔ a = b := by
 unfold scmp
 constructor
 · intro h
   cases h1 : slt a b with
   | true => rw [h1] at h; simp at h
   | false =>
    cases h2 : slt b a with
    | true => rw [h1, h2] at h; simp at h
    | false => exact slt_tri h1 h2
 · rintro rfl
   simp [slt_irr]
theorem scmp_neg {a b : ByteArray} : scmp a b < 0 ↔ slt a b = true := by
 unfold scmp
 cases h1 : slt a b <;> cases h2 : slt b a <;> simp
theorem scmp_pos {a b : ByteArray} : 0 < scmp a b ↔ slt b a = true := by
 unfold scmp
 cases h1 : slt a b with
 | true => have := slt_asym h1; simp [this]
 | false => cases h2 : slt b a <;> simp
def rcmp : List ByteArray → List ByteArray → Int
 | [], [] => 0
 | [], _ :: _ => -1
 | _ :: _, [] => 1
 | a :: p, b :: q => if scmp a b ≠ 0 then scmp a b else rcmp p q
theorem rcmp_zero : ∀ {a b : List ByteArray}, rcmp a b = 0 ↔ a = b
 | [], [] => by simp [rcmp]
 | [], _ :: _ => by simp [rcmp]
 | _ :: _, [] => by simp [rcmp]
 | a :: p, b :: q => by
  unfold rcmp
  by_cases h : scmp a b = 0
  · rw [if_neg (by simpa using h), rcmp_zero, scmp_zero.1 h]
    simp
  · rw [if_pos h]
    constructor
    · intro e; exact absurd e h
    · intro e
      simp only [List.cons.injEq] at e
      exact scmp_zero.2 e.1
theorem rcmp_trans : ∀ {a b c : List ByteArray}, rcmp a b < 0 → rcmp b c < 0 → rcmp a c < 0
 | [], [], c, h, _ => by simp [rcmp] at h
 | _ :: _, [], c, h, _ => by simp [rcmp] at h
 | [], _ :: _, [], _, k => by simp [rcmp] at k
 | [], _ :: _, _ :: _, _, _ => by simp [rcmp]
 | _ :: _, _ :: _, [], _, k => by simp [rcmp] at k
 | a :: p, b :: q, c :: o, h, k => by
  unfold rcmp at h k ⊢
  by_cases h1 : scmp a b = 0
  · rw [if_neg (by simpa using h1)] at h
    have e := scmp_zero.1 h1
    subst e
    by_cases h2 : scmp a c = 0
    · rw [if_neg (by simpa using h2)] at k ⊢
      exact rcmp_trans h k
    · rw [if_pos h2] at k ⊢
      exact k
  · rw [if_pos h1] at h
    by_cases h2 : scmp b c = 0
    · have e := scmp_zero.1 h2
      subst e
      rw [if_pos h1]
      exact h
    · rw [if_pos h2] at k
      have h3 := slt_trans (scmp_neg.1 h) (scmp_neg.1 k)
      have h4 := scmp_neg.2 h3
      rw [if_pos (by omega)]
      exact h4
theorem rcmp_irr (a : List ByteArray) : rcmp a a = 0 := rcmp_zero.2 rfl
theorem rcmp_flip : ∀ {a b : List ByteArray}, ¬ rcmp a b < 0 → ¬ a = b → rcmp b a < 0
 | [], [], _, k => absurd rfl k
 | [], _ :: _, h, _ => by simp [rcmp] at h
 | _ :: _, [], _, _ => by simp [rcmp]
 | a :: p, b :: q, h, k => by
  unfold rcmp at h ⊢
  by_cases h1 : scmp a b = 0
  · have e := scmp_zero.1 h1
    subst e
    rw [if_neg (by simpa using h1)] at h
    rw [if_neg (by simpa using h1)]
    exact rcmp_flip h (fun e => k (by rw [e]))
  · rw [if_pos h1] at h
    have h2 : 0 < scmp a b := by omega
    have h3 : scmp b a < 0 := scmp_neg.2 (scmp_pos.1 h2)
    rw [if_pos (by omega)]
    exact h3
abbrev Rw := List ByteArray
def Ord (L : List Rw) : Prop := L.Pairwise fun a b => rcmp a b < 0
def pos (L : List Rw) (r : Rw) : Nat := L.countP fun x => decide (rcmp x r < 0)
theorem pos_le (L : List Rw) (r : Rw) : pos L r ≤ L.length := List.countP_le_length
theorem Ord.nodup {L : List Rw} (h : Ord L) : L.Nodup := by
 refine List.Pairwise.imp ?_ h
 intro a b hab e
 subst e
 rw [rcmp_irr] at hab
 omega
theorem pos_spec : ∀ {L : List Rw} (_ : Ord L) (r : Rw), (∀ x, x ∈ L.take (pos L r) → rcmp x r < 0) ∧ (∀ x, x ∈ L.drop (pos L r) → ¬ rcmp x r < 0)
 | [], _, r => by simp [pos]
 | a :: L, h, r => by
  obtain ⟨h1, h2⟩ := List.pairwise_cons.1 h
  by_cases ha : rcmp a r < 0
  · have e : pos (a :: L) r = pos L r + 1 := by simp [pos, List.countP_cons, ha]
    rw [e]
    obtain ⟨i1, i2⟩ := pos_spec h2 r
    refine ⟨?_, ?_⟩
    · intro x hx
      rw [List.take_succ_cons] at hx
      rcases List.mem_cons.1 hx with rfl | hx
      · exact ha
      · exact i1 x hx
    · intro x hx
      rw [List.drop_succ_cons] at hx
      exact i2 x hx
  · have hall : ∀ x, x ∈ L → ¬ rcmp x r < 0 := by
     intro x hx k
     exact ha (rcmp_trans (h1 x hx) k)
    have e0 : pos L r = 0 := by
     unfold pos
     rw [List.countP_eq_zero]
     intro x hx
     simpa using hall x hx
    have e : pos (a :: L) r = 0 := by
     have : pos (a :: L) r = pos L r := by simp [pos, List.countP_cons, ha]
     rw [this, e0]
    rw [e]
    refine ⟨by simp, ?_⟩
    intro x hx
    rw [List.drop_zero] at hx
    rcases List.mem_cons.1 hx with rfl | hx
    · exact ha
    · exact hall x hx
theorem pos_mono {L : List Rw} (h : Ord L) {a b : Nat} (hab : a ≤ b) (hb : b < L.length) {r : Rw} (k : rcmp L[b] r < 0) : rcmp (L[a]'(by omega)) r < 0 := by
 rcases Nat.lt_or_ge a b with h1 | h1
 · have := (List.pairwise_iff_getElem.1 h) a b (by omega) hb h1
   exact rcmp_trans this k
 · have : a = b := by omega
   subst this
   exact k
theorem pos_found {L : List Rw} (h : Ord L) (r : Rw) : L[pos L r]? = some r ↔ r ∈ L := by
 constructor
 · intro e; exact List.mem_of_getElem? e
 · intro hr
   obtain ⟨h1, h2⟩ := pos_spec h r
   have hd : r ∈ L.drop (pos L r) := by
    rw [← List.take_append_drop (pos L r) L] at hr
    rcases List.mem_append.1 hr with k | k
    · have := h1 r k
      rw [rcmp_irr] at this
      omega
    · exact k
   cases hc : L.drop (pos L r) with
   | nil => rw [hc] at hd; simp at hd
   | cons x t =>
    have hx : L[pos L r]? = some x := by
     have := congrArg (fun l => l[0]?) hc
     simpa using this
    rw [hx]
    congr 1
    have hp : Ord (x :: t) := by rw [← hc]; exact List.Pairwise.sublist (List.drop_sublist _ _) h
    rw [hc] at hd
    rcases List.mem_cons.1 hd with e | e
    · exact e.symm
    · have k1 := (List.pairwise_cons.1 hp).1 r e
      have k2 := h2 x (by rw [hc]; simp)
      exact absurd k1 k2
def ins (L : List Rw) (r : Rw) : List Rw := L.take (pos L r) ++ r :: L.drop (pos L r)
def inB {F : Type} [DecidableEq F] (L : List F) (f : F) : Bool := decide (f ∈ L)
theorem inB_iff {F : Type} [DecidableEq F] {L : List F} {f : F} : inB L f = true ↔ f ∈ L := by simp [inB]
def put (L : List Rw) (r : Rw) : List Rw := if inB L r = true then L else ins L r
theorem mem_ins {L : List Rw} {r x : Rw} : x ∈ ins L r ↔ x = r ∨ x ∈ L := by
 unfold ins
 have e : x ∈ L ↔ x ∈ L.take (pos L r) ∨ x ∈ L.drop (pos L r) := by
  rw [← List.mem_append, List.take_append_drop]
 rw [e]
 simp only [List.mem_append, List.mem_cons]
 constructor
 · rintro (h | h | h)
   · exact .inr (.inl h)
   · exact .inl h
   · exact .inr (.inr h)
 · rintro (h | h | h)
   · exact .inr (.inl h)
   · exact .inl h
   · exact .inr (.inr h)
theorem mem_put {L : List Rw} {r x : Rw} : x ∈ put L r ↔ x = r ∨ x ∈ L := by
 unfold put
 split
 · rename_i h
   rw [inB_iff] at h
   constructor
   · exact .inr
   · rintro (rfl | k)
     · exact h
     · exact k
 · exact mem_ins
theorem ord_ins {L : List Rw} (h : Ord L) {r : Rw} (hr : ¬ r ∈ L) : Ord (ins L r) := by
 obtain ⟨h1, h2⟩ := pos_spec h r
 unfold Ord ins
 rw [List.pairwise_append]
 have hd : ∀ x, x ∈ L.drop (pos L r) → rcmp r x < 0 := by
  intro x hx
  refine rcmp_flip (h2 x hx) ?_
  rintro rfl
  exact hr (List.mem_of_mem_drop hx)
 refine ⟨List.Pairwise.sublist (List.take_sublist _ _) h, ?_, ?_⟩
 · rw [List.pairwise_cons]
   exact ⟨hd, List.Pairwise.sublist (List.drop_sublist _ _) h⟩
 · intro a ha b hb
   rcases List.mem_cons.1 hb with rfl | hb
   · exact h1 a ha
   · exact rcmp_trans (h1 a ha) (hd b hb)
theorem ord_put {L : List Rw} (h : Ord L) (r : Rw) : Ord (put L r) := by
 unfold put
 split
 · exact h
 · rename_i hr
   rw [inB_iff] at hr
   exact ord_ins h hr
def del (L : List Rw) (r : Rw) : List Rw := L.take (pos L r) ++ L.drop (pos L r + 1)
def leave (L : List Rw) (r : Rw) : List Rw := if inB L r = true then del L r else L
theorem ord_leave {L : List Rw} (h : Ord L) (r : Rw) : Ord (leave L r) := by
 unfold leave
 split
 · refine List.Pairwise.sublist ?_ h
   unfold del
   conv => rhs; rw [← List.take_append_drop (pos L r) L]
   refine List.Sublist.append (List.Sublist.refl _) ?_
   rw [← List.drop_drop]
   exact List.drop_sublist _ _
 · exact h
theorem mem_leave {L : List Rw} (h : Ord L) {r x : Rw} : x ∈ leave L r ↔ x ∈ L ∧ x ≠ r := by
 unfold leave
 split
 · rename_i hr
   rw [inB_iff] at hr
   have hf := (pos_found h r).2 hr
   have hlt : pos L r < L.length := (List.getElem?_eq_some_iff.1 hf).1
   have hg : L[pos L r] = r := (List.getElem?_eq_some_iff.1 hf).2
   have e : L = L.take (pos L r) ++ r :: L.drop (pos L r + 1) := by
    conv => lhs; rw [← List.take_append_drop (pos L r) L]
    rw [List.drop_eq_getElem_cons hlt, hg]
   have hn := h.nodup
   unfold del
   rw [e] at hn
   rw [List.nodup_append] at hn
   obtain ⟨n1, n2, n3⟩ := hn
   have n4 := (List.nodup_cons.1 n2).1
   constructor
   · intro hx
     rcases List.mem_append.1 hx with hx | hx
     · exact ⟨List.mem_of_mem_take hx, fun e2 => n3 x hx r (by simp) e2⟩
     · exact ⟨List.mem_of_mem_drop hx, fun e2 => n4 (e2 ▸ hx)⟩
   · rintro ⟨hx, hne⟩
     rw [e] at hx
     rcases List.mem_append.1 hx with hx | hx
     · exact List.mem_append_left _ hx
     · rcases List.mem_cons.1 hx with rfl | hx
       · exact absurd rfl hne
       · exact List.mem_append_right _ hx
 · rename_i hr
   rw [inB_iff] at hr
   constructor
   · intro hx; exact ⟨hx, fun e => hr (e ▸ hx)⟩
   · exact fun hx => hx.1
end Go.Proofs.YtdmicblafmhflaaGreatDoor.Tb
/- cmp.Compare, slices.Compare at strings; compareRows. -/
namespace Go.Proofs.YtdmicblafmhflaaGreatDoor
open Go.RowKit
theorem isNaN_any (w : World) (x : ByteArray) : Calls Tryz.prog 256 #[.string x] w fun e w' => e = .returned (.bool false) ∧ w' = w := by
 have hb : (x.toList != x.toList) = false := by simp
 go_enter Tryz.func256, Tryz.ntmps256
 go_wp2_with fail
 go_ret
 simp
set_option maxHeartbeats 1000000 in
theorem cmpCompare_any (w : World) (x y : ByteArray) : Calls Tryz.prog 247 #[.string x, .string y] w fun e w' => e = .returned (.int .i64 (Tb.scmp x y)) ∧ w' = w := by
 have h1 : Op.bytesLess x.toList y.toList = Tb.slt x y := rfl
 have h2 : (!(Tb.slt x y || x.toList == y.toList)) = Tb.slt y x := by
  rw [beq_bytes]
  cases a : Tb.slt x y with
  | true => rw [Tb.slt_asym a]; rfl
  | false =>
   cases c : Tb.slt y x with
   | true =>
    have : ¬ x = y := by rintro rfl; rw [Tb.slt_irr] at c; cases c
    simp [this]
   | false => simp [Tb.slt_tri a c]
 generalize hR : Tb.scmp x y = R
 unfold Tb.scmp at hR
 cases a : Tb.slt x y with
 | true =>
  rw [a] at h1 hR
  simp at hR
  clear h2 a
  go_enter Tryz.func247, Tryz.ntmps247
  go_wp2_with (first | (go_at_call 256; refine (isNaN_any _ _).mono ?_; rintro e w' ⟨rfl, rfl⟩))
  go_ret
  exact ⟨by rw [← hR]; rfl, rfl⟩
 | false =>
  rw [a] at h1 hR h2
  cases c : Tb.slt y x with
  | true =>
   rw [c] at hR h2
   simp at hR
   clear a c
   have h3 : (x.toList == y.toList) = false := by simpa using h2
   clear h2
   go_enter Tryz.func247, Tryz.ntmps247
   go_wp2_with (first | (go_at_call 256; refine (isNaN_any _ _).mono ?_; rintro e w' ⟨rfl, rfl⟩))
   go_ret
   exact ⟨by rw [← hR]; rfl, rfl⟩
  | false =>
   rw [c] at hR h2
   simp at hR
   clear a c
   have h3 : (x.toList == y.toList) = true := by simpa using h2
   clear h2
   go_enter Tryz.func247, Tryz.ntmps247
   go_wp2_with (first | (go_at_call 256; refine (isNaN_any _ _).mono ?_; rintro e w' ⟨rfl, rfl⟩))
   go_ret
   exact ⟨by rw [← hR]; rfl, rfl⟩
end Go.Proofs.YtdmicblafmhflaaGreatDoor
/- slices.Compare at strings; compareRows. -/
namespace Go.Proofs.YtdmicblafmhflaaGreatDoor
open Go.RowKit
set_option maxHeartbeats 1000000 in
theorem sCompare_any (w : World) (p q : List ByteArray) (g h c d : Nat) (hl : q.length = p.length) (hc : p.length ≤ c) (hd : q.length ≤ d) (hsm : p.length ≤ 1000)
 (hp : ∀ (j : Nat) v, p[j]? = some v → w.cell? ⟨g, j, none⟩ = some (.string v)) (hq : ∀ (j : Nat) v, q[j]? = some v → w.cell? ⟨h, j, none⟩ = some (.string v)) :
 Calls Tryz.prog 199 #[.slice (some ⟨g, 0, none⟩) p.length c, .slice (some ⟨h, 0, none⟩) q.length d] w fun e w' => e = .returned (.int .i64 (Tb.rcmp p q)) ∧ w' = w := by
 generalize hR : Tb.rcmp p q = R
 have HP : Hid (∀ (j : Nat) v, p[j]? = some v → w.cell? ⟨g, j, none⟩ = some (.string v)) := hp
 have HQ : Hid (∀ (j : Nat) v, q[j]? = some v → w.cell? ⟨h, j, none⟩ = some (.string v)) := hq
 clear hp hq
 generalize hm : q.length = m at hl hd
 have HM : Hid (q.length = m) := hm
 clear hm
 have hmn : m ≤ p.length := by omega
 have hnm : p.length ≤ m := by omega
 clear hl
 go_enter Tryz.func199, Tryz.ntmps199
 go_wp2_with fail
 go_loop [11] (fun i => ∃ k : Nat, k ≤ p.length ∧ i = .int .i64 k ∧ Tb.rcmp (p.drop k) (q.drop k) = R) (fun i => p.length - (intOf i).toNat)
 case atStart => exact ⟨0, Nat.zero_le _, rfl, by simpa using hR⟩
 case round =>
  obtain ⟨k, hk, rfl, hr⟩ := hrel
  by_cases hlt : k < p.length
  · have hlq : k < q.length := by rw [HM.out]; omega
    have hx := HP.out k _ (List.getElem?_eq_getElem hlt)
    have hy := HQ.out k _ (List.getElem?_eq_getElem hlq)
    rw [List.drop_eq_getElem_cons hlt, List.drop_eq_getElem_cons hlq] at hr
    generalize p[k] = x at hx hr
    generalize q[k] = y at hy hr
    unfold Tb.rcmp at hr
    have hkm : k < m := by omega
    clear hR hlq
    by_cases hz : Tb.scmp x y = 0
    · rw [if_neg (by simpa using hz)] at hr
      have HRR : Hid (Tb.rcmp (p.drop (k + 1)) (q.drop (k + 1)) = R) := hr
      clear hr
      go_wp2_with (go_at_call 247; refine (cmpCompare_any _ _ _).mono ?_; rintro e w' ⟨rfl, rfl⟩)
      go_round
      case rel => exact ⟨k + 1, by omega, by go_num, HRR.out⟩
      case measure => simp [intOf]; omega
    · rw [if_pos hz] at hr
      have HRR : Hid (Tb.scmp x y = R) := hr
      have hb : (Tb.scmp x y == 0) = false := by simp [hz]
      have hb' : (Tb.scmp x y != 0) = true := by simp [hz]
      clear hr hz
      go_wp2_with (go_at_call 247; refine (cmpCompare_any _ _ _).mono ?_; rintro e w' ⟨rfl, rfl⟩)
      go_ret
      exact ⟨by rw [HRR.out]; rfl, rfl⟩
  · have hkp : k = p.length := by omega
    have e1 : p.drop k = [] := List.drop_eq_nil_of_le (by omega)
    have e2 : q.drop k = [] := List.drop_eq_nil_of_le (by rw [HM.out]; omega)
    rw [e1, e2] at hr
    have HRR : Hid (0 = R) := hr
    clear hr hR hkp e1 e2
    go_wp2_with fail
    go_ret
    exact ⟨by rw [← HRR.out]; rfl, rfl⟩
theorem three_get {a b c : ByteArray} {w : World} {g : Nat} (h0 : w.cell? ⟨g, 0, none⟩ = some (.string a)) (h1 : w.cell? ⟨g, 1, none⟩ = some (.string b)) (h2 : w.cell? ⟨g, 2, none⟩ = some (.string c)) : ∀ (j : Nat) v, [a, b, c][j]? = some v → w.cell? ⟨g, j, none⟩ = some (.string v) := by
 intro j v hj
 match j with
 | 0 => simp at hj; rw [← hj]; exact h0
 | 1 => simp at hj; rw [← hj]; exact h1
 | 2 => simp at hj; rw [← hj]; exact h2
 | j + 3 => simp at hj
set_option maxHeartbeats 1000000 in
theorem compareRows_any (w : World) (a b c x y z : ByteArray) : Calls Tryz.prog 132 #[.agg #[.string a, .string b, .string c], .agg #[.string x, .string y, .string z]] w fun e w' => e = .returned (.int .i64 (Tb.rcmp [a, b, c] [x, y, z])) ∧ Below w.heap.size w w' := by
 have hcon : ∀ W : World, W.heap = ((w.alloc (.cells #[.string a, .string b, .string c] 119)).alloc (.cells #[.string x, .string y, .string z] 119)).heap →
  Calls Tryz.prog 199 #[.slice (some ⟨w.heap.size, 0, none⟩) 3 3, .slice (some ⟨w.heap.size + 1, 0, none⟩) 3 3] W fun e w' => e = .returned (.int .i64 (Tb.rcmp [a, b, c] [x, y, z])) ∧ w' = W := fun W hW => by
  have h1 : W.heap[w.heap.size]? = some (.cells #[.string a, .string b, .string c] 119 (0, 0)) := by
   rw [hW, Below.heap_alloc _ _ _ (by simp)]
   exact heap_alloc_new w _
  have h2 : W.heap[w.heap.size + 1]? = some (.cells #[.string x, .string y, .string z] 119 (0, 0)) := by
   rw [hW]
   exact new2 w _ _
  exact sCompare_any W [a, b, c] [x, y, z] _ _ 3 3 rfl (by simp) (by simp) (by simp)
   (three_get (by rw [cell_of_row _ _ 0 _ _ _ h1]; rfl) (by rw [cell_of_row _ _ 1 _ _ _ h1]; rfl) (by rw [cell_of_row _ _ 2 _ _ _ h1]; rfl))
   (three_get (by rw [cell_of_row _ _ 0 _ _ _ h2]; rfl) (by rw [cell_of_row _ _ 1 _ _ _ h2]; rfl) (by rw [cell_of_row _ _ 2 _ _ _ h2]; rfl))
 generalize Tb.rcmp [a, b, c] [x, y, z] = R at hcon ⊢
 go_enter Tryz.func132, Tryz.ntmps132
 go_wp2_with fail
 go_region_with (go_at_call 199; refine (hcon _ (by rfl)).mono ?_; rintro e w1 ⟨rfl, rfl⟩)
 all_goals (go_wp2_with fail)
 exact bodyPost_ret (v := .int .i64 R) (by simp [results, Tryz.results132, go_sem]) rfl ⟨rfl, (((Below.refl _ _).alloc (Nat.le_refl _) _).alloc (by simp) _).drew⟩
end Go.Proofs.YtdmicblafmhflaaGreatDoor
