/- axiomkeep: what text writes, as tokens. No program here. -/
import Derived.Test.YtdmicblafmhflaaV4
namespace Go.Proofs.Ytdmicblafmhflaa
set_option linter.unusedSimpArgs false
set_option linter.unusedVariables false

/-- an atom, written -/
def wAtom (p : Nat) (ts : List Nat) : ByteArray := wloop ts 0 (Ax.gpred p ++ ⟨#[40]⟩) ++ ⟨#[41]⟩
def wA (b : Ax.KAtom) : ByteArray := wAtom (Ax.gpick b.pred 3) (Ax.gterms b)
def tbody : List Ax.KAtom → Nat → ByteArray → ByteArray
  | [], _, s => s
  | b :: l, k, s => tbody l (k + 1) ((if k = 0 then s ++ ⟨#[58, 45]⟩ else s ++ ⟨#[44]⟩) ++ wA b)
def trule (r : Ax.KRule) (s : ByteArray) : ByteArray := tbody (Ax.gbody r) 0 (s ++ wAtom (Ax.gpick r.head.pred 3) (Ax.ghead r)) ++ ⟨#[46]⟩
def trules : List Ax.KRule → ByteArray → ByteArray
  | [], s => s
  | r :: l, s => trules l (trule r s)

theorem gterms_ne (a : Ax.KAtom) : Ax.gterms a ≠ [] := by unfold Ax.gterms; split <;> simp
theorem ghead_ne (r : Ax.KRule) : Ax.ghead r ≠ [] := by
  unfold Ax.ghead
  intro h
  exact gterms_ne r.head (List.map_eq_nil_iff.1 h)
theorem wA_bytes (b : Ax.KAtom) : (wA b).data.toList = bytesI (Ax.atomI (Ax.gEA (Ax.gpick b.pred 3) (Ax.gterms b))) := written_bytes _ _ (gterms_ne b)

def kEA (b : Ax.KAtom) : Ax.EA := Ax.gEA (Ax.gpick b.pred 3) (Ax.gterms b)
theorem tbody_on : ∀ (l : List Ax.KAtom) (k : Nat) (s : ByteArray), 0 < k → (tbody l k s).data.toList = s.data.toList ++ l.flatMap fun b => 44 :: bytesI (Ax.atomI (kEA b))
  | [], _, s, _ => by simp [tbody]
  | b :: l, k, s, h => by
    rw [tbody, tbody_on l (k + 1) _ (by omega), if_neg (by omega)]
    simp only [ByteArray.data_append, Array.toList_append, wA_bytes]
    simp [kEA]
theorem atomsI_bytes : ∀ (l : List Ax.KAtom) (b : Ax.KAtom), bytesI (Ax.atomsI ((b :: l).map kEA)) = bytesI (Ax.atomI (kEA b)) ++ l.flatMap fun b => 44 :: bytesI (Ax.atomI (kEA b))
  | [], b => by simp [Ax.atomsI]
  | c :: l, b => by
    have ih := atomsI_bytes l c
    rw [List.map_cons] at ih
    rw [List.map_cons, List.map_cons, Ax.atomsI, bytesI_append, bytesI_cons, ih]
    simp [Ax.comma]
theorem trule_bytes (r : Ax.KRule) (s : ByteArray) : (trule r s).data.toList = s.data.toList ++ bytesI (Ax.ruleI (Ax.gER r)) := by
  have hb : (Ax.gER r).2 = (Ax.gbody r).map kEA := rfl
  have hh : (Ax.gER r).1 = Ax.gEA (Ax.gpick r.head.pred 3) (Ax.ghead r) := rfl
  have hw : (wAtom (Ax.gpick r.head.pred 3) (Ax.ghead r)).data.toList = bytesI (Ax.atomI (Ax.gER r).1) := by rw [hh]; exact written_bytes _ _ (ghead_ne r)
  unfold trule Ax.ruleI
  rw [hb]
  cases Ax.gbody r with
  | nil => simp [tbody, ByteArray.data_append, hw, bytesI_append, bytesI]
  | cons b l =>
    rw [tbody, if_pos rfl, ByteArray.data_append, Array.toList_append, tbody_on l 1 _ (by omega)]
    simp only [ByteArray.data_append, Array.toList_append, hw, wA_bytes]
    rw [if_neg (by simp), bytesI_append, bytesI_append, bytesI_cons, atomsI_bytes]
    simp [bytesI, kEA]
theorem trules_bytes : ∀ (l : List Ax.KRule) (s : ByteArray), (trules l s).data.toList = s.data.toList ++ bytesI (Ax.rulesI (l.map Ax.gER))
  | [], s => by simp [trules, Ax.rulesI, bytesI]
  | r :: l, s => by
    rw [trules, trules_bytes l, trule_bytes, List.map_cons]
    simp [Ax.rulesI, bytesI]
/-- the two rules that every text begins with -/
def tbase : ByteArray := ⟨(bytesI (Ax.rulesI Ax.gbase)).toArray⟩
theorem tbase_eq : tbase = ⟨#[110, 40, 88, 41, 58, 45, 110, 40, 88, 41, 44, 101, 40, 88, 44, 88, 41, 46, 110, 40, 88, 41, 58, 45, 110, 40, 88, 41, 44, 112, 195, 188, 40, 88, 44, 88, 41, 46]⟩ := by rfl
theorem text_bytes (l : List Ax.KRule) : trules (l.take 6) tbase = Ax.gtext l := by
  have h := trules_bytes (l.take 6) tbase
  have e : (trules (l.take 6) tbase).data.toList = (Ax.gtext l).data.toList := by
    rw [h]
    simp [tbase, Ax.gtext, Ax.gR, Ax.rulesI, bytesI]
  cases h1 : trules (l.take 6) tbase with | mk x =>
  cases h2 : Ax.gtext l with | mk y =>
  rw [h1, h2] at e
  simp at e
  rw [e]
end Go.Proofs.Ytdmicblafmhflaa
