/- Plain functions that mirror the reference's tokens. No program here. -/
import Derived.Test.YtdmicblafmhflaaGreatDoorC00
import Derived.Lib.Strings
set_option linter.unusedSimpArgs false
set_option linter.unusedVariables false
namespace Go.Proofs.YtdmicblafmhflaaGreatDoor.Ax
def isBl (s : ByteArray) (a : Nat) : Bool := decide (byte s a = 32) || decide (byte s a = 10)
def rskip (s : ByteArray) : Nat → Nat → Nat
 | 0, a => a
 | f + 1, a => if a < s.size ∧ isBl s a = true then rskip s f (a + 1) else a
structure RTok where
 kind : Nat
 text : ByteArray
 at_ : Nat
def rtokAt (s : ByteArray) (a : Nat) : RTok :=
 let x := rword s s.size a 0
 let c := byte s a
 if a = s.size then ⟨101, ⟨#[]⟩, a⟩
 else if 6 < x.2 then ⟨120, ⟨#[]⟩, a⟩
 else if 0 < x.2 ∧ 65 ≤ c ∧ c ≤ 90 then ⟨118, s.extract a x.1, a⟩
 else if 0 < x.2 then ⟨110, s.extract a x.1, a⟩
 else if c = 40 ∨ c = 41 ∨ c = 44 ∨ c = 46 then ⟨c, s.extract a (a + 1), a⟩
 else if c = 58 ∧ a + 1 < s.size ∧ byte s (a + 1) = 45 then ⟨58, ⟨#[58, 45]⟩, a⟩
 else ⟨120, ⟨#[]⟩, a⟩
def rtok (s : ByteArray) (a : Nat) : RTok := rtokAt s (rskip s s.size a)
theorem rskip_on {s : ByteArray} {f a : Nat} (h : a < s.size) (hb : isBl s a = true) : rskip s (f + 1) a = rskip s f (a + 1) := by simp [rskip, h, hb]
theorem rskip_stop {s : ByteArray} {f a : Nat} (h : ¬ (a < s.size ∧ isBl s a = true)) : rskip s f a = a := by
 cases f with
 | zero => rfl
 | succ f => simp only [rskip, if_neg h]
theorem rword_ge (s : ByteArray) : ∀ f i n, i ≤ (rword s f i n).1
 | 0, i, n => Nat.le_refl _
 | f + 1, i, n => by
  unfold rword
  split
  · split
    · have := rword_ge s f (i + (pt s i).2) (n + 1); omega
    · exact Nat.le_refl _
  · exact Nat.le_refl _
theorem rword_le (s : ByteArray) : ∀ f i n, i ≤ s.size → (rword s f i n).1 ≤ s.size
 | 0, i, n, h => h
 | f + 1, i, n, h => by
  unfold rword
  split
  · rename_i hi
    split
    · exact rword_le s f _ _ (pt_le s i hi)
    · exact h
  · exact h
end Go.Proofs.YtdmicblafmhflaaGreatDoor.Ax
/- The reference's tokens as a list. No program here. -/
namespace Go.Proofs.YtdmicblafmhflaaGreatDoor.Ax
def rtokens (s : ByteArray) : Nat → Nat → List RTok → List RTok
 | 0, _, acc => acc
 | f + 1, a, acc => if (rtok s a).kind = 101 ∨ (rtok s a).kind = 120 then acc ++ [rtok s a] else rtokens s f ((rtok s a).at_ + (rtok s a).text.size) (acc ++ [rtok s a])
def rtoks (s : ByteArray) : List RTok := rtokens s (s.size + 1) 0 []
theorem rtokens_end {s : ByteArray} {f a : Nat} {acc : List RTok} {t : RTok} (h : rtok s a = t) (hk : t.kind = 101 ∨ t.kind = 120) : rtokens s (f + 1) a acc = acc ++ [t] := by simp [rtokens, h, hk]
theorem rtokens_on {s : ByteArray} {f a : Nat} {acc : List RTok} {t : RTok} (h : rtok s a = t) (hk : ¬ (t.kind = 101 ∨ t.kind = 120)) : rtokens s (f + 1) a acc = rtokens s f (t.at_ + t.text.size) (acc ++ [t]) := by simp [rtokens, h, hk]
theorem rword_n (s : ByteArray) : ∀ f i n, (rword s f i n).2 + i ≤ (rword s f i n).1 + n
 | 0, i, n => by simp [rword]; omega
 | f + 1, i, n => by
  unfold rword
  split
  · split
    · rename_i hk
      have := rword_n s f (i + (pt s i).2) (n + 1)
      have := rok_pos hk
      omega
    · simp; omega
  · simp; omega
end Go.Proofs.YtdmicblafmhflaaGreatDoor.Ax
/- Tokens of the program as tokens of the reference. No program here. -/
namespace Go.Proofs.YtdmicblafmhflaaGreatDoor.Ax
def kc (k : Int) : Nat := if k = 0 then 120 else if k = 1 then 101 else if k = 2 then 110 else if k = 3 then 118 else if k = 4 then 40 else if k = 5 then 41 else if k = 6 then 44 else if k = 7 then 46 else 58
def conv (t : Tok) : RTok := ⟨kc t.kind, t.text, t.at_⟩
def Kinds (T : List Tok) : Prop := ∀ t, t ∈ T → 0 ≤ t.kind ∧ t.kind ≤ 8
theorem kc_inj : ∀ k j : Fin 9, kc (k.val : Int) = kc (j.val : Int) → k = j := by decide
theorem kc_ne (k : Int) (h0 : 0 ≤ k) (h8 : k ≤ 8) (j : Int) (hj0 : 0 ≤ j) (hj8 : j ≤ 8) : (((kc k : Nat) : Int) != ((kc j : Nat) : Int)) = decide (k ≠ j) := by
 rw [Bool.eq_iff_iff]
 simp only [bne_iff_ne, ne_eq, decide_eq_true_eq, Int.natCast_inj]
 obtain ⟨k, rfl⟩ := Int.eq_ofNat_of_zero_le h0
 obtain ⟨j, rfl⟩ := Int.eq_ofNat_of_zero_le hj0
 have := kc_inj ⟨k, by omega⟩ ⟨j, by omega⟩
 simp only [Fin.mk.injEq] at this
 constructor
 · intro h e; exact h (by rw [e])
 · intro h e; exact h (by rw [this e])
theorem kc_eq (k : Int) (h0 : 0 ≤ k) (h8 : k ≤ 8) (j : Int) (hj0 : 0 ≤ j) (hj8 : j ≤ 8) : (((kc k : Nat) : Int) == ((kc j : Nat) : Int)) = decide (k = j) := by
 have := kc_ne k h0 h8 j hj0 hj8
 rw [Bool.eq_iff_iff] at this ⊢
 simp only [bne_iff_ne, ne_eq, decide_eq_true_eq, beq_iff_eq] at this ⊢
 omega
end Go.Proofs.YtdmicblafmhflaaGreatDoor.Ax
/- The reference reads code points as Go does. No program here. -/
namespace Go.Proofs.YtdmicblafmhflaaGreatDoor.Ax
theorem decode_byte (s : ByteArray) (i : Nat) : Utf8.decode s i = Lib.decodeN (s.size - i) (byte s i) (byte s (i + 1)) (byte s (i + 2)) (byte s (i + 3)) := Lib.decode_at s i
theorem rfin_some (n lo c : Nat) : rfin n lo (some c) = if c < lo ∨ 1114111 < c ∨ (55296 ≤ c ∧ c ≤ 57343) then (0, 0) else (c, n) := rfl
set_option maxHeartbeats 2000000 in
theorem pt_core (n x0 x1 x2 x3 : Nat) (b0 : x0 < 256) (b1 : x1 < 256) (b2 : x2 < 256) (b3 : x3 < 256) :
 (if x0 < 128 then (x0, 1) else if x0 < 192 then (0, 0)
   else if x0 < 224 then rfin 2 128 (if n ≤ 1 ∨ x1 < 128 ∨ 191 < x1 then none else some ((x0 - 192) * 64 + x1 - 128))
   else if x0 < 240 then rfin 3 2048 (if n ≤ 1 ∨ x1 < 128 ∨ 191 < x1 then none else if n ≤ 2 ∨ x2 < 128 ∨ 191 < x2 then none else some (((x0 - 224) * 64 + x1 - 128) * 64 + x2 - 128))
   else if x0 < 248 then rfin 4 65536 (if n ≤ 1 ∨ x1 < 128 ∨ 191 < x1 then none else if n ≤ 2 ∨ x2 < 128 ∨ 191 < x2 then none else if n ≤ 3 ∨ x3 < 128 ∨ 191 < x3 then none else some ((((x0 - 240) * 64 + x1 - 128) * 64 + x2 - 128) * 64 + x3 - 128))
   else (0, 0)) = if Lib.decodeN n x0 x1 x2 x3 = (65533, 1) then (0, 0) else Lib.decodeN n x0 x1 x2 x3 := by
 have k1 : (1 < n ∧ x1 / 64 = 2) ↔ ¬ (n ≤ 1 ∨ x1 < 128 ∨ 191 < x1) := by omega
 have k2 : (2 < n ∧ x2 / 64 = 2) ↔ ¬ (n ≤ 2 ∨ x2 < 128 ∨ 191 < x2) := by omega
 have k3 : (3 < n ∧ x3 / 64 = 2) ↔ ¬ (n ≤ 3 ∨ x3 < 128 ∨ 191 < x3) := by omega
 by_cases h1 : x0 < 128
 · have hd : Lib.decodeN n x0 x1 x2 x3 = (x0, 1) := by simp [Lib.decodeN, h1]
   rw [hd, if_pos h1, if_neg (by simp; omega)]
 rw [if_neg h1]
 by_cases h2 : x0 < 192
 · have hd : Lib.decodeN n x0 x1 x2 x3 = (65533, 1) := by
    unfold Lib.decodeN
    rw [if_neg h1, if_neg (by omega), if_neg (by omega), if_neg (by omega)]
   rw [hd, if_pos h2, if_pos rfl]
 rw [if_neg h2]
 by_cases h3 : x0 < 224
 · rw [if_pos h3]
   by_cases c1 : n ≤ 1 ∨ x1 < 128 ∨ 191 < x1
   · have hd : Lib.decodeN n x0 x1 x2 x3 = (65533, 1) := by
      unfold Lib.decodeN
      rw [if_neg h1, if_neg (by omega), if_neg (by omega), if_neg (by omega)]
     rw [hd, if_pos c1, if_pos rfl]; rfl
   · rw [if_neg c1, rfin_some]
     have hc : x0 % 32 * 64 + x1 % 64 = (x0 - 192) * 64 + x1 - 128 := by omega
     have hd : Lib.decodeN n x0 x1 x2 x3 = if (x0 - 192) * 64 + x1 - 128 ≥ 128 then ((x0 - 192) * 64 + x1 - 128, 2) else (65533, 1) := by
      unfold Lib.decodeN
      rw [if_neg h1, if_pos (by omega), hc]
     rw [hd]
     by_cases c : (x0 - 192) * 64 + x1 - 128 ≥ 128
     · rw [if_pos c, if_neg (by omega), if_neg (by simp)]
     · rw [if_neg c, if_pos (by omega), if_pos rfl]
 rw [if_neg h3]
 by_cases h4 : x0 < 240
 · rw [if_pos h4]
   by_cases c1 : n ≤ 1 ∨ x1 < 128 ∨ 191 < x1
   · have hd : Lib.decodeN n x0 x1 x2 x3 = (65533, 1) := by
      unfold Lib.decodeN
      rw [if_neg h1, if_neg (by omega), if_neg (by omega), if_neg (by omega)]
     rw [hd, if_pos c1, if_pos rfl]; rfl
   rw [if_neg c1]
   by_cases c2 : n ≤ 2 ∨ x2 < 128 ∨ 191 < x2
   · have hd : Lib.decodeN n x0 x1 x2 x3 = (65533, 1) := by
      unfold Lib.decodeN
      rw [if_neg h1, if_neg (by omega), if_neg (by omega), if_neg (by omega)]
     rw [hd, if_pos c2, if_pos rfl]; rfl
   rw [if_neg c2, rfin_some]
   have hc : x0 % 16 * 4096 + x1 % 64 * 64 + x2 % 64 = ((x0 - 224) * 64 + x1 - 128) * 64 + x2 - 128 := by omega
   generalize hC : ((x0 - 224) * 64 + x1 - 128) * 64 + x2 - 128 = C at *
   have hd : Lib.decodeN n x0 x1 x2 x3 = if C ≥ 2048 ∧ (C < 55296 ∨ (57344 ≤ C ∧ C ≤ 1114111)) then (C, 3) else (65533, 1) := by
    unfold Lib.decodeN
    rw [if_neg h1, if_neg (by omega), if_pos (by omega), hc]
   rw [hd]
   by_cases c : C ≥ 2048 ∧ (C < 55296 ∨ (57344 ≤ C ∧ C ≤ 1114111))
   · rw [if_pos c, if_neg (by omega), if_neg (by simp)]
   · rw [if_neg c, if_pos (by omega), if_pos rfl]
 rw [if_neg h4]
 by_cases h5 : x0 < 248
 · rw [if_pos h5]
   by_cases c1 : n ≤ 1 ∨ x1 < 128 ∨ 191 < x1
   · have hd : Lib.decodeN n x0 x1 x2 x3 = (65533, 1) := by
      unfold Lib.decodeN
      rw [if_neg h1, if_neg (by omega), if_neg (by omega), if_neg (by omega)]
     rw [hd, if_pos c1, if_pos rfl]; rfl
   rw [if_neg c1]
   by_cases c2 : n ≤ 2 ∨ x2 < 128 ∨ 191 < x2
   · have hd : Lib.decodeN n x0 x1 x2 x3 = (65533, 1) := by
      unfold Lib.decodeN
      rw [if_neg h1, if_neg (by omega), if_neg (by omega), if_neg (by omega)]
     rw [hd, if_pos c2, if_pos rfl]; rfl
   rw [if_neg c2]
   by_cases c3 : n ≤ 3 ∨ x3 < 128 ∨ 191 < x3
   · have hd : Lib.decodeN n x0 x1 x2 x3 = (65533, 1) := by
      unfold Lib.decodeN
      rw [if_neg h1, if_neg (by omega), if_neg (by omega), if_neg (by omega)]
     rw [hd, if_pos c3, if_pos rfl]; rfl
   rw [if_neg c3, rfin_some]
   have hc : x0 % 8 * 262144 + x1 % 64 * 4096 + x2 % 64 * 64 + x3 % 64 = (((x0 - 240) * 64 + x1 - 128) * 64 + x2 - 128) * 64 + x3 - 128 := by omega
   generalize hC : (((x0 - 240) * 64 + x1 - 128) * 64 + x2 - 128) * 64 + x3 - 128 = C at *
   have hd : Lib.decodeN n x0 x1 x2 x3 = if C ≥ 65536 ∧ (C < 55296 ∨ (57344 ≤ C ∧ C ≤ 1114111)) then (C, 4) else (65533, 1) := by
    unfold Lib.decodeN
    rw [if_neg h1, if_neg (by omega), if_neg (by omega), if_pos (by omega), hc]
   rw [hd]
   by_cases c : C ≥ 65536 ∧ (C < 55296 ∨ (57344 ≤ C ∧ C ≤ 1114111))
   · rw [if_pos c, if_neg (by omega), if_neg (by simp)]
   · rw [if_neg c, if_pos (by omega), if_pos rfl]
 rw [if_neg h5]
 have hd : Lib.decodeN n x0 x1 x2 x3 = (65533, 1) := by
  unfold Lib.decodeN
  rw [if_neg h1, if_neg (by omega), if_neg (by omega), if_neg (by omega)]
 rw [hd, if_pos rfl]
theorem pt_decode (s : ByteArray) (i : Nat) (h : i < s.size) : pt s i = if Utf8.decode s i = (65533, 1) then (0, 0) else Utf8.decode s i := by
 rw [decode_byte]
 have b0 := byte_lt s i
 have b1 := byte_lt s (i + 1)
 have b2 := byte_lt s (i + 2)
 have b3 := byte_lt s (i + 3)
 have e1 : (s.size ≤ i + 1) = (s.size - i ≤ 1) := by apply propext; omega
 have e2 : (s.size ≤ i + 2) = (s.size - i ≤ 2) := by apply propext; omega
 have e3 : (s.size ≤ i + 3) = (s.size - i ≤ 3) := by apply propext; omega
 unfold pt
 simp only [rcont, e1, e2, e3, Nat.reduceAdd]
 generalize byte s i = x0 at *
 generalize byte s (i + 1) = x1 at *
 generalize byte s (i + 2) = x2 at *
 generalize byte s (i + 3) = x3 at *
 have hn : 0 < s.size - i := by omega
 generalize s.size - i = n at *
 clear e1 e2 e3 h
 exact pt_core n x0 x1 x2 x3 b0 b1 b2 b3
end Go.Proofs.YtdmicblafmhflaaGreatDoor.Ax
/- The reference's tokens are the program's. No program here. -/
namespace Go.Proofs.YtdmicblafmhflaaGreatDoor.Ax
theorem getD_byte (s : ByteArray) (i : Nat) : (s.data.toList.getD i 0).toNat = byte s i := by
 unfold byte
 cases s with
 | mk d =>
  show (d.toList.getD i 0).toNat = (d[i]!).toNat
  by_cases h : i < d.size
  · rw [getElem!_pos d i h]; simp [List.getD, h]
  · rw [getElem!_neg d i h]; simp [List.getD, h]; rfl
theorem extract_list (s : ByteArray) (p q : Nat) : (s.extract p q).data.toList = (s.data.toList.drop p).take (q - p) := by
 exact Lib.extract_data s p q
theorem ext_list {a b : ByteArray} (h : a.data.toList = b.data.toList) : a = b := by
 rcases a with ⟨⟨a⟩⟩
 rcases b with ⟨⟨b⟩⟩
 simp at h
 rw [h]
theorem tail_byte (s : ByteArray) (p q : Nat) : byte (s.extract p s.size) q = byte s (p + q) := by
 rw [← getD_byte, ← getD_byte, extract_list]
 have : (s.data.toList.drop p).take (s.size - p) = s.data.toList.drop p := by
  apply List.take_of_length_le
  simp
 rw [this]
 simp [List.getD, List.getElem?_drop]
theorem tail_size (s : ByteArray) (p : Nat) : (s.extract p s.size).size = s.size - p := by simp
theorem decode_tail (s : ByteArray) (p q : Nat) : Utf8.decode (s.extract p s.size) q = Utf8.decode s (p + q) := by
 rw [decode_byte, decode_byte, tail_size, tail_byte, tail_byte, tail_byte, tail_byte, Nat.sub_sub]
 congr 1
theorem extract_tail (s : ByteArray) (p q : Nat) : (s.extract p s.size).extract q (s.extract p s.size).size = s.extract (p + q) s.size := by
 apply ext_list
 rw [extract_list, extract_list, extract_list, tail_size, List.drop_take, List.drop_drop, List.take_take]
 congr 1
 omega
end Go.Proofs.YtdmicblafmhflaaGreatDoor.Ax
/- The reference's words are the program's. No program here. -/
namespace Go.Proofs.YtdmicblafmhflaaGreatDoor.Ax
theorem width_pos' (s : ByteArray) (pos : Nat) (h : pos < s.size) : 1 ≤ (Utf8.decode s pos).2 := by
 by_cases ha : (s[pos]'h).toNat < 128
 · rw [decode_ascii s pos h ha]
   exact Nat.le_refl _
 · exact (decode_high s pos h (by omega)).2
theorem drop_cons (s : ByteArray) (i : Nat) (h : i < s.size) : ∃ a : UInt8, s.data.toList.drop i = a :: s.data.toList.drop (i + 1) ∧ a.toNat = byte s i := by
 have hl : i < s.data.toList.length := by simpa using h
 refine ⟨s.data.toList[i], List.drop_eq_getElem_cons hl, ?_⟩
 rw [← getD_byte, List.getD_eq_getElem?_getD, List.getElem?_eq_getElem hl]
 rfl
theorem drop_none (s : ByteArray) (i : Nat) (h : ¬ i < s.size) : s.data.toList.drop i = [] := List.drop_eq_nil_of_le (by simpa using h)
theorem tail_list (s : ByteArray) (i : Nat) : (s.extract i s.size).data.toList = s.data.toList.drop i := by
 rw [extract_list]
 apply List.take_of_length_le
 simp
theorem bytes3 (s : ByteArray) (i : Nat) (a b c : UInt8) : pre (s.extract i s.size) ⟨#[a, b, c]⟩ = true ↔ (i + 2 < s.size ∧ byte s i = a.toNat ∧ byte s (i + 1) = b.toNat ∧ byte s (i + 2) = c.toNat) := by
 unfold pre
 rw [tail_list]
 show List.isPrefixOf [a, b, c] _ = true ↔ _
 by_cases h0 : i < s.size
 · obtain ⟨x, hx, ex⟩ := drop_cons s i h0
   by_cases h1 : i + 1 < s.size
   · obtain ⟨y, hy, ey⟩ := drop_cons s (i + 1) h1
     by_cases h2 : i + 1 + 1 < s.size
     · obtain ⟨z, hz, ez⟩ := drop_cons s (i + 1 + 1) h2
       rw [hx, hy, hz]
       simp only [List.isPrefixOf, Bool.and_true, Bool.and_eq_true, beq_iff_eq]
       rw [← ex, ← ey, ← ez]
       constructor
       · rintro ⟨rfl, rfl, rfl⟩; exact ⟨h2, rfl, rfl, rfl⟩
       · rintro ⟨_, e1, e2, e3⟩; exact ⟨(UInt8.toNat_inj.1 e1).symm, (UInt8.toNat_inj.1 e2).symm, (UInt8.toNat_inj.1 e3).symm⟩
     · rw [hx, hy, drop_none s _ h2]
       simp [List.isPrefixOf]
       omega
   · rw [hx, drop_none s _ h1]
     simp [List.isPrefixOf]
     omega
 · rw [drop_none s _ h0]
   simp [List.isPrefixOf]
   omega
theorem bytes2 (s : ByteArray) (i : Nat) (a b : UInt8) : pre (s.extract i s.size) ⟨#[a, b]⟩ = true ↔ (i + 1 < s.size ∧ byte s i = a.toNat ∧ byte s (i + 1) = b.toNat) := by
 unfold pre
 rw [tail_list]
 show List.isPrefixOf [a, b] _ = true ↔ _
 by_cases h0 : i < s.size
 · obtain ⟨x, hx, ex⟩ := drop_cons s i h0
   by_cases h1 : i + 1 < s.size
   · obtain ⟨y, hy, ey⟩ := drop_cons s (i + 1) h1
     rw [hx, hy]
     simp only [List.isPrefixOf, Bool.and_true, Bool.and_eq_true, beq_iff_eq]
     rw [← ex, ← ey]
     constructor
     · rintro ⟨rfl, rfl⟩; exact ⟨h1, rfl, rfl⟩
     · rintro ⟨_, e1, e2⟩; exact ⟨(UInt8.toNat_inj.1 e1).symm, (UInt8.toNat_inj.1 e2).symm⟩
   · rw [hx, drop_none s _ h1]
     simp [List.isPrefixOf]
     omega
 · rw [drop_none s _ h0]
   simp [List.isPrefixOf]
   omega
theorem decode_error (s : ByteArray) (i w : Nat) (h : i < s.size) (hd : Utf8.decode s i = (65533, w)) :
 (w = 1 ∧ pre (s.extract i s.size) ⟨#[239, 191, 189]⟩ = false) ∨ (w = 3 ∧ pre (s.extract i s.size) ⟨#[239, 191, 189]⟩ = true) := by
 have b1 := byte_lt s (i + 1)
 have b2 := byte_lt s (i + 2)
 have hp := bytes3 s i 239 191 189
 have e1 : (239 : UInt8).toNat = 239 := rfl
 have e2 : (191 : UInt8).toNat = 191 := rfl
 have e3 : (189 : UInt8).toNat = 189 := rfl
 rw [e1, e2, e3] at hp
 by_cases hb : i + 2 < s.size ∧ byte s i = 239 ∧ byte s (i + 1) = 191 ∧ byte s (i + 2) = 189
 · right
   refine ⟨?_, hp.2 hb⟩
   rw [decode_byte] at hd
   obtain ⟨h1, h2, h3, h4⟩ := hb
   rw [h2, h3, h4] at hd
   have : Lib.decodeN (s.size - i) 239 191 189 (byte s (i + 3)) = (65533, 3) := by
    unfold Lib.decodeN
    rw [if_neg (by omega), if_neg (by omega), if_pos (by omega)]
    rfl
   rw [this] at hd
   simp at hd
   exact hd.symm
 · left
   have hpf : pre (s.extract i s.size) ⟨#[239, 191, 189]⟩ = false := by
    rw [Bool.eq_false_iff]
    exact fun h => hb (hp.1 h)
   refine ⟨?_, hpf⟩
   rw [decode_byte] at hd
   unfold Lib.decodeN at hd
   split at hd
   · simp at hd; omega
   · split at hd
     · split at hd
       · simp at hd; omega
       · simp at hd; omega
     · split at hd
       · split at hd
         · simp at hd; omega
         · simp at hd; omega
       · split at hd
         · split at hd
           · simp at hd; omega
           · simp at hd; omega
         · simp at hd; omega
theorem letter_eq (s : ByteArray) (i : Nat) (h : i < s.size) : small (s.extract i s.size) (Utf8.decode s i).1 = (decide (0 < (pt s i).2) && rsmall (pt s i).1) := by
 rw [pt_decode s i h]
 rcases hd : Utf8.decode s i with ⟨r, w⟩
 by_cases hr : r = 65533
 · subst hr
   rcases decode_error s i w h hd with ⟨rfl, hp⟩ | ⟨rfl, hp⟩
   · simp [small, hp, rsmall]
   · simp [small, hp, rsmall]
 · have hw : 1 ≤ w := by have := width_pos' s i h; rw [hd] at this; exact this
   rw [if_neg (by simp [hr])]
   have : (r : Int) ≠ 65533 := by omega
   simp only [small, if_neg this, rsmall]
   have : decide (0 < w) = true := by simp; omega
   rw [this, Bool.true_and]
theorem range_eq (s : ByteArray) (i : Nat) (h : i < s.size) (lo hi : Nat) (h0 : 0 < lo) (h2 : hi < 65533) : (decide ((lo : Int) ≤ (Utf8.decode s i).1) && decide (((Utf8.decode s i).1 : Int) ≤ hi)) = (decide (0 < (pt s i).2) && (decide (lo ≤ (pt s i).1) && decide ((pt s i).1 ≤ hi))) := by
 rw [pt_decode s i h]
 rcases hd : Utf8.decode s i with ⟨r, w⟩
 have hw : 1 ≤ w := by have := width_pos' s i h; rw [hd] at this; exact this
 by_cases hr : (r, w) = (65533, 1)
 · rw [if_pos hr]
   simp at hr
   rw [Bool.eq_iff_iff]
   simp
   omega
 · rw [if_neg hr]
   rw [Bool.eq_iff_iff]
   simp
   omega
end Go.Proofs.YtdmicblafmhflaaGreatDoor.Ax
/- The reference's tokens are the program's: words, tokens, lists. No program here. -/
namespace Go.Proofs.YtdmicblafmhflaaGreatDoor.Ax
theorem width_le' (s : ByteArray) (pos : Nat) (h : pos < s.size) : pos + (Utf8.decode s pos).2 ≤ s.size := by
 have := pt_le s pos h
 rw [pt_decode s pos h] at this
 split at this
 · rename_i e; rw [e]; omega
 · exact this
theorem digit_eq (s : ByteArray) (i : Nat) (h : i < s.size) : digit (Utf8.decode s i).1 = (decide (0 < (pt s i).2) && (decide (48 ≤ (pt s i).1) && decide ((pt s i).1 ≤ 57))) := range_eq s i h 48 57 (by decide) (by decide)
theorem capital_eq (s : ByteArray) (i : Nat) (h : i < s.size) : capital (Utf8.decode s i).1 = (decide (0 < (pt s i).2) && (decide (65 ≤ (pt s i).1) && decide ((pt s i).1 ≤ 90))) := range_eq s i h 65 90 (by decide) (by decide)
theorem rok_zero (s : ByteArray) (i : Nat) (h : i < s.size) : rok s i 0 = (small (s.extract i s.size) (Utf8.decode s i).1 || capital (Utf8.decode s i).1) := by
 rw [letter_eq s i h, capital_eq s i h]
 unfold rok
 cases decide (0 < (pt s i).2) <;> cases rsmall (pt s i).1 <;> simp
theorem rok_more (s : ByteArray) (i n : Nat) (h : i < s.size) (hn : 0 < n) : rok s i n = (small (s.extract i s.size) (Utf8.decode s i).1 || digit (Utf8.decode s i).1) := by
 rw [letter_eq s i h, digit_eq s i h]
 unfold rok
 have : decide (n = 0) = false := by simp; omega
 have h2 : decide (0 < n) = true := by simp; omega
 rw [this, h2]
 cases decide (0 < (pt s i).2) <;> cases rsmall (pt s i).1 <;> simp
theorem rok_width (s : ByteArray) (i n : Nat) (h : i < s.size) (hk : rok s i n = true) : (pt s i).2 = (Utf8.decode s i).2 := by
 have := rok_pos hk
 rw [pt_decode s i h] at this ⊢
 split at this
 · simp at this
 · rename_i hne; rw [if_neg hne]
theorem word_more (s : ByteArray) (p : Nat) (hp : p ≤ s.size) : ∀ f q n f', 0 < q → 0 < n → p + q ≤ s.size → s.size ≤ p + q + f → s.size ≤ p + q + f' →
 rword s f' (p + q) n = (p + (wordLoop (s.extract p s.size) f q n).1, (wordLoop (s.extract p s.size) f q n).2)
 | 0, q, n, f', hq, hn, hl, hf, _ => by
  have : p + q = s.size := by omega
  rw [rword_end (by omega)]
  simp only [wordLoop, tail_size]
  congr 1
  omega
 | f + 1, q, n, f', hq, hn, hl, hf, hf' => by
  by_cases hlt : p + q < s.size
  · have hq' : q < (s.extract p s.size).size := by rw [tail_size]; omega
    have hs : stops (s.extract p s.size) q = !rok s (p + q) n := by
     rw [rok_more s (p + q) n hlt hn]
     unfold stops tail
     rw [decode_tail, extract_tail]
     have : decide (0 < q) = true := by simp; omega
     rw [this]
     cases small (s.extract (p + q) s.size) (Utf8.decode s (p + q)).1 <;> cases digit (Utf8.decode s (p + q)).1 <;> rfl
    unfold wordLoop
    rw [if_pos hq', hs]
    cases hk : rok s (p + q) n
    · rw [rword_stop hk]
      simp
    · obtain ⟨g, rfl⟩ : ∃ g, f' = g + 1 := ⟨f' - 1, by omega⟩
      rw [rword_on hlt hk, rok_width s (p + q) n hlt hk, decode_tail]
      have hw := width_pos' s (p + q) hlt
      have hw2 := width_le' s (p + q) hlt
      simp only [Bool.not_true, Bool.false_eq_true, if_false]
      rw [Nat.add_assoc p q]
      exact word_more s p hp f (q + (Utf8.decode s (p + q)).2) (n + 1) g (by omega) (by omega) (by omega) (by omega) (by omega)
  · have hq' : ¬ q < (s.extract p s.size).size := by rw [tail_size]; omega
    rw [rword_end hlt]
    unfold wordLoop
    rw [if_neg hq']
    have : p + q = s.size := by omega
    simp only [tail_size]
    congr 1
    omega
theorem wl_on (s : ByteArray) (f p n : Nat) (h : p < s.size) (hs : stops s p = false) : wordLoop s (f + 1) p n = wordLoop s f (p + (Utf8.decode s p).2) (n + 1) := by simp [wordLoop, h, hs]
theorem word_eq (s : ByteArray) (p : Nat) (hp : p < s.size) (hk : rok s p 0 = true) :
 rword s s.size p 0 = (p + (wordLoop (s.extract p s.size) (s.extract p s.size).size 0 0).1, (wordLoop (s.extract p s.size) (s.extract p s.size).size 0 0).2) := by
 obtain ⟨g, hg⟩ : ∃ g, s.size = g + 1 := ⟨s.size - 1, by omega⟩
 have hsz : (s.extract p s.size).size = s.size - p := tail_size s p
 obtain ⟨f, hf⟩ : ∃ f, (s.extract p s.size).size = f + 1 := ⟨s.size - p - 1, by omega⟩
 have e1 : rword s s.size p 0 = rword s g (p + (Utf8.decode s p).2) 1 := by
  conv => lhs; rw [hg]
  rw [rword_on hp hk, rok_width s p 0 hp hk]
 have e2 : wordLoop (s.extract p s.size) (s.extract p s.size).size 0 0 = wordLoop (s.extract p s.size) f ((Utf8.decode s p).2) 1 := by
  have hst : stops (s.extract p s.size) 0 = false := by simp [stops]
  have := wl_on (s.extract p s.size) f 0 0 (by omega) hst
  rw [decode_tail] at this
  rw [hf, this]
  simp
 rw [e1, e2]
 have hw := width_pos' s p hp
 have hw2 := width_le' s p hp
 exact word_more s p (by omega) f _ 1 g (by omega) (by omega) hw2 (by omega) (by omega)
theorem decode_small (s : ByteArray) (p : Nat) (hp : p < s.size) (c : Nat) (hc : c < 128) : (Utf8.decode s p).1 = c ↔ byte s p = c := by
 by_cases ha : (s[p]'hp).toNat < 128
 · rw [decode_ascii s p hp ha, byte_get s p hp]
 · have h1 := (decode_high s p hp (by omega)).1
   rw [byte_get s p hp] at ha
   constructor <;> intro h <;> omega
theorem decode_w1 (s : ByteArray) (p : Nat) (hp : p < s.size) (hc : byte s p < 128) : Utf8.decode s p = (byte s p, 1) := by
 rw [← byte_get s p hp] at hc ⊢
 exact decode_ascii s p hp hc
theorem capital_byte (s : ByteArray) (p : Nat) (hp : p < s.size) : capital (Utf8.decode s p).1 = decide (65 ≤ byte s p ∧ byte s p ≤ 90) := by
 by_cases ha : byte s p < 128
 · rw [decode_w1 s p hp ha]
   unfold capital
   rw [Bool.eq_iff_iff]
   simp
   omega
 · have h1 := (decode_high s p hp (by rw [byte_get s p hp]; omega)).1
   have : capital (Utf8.decode s p).1 = false := by
    unfold capital
    simp
    omega
   rw [this]
   symm
   simp
   omega
end Go.Proofs.YtdmicblafmhflaaGreatDoor.Ax
/- The reference's tokens are the program's: lists. No program here. -/
namespace Go.Proofs.YtdmicblafmhflaaGreatDoor.Ax
theorem extract_none (s : ByteArray) (p : Nat) : s.extract p (p + 0) = ⟨#[]⟩ := by
 apply ext_list
 rw [extract_list]
 simp
theorem rword_zero (s : ByteArray) (p : Nat) (hk : rok s p 0 = false) : rword s s.size p 0 = (p, 0) := rword_stop hk
theorem word_pos (s : ByteArray) (p : Nat) (hp : p < s.size) (hk : rok s p 0 = true) : 0 < (rword s s.size p 0).2 := by
 obtain ⟨g, hg⟩ : ∃ g, s.size = g + 1 := ⟨s.size - 1, by omega⟩
 have h1 : rword s s.size p 0 = rword s g (p + (pt s p).2) 1 := by
  conv => lhs; rw [hg]
  exact rword_on hp hk
 rw [h1]
 have : ∀ f i n, n ≤ (rword s f i n).2 := by
  intro f
  induction f with
  | zero => intro i n; exact Nat.le_refl _
  | succ f ih =>
   intro i n
   unfold rword
   split
   · split
     · have := ih (i + (pt s i).2) (n + 1); omega
     · exact Nat.le_refl _
   · exact Nat.le_refl _
 exact this _ _ _
theorem tok_eq (s : ByteArray) (p : Nat) (hp : p < s.size) :
 rtokAt s p = conv ⟨(firstTok (s.extract p s.size) (Utf8.decode s p).1).1, p, s.extract p (p + (firstTok (s.extract p s.size) (Utf8.decode s p).1).2)⟩ := by
 have hne : ¬ p = s.size := by omega
 have d40 := decode_small s p hp 40 (by decide)
 have d41 := decode_small s p hp 41 (by decide)
 have d44 := decode_small s p hp 44 (by decide)
 have d46 := decode_small s p hp 46 (by decide)
 have hpre := bytes2 s p 58 45
 rw [show (58 : UInt8).toNat = 58 from rfl, show (45 : UInt8).toNat = 45 from rfl] at hpre
 have hr0 := rok_zero s p hp
 have hcap := capital_byte s p hp
 have hlet : ∀ c : Nat, c < 65 → byte s p = c → rok s p 0 = false := by
  intro c hc hb
  rw [hr0, hcap, letter_eq s p hp]
  have hpt : pt s p = (c, 1) := by simp [pt, hb]; omega
  rw [hpt, hb]
  simp [rsmall]
  omega
 unfold firstTok
 by_cases h40 : ((Utf8.decode s p).1 : Int) = 40
 · have hb : byte s p = 40 := d40.1 (by omega)
   rw [if_pos h40]
   unfold rtokAt
   rw [rword_zero s p (hlet 40 (by decide) hb), hb]
   simp [hne, conv, kc]
 by_cases h41 : ((Utf8.decode s p).1 : Int) = 41
 · have hb : byte s p = 41 := d41.1 (by omega)
   rw [if_neg h40, if_pos h41]
   unfold rtokAt
   rw [rword_zero s p (hlet 41 (by decide) hb), hb]
   simp [hne, conv, kc]
 by_cases h44 : ((Utf8.decode s p).1 : Int) = 44
 · have hb : byte s p = 44 := d44.1 (by omega)
   rw [if_neg h40, if_neg h41, if_pos h44]
   unfold rtokAt
   rw [rword_zero s p (hlet 44 (by decide) hb), hb]
   simp [hne, conv, kc]
 by_cases h46 : ((Utf8.decode s p).1 : Int) = 46
 · have hb : byte s p = 46 := d46.1 (by omega)
   rw [if_neg h40, if_neg h41, if_neg h44, if_pos h46]
   unfold rtokAt
   rw [rword_zero s p (hlet 46 (by decide) hb), hb]
   simp [hne, conv, kc]
 rw [if_neg h40, if_neg h41, if_neg h44, if_neg h46]
 have b4 : ¬ (byte s p = 40 ∨ byte s p = 41 ∨ byte s p = 44 ∨ byte s p = 46) := by
  rintro (e | e | e | e)
  · exact h40 (by have := d40.2 e; omega)
  · exact h41 (by have := d41.2 e; omega)
  · exact h44 (by have := d44.2 e; omega)
  · exact h46 (by have := d46.2 e; omega)
 by_cases hc : pre (s.extract p s.size) ⟨#[58, 45]⟩ = true
 · obtain ⟨hs, hb0, hb1⟩ := hpre.1 hc
   rw [if_pos hc]
   unfold rtokAt
   rw [rword_zero s p (hlet 58 (by decide) hb0), if_neg hne]
   simp only [hb0, hb1, hs]
   simp only [conv, kc]
   have : s.extract p (p + 2) = ⟨#[58, 45]⟩ := by
    apply ext_list
    rw [extract_list]
    obtain ⟨x, hx, ex⟩ := drop_cons s p hp
    obtain ⟨y, hy, ey⟩ := drop_cons s (p + 1) hs
    rw [hx, hy]
    have hx58 : x = 58 := UInt8.toNat_inj.1 (by rw [ex, hb0]; rfl)
    have hy45 : y = 45 := UInt8.toNat_inj.1 (by rw [ey, hb1]; rfl)
    rw [hx58, hy45]
    simp
   rw [this]
   simp
 rw [if_neg hc]
 have hnc : ¬ (byte s p = 58 ∧ p + 1 < s.size ∧ byte s (p + 1) = 45) := fun ⟨a, b, c⟩ => hc (hpre.2 ⟨b, a, c⟩)
 by_cases hsm : small (s.extract p s.size) (Utf8.decode s p).1 = true
 · have hk : rok s p 0 = true := by rw [hr0, hsm]; rfl
   have hcf : ¬ (65 ≤ byte s p ∧ byte s p ≤ 90) := by
    intro h
    have : capital (Utf8.decode s p).1 = true := by rw [hcap]; simp; exact h
    unfold capital at this
    simp at this
    unfold small at hsm
    split at hsm
    · omega
    · simp at hsm; omega
   have hwp := word_pos s p hp hk
   rw [if_pos hsm]
   unfold rtokAt word
   rw [word_eq s p hp hk] at hwp ⊢
   generalize wordLoop (s.extract p s.size) (s.extract p s.size).size 0 0 = x at *
   simp only at hwp
   simp only [if_neg hne]
   by_cases h6 : 6 < x.2
   · simp only [if_pos h6, extract_none]; rfl
   · have : ¬ (0 < x.2 ∧ 65 ≤ byte s p ∧ byte s p ≤ 90) := fun h => hcf h.2
     simp only [if_neg h6, if_neg this, if_pos hwp]; rfl
 rw [if_neg hsm]
 by_cases hcp : capital (Utf8.decode s p).1 = true
 · have hk : rok s p 0 = true := by rw [hr0, hcp]; simp
   have hct : 65 ≤ byte s p ∧ byte s p ≤ 90 := by rw [hcap] at hcp; simpa using hcp
   have hwp := word_pos s p hp hk
   rw [if_pos hcp]
   unfold rtokAt word
   rw [word_eq s p hp hk] at hwp ⊢
   generalize wordLoop (s.extract p s.size) (s.extract p s.size).size 0 0 = x at *
   simp only at hwp
   simp only [if_neg hne]
   by_cases h6 : 6 < x.2
   · simp only [if_pos h6, extract_none]; rfl
   · simp only [if_neg h6, if_pos (And.intro hwp hct)]; rfl
 · have hk : rok s p 0 = false := by
    rw [hr0]
    simp at hsm hcp
    rw [hsm, hcp]
    rfl
   rw [if_neg hcp]
   unfold rtokAt
   rw [rword_zero s p hk]
   simp only [if_neg hne, if_neg b4, if_neg hnc, extract_none]
   simp [conv, kc]
end Go.Proofs.YtdmicblafmhflaaGreatDoor.Ax
