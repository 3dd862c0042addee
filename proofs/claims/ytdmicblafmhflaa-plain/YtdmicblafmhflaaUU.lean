/- A token's bytes tell the token, wherever they stand. No program here. -/
import Derived.Test.YtdmicblafmhflaaQQ
namespace Go.Proofs.Ytdmicblafmhflaa.Ax
set_option linter.unusedSimpArgs false
set_option linter.unusedVariables false

/-- m bytes of s from a on are m bytes of p from b on -/
structure Same (s : ByteArray) (a : Nat) (p : ByteArray) (b m : Nat) : Prop where
  hs : a + m ≤ s.size
  hp : b + m ≤ p.size
  eq : ∀ k, k < m → byte s (a + k) = byte p (b + k)
theorem Same.at0 {s p : ByteArray} {a b m : Nat} (h : Same s a p b m) (hm : 0 < m) : byte s a = byte p b := h.eq 0 hm
theorem Same.drop {s p : ByteArray} {a b m : Nat} (h : Same s a p b m) (k : Nat) (hk : k ≤ m) : Same s (a + k) p (b + k) (m - k) :=
  ⟨by have := h.hs; omega, by have := h.hp; omega, fun j hj => by have := h.eq (k + j) (by omega); rw [← Nat.add_assoc, ← Nat.add_assoc] at this; exact this⟩

theorem rcont_same {s p : ByteArray} {a b m : Nat} (h : Same s a p b m) : ∀ j k c, k + j ≤ m → rcont s a j k c = rcont p b j k c
  | 0, _, _, _ => rfl
  | j + 1, k, c, hk => by
    have e := h.eq k (by omega)
    have h1 := h.hs
    have h2 := h.hp
    unfold rcont
    rw [e]
    have hz : (s.size ≤ a + k ∨ byte p (b + k) < 128 ∨ 191 < byte p (b + k)) ↔ (p.size ≤ b + k ∨ byte p (b + k) < 128 ∨ 191 < byte p (b + k)) := by omega
    rw [rcont_same h j (k + 1) _ (by omega)]
    simp only [hz]

theorem rfin_width (n lo : Nat) (o : Option Nat) : (rfin n lo o).2 = 0 ∨ (rfin n lo o).2 = n := by
  unfold rfin
  split
  · simp
  · split <;> simp

theorem pt_same {s p : ByteArray} {a b m : Nat} (h : Same s a p b m) (hw : 0 < (pt s a).2) (hm : (pt s a).2 ≤ m) : pt p b = pt s a := by
  have h0 := h.at0 (by omega)
  have key : ∀ n lo c, 0 < (rfin (n + 1) lo (rcont s a n 1 c)).2 → (rfin (n + 1) lo (rcont s a n 1 c)).2 ≤ m → rfin (n + 1) lo (rcont p b n 1 c) = rfin (n + 1) lo (rcont s a n 1 c) := by
    intro n lo c h1 h2
    have := rfin_width (n + 1) lo (rcont s a n 1 c)
    rw [rcont_same h n 1 c (by omega)]
  unfold pt at hw hm ⊢
  simp only at hw hm ⊢
  rw [← h0]
  by_cases c1 : byte s a < 128
  · rw [if_pos c1, if_pos c1]
  · rw [if_neg c1] at hw hm ⊢
    rw [if_neg c1]
    by_cases c2 : byte s a < 192
    · rw [if_pos c2, if_pos c2]
    · rw [if_neg c2] at hw hm ⊢
      rw [if_neg c2]
      by_cases c3 : byte s a < 224
      · rw [if_pos c3] at hw hm ⊢
        rw [if_pos c3]
        exact key 1 _ _ hw hm
      · rw [if_neg c3] at hw hm ⊢
        rw [if_neg c3]
        by_cases c4 : byte s a < 240
        · rw [if_pos c4] at hw hm ⊢
          rw [if_pos c4]
          exact key 2 _ _ hw hm
        · rw [if_neg c4] at hw hm ⊢
          rw [if_neg c4]
          by_cases c5 : byte s a < 248
          · rw [if_pos c5] at hw hm ⊢
            rw [if_pos c5]
            exact key 3 _ _ hw hm
          · rw [if_neg c5, if_neg c5]

theorem rok_same {s p : ByteArray} {a b m : Nat} (h : Same s a p b m) (n : Nat) (hk : rok s a n = true) (hm : (pt s a).2 ≤ m) : rok p b n = true ∧ (pt p b).2 = (pt s a).2 := by
  have hw : 0 < (pt s a).2 := by
    unfold rok at hk
    simp only [Bool.and_eq_true, decide_eq_true_eq] at hk
    exact hk.1
  have e := pt_same h hw hm
  refine ⟨?_, by rw [e]⟩
  unfold rok at hk ⊢
  rw [e]
  exact hk

/-- no word goes on at a place of a text: it is its end, or a sign stands there -/
def Stops (p : ByteArray) (b : Nat) : Prop := b = p.size ∨ (b < p.size ∧ (byte p b = 40 ∨ byte p b = 41 ∨ byte p b = 44 ∨ byte p b = 46 ∨ byte p b = 58 ∨ byte p b = 32 ∨ byte p b = 10))
theorem rok_sign {p : ByteArray} {b : Nat} (n : Nat) (h : byte p b = 40 ∨ byte p b = 41 ∨ byte p b = 44 ∨ byte p b = 46 ∨ byte p b = 58 ∨ byte p b = 32 ∨ byte p b = 10) : rok p b n = false := by
  have e : pt p b = (byte p b, 1) := by
    unfold pt
    simp only
    rw [if_pos (by omega)]
  unfold rok
  rw [e]
  rcases h with h | h | h | h | h | h | h <;> rw [h] <;> simp [rsmall]
theorem rword_stops {p : ByteArray} {b : Nat} (f n : Nat) (h : Stops p b) : rword p f b n = (b, n) := by
  rcases h with h | ⟨_, h⟩
  · exact rword_end (by omega)
  · exact rword_stop (rok_sign n h)

/-- a word's bytes are a word, if it stops behind them -/
theorem rword_same {s p : ByteArray} : ∀ (f a b n m f' : Nat), Same s a p b m → (rword s f a n).1 = a + m → p.size ≤ b + f' → Stops p (b + m) → (∀ i, (rword s f a n).1 = i → i < s.size → rok s i (rword s f a n).2 = false) → rword p f' b n = (b + m, (rword s f a n).2)
  | 0, a, b, n, m, f', hS, he, hf, hst, _ => by
    have hm : m = 0 := by simp [rword] at he; omega
    subst hm
    exact rword_stops _ _ hst
  | f + 1, a, b, n, m, f', hS, he, hf, hst, hend => by
    by_cases ha : a < s.size
    · cases hk : rok s a n
      · have e : rword s (f + 1) a n = (a, n) := by simp [rword, hk]
        rw [e] at he ⊢
        have hm : m = 0 := by simp at he; omega
        subst hm
        exact rword_stops _ _ hst
      · have e := rword_on (f := f) ha hk
        rw [e] at he hend ⊢
        have hge := rword_ge s f (a + (pt s a).2) (n + 1)
        have hw : 0 < (pt s a).2 := by
          unfold rok at hk
          simp only [Bool.and_eq_true, decide_eq_true_eq] at hk
          exact hk.1
        obtain ⟨hk', hw'⟩ := rok_same hS n hk (by omega)
        have hb := hS.hp
        obtain ⟨g, rfl⟩ : ∃ g, f' = g + 1 := ⟨f' - 1, by omega⟩
        rw [rword_on (by omega) hk', hw']
        have := rword_same f (a + (pt s a).2) (b + (pt s a).2) (n + 1) (m - (pt s a).2) g (hS.drop _ (by omega)) (by omega) (by omega) (by rw [show b + (pt s a).2 + (m - (pt s a).2) = b + m by omega]; exact hst) hend
        rw [this, show b + (pt s a).2 + (m - (pt s a).2) = b + m by omega]
    · have e : rword s (f + 1) a n = (a, n) := rword_end ha
      rw [e] at he ⊢
      have hm : m = 0 := by simp at he; omega
      subst hm
      exact rword_stops _ _ hst
end Go.Proofs.Ytdmicblafmhflaa.Ax

/- A token's bytes tell the token: tokens, blanks. No program here. -/
namespace Go.Proofs.Ytdmicblafmhflaa.Ax
set_option linter.unusedSimpArgs false
set_option linter.unusedVariables false

/-- a token's kind that is neither the end nor none -/
def Real (k : Nat) : Prop := k ≠ 101 ∧ k ≠ 120
def Word (k : Nat) : Prop := k = 110 ∨ k = 118

theorem rword_fuel (s : ByteArray) : ∀ f g i n, s.size ≤ i + f → s.size ≤ i + g → rword s f i n = rword s g i n
  | 0, g, i, n, h, _ => by rw [rword_end (by omega), rword_end (by omega)]
  | f + 1, 0, i, n, _, h => by rw [rword_end (by omega), rword_end (by omega)]
  | f + 1, g + 1, i, n, h1, h2 => by
    unfold rword
    by_cases hi : i < s.size
    · rw [if_pos hi, if_pos hi]
      cases hk : rok s i n
      · rfl
      · have hw : 0 < (pt s i).2 := by
          unfold rok at hk
          simp only [Bool.and_eq_true, decide_eq_true_eq] at hk
          exact hk.1
        rw [if_pos rfl, if_pos rfl]
        exact rword_fuel s f g _ _ (by omega) (by omega)
    · rw [if_neg hi, if_neg hi]

/-- where a word ends it can't go on -/
theorem rword_final (s : ByteArray) : ∀ f i n, s.size ≤ i + f → (rword s f i n).1 < s.size → rok s (rword s f i n).1 (rword s f i n).2 = false
  | 0, i, n, h, hl => by simp [rword] at hl; omega
  | f + 1, i, n, h, hl => by
    by_cases hi : i < s.size
    · cases hk : rok s i n
      · have e : rword s (f + 1) i n = (i, n) := by simp [rword, hk]
        rw [e]; exact hk
      · have e := rword_on (f := f) hi hk
        have hw : 0 < (pt s i).2 := by
          unfold rok at hk
          simp only [Bool.and_eq_true, decide_eq_true_eq] at hk
          exact hk.1
        rw [e] at hl ⊢
        exact rword_final s f _ _ (by omega) hl
    · rw [rword_end hi] at hl; simp at hl; omega

theorem byte_extract (s : ByteArray) (a e k : Nat) (he : e ≤ s.size) (hk : a + k < e) : byte (s.extract a e) k = byte s (a + k) := by
  have h1 : k < (s.extract a e).size := by simp only [ByteArray.size_extract]; omega
  rw [← byte_get _ _ h1, ← byte_get s (a + k) (by omega)]
  simp [ByteArray.getElem_extract]

theorem bytes_ext {x y : ByteArray} (hz : x.size = y.size) (h : ∀ k, k < x.size → byte x k = byte y k) : x = y := by
  cases x with | mk x => cases y with | mk y =>
  congr 1
  apply Array.ext
  · simpa [ByteArray.size] using hz
  · intro i h1 h2
    have := h i (by simpa [ByteArray.size] using h1)
    rw [← byte_get _ _ (by simpa [ByteArray.size] using h1), ← byte_get _ _ (by simpa [ByteArray.size] using h2)] at this
    exact UInt8.toNat_inj.1 this

/-- the token that begins at a place, by its bytes alone -/
theorem rtokAt_same {s p : ByteArray} {a b : Nat} {t : RTok} (ha : a < s.size) (ht : rtokAt s a = t) (hr : Real t.kind) (hS : Same s a p b t.text.size) (hst : Word t.kind → Stops p (b + t.text.size)) : 0 < t.text.size ∧ rtokAt p b = ⟨t.kind, t.text, b⟩ ∧ t.at_ = a := by
  have hge := rword_ge s s.size a 0
  have hle := rword_le s s.size a 0 (by omega)
  have hn := rword_n s s.size a 0
  unfold rtokAt at ht
  simp only at ht
  rw [if_neg (by omega)] at ht
  by_cases h6 : 6 < (rword s s.size a 0).2
  · rw [if_pos h6] at ht; rw [← ht] at hr; exact absurd rfl hr.2
  rw [if_neg h6] at ht
  by_cases h0 : 0 < (rword s s.size a 0).2
  · -- a word
    have htx : t.text = s.extract a (rword s s.size a 0).1 ∧ Word t.kind ∧ t.at_ = a ∧ t.kind = (if 65 ≤ byte s a ∧ byte s a ≤ 90 then 118 else 110) := by
      by_cases hc : 65 ≤ byte s a ∧ byte s a ≤ 90
      · rw [if_pos ⟨h0, hc⟩] at ht
        rw [← ht, if_pos hc]
        exact ⟨rfl, .inr rfl, rfl, rfl⟩
      · rw [if_neg (fun h => hc h.2), if_pos h0] at ht
        rw [← ht, if_neg hc]
        exact ⟨rfl, .inl rfl, rfl, rfl⟩
    obtain ⟨h1, h2, h3, h4⟩ := htx
    have hm : t.text.size = (rword s s.size a 0).1 - a := by rw [h1]; simp only [ByteArray.size_extract]; omega
    have hb := hS.hp
    have hw := rword_same s.size a b 0 t.text.size p.size hS (by omega) (by omega) (hst h2) (fun i hi hl => by subst hi; exact rword_final s s.size a 0 (by omega) hl)
    have hc0 := hS.at0 (by omega)
    refine ⟨by omega, ?_, h3⟩
    have hx : p.extract b (b + t.text.size) = t.text := by
      apply bytes_ext
      · simp only [ByteArray.size_extract]; omega
      · intro k hk
        simp only [ByteArray.size_extract] at hk
        rw [byte_extract p b _ k (by omega) (by omega), ← hS.eq k (by omega), h1, byte_extract s a _ k hle (by omega)]
    unfold rtokAt
    simp only
    rw [hw, if_neg (by omega), if_neg h6, ← hc0, h4]
    by_cases hc : 65 ≤ byte s a ∧ byte s a ≤ 90
    · rw [if_pos ⟨h0, hc⟩, if_pos hc, hx]
    · rw [if_neg (fun h => hc h.2), if_pos h0, if_neg hc, hx]
  · -- a sign
    rw [if_neg (fun h => h0 h.1), if_neg h0] at ht
    by_cases hc : byte s a = 40 ∨ byte s a = 41 ∨ byte s a = 44 ∨ byte s a = 46
    · rw [if_pos hc] at ht
      have hsz : t.text.size = 1 := by rw [← ht]; simp only [ByteArray.size_extract]; omega
      have hc0 := hS.at0 (by omega)
      have hb := hS.hp
      have hw : rword p p.size b 0 = (b, 0) := rword_stop (rok_sign 0 (by rw [← hc0]; omega))
      have hx : p.extract b (b + 1) = t.text := by
        apply bytes_ext
        · simp only [ByteArray.size_extract]; omega
        · intro k hk
          simp only [ByteArray.size_extract] at hk
          rw [byte_extract p b _ k (by omega) (by omega), ← hS.eq k (by omega), ← ht, byte_extract s a _ k (by omega) (by omega)]
      refine ⟨by omega, ?_, by rw [← ht]⟩
      unfold rtokAt
      simp only
      rw [hw, if_neg (by omega), if_neg (by omega), if_neg (by omega), if_neg (by omega), ← hc0, if_pos hc, hx, ← ht]
    · rw [if_neg hc] at ht
      by_cases h58 : byte s a = 58 ∧ a + 1 < s.size ∧ byte s (a + 1) = 45
      · rw [if_pos h58] at ht
        have hsz : t.text.size = 2 := by rw [← ht]; rfl
        have hc0 := hS.at0 (by omega)
        have hc1 := hS.eq 1 (by omega)
        have hb := hS.hp
        have hw : rword p p.size b 0 = (b, 0) := rword_stop (rok_sign 0 (by rw [← hc0]; omega))
        refine ⟨by omega, ?_, by rw [← ht]⟩
        unfold rtokAt
        simp only
        rw [hw, if_neg (by omega), if_neg (by omega), if_neg (by omega), if_neg (by omega), ← hc0, if_neg hc, if_pos ⟨h58.1, by omega, by rw [← hc1]; exact h58.2.2⟩, ← ht]
      · rw [if_neg h58] at ht
        rw [← ht] at hr
        exact absurd rfl hr.2
end Go.Proofs.Ytdmicblafmhflaa.Ax

/- Texts that are laid out of tokens, with blanks between. No program here. -/
namespace Go.Proofs.Ytdmicblafmhflaa.Ax
set_option linter.unusedSimpArgs false
set_option linter.unusedVariables false

/-- a token without its place -/
structure It where
  kind : Nat
  text : ByteArray
def It.of (t : RTok) : It := ⟨t.kind, t.text⟩
def It.tok (x : It) : Prop := rtokAt x.text 0 = ⟨x.kind, x.text, 0⟩ ∧ Real x.kind ∧ 0 < x.text.size

/-- p is, from b on, the tokens of a list, each behind some blanks -/
def Lay (p : ByteArray) : Nat → List It → Prop
  | b, [] => b = p.size
  | b, x :: l => ∃ c, b ≤ c ∧ (∀ k, b ≤ k → k < c → isBl p k = true) ∧ c + x.text.size ≤ p.size ∧ (∀ k, k < x.text.size → byte p (c + k) = byte x.text k) ∧ Lay p (c + x.text.size) l
/-- no two words stand side by side -/
def Apart : List It → Prop
  | x :: y :: l => ¬ (Word x.kind ∧ Word y.kind) ∧ Apart (y :: l)
  | _ => True

theorem Same.self (x p : ByteArray) (c : Nat) (h1 : c + x.size ≤ p.size) (h2 : ∀ k, k < x.size → byte p (c + k) = byte x k) : Same x 0 p c x.size :=
  ⟨by omega, h1, fun k hk => by rw [Nat.zero_add, h2 k hk]⟩

/-- how a token begins -/
theorem tok_first {x : It} (h : x.tok) : ¬ (byte x.text 0 = 32 ∨ byte x.text 0 = 10) ∧ (¬ Word x.kind → byte x.text 0 = 40 ∨ byte x.text 0 = 41 ∨ byte x.text 0 = 44 ∨ byte x.text 0 = 46 ∨ byte x.text 0 = 58) := by
  obtain ⟨ht, hr, h0⟩ := h
  have hk : x.kind = (rtokAt x.text 0).kind := by rw [ht]
  constructor
  · intro hb
    have hw : rword x.text x.text.size 0 0 = (0, 0) := rword_stop (rok_sign 0 (by omega))
    have : (rtokAt x.text 0).kind = 120 := by
      unfold rtokAt
      simp only
      rw [hw, if_neg (by omega), if_neg (by omega), if_neg (by omega), if_neg (by omega), if_neg (by omega), if_neg (by omega)]
    exact hr.2 (hk.trans this)
  · intro hnw
    unfold rtokAt at hk
    simp only at hk
    rw [if_neg (by omega)] at hk
    by_cases h6 : 6 < (rword x.text x.text.size 0 0).2
    · rw [if_pos h6] at hk; exact absurd hk hr.2
    rw [if_neg h6] at hk
    by_cases hp : 0 < (rword x.text x.text.size 0 0).2
    · by_cases hc : 65 ≤ byte x.text 0 ∧ byte x.text 0 ≤ 90
      · rw [if_pos ⟨hp, hc⟩] at hk; exact absurd (.inr hk) hnw
      · rw [if_neg (fun h => hc h.2), if_pos hp] at hk; exact absurd (.inl hk) hnw
    · rw [if_neg (fun h => hp h.1), if_neg hp] at hk
      by_cases hc : byte x.text 0 = 40 ∨ byte x.text 0 = 41 ∨ byte x.text 0 = 44 ∨ byte x.text 0 = 46
      · omega
      · rw [if_neg hc] at hk
        by_cases h58 : byte x.text 0 = 58 ∧ 0 + 1 < x.text.size ∧ byte x.text (0 + 1) = 45
        · omega
        · rw [if_neg h58] at hk; exact absurd hk hr.2

theorem rskip_to {p : ByteArray} : ∀ (f b c : Nat), b ≤ c → (∀ k, b ≤ k → k < c → isBl p k = true) → c < p.size → isBl p c = false → c ≤ b + f → rskip p f b = c
  | 0, b, c, h1, _, _, _, h5 => by simp [rskip]; omega
  | f + 1, b, c, h1, h2, h3, h4, h5 => by
    by_cases e : b = c
    · subst e
      exact rskip_stop (by simp [h4])
    · rw [rskip_on (by omega) (h2 b (by omega) (by omega))]
      exact rskip_to f (b + 1) c (by omega) (fun k hk1 hk2 => h2 k (by omega) hk2) h3 h4 (by omega)

theorem lay_stops {p : ByteArray} {b : Nat} {x : It} {l : List It} (h : Lay p b l) (hl : ∀ y, y ∈ l → y.tok) (ha : Apart (x :: l)) (hx : Word x.kind) : Stops p b := by
  cases l with
  | nil => exact .inl h
  | cons y l =>
    obtain ⟨c, h1, h2, h3, h4, _⟩ := h
    have hy := hl y (by simp)
    have hy0 := hy.2.2
    by_cases e : b = c
    · subst e
      have := (tok_first hy).2 (fun hw => ha.1 ⟨hx, hw⟩)
      have e0 := h4 0 hy0
      rw [Nat.add_zero] at e0
      exact .inr ⟨by omega, by rw [e0]; omega⟩
    · have := h2 b (by omega) (by omega)
      simp only [isBl, Bool.or_eq_true, decide_eq_true_eq] at this
      exact .inr ⟨by omega, by omega⟩

/-- such a text's tokens are those it is laid of, and its end -/
theorem lay_tokens (p : ByteArray) : ∀ (l : List It) (b f : Nat) (acc : List RTok), Lay p b l → (∀ y, y ∈ l → y.tok) → Apart l → p.size + 1 ≤ b + f → b ≤ p.size →
    ∃ m, rtokens p f b acc = acc ++ m ++ [⟨101, ⟨#[]⟩, p.size⟩] ∧ m.map It.of = l
  | [], b, f, acc, h, _, _, hf, hb => by
    have hbe : b = p.size := h
    obtain ⟨g, rfl⟩ : ∃ g, f = g + 1 := ⟨f - 1, by omega⟩
    refine ⟨[], ?_, rfl⟩
    have ht : rtok p b = ⟨101, ⟨#[]⟩, p.size⟩ := by
      unfold rtok
      rw [rskip_stop (by omega), hbe]
      simp [rtokAt]
    rw [rtokens_end ht (.inl rfl)]
    simp
  | x :: l, b, f, acc, h, hl, ha, hf, hb => by
    have h' := h
    obtain ⟨c, h1, h2, h3, h4, h5⟩ := h
    have hx := hl x (by simp)
    have hx0 := hx.2.2
    have hfirst := (tok_first hx).1
    have e0 := h4 0 hx0
    rw [Nat.add_zero] at e0
    have hnb : isBl p c = false := by
      rw [Bool.eq_false_iff]
      intro hb
      simp only [isBl, Bool.or_eq_true, decide_eq_true_eq] at hb
      omega
    have hal : Apart l := by
      cases l with
      | nil => trivial
      | cons y l => exact ha.2
    have hstop : Word x.kind → Stops p (c + x.text.size) := fun hw => lay_stops h5 (fun y hy => hl y (by simp [hy])) ha hw
    have hsk : rskip p p.size b = c := rskip_to p.size b c h1 h2 (by omega) hnb (by omega)
    obtain ⟨_, hat, _⟩ := rtokAt_same (s := x.text) (p := p) (a := 0) (b := c) (t := ⟨x.kind, x.text, 0⟩) hx0 hx.1 hx.2.1 (Same.self x.text p c h3 h4) hstop
    have ht : rtok p b = ⟨x.kind, x.text, c⟩ := by unfold rtok; rw [hsk]; exact hat
    obtain ⟨g, rfl⟩ : ∃ g, f = g + 1 := ⟨f - 1, by omega⟩
    rw [rtokens_on ht (fun hh => hh.elim hx.2.1.1 hx.2.1.2)]
    obtain ⟨m, hm1, hm2⟩ := lay_tokens p l (c + x.text.size) g (acc ++ [⟨x.kind, x.text, c⟩]) h5 (fun y hy => hl y (by simp [hy])) hal (by omega) h3
    refine ⟨⟨x.kind, x.text, c⟩ :: m, ?_, by rw [List.map_cons, hm2]; rfl⟩
    rw [hm1]
    simp
theorem lay_rtoks (p : ByteArray) (l : List It) (h : Lay p 0 l) (hl : ∀ y, y ∈ l → y.tok) (ha : Apart l) : ∃ m, rtoks p = m ++ [⟨101, ⟨#[]⟩, p.size⟩] ∧ m.map It.of = l := by
  obtain ⟨m, h1, h2⟩ := lay_tokens p l 0 (p.size + 1) [] h hl ha (by omega) (Nat.zero_le _)
  exact ⟨m, by simpa [rtoks] using h1, h2⟩

/-- a token of a text is a token of its own bytes -/
theorem tok_of {s : ByteArray} {a : Nat} (ha : a < s.size) (hr : Real (rtokAt s a).kind) (hS : Same s a (rtokAt s a).text 0 (rtokAt s a).text.size) : (It.of (rtokAt s a)).tok := by
  obtain ⟨h0, h1, _⟩ := rtokAt_same ha rfl hr hS (fun _ => .inl (by omega))
  exact ⟨h1, hr, h0⟩
theorem rtokAt_text {s : ByteArray} {a : Nat} (ha : a < s.size) (hr : Real (rtokAt s a).kind) : Same s a (rtokAt s a).text 0 (rtokAt s a).text.size := by
  have hge := rword_ge s s.size a 0
  have hle := rword_le s s.size a 0 (by omega)
  have key : ∀ e, a ≤ e → e ≤ s.size → Same s a (s.extract a e) 0 (s.extract a e).size := by
    intro e h1 h2
    have hz : (s.extract a e).size = e - a := by simp only [ByteArray.size_extract]; omega
    exact ⟨by omega, by omega, fun k hk => by rw [Nat.zero_add, byte_extract s a e k h2 (by omega)]⟩
  generalize ht : rtokAt s a = t at *
  unfold rtokAt at ht
  simp only at ht
  rw [if_neg (by omega)] at ht
  split at ht
  · rw [← ht] at hr; exact absurd rfl hr.2
  split at ht
  · rw [← ht]; exact key _ hge hle
  split at ht
  · rw [← ht]; exact key _ hge hle
  split at ht
  · rw [← ht]; exact key _ (by omega) (by omega)
  split at ht
  · rename_i h58
    rw [← ht]
    refine ⟨by show a + 2 ≤ _; omega, Nat.le_refl _, ?_⟩
    intro k hk
    have hk : k < 2 := hk
    have : k = 0 ∨ k = 1 := by omega
    rcases this with rfl | rfl
    · rw [Nat.add_zero, h58.1]; rfl
    · rw [h58.2.2]; rfl
  · rw [← ht] at hr; exact absurd rfl hr.2
theorem rtokens_mem (s : ByteArray) : ∀ (f a : Nat) (acc : List RTok) (t : RTok), a ≤ s.size → t ∈ rtokens s f a acc → t ∈ acc ∨ ∃ b, t = rtok s b ∧ b ≤ s.size
  | 0, a, acc, t, _, h => .inl h
  | f + 1, a, acc, t, ha, h => by
    have hp := rtok_place s a ha
    unfold rtokens at h
    split at h
    · rcases List.mem_append.1 h with h | h
      · exact .inl h
      · simp at h; exact .inr ⟨a, h, ha⟩
    · rename_i hk
      rcases rtokens_mem s f _ _ t (hp.2.2.1 hk).2 h with h | h
      · rcases List.mem_append.1 h with h | h
        · exact .inl h
        · simp at h; exact .inr ⟨a, h, ha⟩
      · exact .inr h
/-- every token of a text that is real is a token of its own bytes -/
theorem rtoks_tok (s : ByteArray) (t : RTok) (h : t ∈ rtoks s) (hr : Real t.kind) : (It.of t).tok := by
  rcases rtokens_mem s _ _ _ t (Nat.zero_le _) h with h | ⟨b, rfl, hb⟩
  · cases h
  · have hle := rskip_le s s.size b hb
    unfold rtok at hr ⊢
    generalize rskip s s.size b = a at *
    by_cases ha : a < s.size
    · exact tok_of ha hr (rtokAt_text ha hr)
    · exfalso
      unfold rtokAt at hr
      simp only at hr
      rw [if_pos (by omega)] at hr
      exact hr.1 rfl
end Go.Proofs.Ytdmicblafmhflaa.Ax

/- What can be read has no two words side by side; the plain form is laid of its tokens. No program here. -/
namespace Go.Proofs.Ytdmicblafmhflaa.Ax
set_option linter.unusedSimpArgs false
set_option linter.unusedVariables false

/-- is the token at a place a word? -/
def W (T : List Tok) (k : Nat) : Prop := kindAt T k = 2 ∨ kindAt T k = 3
def NoAdj (T : List Tok) (i j : Nat) : Prop := ∀ k, i ≤ k → k < j → ¬ (W T k ∧ W T (k + 1))
theorem NoAdj.join {T : List Tok} {i j l : Nat} (h1 : NoAdj T i j) (h2 : NoAdj T j l) : NoAdj T i l := fun k hk1 hk2 => if h : k < j then h1 k hk1 h else h2 k (by omega) hk2
theorem NoAdj.one {T : List Tok} {i : Nat} (h : ¬ W T i ∨ ¬ W T (i + 1)) : NoAdj T i (i + 1) := fun k h1 h2 hw => by
  obtain rfl : k = i := by omega
  exact h.elim (fun h => h hw.1) (fun h => h hw.2)

theorem pTerms_apart {T : List Tok} : ∀ (f i : Nat) (acc : List Term) {ts : List Term} {j : Nat}, pTerms T f i acc = (some ts, j) → kindAt T j = 5 → NoAdj T i j
  | 0, i, acc, ts, j, h, _ => by simp [pTerms] at h
  | f + 1, i, acc, ts, j, h, h5 => by
    rcases hA : pTerm T i with ⟨_ | t, j'⟩
    · simp [pTerms, hA] at h
    · have hj' : j' = i + 1 := by
        unfold pTerm at hA
        split at hA
        · split at hA
          · simp at hA; exact hA.2.symm
          · simp at hA
        · simp at hA
      subst hj'
      by_cases h6 : kindAt T (i + 1) = 6
      · rw [pTerms_on hA h6] at h
        have ih := pTerms_apart f (i + 1 + 1) _ h h5
        exact (NoAdj.one (.inr (by unfold W; omega))).join ((NoAdj.one (.inl (by unfold W; omega))).join ih)
      · rw [pTerms_last hA h6] at h
        simp at h
        obtain ⟨_, rfl⟩ := h
        exact NoAdj.one (.inr (by unfold W; omega))

theorem pAtom_apart {T : List Tok} {i j : Nat} {a : Atom} (h : pAtom T i = (some a, j)) : NoAdj T i j := by
  unfold pAtom at h
  split at h
  · simp at h
  · rename_i t ht
    split at h
    · rename_i h2
      split at h
      · rename_i h4
        rcases hT : pTerms T T.length (i + 1 + 1) [] with ⟨_ | ts, j'⟩
        · rw [hT] at h; simp at h
        · rw [hT] at h
          simp only at h
          split at h
          · rename_i h5
            simp at h
            obtain ⟨_, rfl⟩ := h
            have := pTerms_apart _ _ _ hT h5
            exact (NoAdj.one (.inr (by unfold W; omega))).join ((NoAdj.one (.inl (by unfold W; omega))).join (this.join (NoAdj.one (.inl (by unfold W; omega)))))
          · simp at h
      · simp at h
    · simp at h

theorem pAtoms_apart {T : List Tok} : ∀ (f i : Nat) (acc : List Atom) {r : List Atom} {j : Nat}, pAtoms T f i acc = (some r, j) → NoAdj T i j
  | 0, i, acc, r, j, h => by simp [pAtoms] at h
  | f + 1, i, acc, r, j, h => by
    rcases hA : pAtom T i with ⟨_ | a, j'⟩
    · rw [pAtoms_none hA] at h; simp at h
    · have h1 := pAtom_apart hA
      by_cases h6 : kindAt T j' = 6
      · rw [pAtoms_on hA h6] at h
        exact h1.join ((NoAdj.one (.inl (by unfold W; omega))).join (pAtoms_apart f _ _ h))
      · rw [pAtoms_last hA h6] at h
        simp at h
        obtain ⟨_, rfl⟩ := h
        exact h1

theorem pRule_apart {T : List Tok} {i j : Nat} {r : Rule} (h : pRule T i = (some r, j)) : NoAdj T i j := by
  rcases hA : pAtom T i with ⟨_ | a, j1⟩
  · rw [pRule_0 hA] at h; simp at h
  · have h1 := pAtom_apart hA
    by_cases h8 : kindAt T j1 = 8
    · rcases hB : pAtoms T T.length (j1 + 1) [] with ⟨_ | b, j2⟩
      · rw [pRule_1 hA h8 hB] at h; simp at h
      · have h2 := pAtoms_apart _ _ _ hB
        by_cases h7 : kindAt T j2 = 7
        · rw [pRule_3 hA h8 hB h7] at h
          simp at h
          obtain ⟨_, rfl⟩ := h
          exact h1.join ((NoAdj.one (.inl (by unfold W; omega))).join (h2.join (NoAdj.one (.inl (by unfold W; omega)))))
        · rw [pRule_2 hA h8 hB h7] at h; simp at h
    · by_cases h7 : kindAt T j1 = 7
      · rw [pRule_5 hA h8 h7] at h
        simp at h
        obtain ⟨_, rfl⟩ := h
        exact h1.join (NoAdj.one (.inl (by unfold W; omega)))
      · rw [pRule_4 hA h8 h7] at h; simp at h

theorem pRules_apart {T : List Tok} : ∀ (f i : Nat) (acc : List Rule) {r : List Rule} {j : Nat}, pRules T f i acc = (some r, j) → NoAdj T i j ∧ kindAt T j = 1 ∧ i ≤ j
  | 0, i, acc, r, j, h => by simp [pRules] at h
  | f + 1, i, acc, r, j, h => by
    by_cases h1 : kindAt T i = 1
    · rw [pRules_end h1] at h
      simp at h
      obtain ⟨_, rfl⟩ := h
      exact ⟨fun k hk1 hk2 => by omega, h1, Nat.le_refl _⟩
    · rcases hR : pRule T i with ⟨_ | x, j'⟩
      · rw [pRules_none h1 hR] at h; simp at h
      · rw [pRules_on h1 hR] at h
        obtain ⟨h2, h3, h4⟩ := pRules_apart f _ _ h
        have h5 := pRule_apart hR
        have h6 : i ≤ j' := by
          rcases hA : pAtom T i with ⟨_ | a, j1⟩
          · rw [pRule_0 hA] at hR; simp at hR
          · have hg := pAtom_gt hA
            by_cases h8 : kindAt T j1 = 8
            · rcases hB : pAtoms T T.length (j1 + 1) [] with ⟨_ | b, j2⟩
              · rw [pRule_1 hA h8 hB] at hR; simp at hR
              · have := pAtoms_ge _ _ _ hB
                by_cases h7 : kindAt T j2 = 7
                · rw [pRule_3 hA h8 hB h7] at hR; simp at hR; omega
                · rw [pRule_2 hA h8 hB h7] at hR; simp at hR
            · by_cases h7 : kindAt T j1 = 7
              · rw [pRule_5 hA h8 h7] at hR; simp at hR; omega
              · rw [pRule_4 hA h8 h7] at hR; simp at hR
        exact ⟨h5.join h2, h3, by omega⟩

/-- all but the last token of a text are real -/
theorem splitLoop_front (s : ByteArray) : ∀ f p b acc, (∀ t, t ∈ acc → t.kind ≠ 0 ∧ t.kind ≠ 1) → ∃ m t, splitLoop s f p b acc = m ++ [t] ∧ ∀ t, t ∈ m → t.kind ≠ 0 ∧ t.kind ≠ 1
  | 0, p, b, acc, h => ⟨acc, _, rfl, h⟩
  | f + 1, p, b, acc, h => by
    unfold splitLoop
    split
    · split
      · exact splitLoop_front s f _ _ _ h
      · simp only
        split
        · exact ⟨acc, _, rfl, h⟩
        · rename_i hk
          refine splitLoop_front s f _ _ _ ?_
          intro t ht
          rcases List.mem_append.1 ht with ht | ht
          · exact h t ht
          · simp at ht
            subst ht
            exact ⟨hk, (firstTok_kind _ _).2.2⟩
    · exact ⟨acc, _, rfl, h⟩
theorem split_front (s : ByteArray) : ∃ m t, split s = m ++ [t] ∧ ∀ t, t ∈ m → t.kind ≠ 0 ∧ t.kind ≠ 1 := splitLoop_front s _ _ _ _ (fun _ h => by cases h)
end Go.Proofs.Ytdmicblafmhflaa.Ax

/- Where tokens stand changes no answer but places. No program here. -/
namespace Go.Proofs.Ytdmicblafmhflaa.Ax
set_option linter.unusedSimpArgs false
set_option linter.unusedVariables false

def er (t : Tok) : Int × ByteArray := (t.kind, t.text)
def erA (a : Atom) : ByteArray × List Term := (a.pred, a.terms)
def erR (r : Rule) : (ByteArray × List Term) × List (ByteArray × List Term) := (erA r.head, r.body.map erA)

theorem er_get {T T' : List Tok} (h : T.map er = T'.map er) (i : Nat) : (T[i]?).map er = (T'[i]?).map er := by
  have := congrArg (fun l => l[i]?) h
  simpa using this
theorem er_len {T T' : List Tok} (h : T.map er = T'.map er) : T.length = T'.length := by
  have := congrArg List.length h
  simpa using this
theorem er_kind {T T' : List Tok} (h : T.map er = T'.map er) (i : Nat) : kindAt T i = kindAt T' i := by
  have := er_get h i
  unfold kindAt
  cases h1 : T[i]? <;> cases h2 : T'[i]? <;> rw [h1, h2] at this <;> simp [er] at this ⊢
  exact this.1
theorem er_term {T T' : List Tok} (h : T.map er = T'.map er) (i : Nat) : pTerm T i = pTerm T' i := by
  have := er_get h i
  unfold pTerm
  cases h1 : T[i]? <;> cases h2 : T'[i]? <;> rw [h1, h2] at this <;> simp [er] at this ⊢
  rw [this.1, this.2]
theorem er_terms {T T' : List Tok} (h : T.map er = T'.map er) : ∀ (f i : Nat) (acc : List Term), pTerms T f i acc = pTerms T' f i acc
  | 0, i, acc => rfl
  | f + 1, i, acc => by
    unfold pTerms
    rw [er_term h i]
    rcases pTerm T' i with ⟨_ | t, j⟩
    · rfl
    · simp only
      rw [er_kind h j, er_terms h f (j + 1) (acc ++ [t])]
theorem er_atom {T T' : List Tok} (h : T.map er = T'.map er) (i : Nat) : (pAtom T i).1.map erA = (pAtom T' i).1.map erA ∧ (pAtom T i).2 = (pAtom T' i).2 := by
  have hg := er_get h i
  unfold pAtom
  cases h1 : T[i]? <;> cases h2 : T'[i]? <;> rw [h1, h2] at hg <;> simp only [Option.map_none, Option.map_some, reduceCtorEq, Option.some.injEq, er, Prod.mk.injEq] at hg
  · simp
  · simp only
    rw [hg.1, hg.2, er_kind h (i + 1), er_terms h, er_len h]
    split
    · split
      · rcases pTerms T' T'.length (i + 1 + 1) [] with ⟨_ | ts, j⟩
        · simp
        · simp only
          rw [er_kind h j]
          split <;> simp [erA]
      · simp
    · simp
/-- the results of two texts that are alike -/
def LikeA (x y : Option Atom × Nat) : Prop := x.1.map erA = y.1.map erA ∧ x.2 = y.2
theorem er_atoms {T T' : List Tok} (h : T.map er = T'.map er) : ∀ (f i : Nat) (acc acc' : List Atom), acc.map erA = acc'.map erA → (pAtoms T f i acc).1.map (List.map erA) = (pAtoms T' f i acc').1.map (List.map erA) ∧ (pAtoms T f i acc).2 = (pAtoms T' f i acc').2
  | 0, i, acc, acc', _ => by simp [pAtoms]
  | f + 1, i, acc, acc', ha => by
    have hA := er_atom h i
    unfold pAtoms
    rcases h1 : pAtom T i with ⟨_ | a, j⟩ <;> rcases h2 : pAtom T' i with ⟨_ | a', j'⟩ <;> rw [h1, h2] at hA <;> simp at hA
    · subst hA; simp
    · obtain ⟨hA, rfl⟩ := hA
      have hacc : (acc ++ [a]).map erA = (acc' ++ [a']).map erA := by rw [List.map_append, List.map_append, ha, List.map_singleton, List.map_singleton, hA]
      simp only
      rw [er_kind h j]
      split
      · exact er_atoms h f (j + 1) _ _ hacc
      · exact ⟨by rw [Option.map_some, Option.map_some, hacc], rfl⟩
theorem er_rule {T T' : List Tok} (h : T.map er = T'.map er) (i : Nat) : (pRule T i).1.map erR = (pRule T' i).1.map erR ∧ (pRule T i).2 = (pRule T' i).2 := by
  have hA := er_atom h i
  unfold pRule
  rcases h1 : pAtom T i with ⟨_ | a, j⟩ <;> rcases h2 : pAtom T' i with ⟨_ | a', j'⟩ <;> rw [h1, h2] at hA <;> simp at hA
  · subst hA; simp
  · obtain ⟨hA, rfl⟩ := hA
    simp only
    rw [er_kind h j, er_len h]
    split
    · have hB := er_atoms h T'.length (j + 1) [] [] rfl
      rcases h3 : pAtoms T T'.length (j + 1) [] with ⟨_ | b, j2⟩ <;> rcases h4 : pAtoms T' T'.length (j + 1) [] with ⟨_ | b', j2'⟩ <;> rw [h3, h4] at hB <;> simp at hB
      · subst hB; simp
      · obtain ⟨hB, rfl⟩ := hB
        simp only
        rw [er_kind h j2]
        split
        · simp [erR, hA, hB]
        · simp
    · split
      · simp [erR, hA]
      · simp
theorem er_rules {T T' : List Tok} (h : T.map er = T'.map er) : ∀ (f i : Nat) (acc acc' : List Rule), acc.map erR = acc'.map erR → (pRules T f i acc).1.map (List.map erR) = (pRules T' f i acc').1.map (List.map erR) ∧ (pRules T f i acc).2 = (pRules T' f i acc').2
  | 0, i, acc, acc', _ => by simp [pRules]
  | f + 1, i, acc, acc', ha => by
    have hA := er_rule h i
    unfold pRules
    rw [er_kind h i]
    split
    · exact ⟨by rw [Option.map_some, Option.map_some, ha], rfl⟩
    · rcases h1 : pRule T i with ⟨_ | a, j⟩ <;> rcases h2 : pRule T' i with ⟨_ | a', j'⟩ <;> rw [h1, h2] at hA <;> simp at hA
      · subst hA; simp
      · obtain ⟨hA, rfl⟩ := hA
        simp only
        exact er_rules h f j _ _ (by rw [List.map_append, List.map_append, ha, List.map_singleton, List.map_singleton, hA])

theorem er_addPreds : ∀ (l l' : List Atom) (ps : List ByteArray), l.map erA = l'.map erA → addPreds ps l = addPreds ps l'
  | [], [], ps, _ => rfl
  | [], _ :: _, ps, h => by simp at h
  | _ :: _, [], ps, h => by simp at h
  | a :: l, a' :: l', ps, h => by
    simp only [List.map_cons, List.cons.injEq, erA, Prod.mk.injEq] at h
    unfold addPreds
    rw [h.1.1]
    exact er_addPreds l l' _ h.2
theorem er_atomsOf {r r' : Rule} (h : erR r = erR r') : r.atoms.map erA = r'.atoms.map erA := by
  simp only [erR, Prod.mk.injEq] at h
  simp [Rule.atoms, h.1, h.2]
theorem er_anyWide : ∀ (l l' : List Atom), l.map erA = l'.map erA → anyWide l = anyWide l'
  | [], [], _ => rfl
  | [], _ :: _, h => by simp at h
  | _ :: _, [], h => by simp at h
  | a :: l, a' :: l', h => by
    simp only [List.map_cons, List.cons.injEq, erA, Prod.mk.injEq] at h
    have := er_anyWide l l' h.2
    unfold anyWide at this ⊢
    rw [List.any_cons, List.any_cons, this]
    simp only [wide, h.1.2]
theorem er_many : ∀ (l l' : List Rule) (i : Nat) (ps : List ByteArray), l.map erR = l'.map erR → (tooMany i ps l).isNone = (tooMany i ps l').isNone
  | [], [], _, _, _ => rfl
  | [], _ :: _, _, _, h => by simp at h
  | _ :: _, [], _, _, h => by simp at h
  | r :: l, r' :: l', i, ps, h => by
    simp only [List.map_cons, List.cons.injEq] at h
    have ha := er_atomsOf h.1
    have hb : r.body.length = r'.body.length := by
      have := congrArg (fun x => x.2.length) h.1
      simpa [erR] using this
    unfold tooMany
    rw [er_addPreds _ _ ps ha]
    have hm : manyAt i (addPreds ps r'.atoms) r = manyAt i (addPreds ps r'.atoms) r' := by
      unfold manyAt
      rw [hb, er_anyWide _ _ ha]
    rw [hm]
    split
    · rfl
    · exact er_many l l' _ _ h.2
theorem er_two : ∀ (l l' : List Atom) (m : List (ByteArray × Nat)), l.map erA = l'.map erA → (twoAr m l).isNone = (twoAr m l').isNone
  | [], [], _, _ => rfl
  | [], _ :: _, _, h => by simp at h
  | _ :: _, [], _, h => by simp at h
  | a :: l, a' :: l', m, h => by
    simp only [List.map_cons, List.cons.injEq, erA, Prod.mk.injEq] at h
    unfold twoAr
    rw [h.1.1, h.1.2]
    split
    · split
      · exact er_two l l' m h.2
      · rfl
    · exact er_two l l' _ h.2
theorem er_bodyHas : ∀ (l l' : List Atom) (t : Term), l.map erA = l'.map erA → bodyHas l t = bodyHas l' t
  | [], [], _, _ => rfl
  | [], _ :: _, _, h => by simp at h
  | _ :: _, [], _, h => by simp at h
  | a :: l, a' :: l', t, h => by
    simp only [List.map_cons, List.cons.injEq, erA, Prod.mk.injEq] at h
    have := er_bodyHas l l' t h.2
    unfold bodyHas at this ⊢
    simp only [List.any_cons, h.1.2, this]
theorem er_open : ∀ (l l' : List Rule), l.map erR = l'.map erR → (openHead l).isNone = (openHead l').isNone
  | [], [], _ => rfl
  | [], _ :: _, h => by simp at h
  | _ :: _, [], h => by simp at h
  | r :: l, r' :: l', h => by
    simp only [List.map_cons, List.cons.injEq] at h
    have hr := h.1
    simp only [erR, erA, Prod.mk.injEq] at hr
    have ho : openAt r = openAt r' := by
      unfold openAt openTerm
      rw [hr.1.2]
      congr 1
      funext t
      rw [er_bodyHas r.body r'.body t hr.2]
    unfold openHead
    rw [ho]
    split
    · rfl
    · exact er_open l l' h.2

/-- is a list of tokens a program? -/
theorem er_read {s p : ByteArray} (hp : p.size ≤ 600) (h : (split s).map er = (split p).map er) (hs : ∃ u, read s = (u, 0, 0)) : read p = (plain p, 0, 0) := by
  obtain ⟨u, hu⟩ := hs
  have hsz : ¬ 600 < s.size := by
    intro hh
    rw [read_1 hh] at hu
    simp at hu
  have hpz : ¬ 600 < p.size := by omega
  have hR := er_rules h (split s).length 0 [] [] rfl
  rw [er_len h] at hR
  rcases h1 : pRules (split s) (split s).length 0 [] with ⟨_ | rs, j⟩
  · exfalso
    unfold read at hu
    rw [if_neg hsz, h1] at hu
    simp at hu
  · rw [er_len h] at h1
    rcases h2 : pRules (split p) (split p).length 0 [] with ⟨_ | rs', j'⟩
    · rw [h1, h2] at hR; simp at hR
    · rw [h1, h2] at hR
      simp only [Option.map_some, Option.some.injEq] at hR
      have hrs := hR.1
      rw [← er_len h] at h1
      have hflat : (rs.flatMap Rule.atoms).map erA = (rs'.flatMap Rule.atoms).map erA := by
        have : ∀ (a b : List Rule), a.map erR = b.map erR → (a.flatMap Rule.atoms).map erA = (b.flatMap Rule.atoms).map erA := by
          intro a
          induction a with
          | nil => intro b hb; cases b with | nil => rfl | cons _ _ => simp at hb
          | cons x a ih =>
            intro b hb
            cases b with
            | nil => simp at hb
            | cons y b =>
              simp only [List.map_cons, List.cons.injEq] at hb
              rw [List.flatMap_cons, List.flatMap_cons, List.map_append, List.map_append, er_atomsOf hb.1, ih b hb.2]
        exact this _ _ hrs
      have k3 := er_many rs rs' 0 [] hrs
      have k4 := er_two _ _ [] hflat
      have k5 := er_open rs rs' hrs
      unfold read at hu
      rw [if_neg hsz, h1] at hu
      simp only at hu
      rcases h3 : tooMany 0 [] rs with _ | q
      · rw [h3] at hu k3
        simp only at hu
        rcases h4 : twoAr [] (rs.flatMap Rule.atoms) with _ | q
        · rw [h4] at hu k4
          simp only at hu
          rcases h5 : openHead rs with _ | q
          · rw [h5] at k5
            refine read_0 hpz h2 ?_ ?_ ?_
            · exact Option.isNone_iff_eq_none.1 k3.symm
            · exact Option.isNone_iff_eq_none.1 k4.symm
            · exact Option.isNone_iff_eq_none.1 k5.symm
          · rw [h5] at hu; simp at hu
        · rw [h4] at hu; simp at hu
      · rw [h3] at hu; simp at hu
end Go.Proofs.Ytdmicblafmhflaa.Ax

/- The plain form of what can be read is read, and is its own plain form. No program here. -/
namespace Go.Proofs.Ytdmicblafmhflaa.Ax
set_option linter.unusedSimpArgs false
set_option linter.unusedVariables false

def cat (l : List It) : List UInt8 := l.flatMap fun x => x.text.data.toList
theorem byte_data (s : ByteArray) (k : Nat) (h : k < s.size) : byte s k = ((s.data.toList[k]?).map UInt8.toNat).getD 0 := by
  rw [← byte_get s k h]
  have : s.data.toList[k]? = some s.data[k] := by
    rw [Array.getElem?_toList]
    exact Array.getElem?_eq_getElem h
  rw [this]
  rfl

/-- tokens laid one behind another -/
theorem lay_cat (p : ByteArray) : ∀ (l : List It) (b : Nat), b ≤ p.size → p.data.toList.drop b = cat l → Lay p b l
  | [], b, hb, h => by
    have : (p.data.toList.drop b).length = 0 := by rw [h]; rfl
    rw [List.length_drop, Array.length_toList] at this
    show b = p.data.size
    have : p.data.size = p.size := rfl
    omega
  | x :: l, b, hb, h => by
    have hc : cat (x :: l) = x.text.data.toList ++ cat l := by simp [cat]
    rw [hc] at h
    have hlen := congrArg List.length h
    rw [List.length_drop, List.length_append, Array.length_toList, Array.length_toList] at hlen
    have e1 : p.data.size = p.size := rfl
    have e2 : x.text.data.size = x.text.size := rfl
    refine ⟨b, Nat.le_refl _, fun k h1 h2 => by omega, by omega, fun k hk => ?_, ?_⟩
    · rw [byte_data p _ (by omega), byte_data x.text k hk]
      have := congrArg (fun q => q[k]?) h
      simp only [List.getElem?_drop] at this
      rw [this, List.getElem?_append_left (by rw [Array.length_toList]; omega)]
    · refine lay_cat p l _ (by omega) ?_
      rw [← List.drop_drop, h, List.drop_left' (by rw [Array.length_toList]; omega)]

theorem conv_er {a b : Tok} (ha : 0 ≤ a.kind ∧ a.kind ≤ 8) (hb : 0 ≤ b.kind ∧ b.kind ≤ 8) (h : It.of (conv a) = It.of (conv b)) : er a = er b := by
  simp only [It.of, conv, It.mk.injEq] at h
  have := kc_eq a.kind ha.1 ha.2 b.kind hb.1 hb.2
  rw [h.1] at this
  simp only [beq_self_eq_true] at this
  have hk : a.kind = b.kind := by simpa using this.symm
  simp [er, hk, h.2]
theorem conv_ers : ∀ (l l' : List Tok), Kinds l → Kinds l' → l.map (fun t => It.of (conv t)) = l'.map (fun t => It.of (conv t)) → l.map er = l'.map er
  | [], [], _, _, _ => rfl
  | [], _ :: _, _, _, h => by simp at h
  | _ :: _, [], _, _, h => by simp at h
  | a :: l, a' :: l', h1, h2, h => by
    simp only [List.map_cons, List.cons.injEq] at h
    rw [List.map_cons, List.map_cons, conv_er (h1 a (by simp)) (h2 a' (by simp)) h.1, conv_ers l l' (fun t ht => h1 t (by simp [ht])) (fun t ht => h2 t (by simp [ht])) h.2]

/-- a text whose tokens are a list's has just these tokens -/
theorem lay_er {s p : ByteArray} {m : List Tok} {t : Tok} (hs : split s = m ++ [t]) (ht : t.kind = 1) (htx : t.text = ⟨#[]⟩) (hl : ∀ y, y ∈ m.map (fun t => It.of (conv t)) → y.tok) (ha : Apart (m.map (fun t => It.of (conv t)))) (hp : Lay p 0 (m.map (fun t => It.of (conv t)))) : (split s).map er = (split p).map er := by
  obtain ⟨n, h1, h2⟩ := lay_rtoks p _ hp hl ha
  apply conv_ers _ _ (split_kinds s) (split_kinds p)
  have e : (split p).map (fun t => It.of (conv t)) = ((split p).map conv).map It.of := by rw [List.map_map]; rfl
  rw [e, ← rtoks_split, h1, List.map_append, h2, hs, List.map_append]
  congr 1
  simp [It.of, conv, ht, htx, kc]

theorem kc_word {k : Int} (h : Word (kc k)) : k = 2 ∨ k = 3 := by
  unfold Word kc at h
  split at h
  · omega
  split at h
  · omega
  split at h
  · omega
  split at h
  · omega
  repeat' split at h
  all_goals omega
/-- no two words side by side, as a list of tokens -/
theorem apart_of : ∀ (m : List Tok), (∀ k, ¬ (W m k ∧ W m (k + 1))) → Apart (m.map (fun t => It.of (conv t)))
  | [], _ => trivial
  | [a], _ => trivial
  | a :: b :: m, h => by
    refine ⟨?_, apart_of (b :: m) (fun k hk => h (k + 1) ?_)⟩
    · intro hw
      exact h 0 ⟨by simpa [W, kindAt] using kc_word hw.1, by simpa [W, kindAt] using kc_word hw.2⟩
    · simpa [W, kindAt] using hk

theorem rtok_none_text (s : ByteArray) (a : Nat) (h : (rtokAt s a).kind = 101 ∨ (rtokAt s a).kind = 120) : (rtokAt s a).text = ⟨#[]⟩ := by
  generalize ht : rtokAt s a = t at *
  unfold rtokAt at ht
  simp only at ht
  split at ht
  · rw [← ht]
  split at ht
  · rw [← ht]
  split at ht
  · rw [← ht] at h; simp at h
  split at ht
  · rw [← ht] at h; simp at h
  split at ht
  · rw [← ht] at h; simp only at h; omega
  split at ht
  · rw [← ht] at h; simp at h
  · rw [← ht]

theorem rtokens_cat (s : ByteArray) : ∀ (f a : Nat) (acc : List RTok), a ≤ s.size → (cat ((rtokens s f a acc).map It.of)).length + a ≤ (cat (acc.map It.of)).length + s.size
  | 0, a, acc, h => by simp [rtokens]; omega
  | f + 1, a, acc, h => by
    have hp := rtok_place s a h
    have hcat : (cat ((acc ++ [rtok s a]).map It.of)).length = (cat (acc.map It.of)).length + (rtok s a).text.size := by
      simp [cat, It.of]
    unfold rtokens
    split
    · rename_i hk
      have : (rtok s a).text.size = 0 := by
        have := rtok_none_text s (rskip s s.size a) hk
        unfold rtok
        rw [this]
        rfl
      rw [hcat]
      omega
    · rename_i hk
      have hq := hp.2.2.1 hk
      have := rtokens_cat s f ((rtok s a).at_ + (rtok s a).text.size) (acc ++ [rtok s a]) hq.2
      rw [hcat] at this
      omega

theorem plain_cat (s : ByteArray) : (plain s).data.toList = cat ((rtoks s).map It.of) := by
  rw [rtoks_split]
  simp [plain, cat, It.of, conv, List.flatMap_map]
theorem plain_size (s : ByteArray) : (plain s).size ≤ s.size := by
  have h := rtokens_cat s (s.size + 1) 0 [] (Nat.zero_le _)
  have e : (plain s).size = (plain s).data.toList.length := by rw [Array.length_toList]; rfl
  rw [e, plain_cat]
  simp only [cat, List.map_nil, List.flatMap_nil, List.length_nil] at h
  simpa [rtoks, cat] using h
theorem plain_er {s p : ByteArray} (h : (split s).map er = (split p).map er) : plain s = plain p := by
  unfold plain
  have : ∀ (l l' : List Tok), l.map er = l'.map er → (l.flatMap fun t => t.text.data.toList) = (l'.flatMap fun t => t.text.data.toList) := by
    intro l l' h
    have e : ∀ (l : List Tok), (l.flatMap fun t => t.text.data.toList) = (l.map er).flatMap fun x => x.2.data.toList := fun l => by rw [List.flatMap_map]; rfl
    rw [e, e, h]
  rw [this _ _ h]

/-- what can be read: its tokens -/
theorem read_ok {s u : ByteArray} (h : read s = (u, 0, 0)) : u = plain s ∧ s.size ≤ 600 ∧ ∃ m t, split s = m ++ [t] ∧ t.kind = 1 ∧ t.text = ⟨#[]⟩ ∧ (∀ y, y ∈ m.map (fun t => It.of (conv t)) → y.tok) ∧ Apart (m.map (fun t => It.of (conv t))) := by
  have hsz : ¬ 600 < s.size := by
    intro hh
    rw [read_1 hh] at h
    simp at h
  obtain ⟨m, t, hm, hreal⟩ := split_front s
  rcases h1 : pRules (split s) (split s).length 0 [] with ⟨_ | rs, j⟩
  · exfalso
    unfold read at h
    rw [if_neg hsz, h1] at h
    simp at h
  · have hu : u = plain s := by
      unfold read at h
      rw [if_neg hsz, h1] at h
      simp only at h
      split at h
      · simp at h
      split at h
      · simp at h
      split at h
      · simp at h
      · simp only [Prod.mk.injEq] at h
        exact h.1.symm
    obtain ⟨hadj, hk1, _⟩ := pRules_apart _ _ _ h1
    have hj : j = m.length := by
      by_cases hlt : j < m.length
      · exfalso
        have : kindAt (split s) j = m[j].kind := by
          unfold kindAt
          rw [hm, List.getElem?_append_left hlt, List.getElem?_eq_getElem hlt]
        have hr := hreal m[j] (List.getElem_mem hlt)
        omega
      · have hl := pRules_lt (split_ends s) _ _ _ (by rw [hm]; simp) h1
        rw [hm] at hl
        simp at hl
        omega
    subst hj
    have htk : t.kind = 1 := by
      have : kindAt (split s) m.length = t.kind := by
        unfold kindAt
        rw [hm]
        simp
      omega
    have hmem : ∀ x, x ∈ split s → conv x ∈ rtoks s := fun x hx => by rw [rtoks_split]; exact List.mem_map.2 ⟨x, hx, rfl⟩
    have htx : t.text = ⟨#[]⟩ := by
      have ht := hmem t (by rw [hm]; simp)
      rcases rtokens_mem s _ _ _ _ (Nat.zero_le _) ht with hh | ⟨b, hb, _⟩
      · cases hh
      · have hk : (rtok s b).kind = 101 := by rw [← hb]; simp [conv, htk, kc]
        have := rtok_none_text s _ (.inl hk)
        have e : t.text = (rtok s b).text := by rw [← hb]; rfl
        rw [e]; exact this
    refine ⟨hu, by omega, m, t, hm, htk, htx, ?_, ?_⟩
    · intro y hy
      obtain ⟨x, hx, rfl⟩ := List.mem_map.1 hy
      have hxs : x ∈ split s := by rw [hm]; simp [hx]
      have hk := split_kinds s x hxs
      have hr := hreal x hx
      refine rtoks_tok s (conv x) (hmem x hxs) ?_
      have := kc_end x.kind hk.1 hk.2 hr.2
      unfold Real
      show kc x.kind ≠ 101 ∧ kc x.kind ≠ 120
      omega
    · apply apart_of
      intro k hw
      by_cases hk : k + 1 < m.length
      · have e : ∀ i, i < m.length → kindAt (split s) i = kindAt m i := by
          intro i hi
          unfold kindAt
          rw [hm, List.getElem?_append_left hi]
        refine hadj k (Nat.zero_le _) (by omega) ⟨?_, ?_⟩
        · unfold W; rw [e k (by omega)]; exact hw.1
        · unfold W; rw [e (k + 1) hk]; exact hw.2
      · have : kindAt m (k + 1) = 0 := by
          unfold kindAt
          rw [List.getElem?_eq_none (by omega)]
        have := hw.2
        unfold W at this
        omega

/-- the plain form of what can be read is read, and is its own -/
theorem read_plain {s u : ByteArray} (h : read s = (u, 0, 0)) : read u = (u, 0, 0) := by
  obtain ⟨rfl, hsz, m, t, hm, htk, htx, htok, hap⟩ := read_ok h
  have hcat : (plain s).data.toList = cat (m.map (fun t => It.of (conv t))) := by
    rw [plain_cat, rtoks_split, hm]
    simp [cat, It.of, conv, htx]
    rfl
  have hl : Lay (plain s) 0 (m.map (fun t => It.of (conv t))) := lay_cat _ _ 0 (Nat.zero_le _) (by rw [List.drop_zero]; exact hcat)
  have he := lay_er hm htk htx htok hap hl
  have hp := plain_er he
  have := er_read (p := plain s) (by have := plain_size s; omega) he ⟨_, h⟩
  rw [← hp] at this
  exact this
end Go.Proofs.Ytdmicblafmhflaa.Ax

/- The place that an error tells stands in the text. No program here. -/
namespace Go.Proofs.Ytdmicblafmhflaa.Ax
set_option linter.unusedSimpArgs false
set_option linter.unusedVariables false

theorem split_at (s : ByteArray) (t : Tok) (h : t ∈ split s) : t.at_ ≤ s.size := by
  have : conv t ∈ rtoks s := by rw [rtoks_split]; exact List.mem_map.2 ⟨t, h, rfl⟩
  rcases rtokens_mem s _ _ _ _ (Nat.zero_le _) this with hh | ⟨b, hb, hle⟩
  · cases hh
  · have e : t.at_ = (rtok s b).at_ := by rw [← hb]; rfl
    rw [e]
    exact (rtok_place s b hle).2.1

theorem pAtom_at {T : List Tok} {M : Nat} (h : ∀ t, t ∈ T → t.at_ ≤ M) {i j : Nat} {a : Atom} (ha : pAtom T i = (some a, j)) : a.at_ ≤ M := by
  unfold pAtom at ha
  split at ha
  · simp at ha
  · rename_i t ht
    have hm := h t (List.mem_of_getElem? ht)
    split at ha
    · split at ha
      · split at ha
        · simp at ha
        · split at ha
          · simp at ha; rw [← ha.1]; exact hm
          · simp at ha
      · simp at ha
    · simp at ha
theorem pAtoms_at {T : List Tok} {M : Nat} (h : ∀ t, t ∈ T → t.at_ ≤ M) : ∀ (f i : Nat) (acc : List Atom) {r : List Atom} {j : Nat}, (∀ a, a ∈ acc → a.at_ ≤ M) → pAtoms T f i acc = (some r, j) → ∀ a, a ∈ r → a.at_ ≤ M
  | 0, i, acc, r, j, hacc, hr => by simp [pAtoms] at hr
  | f + 1, i, acc, r, j, hacc, hr => by
    rcases hA : pAtom T i with ⟨_ | a, j'⟩
    · rw [pAtoms_none hA] at hr; simp at hr
    · have hp := pAtom_at h hA
      have hacc' : ∀ x, x ∈ acc ++ [a] → x.at_ ≤ M := by
        intro x hx
        rcases List.mem_append.1 hx with hx | hx
        · exact hacc x hx
        · simp at hx; subst hx; exact hp
      by_cases h6 : kindAt T j' = 6
      · rw [pAtoms_on hA h6] at hr
        exact pAtoms_at h f _ _ hacc' hr
      · rw [pAtoms_last hA h6] at hr
        simp at hr
        rw [← hr.1]
        exact fun x hx => hacc' x (by simpa using hx)
theorem pRule_at {T : List Tok} {M : Nat} (h : ∀ t, t ∈ T → t.at_ ≤ M) {i j : Nat} {r : Rule} (hr : pRule T i = (some r, j)) : ∀ a, a ∈ r.atoms → a.at_ ≤ M := by
  rcases hA : pAtom T i with ⟨_ | a, j1⟩
  · rw [pRule_0 hA] at hr; simp at hr
  · have h1 := pAtom_at h hA
    by_cases h8 : kindAt T j1 = 8
    · rcases hB : pAtoms T T.length (j1 + 1) [] with ⟨_ | b, j2⟩
      · rw [pRule_1 hA h8 hB] at hr; simp at hr
      · have h2 := pAtoms_at h _ _ [] (fun _ hx => by cases hx) hB
        by_cases h7 : kindAt T j2 = 7
        · rw [pRule_3 hA h8 hB h7] at hr
          simp at hr
          rw [← hr.1]
          intro x hx
          rcases List.mem_cons.1 hx with rfl | hx
          · exact h1
          · exact h2 x hx
        · rw [pRule_2 hA h8 hB h7] at hr; simp at hr
    · by_cases h7 : kindAt T j1 = 7
      · rw [pRule_5 hA h8 h7] at hr
        simp at hr
        rw [← hr.1]
        intro x hx
        rcases List.mem_cons.1 hx with rfl | hx
        · exact h1
        · cases hx
      · rw [pRule_4 hA h8 h7] at hr; simp at hr
theorem pRules_at {T : List Tok} {M : Nat} (h : ∀ t, t ∈ T → t.at_ ≤ M) : ∀ (f i : Nat) (acc : List Rule) {rs : List Rule} {j : Nat}, (∀ r, r ∈ acc → ∀ a, a ∈ r.atoms → a.at_ ≤ M) → pRules T f i acc = (some rs, j) → ∀ r, r ∈ rs → ∀ a, a ∈ r.atoms → a.at_ ≤ M
  | 0, i, acc, rs, j, _, hr => by simp [pRules] at hr
  | f + 1, i, acc, rs, j, hacc, hr => by
    by_cases h1 : kindAt T i = 1
    · rw [pRules_end h1] at hr
      simp at hr
      rw [← hr.1]
      exact hacc
    · rcases hR : pRule T i with ⟨_ | x, j'⟩
      · rw [pRules_none h1 hR] at hr; simp at hr
      · rw [pRules_on h1 hR] at hr
        refine pRules_at h f _ _ ?_ hr
        intro y hy
        rcases List.mem_append.1 hy with hy | hy
        · exact hacc y hy
        · simp at hy; subst hy; exact pRule_at h hR
theorem tooMany_at : ∀ (l : List Rule) (i : Nat) (ps : List ByteArray) {p : Nat}, tooMany i ps l = some p → ∃ r, r ∈ l ∧ p = r.head.at_
  | [], i, ps, p, h => by simp [tooMany] at h
  | r :: l, i, ps, p, h => by
    unfold tooMany at h
    split at h
    · simp at h; exact ⟨r, by simp, h.symm⟩
    · obtain ⟨x, hx, e⟩ := tooMany_at l _ _ h
      exact ⟨x, by simp [hx], e⟩
theorem openHead_at : ∀ (l : List Rule) {p : Nat}, openHead l = some p → ∃ r, r ∈ l ∧ p = r.head.at_
  | [], p, h => by simp [openHead] at h
  | r :: l, p, h => by
    unfold openHead at h
    split at h
    · simp at h; exact ⟨r, by simp, h.symm⟩
    · obtain ⟨x, hx, e⟩ := openHead_at l h
      exact ⟨x, by simp [hx], e⟩
theorem twoAr_at : ∀ (l : List Atom) (m : List (ByteArray × Nat)) {p : Nat}, twoAr m l = some p → ∃ a, a ∈ l ∧ p = a.at_
  | [], m, p, h => by simp [twoAr] at h
  | a :: l, m, p, h => by
    unfold twoAr at h
    split at h
    · split at h
      · obtain ⟨x, hx, e⟩ := twoAr_at l _ h
        exact ⟨x, by simp [hx], e⟩
      · simp at h; exact ⟨a, by simp, h.symm⟩
    · obtain ⟨x, hx, e⟩ := twoAr_at l _ h
      exact ⟨x, by simp [hx], e⟩

/-- what read tells: no error and place 0, or an error, nothing, and a place in the text -/
theorem read_place (s : ByteArray) : ((read s).2.1 = 0 ∧ (read s).2.2 = 0) ∨ ((read s).2.1 ≠ 0 ∧ (read s).1 = ByteArray.empty ∧ (read s).2.2 ≤ s.size) := by
  by_cases h1 : 600 < s.size
  · rw [read_1 h1]; exact .inr ⟨by simp, rfl, Nat.zero_le _⟩
  · have hat := split_at s
    rcases hR : pRules (split s) (split s).length 0 [] with ⟨_ | rs, j⟩
    · have hj := pRules_lt (split_ends s) _ _ _ (by obtain ⟨m, t, e, _⟩ := split_ends s; rw [e]; simp) hR
      have ht : (split s)[j]? = some (split s)[j] := List.getElem?_eq_getElem hj
      rw [read_2 h1 hR ht]
      exact .inr ⟨by simp, rfl, hat _ (List.getElem_mem hj)⟩
    · have hrs := pRules_at hat _ _ [] (fun _ h => by cases h) hR
      rcases h3 : tooMany 0 [] rs with _ | p
      · rcases h4 : twoAr [] (rs.flatMap Rule.atoms) with _ | p
        · rcases h5 : openHead rs with _ | p
          · rw [read_0 h1 hR h3 h4 h5]; exact .inl ⟨rfl, rfl⟩
          · rw [read_5 h1 hR h3 h4 h5]
            obtain ⟨r, hr, rfl⟩ := openHead_at _ h5
            exact .inr ⟨by simp, rfl, hrs r hr _ (by simp [Rule.atoms])⟩
        · rw [read_4 h1 hR h3 h4]
          obtain ⟨a, ha, rfl⟩ := twoAr_at _ _ h4
          obtain ⟨r, hr, ha⟩ := List.mem_flatMap.1 ha
          exact .inr ⟨by simp, rfl, hrs r hr a ha⟩
      · rw [read_3 h1 hR h3]
        obtain ⟨r, hr, rfl⟩ := tooMany_at _ _ _ h3
        exact .inr ⟨by simp, rfl, hrs r hr _ (by simp [Rule.atoms])⟩
end Go.Proofs.Ytdmicblafmhflaa.Ax

/- Rules that are laid out as tokens are read again. No program here. -/
namespace Go.Proofs.Ytdmicblafmhflaa.Ax
set_option linter.unusedSimpArgs false
set_option linter.unusedVariables false

abbrev EA := ByteArray × List Term
abbrev ER := EA × List EA
abbrev EI := Int × ByteArray

def tI (t : Term) : EI := (t.kind + 2, t.text)
def comma : EI := (6, ⟨#[44]⟩)
def termsI : List Term → List EI
  | [] => []
  | [t] => [tI t]
  | t :: u :: r => tI t :: comma :: termsI (u :: r)
def atomI (a : EA) : List EI := (2, a.1) :: (4, ⟨#[40]⟩) :: (termsI a.2 ++ [(5, ⟨#[41]⟩)])
def atomsI : List EA → List EI
  | [] => []
  | [a] => atomI a
  | a :: b :: r => atomI a ++ comma :: atomsI (b :: r)
def ruleI (r : ER) : List EI := atomI r.1 ++ (if r.2 = [] then [] else (8, ⟨#[58, 45]⟩) :: atomsI r.2) ++ [(7, ⟨#[46]⟩)]
def rulesI (l : List ER) : List EI := l.flatMap ruleI

def EA.fit (a : EA) : Prop := a.2 ≠ [] ∧ ∀ t, t ∈ a.2 → t.kind = 0 ∨ t.kind = 1

theorem dropI {E : List EI} {i : Nat} {x : EI} {l : List EI} (h : E.drop i = x :: l) : E[i]? = some x ∧ E.drop (i + 1) = l := by
  constructor
  · have := congrArg (fun q => q[0]?) h
    simpa using this
  · rw [← List.drop_drop, h]; rfl
theorem kind_of {T : List Tok} {i : Nat} {x : EI} (h : (T.map er)[i]? = some x) : kindAt T i = x.1 := by
  rw [List.getElem?_map] at h
  unfold kindAt
  cases h1 : T[i]? <;> rw [h1] at h <;> simp [er] at h ⊢
  rw [← h]
theorem tok_of_er {T : List Tok} {i : Nat} {x : EI} (h : (T.map er)[i]? = some x) : ∃ t, T[i]? = some t ∧ t.kind = x.1 ∧ t.text = x.2 := by
  rw [List.getElem?_map] at h
  cases h1 : T[i]? <;> rw [h1] at h <;> simp [er] at h
  rename_i t
  exact ⟨t, rfl, by rw [← h], by rw [← h]⟩
theorem term_laid {T : List Tok} {i : Nat} {t : Term} (h : (T.map er)[i]? = some (tI t)) (hk : t.kind = 0 ∨ t.kind = 1) : pTerm T i = (some t, i + 1) := by
  obtain ⟨u, h1, h2, h3⟩ := tok_of_er h
  simp only [tI] at h2 h3
  rw [pTerm_some h1 (by omega), h2, h3]
  simp

/-- the next token is no comma -/
def NoComma (l : List EI) : Prop := ∃ x r, l = x :: r ∧ x.1 ≠ 6

theorem terms_laid {T : List Tok} : ∀ (ts : List Term) (f i : Nat) (acc : List Term) (post : List EI), ts ≠ [] → (∀ t, t ∈ ts → t.kind = 0 ∨ t.kind = 1) → (T.map er).drop i = termsI ts ++ post → NoComma post → ts.length ≤ f →
    pTerms T f i acc = (some (acc ++ ts), i + (termsI ts).length) ∧ (T.map er).drop (i + (termsI ts).length) = post
  | [], _, _, _, _, h, _, _, _, _ => absurd rfl h
  | [t], 0, _, _, _, _, _, _, _, hf => by simp at hf
  | _ :: _ :: _, 0, _, _, _, _, _, _, _, hf => by simp at hf
  | [t], f + 1, i, acc, post, _, hk, hE, hp, _ => by
    obtain ⟨h1, h2⟩ := dropI (show (T.map er).drop i = tI t :: post from hE)
    obtain ⟨x, r, rfl, hx⟩ := hp
    obtain ⟨h3, _⟩ := dropI h2
    rw [pTerms_last (term_laid h1 (hk t (by simp))) (by rw [kind_of h3]; exact hx)]
    exact ⟨rfl, h2⟩
  | t :: u :: r, f + 1, i, acc, post, _, hk, hE, hp, hf => by
    obtain ⟨h1, h2⟩ := dropI (show (T.map er).drop i = tI t :: (comma :: termsI (u :: r) ++ post) from hE)
    obtain ⟨h3, h4⟩ := dropI (show (T.map er).drop (i + 1) = comma :: (termsI (u :: r) ++ post) from h2)
    rw [pTerms_on (term_laid h1 (hk t (by simp))) (by rw [kind_of h3]; rfl)]
    obtain ⟨h5, h6⟩ := terms_laid (u :: r) f (i + 1 + 1) (acc ++ [t]) post (by simp) (fun x hx => hk x (by simp [hx])) h4 hp (by simp at hf ⊢; omega)
    have e : i + (termsI (t :: u :: r)).length = i + 1 + 1 + (termsI (u :: r)).length := by simp [termsI]; omega
    rw [h5, e]
    exact ⟨by simp, h6⟩

theorem termsI_len : ∀ ts : List Term, ts.length ≤ (termsI ts).length
  | [] => by simp
  | [t] => by simp [termsI]
  | t :: u :: r => by have := termsI_len (u :: r); simp [termsI] at this ⊢; omega

theorem atom_laid {T : List Tok} {i : Nat} {a : EA} {post : List EI} (ha : a.fit) (hE : (T.map er).drop i = atomI a ++ post) :
    ∃ a', pAtom T i = (some a', i + (atomI a).length) ∧ erA a' = a ∧ (T.map er).drop (i + (atomI a).length) = post := by
  obtain ⟨h1, h2⟩ := dropI (show (T.map er).drop i = (2, a.1) :: ((4, ⟨#[40]⟩) :: (termsI a.2 ++ [(5, ⟨#[41]⟩)]) ++ post) from hE)
  obtain ⟨h3, h4⟩ := dropI (show (T.map er).drop (i + 1) = (4, ⟨#[40]⟩) :: (termsI a.2 ++ [(5, ⟨#[41]⟩)] ++ post) from h2)
  rw [List.append_assoc] at h4
  have hlen : a.2.length ≤ T.length := by
    have := congrArg List.length h4
    simp only [List.length_drop, List.length_map, List.length_append] at this
    have := termsI_len a.2
    omega
  obtain ⟨h5, h6⟩ := terms_laid a.2 T.length (i + 1 + 1) [] _ ha.1 ha.2 h4 ⟨_, _, rfl, by simp⟩ hlen
  obtain ⟨h7, h8⟩ := dropI h6
  obtain ⟨t, ht, hk, htx⟩ := tok_of_er h1
  refine ⟨⟨t.at_, t.text, a.2⟩, ?_, ?_, ?_⟩
  · rw [pAtom_4 ht (by simpa using hk) (kind_of h3) (by simpa using h5) (kind_of h7)]
    simp [atomI]
    omega
  · simp only at htx; simp [erA, htx]
  · have e : i + (atomI a).length = i + 1 + 1 + (termsI a.2).length + 1 := by simp [atomI]; omega
    rw [e]; exact h8

theorem atoms_laid {T : List Tok} : ∀ (l : List EA) (f i : Nat) (acc : List Atom) (post : List EI), l ≠ [] → (∀ a, a ∈ l → a.fit) → (T.map er).drop i = atomsI l ++ post → NoComma post → l.length ≤ f →
    ∃ r, pAtoms T f i acc = (some (acc ++ r), i + (atomsI l).length) ∧ r.map erA = l ∧ (T.map er).drop (i + (atomsI l).length) = post
  | [], _, _, _, _, h, _, _, _, _ => absurd rfl h
  | [a], 0, _, _, _, _, _, _, _, hf => by simp at hf
  | _ :: _ :: _, 0, _, _, _, _, _, _, _, hf => by simp at hf
  | [a], f + 1, i, acc, post, _, hk, hE, hp, _ => by
    obtain ⟨a', h1, h2, h3⟩ := atom_laid (hk a (by simp)) (show (T.map er).drop i = atomI a ++ post from hE)
    obtain ⟨x, r, rfl, hx⟩ := hp
    obtain ⟨h4, _⟩ := dropI h3
    refine ⟨[a'], ?_, by simp [h2], h3⟩
    rw [pAtoms_last h1 (by rw [kind_of h4]; exact hx)]
    rfl
  | a :: b :: l, f + 1, i, acc, post, _, hk, hE, hp, hf => by
    have hE' : (T.map er).drop i = atomI a ++ (comma :: (atomsI (b :: l) ++ post)) := by rw [hE]; simp [atomsI]
    obtain ⟨a', h1, h2, h3⟩ := atom_laid (hk a (by simp)) hE'
    obtain ⟨h4, h5⟩ := dropI h3
    obtain ⟨r, h6, h7, h8⟩ := atoms_laid (b :: l) f (i + (atomI a).length + 1) (acc ++ [a']) post (by simp) (fun x hx => hk x (by simp [hx])) h5 hp (by simp at hf ⊢; omega)
    have e : i + (atomsI (a :: b :: l)).length = i + (atomI a).length + 1 + (atomsI (b :: l)).length := by simp [atomsI]; omega
    refine ⟨a' :: r, ?_, by simp [h2, h7], by rw [e]; exact h8⟩
    rw [pAtoms_on h1 (by rw [kind_of h4]; rfl), h6, e]
    simp

theorem atomsI_len : ∀ l : List EA, l.length ≤ (atomsI l).length
  | [] => by simp
  | [a] => by simp [atomsI, atomI]
  | a :: b :: r => by have := atomsI_len (b :: r); simp [atomsI, atomI] at this ⊢; omega

def ER.fit (r : ER) : Prop := r.1.fit ∧ ∀ a, a ∈ r.2 → a.fit
theorem rule_laid {T : List Tok} {i : Nat} {r : ER} {post : List EI} (hr : ER.fit r) (hE : (T.map er).drop i = ruleI r ++ post) :
    ∃ r', pRule T i = (some r', i + (ruleI r).length) ∧ erR r' = r ∧ (T.map er).drop (i + (ruleI r).length) = post := by
  rcases r with ⟨h, b⟩
  by_cases hb : b = []
  · subst hb
    have hE' : (T.map er).drop i = atomI h ++ ((7, ⟨#[46]⟩) :: post) := by rw [hE]; simp [ruleI]
    obtain ⟨a', h1, h2, h3⟩ := atom_laid hr.1 hE'
    obtain ⟨h4, h5⟩ := dropI h3
    have e : i + (ruleI (h, [])).length = i + (atomI h).length + 1 := by simp [ruleI]; omega
    refine ⟨⟨a', []⟩, ?_, by simp [erR, h2], by rw [e]; exact h5⟩
    rw [pRule_5 h1 (by rw [kind_of h4]; simp) (kind_of h4), e]
  · have hE' : (T.map er).drop i = atomI h ++ ((8, ⟨#[58, 45]⟩) :: (atomsI b ++ ((7, ⟨#[46]⟩) :: post))) := by rw [hE]; simp [ruleI, hb]
    obtain ⟨a', h1, h2, h3⟩ := atom_laid hr.1 hE'
    obtain ⟨h4, h5⟩ := dropI h3
    have hlen : b.length ≤ T.length := by
      have := congrArg List.length h5
      simp only [List.length_drop, List.length_map, List.length_append] at this
      have := atomsI_len b
      omega
    obtain ⟨l, h6, h7, h8⟩ := atoms_laid b T.length (i + (atomI h).length + 1) [] _ hb hr.2 h5 ⟨_, _, rfl, by simp⟩ hlen
    obtain ⟨h9, h10⟩ := dropI h8
    have e : i + (ruleI (h, b)).length = i + (atomI h).length + 1 + (atomsI b).length + 1 := by simp [ruleI, hb]; omega
    refine ⟨⟨a', l⟩, ?_, by simp [erR, h2, h7], by rw [e]; exact h10⟩
    rw [pRule_3 h1 (kind_of h4) (by simpa using h6) (kind_of h9), e]

theorem rules_laid {T : List Tok} : ∀ (l : List ER) (f i : Nat) (acc : List Rule) (x : ByteArray), (∀ r, r ∈ l → ER.fit r) → (T.map er).drop i = rulesI l ++ [(1, x)] → l.length < f →
    ∃ rs, pRules T f i acc = (some (acc ++ rs), i + (rulesI l).length) ∧ rs.map erR = l
  | _, 0, _, _, _, _, _, hf => by omega
  | [], f + 1, i, acc, x, _, hE, _ => by
    obtain ⟨h1, _⟩ := dropI (show (T.map er).drop i = (1, x) :: [] from hE)
    exact ⟨[], by rw [pRules_end (kind_of h1)]; simp [rulesI], rfl⟩
  | r :: l, f + 1, i, acc, x, hk, hE, hf => by
    have hE' : (T.map er).drop i = ruleI r ++ (rulesI l ++ [(1, x)]) := by rw [hE]; simp [rulesI]
    have hk1 : ¬ kindAt T i = 1 := by
      have : (T.map er).drop i = (2, r.1.1) :: ((4, ⟨#[40]⟩) :: (termsI r.1.2 ++ [(5, ⟨#[41]⟩)]) ++ (if r.2 = [] then [] else (8, ⟨#[58, 45]⟩) :: atomsI r.2) ++ [(7, ⟨#[46]⟩)] ++ (rulesI l ++ [(1, x)])) := by rw [hE']; simp [ruleI, atomI]
      rw [kind_of (dropI this).1]
      simp
    obtain ⟨r', h1, h2, h3⟩ := rule_laid (hk r (by simp)) hE'
    obtain ⟨rs, h4, h5⟩ := rules_laid l f (i + (ruleI r).length) (acc ++ [r']) x (fun y hy => hk y (by simp [hy])) h3 (by simp at hf ⊢; omega)
    refine ⟨r' :: rs, ?_, by simp [h2, h5]⟩
    rw [pRules_on hk1 h1, h4]
    have e : i + (rulesI (r :: l)).length = i + (ruleI r).length + (rulesI l).length := by simp [rulesI]; omega
    rw [e]
    simp
end Go.Proofs.Ytdmicblafmhflaa.Ax

/- Rules over few predicates of fixed places are a program. No program here. -/
namespace Go.Proofs.Ytdmicblafmhflaa.Ax
set_option linter.unusedSimpArgs false
set_option linter.unusedVariables false

theorem short_of {α : Type} [DecidableEq α] : ∀ (P l : List α), l.Nodup → (∀ x, x ∈ l → x ∈ P) → l.length ≤ P.length
  | [], l, _, h => by
    cases l with
    | nil => simp
    | cons a l => exact absurd (h a (by simp)) (by simp)
  | p :: P, l, hn, h => by
    have h1 : (l.erase p).Nodup := hn.erase p
    have h2 : ∀ x, x ∈ l.erase p → x ∈ P := by
      intro x hx
      have hxl := List.mem_of_mem_erase hx
      rcases List.mem_cons.1 (h x hxl) with rfl | hp
      · exact absurd hx (hn.not_mem_erase)
      · exact hp
    have := short_of P (l.erase p) h1 h2
    have hl : l.length ≤ (l.erase p).length + 1 := by
      rw [List.length_erase]
      split <;> omega
    simp only [List.length_cons]
    omega

theorem addPreds_keep (P : List ByteArray) : ∀ (l : List Atom) (ps : List ByteArray), ps.Nodup → (∀ x, x ∈ ps → x ∈ P) → (∀ a, a ∈ l → a.pred ∈ P) → (addPreds ps l).Nodup ∧ ∀ x, x ∈ addPreds ps l → x ∈ P
  | [], ps, h1, h2, _ => ⟨h1, h2⟩
  | a :: l, ps, h1, h2, h3 => by
    unfold addPreds
    by_cases hh : has ps a.pred = true
    · rw [if_pos hh]
      exact addPreds_keep P l ps h1 h2 (fun x hx => h3 x (by simp [hx]))
    · rw [if_neg hh]
      refine addPreds_keep P l _ ?_ ?_ (fun x hx => h3 x (by simp [hx]))
      · rw [List.nodup_append]
        refine ⟨h1, by simp, ?_⟩
        intro x hx y hy
        simp at hy
        subst hy
        intro e
        subst e
        exact hh ((has_iff _ _).2 hx)
      · intro x hx
        rcases List.mem_append.1 hx with hx | hx
        · exact h2 x hx
        · simp at hx; subst hx; exact h3 a (by simp)

theorem tooMany_none (P : List ByteArray) (hP : P.length ≤ 6) : ∀ (l : List Rule) (i : Nat) (ps : List ByteArray), ps.Nodup → (∀ x, x ∈ ps → x ∈ P) → i + l.length ≤ 8 → (∀ r, r ∈ l → r.body.length ≤ 2 ∧ ∀ a, a ∈ r.atoms → a.pred ∈ P ∧ a.terms.length ≤ 3) → tooMany i ps l = none
  | [], _, _, _, _, _, _ => rfl
  | r :: l, i, ps, h1, h2, h3, h4 => by
    obtain ⟨hb, ha⟩ := h4 r (by simp)
    obtain ⟨k1, k2⟩ := addPreds_keep P r.atoms ps h1 h2 (fun a hx => (ha a hx).1)
    have hs := short_of P _ k1 k2
    simp only [List.length_cons] at h3
    have hw : anyWide r.atoms = false := by
      rw [Bool.eq_false_iff]
      intro hh
      simp only [anyWide, List.any_eq_true, wide, decide_eq_true_eq] at hh
      obtain ⟨a, hx, hy⟩ := hh
      have := (ha a hx).2
      omega
    have hm : manyAt i (addPreds ps r.atoms) r = false := by
      unfold manyAt
      rw [hw]
      simp
      omega
    unfold tooMany
    rw [hm]
    simp only [Bool.false_eq_true, if_false]
    exact tooMany_none P hP l (i + 1) _ k1 k2 (by omega) (fun x hx => h4 x (by simp [hx]))

theorem twoAr_none (ar : ByteArray → Nat) : ∀ (l : List Atom) (m : List (ByteArray × Nat)), (∀ x, x ∈ m → x.2 = ar x.1) → (∀ a, a ∈ l → a.terms.length = ar a.pred) → twoAr m l = none
  | [], _, _, _ => rfl
  | a :: l, m, h1, h2 => by
    have ha := h2 a (by simp)
    unfold twoAr
    split
    · rename_i n hn
      have : n = a.terms.length := by
        unfold look at hn
        rw [Option.map_eq_some_iff] at hn
        obtain ⟨x, hx, rfl⟩ := hn
        have hm := List.mem_of_find?_eq_some hx
        have hp := List.find?_some hx
        simp only [decide_eq_true_eq] at hp
        rw [h1 x hm, hp, ha]
      rw [if_pos this]
      exact twoAr_none ar l m h1 (fun x hx => h2 x (by simp [hx]))
    · refine twoAr_none ar l _ ?_ (fun x hx => h2 x (by simp [hx]))
      intro x hx
      rcases List.mem_cons.1 hx with rfl | hx
      · exact ha
      · exact h1 x hx

theorem openHead_none : ∀ (l : List Rule), (∀ r, r ∈ l → openAt r = false) → openHead l = none
  | [], _ => rfl
  | r :: l, h => by
    unfold openHead
    rw [h r (by simp)]
    simp only [Bool.false_eq_true, if_false]
    exact openHead_none l (fun x hx => h x (by simp [hx]))

/-- what makes a list of rules a program -/
structure Good (P : List ByteArray) (ar : ByteArray → Nat) (R : List ER) : Prop where
  few : R.length ≤ 8
  preds : P.length ≤ 6
  fit : ∀ r, r ∈ R → ER.fit r ∧ r.2.length ≤ 2
  atoms : ∀ r, r ∈ R → ∀ a, a = r.1 ∨ a ∈ r.2 → a.1 ∈ P ∧ a.2.length = ar a.1 ∧ a.2.length ≤ 3
  safe : ∀ r, r ∈ R → ∀ t, t ∈ r.1.2 → t.kind = 1 → ∃ a, a ∈ r.2 ∧ t ∈ a.2

theorem read_laid {P : List ByteArray} {ar : ByteArray → Nat} {R : List ER} (hG : Good P ar R) {t x : ByteArray} (ht : t.size ≤ 600) (hE : (split t).map er = rulesI R ++ [(1, x)]) : read t = (plain t, 0, 0) := by
  have hlen : ∀ l : List ER, l.length ≤ (rulesI l).length := by
    intro l
    induction l with
    | nil => simp
    | cons r l ih => simp [rulesI, ruleI] at ih ⊢; omega
  have hT : R.length < (split t).length := by
    have := congrArg List.length hE
    simp only [List.length_map, List.length_append, List.length_singleton] at this
    have := hlen R
    omega
  obtain ⟨rs, h1, h2⟩ := rules_laid (T := split t) R (split t).length 0 [] x (fun r hr => (hG.fit r hr).1) (by rw [List.drop_zero]; exact hE) hT
  rw [List.nil_append] at h1
  have hmem : ∀ r, r ∈ rs → erR r ∈ R := fun r hr => by rw [← h2]; exact List.mem_map.2 ⟨r, hr, rfl⟩
  have hat : ∀ r, r ∈ rs → ∀ a, a ∈ r.atoms → a.pred ∈ P ∧ a.terms.length = ar a.pred ∧ a.terms.length ≤ 3 := by
    intro r hr a ha
    refine hG.atoms (erR r) (hmem r hr) (erA a) ?_
    rcases List.mem_cons.1 ha with rfl | ha
    · exact .inl rfl
    · exact .inr (List.mem_map.2 ⟨a, ha, rfl⟩)
  refine read_0 (by omega) h1 ?_ ?_ ?_
  · refine tooMany_none P hG.preds rs 0 [] (by simp) (fun _ h => by cases h) ?_ ?_
    · have := congrArg List.length h2
      simp at this
      have := hG.few
      omega
    · intro r hr
      have hb := (hG.fit _ (hmem r hr)).2
      refine ⟨by simpa [erR] using hb, fun a ha => ⟨(hat r hr a ha).1, (hat r hr a ha).2.2⟩⟩
  · refine twoAr_none ar _ [] (fun _ h => by cases h) ?_
    intro a ha
    obtain ⟨r, hr, ha⟩ := List.mem_flatMap.1 ha
    exact (hat r hr a ha).2.1
  · refine openHead_none rs ?_
    intro r hr
    rw [Bool.eq_false_iff]
    intro ho
    simp only [openAt, List.any_eq_true, openTerm, Bool.and_eq_true, decide_eq_true_eq, Bool.not_eq_true'] at ho
    obtain ⟨t, ht, hk, hb⟩ := ho
    obtain ⟨a, ha, hta⟩ := hG.safe (erR r) (hmem r hr) t ht hk
    obtain ⟨a', ha', rfl⟩ := List.mem_map.1 ha
    have : bodyHas r.body t = true := by
      simp only [bodyHas, List.any_eq_true]
      exact ⟨a', ha', (hasTerm_iff _ _).2 hta⟩
    rw [this] at hb
    cases hb
end Go.Proofs.Ytdmicblafmhflaa.Ax

/- The programs that Plain's rules make. No program here. -/
namespace Go.Proofs.Ytdmicblafmhflaa.Ax
set_option linter.unusedSimpArgs false
set_option linter.unusedVariables false

/-- an item of a list of tokens, with the reference's kind -/
def itOf (x : EI) : It := ⟨kc x.1, x.2⟩

/-- a token of it, at place 0 -/
def tokOf (x : EI) : Tok := ⟨x.1, 0, x.2⟩
/-- laid rules are apart -/
theorem rulesI_apart {P : List ByteArray} {ar : ByteArray → Nat} {R : List ER} (hG : Good P ar R) : Apart ((rulesI R).map itOf) := by
  obtain ⟨T, hTd⟩ : ∃ T : List Tok, T = (rulesI R).map tokOf ++ [⟨1, 0, ⟨#[]⟩⟩] := ⟨_, rfl⟩
  have hT : T.map er = rulesI R ++ [(1, ⟨#[]⟩)] := by
    rw [hTd, List.map_append, List.map_map]
    have : (er ∘ tokOf) = id := by funext x; rfl
    rw [this, List.map_id]
    rfl
  have hlen : ∀ l : List ER, l.length ≤ (rulesI l).length := by
    intro l
    induction l with
    | nil => simp
    | cons r l ih => simp [rulesI, ruleI] at ih ⊢; omega
  have hl : T.length = (rulesI R).length + 1 := by
    have := congrArg List.length hT
    simpa using this
  obtain ⟨rs, h1, h2⟩ := rules_laid (T := T) R T.length 0 [] ⟨#[]⟩ (fun r hr => (hG.fit r hr).1) (by rw [List.drop_zero]; exact hT) (by have := hlen R; omega)
  obtain ⟨hadj, _, _⟩ := pRules_apart _ _ _ h1
  have e : (rulesI R).map itOf = ((rulesI R).map tokOf).map (fun t => It.of (conv t)) := by rw [List.map_map]; rfl
  rw [e]
  apply apart_of
  intro k hw
  by_cases hk : k + 1 < (rulesI R).length
  · have hkind : ∀ i, i < (rulesI R).length → kindAt T i = kindAt ((rulesI R).map tokOf) i := by
      intro i hi
      unfold kindAt
      rw [hTd, List.getElem?_append_left (by simpa using hi)]
    refine hadj k (Nat.zero_le _) (by omega) ⟨?_, ?_⟩
    · unfold W; rw [hkind k (by omega)]; exact hw.1
    · unfold W; rw [hkind (k + 1) hk]; exact hw.2
  · have : kindAt ((rulesI R).map tokOf) (k + 1) = 0 := by
      unfold kindAt
      rw [List.getElem?_eq_none (by simp; omega)]
    have := hw.2
    unfold W at this
    omega

theorem itOf_er {k : EI} {t : Tok} (hk : 0 ≤ k.1 ∧ k.1 ≤ 8) (ht : 0 ≤ t.kind ∧ t.kind ≤ 8) (h : It.of (conv t) = itOf k) : er t = k := by
  have := conv_er (a := t) (b := ⟨k.1, 0, k.2⟩) ht hk h
  exact this

/-- a text that is laid of good rules is read, and its plain form is their tokens' texts -/
theorem lay_read {P : List ByteArray} {ar : ByteArray → Nat} {R : List ER} (hG : Good P ar R) (htok : ∀ x, x ∈ rulesI R → (itOf x).tok) (hkinds : ∀ x, x ∈ rulesI R → 0 ≤ x.1 ∧ x.1 ≤ 8) {t : ByteArray} (ht : t.size ≤ 600) (hL : Lay t 0 ((rulesI R).map itOf)) :
    read t = (⟨((rulesI R).flatMap fun x => x.2.data.toList).toArray⟩, 0, 0) := by
  obtain ⟨m, h1, h2⟩ := lay_rtoks t _ hL (by intro y hy; obtain ⟨x, hx, rfl⟩ := List.mem_map.1 hy; exact htok x hx) (rulesI_apart hG)
  have hs : (split t).map (fun t => It.of (conv t)) = (rulesI R ++ [((1, ⟨#[]⟩) : EI)]).map itOf := by
    have e : (split t).map (fun t => It.of (conv t)) = ((split t).map conv).map It.of := by rw [List.map_map]; rfl
    rw [e, ← rtoks_split, h1, List.map_append, h2, List.map_append]
    rfl
  have hall : ∀ (l : List Tok) (E : List EI), Kinds l → (∀ x, x ∈ E → 0 ≤ x.1 ∧ x.1 ≤ 8) → l.map (fun t => It.of (conv t)) = E.map itOf → l.map er = E := by
    intro l
    induction l with
    | nil => intro E _ _ h; cases E with | nil => rfl | cons _ _ => simp at h
    | cons a l ih =>
      intro E h1 h2 h
      cases E with
      | nil => simp at h
      | cons x E =>
        simp only [List.map_cons, List.cons.injEq] at h
        rw [List.map_cons, itOf_er (h2 x (by simp)) (h1 a (by simp)) h.1, ih E (fun t ht => h1 t (by simp [ht])) (fun y hy => h2 y (by simp [hy])) h.2]
  have hE := hall (split t) _ (split_kinds t) (by
    intro x hx
    rcases List.mem_append.1 hx with hx | hx
    · exact hkinds x hx
    · simp at hx; subst hx; exact ⟨by decide, by decide⟩) hs
  rw [read_laid hG ht hE]
  congr 1
  unfold plain
  have e : ∀ (l : List Tok), (l.flatMap fun t => t.text.data.toList) = (l.map er).flatMap fun x => x.2.data.toList := fun l => by rw [List.flatMap_map]; rfl
  rw [e, hE, List.flatMap_append]
  simp
end Go.Proofs.Ytdmicblafmhflaa.Ax

/- Plain's rules as plain data, and that they are a program. No program here. -/
namespace Go.Proofs.Ytdmicblafmhflaa.Ax
set_option linter.unusedSimpArgs false
set_option linter.unusedVariables false

/-- pick -/
def gpick (c : Int) (n : Nat) : Nat := ((if c < 0 then -(c + 1) else c) % (n : Int)).toNat
theorem gpick_lt (c : Int) (n : Nat) (h : 0 < n) : gpick c n < n := by
  unfold gpick
  have h1 := Int.emod_lt_of_pos (if c < 0 then -(c + 1) else c) (show (0 : Int) < n by omega)
  have h2 := Int.emod_nonneg (if c < 0 then -(c + 1) else c) (show (n : Int) ≠ 0 by omega)
  omega
structure KAtom where
  pred : Int
  a : Int
  b : Int
structure KRule where
  head : KAtom
  body : List KAtom

def gname (n : Nat) : ByteArray := match n with | 0 => ⟨#[97]⟩ | 1 => ⟨#[98]⟩ | 2 => ⟨#[99, 49]⟩ | _ => ⟨#[195, 169]⟩
def gpred (n : Nat) : ByteArray := match n with | 0 => ⟨#[110]⟩ | 1 => ⟨#[101]⟩ | _ => ⟨#[112, 195, 188]⟩
def gvar (n : Nat) : ByteArray := match n with | 0 => ⟨#[88]⟩ | 1 => ⟨#[89]⟩ | _ => ⟨#[90]⟩
def gterm (n : Nat) : Term := if n < 3 then ⟨1, gvar n⟩ else ⟨0, gname (n - 3)⟩
/-- terms -/
def gterms (a : KAtom) : List Nat := if gpick a.pred 3 = 0 then [gpick a.a 7] else [gpick a.a 7, gpick a.b 7]
def gbody (r : KRule) : List KAtom := r.body.take 2
def gvars (r : KRule) : List Nat := (gbody r).flatMap gterms
/-- head -/
def ghead (r : KRule) : List Nat := (gterms r.head).map fun h => if h < 3 ∧ ¬ h ∈ gvars r then h + 3 else h
def gEA (p : Nat) (ts : List Nat) : EA := (gpred p, ts.map gterm)
def gER (r : KRule) : ER := (gEA (gpick r.head.pred 3) (ghead r), (gbody r).map fun b => gEA (gpick b.pred 3) (gterms b))
def gbase : List ER := [(gEA 0 [0], [gEA 0 [0], gEA 1 [0, 0]]), (gEA 0 [0], [gEA 0 [0], gEA 2 [0, 0]])]
def gR (l : List KRule) : List ER := gbase ++ (l.take 6).map gER

def gP : List ByteArray := [gpred 0, gpred 1, gpred 2]
def gar (p : ByteArray) : Nat := if p = gpred 0 then 1 else 2
theorem gpred_mem (n : Nat) : gpred n ∈ gP := by
  unfold gpred gP
  split <;> simp [gpred]
theorem gar_pred (n : Nat) (h : n < 3) : gar (gpred n) = if n = 0 then 1 else 2 := by
  have : n = 0 ∨ n = 1 ∨ n = 2 := by omega
  rcases this with rfl | rfl | rfl <;> decide

/-- an atom's terms are as many as its predicate has places -/
def KFit (p : Nat) (ts : List Nat) : Prop := p < 3 ∧ ts.length = (if p = 0 then 1 else 2)
theorem gEA_ok {p : Nat} {ts : List Nat} (h : KFit p ts) : EA.fit (gEA p ts) ∧ (gEA p ts).1 ∈ gP ∧ (gEA p ts).2.length = gar (gEA p ts).1 ∧ (gEA p ts).2.length ≤ 3 := by
  obtain ⟨h1, h2⟩ := h
  have hl : (gEA p ts).2.length = if p = 0 then 1 else 2 := by simpa [gEA] using h2
  refine ⟨⟨?_, ?_⟩, gpred_mem p, ?_, ?_⟩
  · intro e
    rw [e] at hl
    simp at hl
    split at hl <;> simp at hl
  · intro t ht
    simp only [gEA, List.mem_map] at ht
    obtain ⟨n, _, rfl⟩ := ht
    unfold gterm
    split
    · exact .inr rfl
    · exact .inl rfl
  · rw [hl]
    exact (gar_pred p h1).symm
  · rw [hl]
    split <;> omega
theorem kfit_terms (a : KAtom) : KFit (gpick a.pred 3) (gterms a) := by
  refine ⟨gpick_lt _ _ (by decide), ?_⟩
  unfold gterms
  split <;> simp
theorem kfit_head (r : KRule) : KFit (gpick r.head.pred 3) (ghead r) := by
  have := kfit_terms r.head
  exact ⟨this.1, by unfold ghead; rw [List.length_map]; exact this.2⟩

theorem gR_atoms (l : List KRule) : ∀ r, r ∈ gR l → (∃ p ts, r.1 = gEA p ts ∧ KFit p ts) ∧ (∀ a, a ∈ r.2 → ∃ p ts, a = gEA p ts ∧ KFit p ts) ∧ r.2.length ≤ 2 := by
  intro r hr
  rcases List.mem_append.1 hr with hr | hr
  · have k0 : KFit 0 [0] := ⟨by decide, rfl⟩
    have k1 : KFit 1 [0, 0] := ⟨by decide, rfl⟩
    have k2 : KFit 2 [0, 0] := ⟨by decide, rfl⟩
    simp only [gbase, List.mem_cons, List.not_mem_nil, or_false] at hr
    rcases hr with rfl | rfl
    · refine ⟨⟨0, [0], rfl, k0⟩, ?_, by simp⟩
      intro a ha
      simp only [List.mem_cons, List.not_mem_nil, or_false] at ha
      rcases ha with rfl | rfl
      · exact ⟨0, [0], rfl, k0⟩
      · exact ⟨1, [0, 0], rfl, k1⟩
    · refine ⟨⟨0, [0], rfl, k0⟩, ?_, by simp⟩
      intro a ha
      simp only [List.mem_cons, List.not_mem_nil, or_false] at ha
      rcases ha with rfl | rfl
      · exact ⟨0, [0], rfl, k0⟩
      · exact ⟨2, [0, 0], rfl, k2⟩
  · obtain ⟨x, _, rfl⟩ := List.mem_map.1 hr
    refine ⟨⟨_, _, rfl, kfit_head x⟩, ?_, ?_⟩
    · intro a ha
      obtain ⟨b, _, rfl⟩ := List.mem_map.1 ha
      exact ⟨_, _, rfl, kfit_terms b⟩
    · simp only [gER, List.length_map, gbody, List.length_take]
      omega

theorem gR_good (l : List KRule) : Good gP gar (gR l) where
  few := by simp [gR, gbase]; omega
  preds := by simp [gP]
  fit := by
    intro r hr
    obtain ⟨⟨p, ts, e, hk⟩, h2, h3⟩ := gR_atoms l r hr
    refine ⟨⟨by rw [e]; exact (gEA_ok hk).1, ?_⟩, h3⟩
    intro a ha
    obtain ⟨p, ts, rfl, hk⟩ := h2 a ha
    exact (gEA_ok hk).1
  atoms := by
    intro r hr a ha
    obtain ⟨⟨p, ts, e, hk⟩, h2, _⟩ := gR_atoms l r hr
    rcases ha with rfl | ha
    · rw [e]; exact (gEA_ok hk).2
    · obtain ⟨p, ts, rfl, hk⟩ := h2 a ha
      exact (gEA_ok hk).2
  safe := by
    intro r hr t ht hk
    rcases List.mem_append.1 hr with hr | hr
    · simp only [gbase, List.mem_cons, List.not_mem_nil, or_false] at hr
      rcases hr with rfl | rfl
      · exact ⟨gEA 0 [0], by simp, ht⟩
      · exact ⟨gEA 0 [0], by simp, ht⟩
    · obtain ⟨x, _, rfl⟩ := List.mem_map.1 hr
      simp only [gER, gEA, List.mem_map] at ht
      obtain ⟨n, hn, rfl⟩ := ht
      have hn3 : n < 3 := by
        unfold gterm at hk
        split at hk
        · assumption
        · simp at hk
      unfold ghead at hn
      obtain ⟨h, _, e⟩ := List.mem_map.1 hn
      split at e
      · omega
      · rename_i hh
        subst e
        have hv : h ∈ gvars x := Classical.byContradiction fun hc => hh ⟨hn3, hc⟩
        obtain ⟨b, hb, hm⟩ := List.mem_flatMap.1 hv
        exact ⟨gEA (gpick b.pred 3) (gterms b), List.mem_map.2 ⟨b, hb, rfl⟩, List.mem_map.2 ⟨h, hm, rfl⟩⟩

/-- the items that there can be -/
def gItems : List EI := [(2, gpred 0), (2, gpred 1), (2, gpred 2), (2, gname 0), (2, gname 1), (2, gname 2), (2, gname 3), (3, gvar 0), (3, gvar 1), (3, gvar 2), (4, ⟨#[40]⟩), (5, ⟨#[41]⟩), (6, ⟨#[44]⟩), (7, ⟨#[46]⟩), (8, ⟨#[58, 45]⟩)]
theorem gItems_kinds : ∀ x, x ∈ gItems → 0 ≤ x.1 ∧ x.1 ≤ 8 := by
  intro x hx
  simp only [gItems, List.mem_cons, List.not_mem_nil, or_false] at hx
  rcases hx with rfl | rfl | rfl | rfl | rfl | rfl | rfl | rfl | rfl | rfl | rfl | rfl | rfl | rfl | rfl <;> exact ⟨by decide, by decide⟩
theorem tI_mem (n : Nat) : tI (gterm n) ∈ gItems := by
  unfold gterm
  split
  · rename_i h
    have : n = 0 ∨ n = 1 ∨ n = 2 := by omega
    rcases this with rfl | rfl | rfl <;> simp [tI, gItems, gvar]
  · unfold tI gname
    simp only
    split <;> simp [gItems, gname]
theorem termsI_mem : ∀ (ts : List Nat) (x : EI), x ∈ termsI (ts.map gterm) → x ∈ gItems
  | [], x, h => by simp [termsI] at h
  | [n], x, h => by
    simp [termsI] at h
    subst h
    exact tI_mem n
  | n :: k :: ts, x, h => by
    have : x = tI (gterm n) ∨ x = comma ∨ x ∈ termsI ((k :: ts).map gterm) := by simpa [termsI] using h
    rcases this with rfl | rfl | h
    · exact tI_mem n
    · simp [gItems, comma]
    · exact termsI_mem (k :: ts) x h
theorem atomI_mem (p : Nat) (ts : List Nat) (x : EI) (h : x ∈ atomI (gEA p ts)) : x ∈ gItems := by
  simp only [atomI, gEA, List.mem_cons, List.mem_append, List.not_mem_nil, or_false] at h
  rcases h with rfl | rfl | h | rfl
  · unfold gpred
    split <;> simp [gItems, gpred]
  · simp [gItems]
  · exact termsI_mem ts x h
  · simp [gItems]
theorem atomsI_mem : ∀ (l : List EA), (∀ a, a ∈ l → ∃ p ts, a = gEA p ts ∧ KFit p ts) → ∀ x, x ∈ atomsI l → x ∈ gItems
  | [], _, x, h => by simp [atomsI] at h
  | [a], hl, x, h => by
    obtain ⟨p, ts, rfl, _⟩ := hl a (by simp)
    exact atomI_mem p ts x h
  | a :: b :: l, hl, x, h => by
    obtain ⟨p, ts, rfl, _⟩ := hl a (by simp)
    have : x ∈ atomI (gEA p ts) ∨ x = comma ∨ x ∈ atomsI (b :: l) := by simpa [atomsI] using h
    rcases this with h | rfl | h
    · exact atomI_mem p ts x h
    · simp [gItems, comma]
    · exact atomsI_mem (b :: l) (fun y hy => hl y (by simp [hy])) x h
theorem gR_items (l : List KRule) (x : EI) (h : x ∈ rulesI (gR l)) : x ∈ gItems := by
  obtain ⟨r, hr, hx⟩ := List.mem_flatMap.1 h
  obtain ⟨⟨p, ts, e, _⟩, h2, _⟩ := gR_atoms l r hr
  unfold ruleI at hx
  rcases List.mem_append.1 hx with hx | hx
  · rcases List.mem_append.1 hx with hx | hx
    · rw [e] at hx
      exact atomI_mem p ts x hx
    · split at hx
      · cases hx
      · rcases List.mem_cons.1 hx with rfl | hx
        · simp [gItems]
        · exact atomsI_mem r.2 h2 x hx
  · simp at hx
    subst hx
    simp [gItems]
theorem gItems_tok : ∀ x, x ∈ gItems → (itOf x).tok := by
  intro x hx
  simp only [gItems, List.mem_cons, List.not_mem_nil, or_false] at hx
  rcases hx with rfl | rfl | rfl | rfl | rfl | rfl | rfl | rfl | rfl | rfl | rfl | rfl | rfl | rfl | rfl <;> exact ⟨by rfl, ⟨by decide, by decide⟩, by decide⟩

/-- the text of the rules -/
def gtext (l : List KRule) : ByteArray := ⟨((rulesI (gR l)).flatMap fun x => x.2.data.toList).toArray⟩
/-- a text that is laid of the rules, with blanks between its tokens, is read; its plain form is the rules' text -/
theorem gen_read (l : List KRule) {t : ByteArray} (ht : t.size ≤ 600) (hL : Lay t 0 ((rulesI (gR l)).map itOf)) : read t = (gtext l, 0, 0) :=
  lay_read (gR_good l) (fun x hx => gItems_tok x (gR_items l x hx)) (fun x hx => gItems_kinds x (gR_items l x hx)) ht hL
end Go.Proofs.Ytdmicblafmhflaa.Ax

/- The blanks that Plain lays between the tokens. No program here. -/
namespace Go.Proofs.Ytdmicblafmhflaa.Ax
set_option linter.unusedSimpArgs false
set_option linter.unusedVariables false

def isSign (b : UInt8) : Bool := decide (b = 40) || decide (b = 41) || decide (b = 44) || decide (b = 46) || decide (b = 58)
/-- so many of two blanks, a line end, a blank -/
def blk (c : Int) : List UInt8 := [32, 32, 10, 32].take (gpick c 4)
/-- Plain's text: blanks ahead of signs, as long as there are numbers for them -/
def spread : List UInt8 → List Int → List UInt8
  | [], _ => []
  | b :: r, bs =>
    if isSign b then
      match bs with
      | [] => b :: spread r []
      | c :: bs => blk c ++ b :: spread r bs
    else b :: spread r bs

theorem spread_no {b : UInt8} (h : isSign b = false) (r : List UInt8) (bs : List Int) : spread (b :: r) bs = b :: spread r bs := by cases bs <;> simp [spread, h]
theorem spread_nil {b : UInt8} (h : isSign b = true) (r : List UInt8) : spread (b :: r) [] = b :: spread r [] := by simp [spread, h]
theorem spread_cons {b : UInt8} (h : isSign b = true) (r : List UInt8) (c : Int) (bs : List Int) : spread (b :: r) (c :: bs) = blk c ++ b :: spread r bs := by simp [spread, h]
theorem spread_word : ∀ (w r : List UInt8) (bs : List Int), (∀ b, b ∈ w → isSign b = false) → spread (w ++ r) bs = w ++ spread r bs
  | [], _, _, _ => rfl
  | b :: w, r, bs, h => by
    rw [List.cons_append, spread_no (h b (by simp)), spread_word w r bs (fun x hx => h x (by simp [hx]))]
    rfl
theorem blk_blank (c : Int) : ∀ b, b ∈ blk c → b = 32 ∨ b = 10 := by
  intro b hb
  have := List.mem_of_mem_take hb
  simp only [List.mem_cons, List.not_mem_nil, or_false] at this
  rcases this with h | h | h | h
  · exact .inl h
  · exact .inl h
  · exact .inr h
  · exact .inl h
/-- a token's text, spread: blanks, then the text -/
theorem spread_item {x : EI} (hx : x ∈ gItems) (r : List UInt8) (bs : List Int) : ∃ bl bs', (∀ b, b ∈ bl → b = 32 ∨ b = 10) ∧ spread (x.2.data.toList ++ r) bs = bl ++ (x.2.data.toList ++ spread r bs') := by
  have hw : (∀ b, b ∈ x.2.data.toList → isSign b = false) ∨ ∃ s w, x.2.data.toList = s :: w ∧ isSign s = true ∧ ∀ b, b ∈ w → isSign b = false := by
    simp only [gItems, List.mem_cons, List.not_mem_nil, or_false] at hx
    rcases hx with rfl | rfl | rfl | rfl | rfl | rfl | rfl | rfl | rfl | rfl | rfl | rfl | rfl | rfl | rfl
    · exact .inl (by decide)
    · exact .inl (by decide)
    · exact .inl (by decide)
    · exact .inl (by decide)
    · exact .inl (by decide)
    · exact .inl (by decide)
    · exact .inl (by decide)
    · exact .inl (by decide)
    · exact .inl (by decide)
    · exact .inl (by decide)
    · exact .inr ⟨40, [], rfl, by decide, by decide⟩
    · exact .inr ⟨41, [], rfl, by decide, by decide⟩
    · exact .inr ⟨44, [], rfl, by decide, by decide⟩
    · exact .inr ⟨46, [], rfl, by decide, by decide⟩
    · exact .inr ⟨58, [45], rfl, by decide, by decide⟩
  rcases hw with hw | ⟨s, w, e, hs, hw⟩
  · exact ⟨[], bs, fun _ h => (by cases h), by rw [spread_word _ _ _ hw]; rfl⟩
  · rw [e]
    cases bs with
    | nil =>
      refine ⟨[], [], fun _ h => (by cases h), ?_⟩
      rw [List.cons_append, spread_nil hs, spread_word w r [] hw]
      rfl
    | cons c bs =>
      refine ⟨blk c, bs, blk_blank c, ?_⟩
      rw [List.cons_append, spread_cons hs, spread_word w r bs hw]
      rfl

theorem lay_spread (p : ByteArray) : ∀ (l : List EI) (b : Nat) (bs : List Int), (∀ x, x ∈ l → x ∈ gItems) → b ≤ p.size → p.data.toList.drop b = spread (l.flatMap fun x => x.2.data.toList) bs → Lay p b (l.map itOf)
  | [], b, bs, _, hb, h => by
    have : (p.data.toList.drop b).length = 0 := by rw [h]; rfl
    rw [List.length_drop, Array.length_toList] at this
    have e : p.data.size = p.size := rfl
    show b = p.size
    omega
  | x :: l, b, bs, hl, hb, h => by
    obtain ⟨bl, bs', h1, h2⟩ := spread_item (hl x (by simp)) (l.flatMap fun x => x.2.data.toList) bs
    rw [List.flatMap_cons, h2] at h
    have hlen := congrArg List.length h
    simp only [List.length_drop, List.length_append, Array.length_toList] at hlen
    have e1 : p.data.size = p.size := rfl
    have e2 : x.2.data.size = x.2.size := rfl
    have e3 : (itOf x).text = x.2 := rfl
    refine ⟨b + bl.length, by omega, ?_, by rw [e3]; omega, ?_, ?_⟩
    · intro k hk1 hk2
      have := congrArg (fun q => q[k - b]?) h
      simp only [List.getElem?_drop] at this
      rw [List.getElem?_append_left (by omega), show b + (k - b) = k by omega, List.getElem?_eq_getElem (l := bl) (i := k - b) (by omega)] at this
      have hm := h1 _ (List.getElem_mem (show k - b < bl.length by omega))
      have hbk := byte_data p k (by omega)
      rw [this] at hbk
      simp only [Option.map_some, Option.getD_some] at hbk
      unfold isBl
      rw [hbk]
      rcases hm with hm | hm <;> rw [hm] <;> decide
    · intro k hk
      rw [e3] at hk ⊢
      rw [byte_data p _ (by omega), byte_data x.2 k hk]
      have := congrArg (fun q => q[bl.length + k]?) h
      simp only [List.getElem?_drop] at this
      rw [List.getElem?_append_right (by omega), show bl.length + k - bl.length = k by omega, List.getElem?_append_left (by rw [Array.length_toList]; omega)] at this
      rw [show b + bl.length + k = b + (bl.length + k) by omega, this]
    · rw [e3]
      refine lay_spread p l _ bs' (fun y hy => hl y (by simp [hy])) (by omega) ?_
      rw [← List.drop_drop, ← List.drop_drop, h, List.drop_left' rfl, List.drop_left' (by rw [Array.length_toList]; omega)]

/-- Plain's text with blanks is read, and its plain form is the rules' text -/
theorem spread_read (l : List KRule) (bs : List Int) (h : (spread (gtext l).data.toList bs).length ≤ 600) : read ⟨(spread (gtext l).data.toList bs).toArray⟩ = (gtext l, 0, 0) := by
  refine gen_read l (by show Array.size _ ≤ 600; simpa using h) ?_
  refine lay_spread _ _ 0 bs (fun x hx => gR_items l x hx) (Nat.zero_le _) ?_
  rw [List.drop_zero]
  rfl
end Go.Proofs.Ytdmicblafmhflaa.Ax
