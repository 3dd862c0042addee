/- The reference's tokens are the program's: the whole text. No program here. -/
import Derived.Test.YtdmicblafmhflaaGreatDoorC01
set_option linter.unusedSimpArgs false
set_option linter.unusedVariables false
namespace Go.Proofs.YtdmicblafmhflaaGreatDoor.Ax
theorem wordLoop_ge (s : ByteArray) : ∀ f q n, q ≤ s.size → q ≤ (wordLoop s f q n).1
 | 0, q, n, h => h
 | f + 1, q, n, h => by
  unfold wordLoop
  split
  · rename_i hq
    split
    · exact Nat.le_refl _
    · have := wordLoop_ge s f (q + (Utf8.decode s q).2) (n + 1) (width_le' s q hq)
      omega
  · exact h
theorem pass_word (s : ByteArray) (p : Nat) : ∀ f q n F acc, 0 < q → p + q ≤ s.size → s.size ≤ p + q + f → s.size ≤ p + q + F →
 ∃ F', s.size ≤ p + (wordLoop (s.extract p s.size) f q n).1 + F' ∧ splitLoop s F (p + q) (p + (wordLoop (s.extract p s.size) f q n).1) acc = splitLoop s F' (p + (wordLoop (s.extract p s.size) f q n).1) (p + (wordLoop (s.extract p s.size) f q n).1) acc
 | 0, q, n, F, acc, hq, hl, hf, hF => by
  have e : (wordLoop (s.extract p s.size) 0 q n).1 = q := by simp only [wordLoop, tail_size]; omega
  rw [e]
  exact ⟨F, hF, rfl⟩
 | f + 1, q, n, F, acc, hq, hl, hf, hF => by
  by_cases hlt : p + q < s.size
  · have hq' : q < (s.extract p s.size).size := by rw [tail_size]; omega
    cases hs : stops (s.extract p s.size) q
    · have e : wordLoop (s.extract p s.size) (f + 1) q n = wordLoop (s.extract p s.size) f (q + (Utf8.decode s (p + q)).2) (n + 1) := by
       have := wl_on (s.extract p s.size) f q n hq' hs
       rw [decode_tail] at this
       exact this
      have hw := width_pos' s (p + q) hlt
      have hw2 := width_le' s (p + q) hlt
      have hge := wordLoop_ge (s.extract p s.size) f (q + (Utf8.decode s (p + q)).2) (n + 1) (by rw [tail_size]; omega)
      rw [e]
      obtain ⟨G, rfl⟩ : ∃ G, F = G + 1 := ⟨F - 1, by omega⟩
      rw [splitLoop_skip s G (p + q) _ acc hlt (.inl (by omega)), Nat.add_assoc p q]
      exact pass_word s p f (q + (Utf8.decode s (p + q)).2) (n + 1) G acc (by omega) (by omega) (by omega) (by omega)
    · have e : wordLoop (s.extract p s.size) (f + 1) q n = (q, n) := by
       unfold wordLoop
       rw [if_pos hq', if_pos hs]
      rw [e]
      exact ⟨F, hF, rfl⟩
  · have hq' : ¬ q < (s.extract p s.size).size := by rw [tail_size]; omega
    have e : (wordLoop (s.extract p s.size) (f + 1) q n).1 = q := by
     unfold wordLoop
     rw [if_neg hq', tail_size]
     omega
    rw [e]
    exact ⟨F, hF, rfl⟩
theorem pass_tok (s : ByteArray) (p : Nat) (hp : p < s.size) (k : Int) (n : Nat) (ht : firstTok (s.extract p s.size) (Utf8.decode s p).1 = (k, n)) (hk : k ≠ 0) (F : Nat) (acc : List Tok) (hF : s.size ≤ p + (F + 1)) :
 0 < n ∧ p + n ≤ s.size ∧ ∃ F', s.size ≤ p + n + F' ∧ splitLoop s F (p + (Utf8.decode s p).2) (p + n) acc = splitLoop s F' (p + n) (p + n) acc := by
 have hw := width_pos' s p hp
 have hw2 := width_le' s p hp
 have hone : ∀ c : Nat, c < 128 → ((Utf8.decode s p).1 : Int) = c → (Utf8.decode s p).2 = 1 := by
  intro c hc h
  have hb := (decode_small s p hp c hc).1 (by omega)
  rw [decode_w1 s p hp (by omega)]
 have key : ∀ c : Nat, c < 128 → ((Utf8.decode s p).1 : Int) = c → n = 1 → (0 < n ∧ p + n ≤ s.size ∧ ∃ F', s.size ≤ p + n + F' ∧ splitLoop s F (p + (Utf8.decode s p).2) (p + n) acc = splitLoop s F' (p + n) (p + n) acc) := by
  intro c hc h hn
  rw [hone c hc h, hn]
  exact ⟨by omega, by omega, F, by omega, rfl⟩
 have wordc : ∀ j : Int, word (s.extract p s.size) j = (k, n) → (0 < n ∧ p + n ≤ s.size ∧ ∃ F', s.size ≤ p + n + F' ∧ splitLoop s F (p + (Utf8.decode s p).2) (p + n) acc = splitLoop s F' (p + n) (p + n) acc) := by
  intro j hj
  unfold word at hj
  simp only at hj
  split at hj
  · simp at hj; omega
  · simp only [Prod.mk.injEq] at hj
    obtain ⟨_, rfl⟩ := hj
    obtain ⟨f, hf⟩ : ∃ f, (s.extract p s.size).size = f + 1 := ⟨s.size - p - 1, by rw [tail_size]; omega⟩
    have e : wordLoop (s.extract p s.size) (s.extract p s.size).size 0 0 = wordLoop (s.extract p s.size) f ((Utf8.decode s p).2) 1 := by
     have hst : stops (s.extract p s.size) 0 = false := by simp [stops]
     have := wl_on (s.extract p s.size) f 0 0 (by omega) hst
     rw [decode_tail] at this
     rw [hf, this]
     simp
    rw [e]
    have hsz := tail_size s p
    have hge := wordLoop_ge (s.extract p s.size) f ((Utf8.decode s p).2) 1 (by omega)
    have hle := wordLoop_le (s.extract p s.size) f ((Utf8.decode s p).2) 1
    exact ⟨by omega, by omega, pass_word s p f _ 1 F acc (by omega) hw2 (by omega) (by omega)⟩
 unfold firstTok at ht
 split at ht
 · rename_i h; simp at ht; exact key 40 (by decide) h ht.2.symm
 split at ht
 · rename_i h; simp at ht; exact key 41 (by decide) h ht.2.symm
 split at ht
 · rename_i h; simp at ht; exact key 44 (by decide) h ht.2.symm
 split at ht
 · rename_i h; simp at ht; exact key 46 (by decide) h ht.2.symm
 split at ht
 · rename_i hc
   simp only [Prod.mk.injEq] at ht
   obtain ⟨_, rfl⟩ := ht
   have hpre := (bytes2 s p 58 45).1 hc
   rw [show (58 : UInt8).toNat = 58 from rfl, show (45 : UInt8).toNat = 45 from rfl] at hpre
   obtain ⟨h1, h2, h3⟩ := hpre
   have hd : Utf8.decode s p = (58, 1) := by rw [decode_w1 s p (by omega) (by omega), h2]
   have hd1 : Utf8.decode s (p + 1) = (45, 1) := by rw [decode_w1 s (p + 1) h1 (by omega), h3]
   refine ⟨by omega, by omega, ?_⟩
   rw [hd]
   obtain ⟨G, rfl⟩ : ∃ G, F = G + 1 := ⟨F - 1, by omega⟩
   refine ⟨G, by omega, ?_⟩
   rw [splitLoop_skip s G (p + 1) (p + 2) acc h1 (.inl (by omega)), hd1]
   rfl
 split at ht
 · exact wordc 2 ht
 split at ht
 · exact wordc 3 ht
 · simp at ht; omega
theorem firstTok_kind (s : ByteArray) (r : Int) : 0 ≤ (firstTok s r).1 ∧ (firstTok s r).1 ≤ 8 ∧ (firstTok s r).1 ≠ 1 := by
 unfold firstTok word
 simp only
 repeat' split
 all_goals simp
theorem blank_byte (s : ByteArray) (p : Nat) (hp : p < s.size) : blank (Utf8.decode s p).1 = isBl s p := by
 unfold blank isBl
 have h1 := decode_small s p hp 32 (by decide)
 have h2 := decode_small s p hp 10 (by decide)
 rw [Bool.eq_iff_iff]
 simp only [Bool.or_eq_true, beq_iff_eq, decide_eq_true_eq]
 omega
theorem kc_end (k : Int) (h0 : 0 ≤ k) (h8 : k ≤ 8) (h1 : k ≠ 1) : (kc k = 101 ∨ kc k = 120) ↔ k = 0 := by
 have e1 : kc k = 101 ↔ k = 1 := by
  have := kc_eq k h0 h8 1 (by decide) (by decide)
  rw [Bool.eq_iff_iff] at this
  simp only [beq_iff_eq, decide_eq_true_eq] at this
  rw [show ((kc 1 : Nat) : Int) = 101 from rfl] at this
  omega
 have e2 : kc k = 120 ↔ k = 0 := by
  have := kc_eq k h0 h8 0 (by decide) (by decide)
  rw [Bool.eq_iff_iff] at this
  simp only [beq_iff_eq, decide_eq_true_eq] at this
  rw [show ((kc 0 : Nat) : Int) = 120 from rfl] at this
  omega
 omega
theorem rskip_fuel (s : ByteArray) : ∀ f g a, s.size ≤ a + f → s.size ≤ a + g → rskip s f a = rskip s g a
 | 0, g, a, h, _ => by rw [rskip_stop (by omega), rskip_stop (by omega)]
 | f + 1, 0, a, _, h => by rw [rskip_stop (by omega), rskip_stop (by omega)]
 | f + 1, g + 1, a, h1, h2 => by
  unfold rskip
  rw [rskip_fuel s f g (a + 1) (by omega) (by omega)]
theorem split_main (s : ByteArray) : ∀ N p, s.size - p ≤ N → p ≤ s.size → ∀ f b acc f', s.size ≤ p + f → b ≤ p → s.size + 1 ≤ p + f' → (splitLoop s f p b acc).map conv = rtokens s f' p (acc.map conv) := by
 intro N
 induction N with
 | zero =>
  intro p hN hp f b acc f' hf hb hf'
  have hpe : p = s.size := by omega
  rw [splitLoop_end s f p b acc (by omega)]
  obtain ⟨g, rfl⟩ : ∃ g, f' = g + 1 := ⟨f' - 1, by omega⟩
  have ht : rtok s p = ⟨101, ⟨#[]⟩, s.size⟩ := by
   unfold rtok
   rw [rskip_stop (by omega), hpe]
   simp [rtokAt]
  rw [rtokens_end ht (.inl rfl)]
  simp [conv, kc]
  rfl
 | succ N ih =>
  intro p hN hp f b acc f' hf hb hf'
  by_cases hlt : p < s.size
  · obtain ⟨F, rfl⟩ : ∃ F, f = F + 1 := ⟨f - 1, by omega⟩
    obtain ⟨g, rfl⟩ : ∃ g, f' = g + 1 := ⟨f' - 1, by omega⟩
    cases hbl : isBl s p
    · -- no blank: a token
      have hnb : ¬ (p < b ∨ blank (Utf8.decode s p).1 = true) := by rw [blank_byte s p hlt, hbl]; simp; omega
      have hk := firstTok_kind (s.extract p s.size) (Utf8.decode s p).1
      have ht : rtok s p = conv ⟨(firstTok (s.extract p s.size) (Utf8.decode s p).1).1, p, s.extract p (p + (firstTok (s.extract p s.size) (Utf8.decode s p).1).2)⟩ := by
       unfold rtok
       rw [rskip_stop (by rw [hbl]; simp)]
       exact tok_eq s p hlt
      rcases hft : firstTok (s.extract p s.size) (Utf8.decode s p).1 with ⟨k, n⟩
      rw [hft] at hk ht
      simp only at hk ht
      by_cases hk0 : k = 0
      · rw [splitLoop_wrong s F p b acc hlt hnb k n hft hk0, rtokens_end ht (.inr (by simp [conv, kc, hk0]))]
        simp
      · rw [splitLoop_on s F p b acc hlt hnb k n hft hk0]
        obtain ⟨hn, hle, F', hF', e⟩ := pass_tok s p hlt k n hft hk0 F (acc ++ [⟨k, p, s.extract p (p + n)⟩]) (by omega)
        rw [e]
        have hne : ¬ ((conv ⟨k, p, s.extract p (p + n)⟩).kind = 101 ∨ (conv ⟨k, p, s.extract p (p + n)⟩).kind = 120) := by
         show ¬ (kc k = 101 ∨ kc k = 120)
         rw [kc_end k hk.1 hk.2.1 hk.2.2]
         exact hk0
        rw [rtokens_on ht hne]
        have hsz : (conv ⟨k, p, s.extract p (p + n)⟩).at_ + (conv ⟨k, p, s.extract p (p + n)⟩).text.size = p + n := by
         show p + (s.extract p (p + n)).size = p + n
         simp only [ByteArray.size_extract]
         omega
        rw [hsz]
        have := ih (p + n) (by omega) hle F' (p + n) (acc ++ [⟨k, p, s.extract p (p + n)⟩]) g hF' (Nat.le_refl _) (by omega)
        rw [this]
        simp
    · -- a blank
      have hb1 : byte s p < 128 := by
       simp [isBl] at hbl
       omega
      have hd := decode_w1 s p hlt hb1
      rw [splitLoop_skip s F p b acc hlt (.inr (by rw [blank_byte s p hlt, hbl])), hd]
      have ht : rtok s p = rtok s (p + 1) := by
       unfold rtok
       obtain ⟨m, hm⟩ : ∃ m, s.size = m + 1 := ⟨s.size - 1, by omega⟩
       have h1 : rskip s s.size p = rskip s m (p + 1) := by
        conv => lhs; rw [hm]
        exact rskip_on hlt hbl
       rw [h1, rskip_fuel s m s.size (p + 1) (by omega) (by omega)]
      have := ih (p + 1) (by omega) (by omega) F b acc (g + 1) (by omega) (by omega) (by omega)
      rw [this]
      unfold rtokens
      rw [ht]
  · have hpe : p = s.size := by omega
    exact ih p (by omega) hp f b acc f' hf hb hf'
theorem rtoks_split (s : ByteArray) : rtoks s = (split s).map conv := (split_main s s.size 0 (by omega) (Nat.zero_le _) s.size 0 [] (s.size + 1) (by omega) (Nat.le_refl _) (by omega)).symm
theorem splitLoop_kinds (s : ByteArray) : ∀ f p b acc, Kinds acc → Kinds (splitLoop s f p b acc)
 | 0, _, _, acc, h => by
  intro t ht
  simp only [splitLoop, List.mem_append, List.mem_singleton] at ht
  rcases ht with ht | rfl
  · exact h t ht
  · simp
 | f + 1, p, b, acc, h => by
  have hx : Kinds (acc ++ [⟨(firstTok (s.extract p s.size) (Utf8.decode s p).1).1, p, s.extract p (p + (firstTok (s.extract p s.size) (Utf8.decode s p).1).2)⟩]) := by
   intro t ht
   simp only [List.mem_append, List.mem_singleton] at ht
   rcases ht with ht | rfl
   · exact h t ht
   · have := firstTok_kind (s.extract p s.size) (Utf8.decode s p).1
     exact ⟨this.1, this.2.1⟩
  unfold splitLoop
  split
  · split
    · exact splitLoop_kinds s f _ _ _ h
    · simp only
      split
      · exact hx
      · exact splitLoop_kinds s f _ _ _ hx
  · intro t ht
    simp only [List.mem_append, List.mem_singleton] at ht
    rcases ht with ht | rfl
    · exact h t ht
    · simp
theorem split_kinds (s : ByteArray) : Kinds (split s) := splitLoop_kinds s _ _ _ _ (fun _ h => by cases h)
end Go.Proofs.YtdmicblafmhflaaGreatDoor.Ax
/- A token's bytes tell the token, wherever they stand. No program here. -/
namespace Go.Proofs.YtdmicblafmhflaaGreatDoor.Ax
structure Same (s : ByteArray) (a : Nat) (p : ByteArray) (b m : Nat) : Prop where
 hs : a + m ≤ s.size
 hp : b + m ≤ p.size
 eq : ∀ k, k < m → byte s (a + k) = byte p (b + k)
theorem Same.at0 {s p : ByteArray} {a b m : Nat} (h : Same s a p b m) (hm : 0 < m) : byte s a = byte p b := h.eq 0 hm
theorem Same.drop {s p : ByteArray} {a b m : Nat} (h : Same s a p b m) (k : Nat) (hk : k ≤ m) : Same s (a + k) p (b + k) (m - k) :=
 ⟨by have := h.hs; omega, by have := h.hp; omega, fun j hj => by have := h.eq (k + j) (by omega); rw [← Nat.add_assoc, ← Nat.add_assoc] at this; exact this⟩
theorem rcont_same {s p : ByteArray} {a b m : Nat} (h : Same s a p b m) : ∀ j k c, k + j ≤ m → rcont s a j k c = rcont p b j k c
 | 0, _, _, _ => rfl
 | j + 1, k, c, hk => by
  have e := h.eq k (by omega)
  have h1 := h.hs
  have h2 := h.hp
  unfold rcont
  rw [e]
  have hz : (s.size ≤ a + k ∨ byte p (b + k) < 128 ∨ 191 < byte p (b + k)) ↔ (p.size ≤ b + k ∨ byte p (b + k) < 128 ∨ 191 < byte p (b + k)) := by omega
  rw [rcont_same h j (k + 1) _ (by omega)]
  simp only [hz]
theorem rfin_width (n lo : Nat) (o : Option Nat) : (rfin n lo o).2 = 0 ∨ (rfin n lo o).2 = n := by
 unfold rfin
 split
 · simp
 · split <;> simp
theorem pt_same {s p : ByteArray} {a b m : Nat} (h : Same s a p b m) (hw : 0 < (pt s a).2) (hm : (pt s a).2 ≤ m) : pt p b = pt s a := by
 have h0 := h.at0 (by omega)
 have key : ∀ n lo c, 0 < (rfin (n + 1) lo (rcont s a n 1 c)).2 → (rfin (n + 1) lo (rcont s a n 1 c)).2 ≤ m → rfin (n + 1) lo (rcont p b n 1 c) = rfin (n + 1) lo (rcont s a n 1 c) := by
  intro n lo c h1 h2
  have := rfin_width (n + 1) lo (rcont s a n 1 c)
  rw [rcont_same h n 1 c (by omega)]
 unfold pt at hw hm ⊢
 simp only at hw hm ⊢
 rw [← h0]
 by_cases c1 : byte s a < 128
 · rw [if_pos c1, if_pos c1]
 · rw [if_neg c1] at hw hm ⊢
   rw [if_neg c1]
   by_cases c2 : byte s a < 192
   · rw [if_pos c2, if_pos c2]
   · rw [if_neg c2] at hw hm ⊢
     rw [if_neg c2]
     by_cases c3 : byte s a < 224
     · rw [if_pos c3] at hw hm ⊢
       rw [if_pos c3]
       exact key 1 _ _ hw hm
     · rw [if_neg c3] at hw hm ⊢
       rw [if_neg c3]
       by_cases c4 : byte s a < 240
       · rw [if_pos c4] at hw hm ⊢
         rw [if_pos c4]
         exact key 2 _ _ hw hm
       · rw [if_neg c4] at hw hm ⊢
         rw [if_neg c4]
         by_cases c5 : byte s a < 248
         · rw [if_pos c5] at hw hm ⊢
           rw [if_pos c5]
           exact key 3 _ _ hw hm
         · rw [if_neg c5, if_neg c5]
theorem rok_same {s p : ByteArray} {a b m : Nat} (h : Same s a p b m) (n : Nat) (hk : rok s a n = true) (hm : (pt s a).2 ≤ m) : rok p b n = true ∧ (pt p b).2 = (pt s a).2 := by
 have hw : 0 < (pt s a).2 := by
  unfold rok at hk
  simp only [Bool.and_eq_true, decide_eq_true_eq] at hk
  exact hk.1
 have e := pt_same h hw hm
 refine ⟨?_, by rw [e]⟩
 unfold rok at hk ⊢
 rw [e]
 exact hk
def Stops (p : ByteArray) (b : Nat) : Prop := b = p.size ∨ (b < p.size ∧ (byte p b = 40 ∨ byte p b = 41 ∨ byte p b = 44 ∨ byte p b = 46 ∨ byte p b = 58 ∨ byte p b = 32 ∨ byte p b = 10))
theorem rok_sign {p : ByteArray} {b : Nat} (n : Nat) (h : byte p b = 40 ∨ byte p b = 41 ∨ byte p b = 44 ∨ byte p b = 46 ∨ byte p b = 58 ∨ byte p b = 32 ∨ byte p b = 10) : rok p b n = false := by
 have e : pt p b = (byte p b, 1) := by
  unfold pt
  simp only
  rw [if_pos (by omega)]
 unfold rok
 rw [e]
 rcases h with h | h | h | h | h | h | h <;> rw [h] <;> simp [rsmall]
theorem rword_stops {p : ByteArray} {b : Nat} (f n : Nat) (h : Stops p b) : rword p f b n = (b, n) := by
 rcases h with h | ⟨_, h⟩
 · exact rword_end (by omega)
 · exact rword_stop (rok_sign n h)
theorem rword_same {s p : ByteArray} : ∀ (f a b n m f' : Nat), Same s a p b m → (rword s f a n).1 = a + m → p.size ≤ b + f' → Stops p (b + m) → (∀ i, (rword s f a n).1 = i → i < s.size → rok s i (rword s f a n).2 = false) → rword p f' b n = (b + m, (rword s f a n).2)
 | 0, a, b, n, m, f', hS, he, hf, hst, _ => by
  have hm : m = 0 := by simp [rword] at he; omega
  subst hm
  exact rword_stops _ _ hst
 | f + 1, a, b, n, m, f', hS, he, hf, hst, hend => by
  by_cases ha : a < s.size
  · cases hk : rok s a n
    · have e : rword s (f + 1) a n = (a, n) := by simp [rword, hk]
      rw [e] at he ⊢
      have hm : m = 0 := by simp at he; omega
      subst hm
      exact rword_stops _ _ hst
    · have e := rword_on (f := f) ha hk
      rw [e] at he hend ⊢
      have hge := rword_ge s f (a + (pt s a).2) (n + 1)
      have hw : 0 < (pt s a).2 := by
       unfold rok at hk
       simp only [Bool.and_eq_true, decide_eq_true_eq] at hk
       exact hk.1
      obtain ⟨hk', hw'⟩ := rok_same hS n hk (by omega)
      have hb := hS.hp
      obtain ⟨g, rfl⟩ : ∃ g, f' = g + 1 := ⟨f' - 1, by omega⟩
      rw [rword_on (by omega) hk', hw']
      have := rword_same f (a + (pt s a).2) (b + (pt s a).2) (n + 1) (m - (pt s a).2) g (hS.drop _ (by omega)) (by omega) (by omega) (by rw [show b + (pt s a).2 + (m - (pt s a).2) = b + m by omega]; exact hst) hend
      rw [this, show b + (pt s a).2 + (m - (pt s a).2) = b + m by omega]
  · have e : rword s (f + 1) a n = (a, n) := rword_end ha
    rw [e] at he ⊢
    have hm : m = 0 := by simp at he; omega
    subst hm
    exact rword_stops _ _ hst
end Go.Proofs.YtdmicblafmhflaaGreatDoor.Ax
/- A token's bytes tell the token: tokens, blanks. No program here. -/
namespace Go.Proofs.YtdmicblafmhflaaGreatDoor.Ax
def Real (k : Nat) : Prop := k ≠ 101 ∧ k ≠ 120
def Word (k : Nat) : Prop := k = 110 ∨ k = 118
theorem rword_final (s : ByteArray) : ∀ f i n, s.size ≤ i + f → (rword s f i n).1 < s.size → rok s (rword s f i n).1 (rword s f i n).2 = false
 | 0, i, n, h, hl => by simp [rword] at hl; omega
 | f + 1, i, n, h, hl => by
  by_cases hi : i < s.size
  · cases hk : rok s i n
    · have e : rword s (f + 1) i n = (i, n) := by simp [rword, hk]
      rw [e]; exact hk
    · have e := rword_on (f := f) hi hk
      have hw : 0 < (pt s i).2 := by
       unfold rok at hk
       simp only [Bool.and_eq_true, decide_eq_true_eq] at hk
       exact hk.1
      rw [e] at hl ⊢
      exact rword_final s f _ _ (by omega) hl
  · rw [rword_end hi] at hl; simp at hl; omega
theorem byte_extract (s : ByteArray) (a e k : Nat) (he : e ≤ s.size) (hk : a + k < e) : byte (s.extract a e) k = byte s (a + k) := by
 have h1 : k < (s.extract a e).size := by simp only [ByteArray.size_extract]; omega
 rw [← byte_get _ _ h1, ← byte_get s (a + k) (by omega)]
 simp [ByteArray.getElem_extract]
theorem bytes_ext {x y : ByteArray} (hz : x.size = y.size) (h : ∀ k, k < x.size → byte x k = byte y k) : x = y := by
 cases x with | mk x => cases y with | mk y =>
 congr 1
 apply Array.ext
 · simpa [ByteArray.size] using hz
 · intro i h1 h2
   have := h i (by simpa [ByteArray.size] using h1)
   rw [← byte_get _ _ (by simpa [ByteArray.size] using h1), ← byte_get _ _ (by simpa [ByteArray.size] using h2)] at this
   exact UInt8.toNat_inj.1 this
theorem rtokAt_same {s p : ByteArray} {a b : Nat} {t : RTok} (ha : a < s.size) (ht : rtokAt s a = t) (hr : Real t.kind) (hS : Same s a p b t.text.size) (hst : Word t.kind → Stops p (b + t.text.size)) : 0 < t.text.size ∧ rtokAt p b = ⟨t.kind, t.text, b⟩ ∧ t.at_ = a := by
 have hge := rword_ge s s.size a 0
 have hle := rword_le s s.size a 0 (by omega)
 have hn := rword_n s s.size a 0
 unfold rtokAt at ht
 simp only at ht
 rw [if_neg (by omega)] at ht
 by_cases h6 : 6 < (rword s s.size a 0).2
 · rw [if_pos h6] at ht; rw [← ht] at hr; exact absurd rfl hr.2
 rw [if_neg h6] at ht
 by_cases h0 : 0 < (rword s s.size a 0).2
 · -- a word
   have htx : t.text = s.extract a (rword s s.size a 0).1 ∧ Word t.kind ∧ t.at_ = a ∧ t.kind = (if 65 ≤ byte s a ∧ byte s a ≤ 90 then 118 else 110) := by
    by_cases hc : 65 ≤ byte s a ∧ byte s a ≤ 90
    · rw [if_pos ⟨h0, hc⟩] at ht
      rw [← ht, if_pos hc]
      exact ⟨rfl, .inr rfl, rfl, rfl⟩
    · rw [if_neg (fun h => hc h.2), if_pos h0] at ht
      rw [← ht, if_neg hc]
      exact ⟨rfl, .inl rfl, rfl, rfl⟩
   obtain ⟨h1, h2, h3, h4⟩ := htx
   have hm : t.text.size = (rword s s.size a 0).1 - a := by rw [h1]; simp only [ByteArray.size_extract]; omega
   have hb := hS.hp
   have hw := rword_same s.size a b 0 t.text.size p.size hS (by omega) (by omega) (hst h2) (fun i hi hl => by subst hi; exact rword_final s s.size a 0 (by omega) hl)
   have hc0 := hS.at0 (by omega)
   refine ⟨by omega, ?_, h3⟩
   have hx : p.extract b (b + t.text.size) = t.text := by
    apply bytes_ext
    · simp only [ByteArray.size_extract]; omega
    · intro k hk
      simp only [ByteArray.size_extract] at hk
      rw [byte_extract p b _ k (by omega) (by omega), ← hS.eq k (by omega), h1, byte_extract s a _ k hle (by omega)]
   unfold rtokAt
   simp only
   rw [hw, if_neg (by omega), if_neg h6, ← hc0, h4]
   by_cases hc : 65 ≤ byte s a ∧ byte s a ≤ 90
   · rw [if_pos ⟨h0, hc⟩, if_pos hc, hx]
   · rw [if_neg (fun h => hc h.2), if_pos h0, if_neg hc, hx]
 · -- a sign
   rw [if_neg (fun h => h0 h.1), if_neg h0] at ht
   by_cases hc : byte s a = 40 ∨ byte s a = 41 ∨ byte s a = 44 ∨ byte s a = 46
   · rw [if_pos hc] at ht
     have hsz : t.text.size = 1 := by rw [← ht]; simp only [ByteArray.size_extract]; omega
     have hc0 := hS.at0 (by omega)
     have hb := hS.hp
     have hw : rword p p.size b 0 = (b, 0) := rword_stop (rok_sign 0 (by rw [← hc0]; omega))
     have hx : p.extract b (b + 1) = t.text := by
      apply bytes_ext
      · simp only [ByteArray.size_extract]; omega
      · intro k hk
        simp only [ByteArray.size_extract] at hk
        rw [byte_extract p b _ k (by omega) (by omega), ← hS.eq k (by omega), ← ht, byte_extract s a _ k (by omega) (by omega)]
     refine ⟨by omega, ?_, by rw [← ht]⟩
     unfold rtokAt
     simp only
     rw [hw, if_neg (by omega), if_neg (by omega), if_neg (by omega), if_neg (by omega), ← hc0, if_pos hc, hx, ← ht]
   · rw [if_neg hc] at ht
     by_cases h58 : byte s a = 58 ∧ a + 1 < s.size ∧ byte s (a + 1) = 45
     · rw [if_pos h58] at ht
       have hsz : t.text.size = 2 := by rw [← ht]; rfl
       have hc0 := hS.at0 (by omega)
       have hc1 := hS.eq 1 (by omega)
       have hb := hS.hp
       have hw : rword p p.size b 0 = (b, 0) := rword_stop (rok_sign 0 (by rw [← hc0]; omega))
       refine ⟨by omega, ?_, by rw [← ht]⟩
       unfold rtokAt
       simp only
       rw [hw, if_neg (by omega), if_neg (by omega), if_neg (by omega), if_neg (by omega), ← hc0, if_neg hc, if_pos ⟨h58.1, by omega, by rw [← hc1]; exact h58.2.2⟩, ← ht]
     · rw [if_neg h58] at ht
       rw [← ht] at hr
       exact absurd rfl hr.2
end Go.Proofs.YtdmicblafmhflaaGreatDoor.Ax
/- Texts that are laid out of tokens, with blanks between. No program here. -/
namespace Go.Proofs.YtdmicblafmhflaaGreatDoor.Ax
structure It where
 kind : Nat
 text : ByteArray
def It.of (t : RTok) : It := ⟨t.kind, t.text⟩
def It.tok (x : It) : Prop := rtokAt x.text 0 = ⟨x.kind, x.text, 0⟩ ∧ Real x.kind ∧ 0 < x.text.size
def Lay (p : ByteArray) : Nat → List It → Prop
 | b, [] => b = p.size
 | b, x :: l => ∃ c, b ≤ c ∧ (∀ k, b ≤ k → k < c → isBl p k = true) ∧ c + x.text.size ≤ p.size ∧ (∀ k, k < x.text.size → byte p (c + k) = byte x.text k) ∧ Lay p (c + x.text.size) l
def Apart : List It → Prop
 | x :: y :: l => ¬ (Word x.kind ∧ Word y.kind) ∧ Apart (y :: l)
 | _ => True
theorem Same.self (x p : ByteArray) (c : Nat) (h1 : c + x.size ≤ p.size) (h2 : ∀ k, k < x.size → byte p (c + k) = byte x k) : Same x 0 p c x.size :=
 ⟨by omega, h1, fun k hk => by rw [Nat.zero_add, h2 k hk]⟩
theorem tok_first {x : It} (h : x.tok) : ¬ (byte x.text 0 = 32 ∨ byte x.text 0 = 10) ∧ (¬ Word x.kind → byte x.text 0 = 40 ∨ byte x.text 0 = 41 ∨ byte x.text 0 = 44 ∨ byte x.text 0 = 46 ∨ byte x.text 0 = 58) := by
 obtain ⟨ht, hr, h0⟩ := h
 have hk : x.kind = (rtokAt x.text 0).kind := by rw [ht]
 constructor
 · intro hb
   have hw : rword x.text x.text.size 0 0 = (0, 0) := rword_stop (rok_sign 0 (by omega))
   have : (rtokAt x.text 0).kind = 120 := by
    unfold rtokAt
    simp only
    rw [hw, if_neg (by omega), if_neg (by omega), if_neg (by omega), if_neg (by omega), if_neg (by omega), if_neg (by omega)]
   exact hr.2 (hk.trans this)
 · intro hnw
   unfold rtokAt at hk
   simp only at hk
   rw [if_neg (by omega)] at hk
   by_cases h6 : 6 < (rword x.text x.text.size 0 0).2
   · rw [if_pos h6] at hk; exact absurd hk hr.2
   rw [if_neg h6] at hk
   by_cases hp : 0 < (rword x.text x.text.size 0 0).2
   · by_cases hc : 65 ≤ byte x.text 0 ∧ byte x.text 0 ≤ 90
     · rw [if_pos ⟨hp, hc⟩] at hk; exact absurd (.inr hk) hnw
     · rw [if_neg (fun h => hc h.2), if_pos hp] at hk; exact absurd (.inl hk) hnw
   · rw [if_neg (fun h => hp h.1), if_neg hp] at hk
     by_cases hc : byte x.text 0 = 40 ∨ byte x.text 0 = 41 ∨ byte x.text 0 = 44 ∨ byte x.text 0 = 46
     · omega
     · rw [if_neg hc] at hk
       by_cases h58 : byte x.text 0 = 58 ∧ 0 + 1 < x.text.size ∧ byte x.text (0 + 1) = 45
       · omega
       · rw [if_neg h58] at hk; exact absurd hk hr.2
theorem rskip_to {p : ByteArray} : ∀ (f b c : Nat), b ≤ c → (∀ k, b ≤ k → k < c → isBl p k = true) → c < p.size → isBl p c = false → c ≤ b + f → rskip p f b = c
 | 0, b, c, h1, _, _, _, h5 => by simp [rskip]; omega
 | f + 1, b, c, h1, h2, h3, h4, h5 => by
  by_cases e : b = c
  · subst e
    exact rskip_stop (by simp [h4])
  · rw [rskip_on (by omega) (h2 b (by omega) (by omega))]
    exact rskip_to f (b + 1) c (by omega) (fun k hk1 hk2 => h2 k (by omega) hk2) h3 h4 (by omega)
theorem lay_stops {p : ByteArray} {b : Nat} {x : It} {l : List It} (h : Lay p b l) (hl : ∀ y, y ∈ l → y.tok) (ha : Apart (x :: l)) (hx : Word x.kind) : Stops p b := by
 cases l with
 | nil => exact .inl h
 | cons y l =>
  obtain ⟨c, h1, h2, h3, h4, _⟩ := h
  have hy := hl y (by simp)
  have hy0 := hy.2.2
  by_cases e : b = c
  · subst e
    have := (tok_first hy).2 (fun hw => ha.1 ⟨hx, hw⟩)
    have e0 := h4 0 hy0
    rw [Nat.add_zero] at e0
    exact .inr ⟨by omega, by rw [e0]; omega⟩
  · have := h2 b (by omega) (by omega)
    simp only [isBl, Bool.or_eq_true, decide_eq_true_eq] at this
    exact .inr ⟨by omega, by omega⟩
theorem lay_tokens (p : ByteArray) : ∀ (l : List It) (b f : Nat) (acc : List RTok), Lay p b l → (∀ y, y ∈ l → y.tok) → Apart l → p.size + 1 ≤ b + f → b ≤ p.size →
 ∃ m, rtokens p f b acc = acc ++ m ++ [⟨101, ⟨#[]⟩, p.size⟩] ∧ m.map It.of = l
 | [], b, f, acc, h, _, _, hf, hb => by
  have hbe : b = p.size := h
  obtain ⟨g, rfl⟩ : ∃ g, f = g + 1 := ⟨f - 1, by omega⟩
  refine ⟨[], ?_, rfl⟩
  have ht : rtok p b = ⟨101, ⟨#[]⟩, p.size⟩ := by
   unfold rtok
   rw [rskip_stop (by omega), hbe]
   simp [rtokAt]
  rw [rtokens_end ht (.inl rfl)]
  simp
 | x :: l, b, f, acc, h, hl, ha, hf, hb => by
  have h' := h
  obtain ⟨c, h1, h2, h3, h4, h5⟩ := h
  have hx := hl x (by simp)
  have hx0 := hx.2.2
  have hfirst := (tok_first hx).1
  have e0 := h4 0 hx0
  rw [Nat.add_zero] at e0
  have hnb : isBl p c = false := by
   rw [Bool.eq_false_iff]
   intro hb
   simp only [isBl, Bool.or_eq_true, decide_eq_true_eq] at hb
   omega
  have hal : Apart l := by
   cases l with
   | nil => trivial
   | cons y l => exact ha.2
  have hstop : Word x.kind → Stops p (c + x.text.size) := fun hw => lay_stops h5 (fun y hy => hl y (by simp [hy])) ha hw
  have hsk : rskip p p.size b = c := rskip_to p.size b c h1 h2 (by omega) hnb (by omega)
  obtain ⟨_, hat, _⟩ := rtokAt_same (s := x.text) (p := p) (a := 0) (b := c) (t := ⟨x.kind, x.text, 0⟩) hx0 hx.1 hx.2.1 (Same.self x.text p c h3 h4) hstop
  have ht : rtok p b = ⟨x.kind, x.text, c⟩ := by unfold rtok; rw [hsk]; exact hat
  obtain ⟨g, rfl⟩ : ∃ g, f = g + 1 := ⟨f - 1, by omega⟩
  rw [rtokens_on ht (fun hh => hh.elim hx.2.1.1 hx.2.1.2)]
  obtain ⟨m, hm1, hm2⟩ := lay_tokens p l (c + x.text.size) g (acc ++ [⟨x.kind, x.text, c⟩]) h5 (fun y hy => hl y (by simp [hy])) hal (by omega) h3
  refine ⟨⟨x.kind, x.text, c⟩ :: m, ?_, by rw [List.map_cons, hm2]; rfl⟩
  rw [hm1]
  simp
theorem lay_rtoks (p : ByteArray) (l : List It) (h : Lay p 0 l) (hl : ∀ y, y ∈ l → y.tok) (ha : Apart l) : ∃ m, rtoks p = m ++ [⟨101, ⟨#[]⟩, p.size⟩] ∧ m.map It.of = l := by
 obtain ⟨m, h1, h2⟩ := lay_tokens p l 0 (p.size + 1) [] h hl ha (by omega) (Nat.zero_le _)
 exact ⟨m, by simpa [rtoks] using h1, h2⟩
end Go.Proofs.YtdmicblafmhflaaGreatDoor.Ax
/- What can be read has no two words side by side; the plain form is laid of its tokens. No program here. -/
namespace Go.Proofs.YtdmicblafmhflaaGreatDoor.Ax
def W (T : List Tok) (k : Nat) : Prop := kindAt T k = 2 ∨ kindAt T k = 3
def NoAdj (T : List Tok) (i j : Nat) : Prop := ∀ k, i ≤ k → k < j → ¬ (W T k ∧ W T (k + 1))
theorem NoAdj.join {T : List Tok} {i j l : Nat} (h1 : NoAdj T i j) (h2 : NoAdj T j l) : NoAdj T i l := fun k hk1 hk2 => if h : k < j then h1 k hk1 h else h2 k (by omega) hk2
theorem NoAdj.one {T : List Tok} {i : Nat} (h : ¬ W T i ∨ ¬ W T (i + 1)) : NoAdj T i (i + 1) := fun k h1 h2 hw => by
 obtain rfl : k = i := by omega
 exact h.elim (fun h => h hw.1) (fun h => h hw.2)
theorem pTerms_apart {T : List Tok} : ∀ (f i : Nat) (acc : List Term) {ts : List Term} {j : Nat}, pTerms T f i acc = (some ts, j) → kindAt T j = 5 → NoAdj T i j
 | 0, i, acc, ts, j, h, _ => by simp [pTerms] at h
 | f + 1, i, acc, ts, j, h, h5 => by
  rcases hA : pTerm T i with ⟨_ | t, j'⟩
  · simp [pTerms, hA] at h
  · have hj' : j' = i + 1 := by
     unfold pTerm at hA
     split at hA
     · split at hA
       · simp at hA; exact hA.2.symm
       · simp at hA
     · simp at hA
    subst hj'
    by_cases h6 : kindAt T (i + 1) = 6
    · rw [pTerms_on hA h6] at h
      have ih := pTerms_apart f (i + 1 + 1) _ h h5
      exact (NoAdj.one (.inr (by unfold W; omega))).join ((NoAdj.one (.inl (by unfold W; omega))).join ih)
    · rw [pTerms_last hA h6] at h
      simp at h
      obtain ⟨_, rfl⟩ := h
      exact NoAdj.one (.inr (by unfold W; omega))
theorem pAtom_apart {T : List Tok} {i j : Nat} {a : Atom} (h : pAtom T i = (some a, j)) : NoAdj T i j := by
 unfold pAtom at h
 split at h
 · simp at h
 · rename_i t ht
   split at h
   · rename_i h2
     split at h
     · rename_i h4
       rcases hT : pTerms T T.length (i + 1 + 1) [] with ⟨_ | ts, j'⟩
       · rw [hT] at h; simp at h
       · rw [hT] at h
         simp only at h
         split at h
         · rename_i h5
           simp at h
           obtain ⟨_, rfl⟩ := h
           have := pTerms_apart _ _ _ hT h5
           exact (NoAdj.one (.inr (by unfold W; omega))).join ((NoAdj.one (.inl (by unfold W; omega))).join (this.join (NoAdj.one (.inl (by unfold W; omega)))))
         · simp at h
     · simp at h
   · simp at h
theorem pAtoms_apart {T : List Tok} : ∀ (f i : Nat) (acc : List Atom) {r : List Atom} {j : Nat}, pAtoms T f i acc = (some r, j) → NoAdj T i j
 | 0, i, acc, r, j, h => by simp [pAtoms] at h
 | f + 1, i, acc, r, j, h => by
  rcases hA : pAtom T i with ⟨_ | a, j'⟩
  · rw [pAtoms_none hA] at h; simp at h
  · have h1 := pAtom_apart hA
    by_cases h6 : kindAt T j' = 6
    · rw [pAtoms_on hA h6] at h
      exact h1.join ((NoAdj.one (.inl (by unfold W; omega))).join (pAtoms_apart f _ _ h))
    · rw [pAtoms_last hA h6] at h
      simp at h
      obtain ⟨_, rfl⟩ := h
      exact h1
theorem pRule_apart {T : List Tok} {i j : Nat} {r : Rule} (h : pRule T i = (some r, j)) : NoAdj T i j := by
 rcases hA : pAtom T i with ⟨_ | a, j1⟩
 · rw [pRule_0 hA] at h; simp at h
 · have h1 := pAtom_apart hA
   by_cases h8 : kindAt T j1 = 8
   · rcases hB : pAtoms T T.length (j1 + 1) [] with ⟨_ | b, j2⟩
     · rw [pRule_1 hA h8 hB] at h; simp at h
     · have h2 := pAtoms_apart _ _ _ hB
       by_cases h7 : kindAt T j2 = 7
       · rw [pRule_3 hA h8 hB h7] at h
         simp at h
         obtain ⟨_, rfl⟩ := h
         exact h1.join ((NoAdj.one (.inl (by unfold W; omega))).join (h2.join (NoAdj.one (.inl (by unfold W; omega)))))
       · rw [pRule_2 hA h8 hB h7] at h; simp at h
   · by_cases h7 : kindAt T j1 = 7
     · rw [pRule_5 hA h8 h7] at h
       simp at h
       obtain ⟨_, rfl⟩ := h
       exact h1.join (NoAdj.one (.inl (by unfold W; omega)))
     · rw [pRule_4 hA h8 h7] at h; simp at h
theorem pRules_apart {T : List Tok} : ∀ (f i : Nat) (acc : List Rule) {r : List Rule} {j : Nat}, pRules T f i acc = (some r, j) → NoAdj T i j ∧ kindAt T j = 1 ∧ i ≤ j
 | 0, i, acc, r, j, h => by simp [pRules] at h
 | f + 1, i, acc, r, j, h => by
  by_cases h1 : kindAt T i = 1
  · rw [pRules_end h1] at h
    simp at h
    obtain ⟨_, rfl⟩ := h
    exact ⟨fun k hk1 hk2 => by omega, h1, Nat.le_refl _⟩
  · rcases hR : pRule T i with ⟨_ | x, j'⟩
    · rw [pRules_none h1 hR] at h; simp at h
    · rw [pRules_on h1 hR] at h
      obtain ⟨h2, h3, h4⟩ := pRules_apart f _ _ h
      have h5 := pRule_apart hR
      have h6 : i ≤ j' := by
       rcases hA : pAtom T i with ⟨_ | a, j1⟩
       · rw [pRule_0 hA] at hR; simp at hR
       · have hg := pAtom_gt hA
         by_cases h8 : kindAt T j1 = 8
         · rcases hB : pAtoms T T.length (j1 + 1) [] with ⟨_ | b, j2⟩
           · rw [pRule_1 hA h8 hB] at hR; simp at hR
           · have := pAtoms_ge _ _ _ hB
             by_cases h7 : kindAt T j2 = 7
             · rw [pRule_3 hA h8 hB h7] at hR; simp at hR; omega
             · rw [pRule_2 hA h8 hB h7] at hR; simp at hR
         · by_cases h7 : kindAt T j1 = 7
           · rw [pRule_5 hA h8 h7] at hR; simp at hR; omega
           · rw [pRule_4 hA h8 h7] at hR; simp at hR
      exact ⟨h5.join h2, h3, by omega⟩
end Go.Proofs.YtdmicblafmhflaaGreatDoor.Ax
/- Where tokens stand changes no answer but places. No program here. -/
namespace Go.Proofs.YtdmicblafmhflaaGreatDoor.Ax
def er (t : Tok) : Int × ByteArray := (t.kind, t.text)
def erA (a : Atom) : ByteArray × List Term := (a.pred, a.terms)
def erR (r : Rule) : (ByteArray × List Term) × List (ByteArray × List Term) := (erA r.head, r.body.map erA)
end Go.Proofs.YtdmicblafmhflaaGreatDoor.Ax
