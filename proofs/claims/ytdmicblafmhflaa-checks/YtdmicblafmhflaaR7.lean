/- axiomref: tokens. -/
import Derived.Test.YtdmicblafmhflaaR6
import Derived.Test.YtdmicblafmhflaaM2
import Derived.Test.YtdmicblafmhflaaQQ
namespace Go.Proofs.Ytdmicblafmhflaa
set_option linter.unusedSimpArgs false
set_option linter.unusedVariables false
open Go.RowKit

def rtokCells (l : List Ax.RTok) : List Value := l.flatMap fun t => [.int .u8 t.kind, .string t.text, .int .i64 t.at_]
theorem rtokCells_snoc (l : List Ax.RTok) (t : Ax.RTok) : rtokCells (l ++ [t]) = rtokCells l ++ [.int .u8 t.kind, .string t.text, .int .i64 t.at_] := by simp [rtokCells]
theorem Try.infoRTok : (Try.prog.info? 79).map (fun i => (i.zero, i.size, i.bytes)) = some (some (.agg #[.int .u8 0, .string ByteArray.empty, .int .i64 0]), 3, 32) := by kernel_rfl

theorem rtoks_world {w w0 w1 w2 : World} {v : Value} {n : Nat} {xs : List Value} {o1 o2 : Obj} {e : TypeId} {size : Nat} (hown : w0.ownsRow w.heap.size e size v n xs) (hbel : Below w.heap.size w w0) (hb1 : Below w0.heap.size w0 w1)
    (hgrow : ((w1.alloc o1).alloc o2).grownBy w2 v.ownBlock) : Below w.heap.size w w2 ∧ w2.heap[w1.heap.size]? = some o1 := by
  have h0 := hbel.size
  have h1 := hb1.size
  refine ⟨(((hbel.trans (hb1.mono h0)).alloc (by omega) o1).alloc (by simp; omega) o2).grown hgrow (by simp; omega) (fun k hk => (hown.lt k hk).1), ?_⟩
  rw [hgrow.block _ (by simp; omega) ?_, Below.heap_alloc _ _ _ (by simp)]
  · exact heap_alloc_new _ _
  · intro e
    have := (hown.lt _ e.symm).2
    omega

set_option maxRecDepth 100000 in
set_option maxHeartbeats 2000000 in
theorem tokens_any (s : ByteArray) (w : World) (hs : s.size ≤ 600) :
    Calls Try.prog 34 #[.string s] w fun e w' => ∃ v, e = .returned v ∧ w'.ownsRow w.heap.size 79 3 v (Ax.rtoks s).length (rtokCells (Ax.rtoks s)) ∧ Below w.heap.size w w' := by
  unfold Ax.rtoks
  generalize hR : Ax.rtokens s (s.size + 1) 0 [] = R
  go_enter Try.func34, Try.ntmps34
  go_wp2_with fail
  go_loopg [3, 4] (s.size + 1) (fun f v av wr => ∃ (a : Nat) (acc : List Ax.RTok), a ≤ s.size ∧ s.size + 1 ≤ a + f ∧ acc.length ≤ a ∧ av = .int .i64 a ∧ wr.ownsRow w.heap.size 79 3 v acc.length (rtokCells acc) ∧ Below w.heap.size w wr ∧ Ax.rtokens s f a acc = R)
  case atStart => exact ⟨0, [], Nat.zero_le _, by omega, Nat.le_refl _, rfl, World.ownsRow_nil _ _ _ _, Below.refl _ _, hR⟩
  case round =>
    obtain ⟨a, acc, ha, hf, hal, rfl, hown, hbel, hr⟩ := hrel
    have HR : Hid (Ax.rtokens s gk a acc = R) := hr
    clear hr hR
    obtain ⟨f, hfk⟩ : ∃ f, gk = f + 1 := ⟨gk - 1, by omega⟩
    subst hfk
    obtain ⟨p1, p2, p3, p4, p5⟩ := Ax.rtok_place s a ha
    have hsz := hbel.size
    generalize ht : Ax.rtok s a = t at *
    have HT : Hid (Ax.rtok s a = t) := ht
    clear ht
    by_cases hk : t.kind = 101 ∨ t.kind = 120
    · have HE : Hid (R = acc ++ [t]) := HR.out.symm.trans (Ax.rtokens_end HT.out hk)
      clear p3 HR
      rcases hk with hk | hk
      · have hb1 : ((t.kind : Int) == 101) = true := by simp [hk]
        clear hk
        go_wp2_with (first | (go_at_call 48; refine (token_any s a _ hs ha).mono ?_; rintro e w1 ⟨rfl, hb1⟩; rw [HT.out]; unfold rtokVal; have hown1 := ownsRow_below hown hb1; have hs1 := hb1.size) | (at_builtin; obtain ⟨i0, hi, hz0, hz1, hz2⟩ := info_parts Try.infoRTok; refine wpList_append_own _ rfl (.tmp 9) (.tmp 11) 76 rfl w.heap.size 79 i0 _ 3 32 Try.underlying76 hi hz0 hz1 hz2 rfl (by decide) _ _ _ rfl ((hown1.alloc _).alloc _) ⟨w1.heap.size + 1, 0, none⟩ 1 1 [.int .u8 t.kind, .string t.text, .int .i64 t.at_] rfl rfl (new_cells2 _ _ _ _) (by simp [Value.oneCell']) (by unfold maxLen; omega) (by omega) (by simp; omega) ?_; intro v2 w2 hown2 hgrow _; obtain ⟨hbel2, hblk⟩ := rtoks_world hown hbel hb1 hgrow; have q0 := cell_at hblk 0; have q1 := cell_at hblk 1; have q2 := cell_at hblk 2; simp only [List.getElem?_toArray, List.getElem?_cons_zero, List.getElem?_cons_succ] at q0 q1 q2; clear hgrow hown1 hi hz0 hz1 hz2))
        go_ret
        refine ⟨v2, rfl, ?_, hbel2⟩
        rw [HE.out, rtokCells_snoc]; simpa using hown2
      · have hb1 : ((t.kind : Int) == 101) = false := by simp [hk]
        have hb2 : ((t.kind : Int) == 120) = true := by simp [hk]
        clear hk
        go_wp2_with (first | (go_at_call 48; refine (token_any s a _ hs ha).mono ?_; rintro e w1 ⟨rfl, hb1⟩; rw [HT.out]; unfold rtokVal; have hown1 := ownsRow_below hown hb1; have hs1 := hb1.size) | (at_builtin; obtain ⟨i0, hi, hz0, hz1, hz2⟩ := info_parts Try.infoRTok; refine wpList_append_own _ rfl (.tmp 9) (.tmp 11) 76 rfl w.heap.size 79 i0 _ 3 32 Try.underlying76 hi hz0 hz1 hz2 rfl (by decide) _ _ _ rfl ((hown1.alloc _).alloc _) ⟨w1.heap.size + 1, 0, none⟩ 1 1 [.int .u8 t.kind, .string t.text, .int .i64 t.at_] rfl rfl (new_cells2 _ _ _ _) (by simp [Value.oneCell']) (by unfold maxLen; omega) (by omega) (by simp; omega) ?_; intro v2 w2 hown2 hgrow _; obtain ⟨hbel2, hblk⟩ := rtoks_world hown hbel hb1 hgrow; have q0 := cell_at hblk 0; have q1 := cell_at hblk 1; have q2 := cell_at hblk 2; simp only [List.getElem?_toArray, List.getElem?_cons_zero, List.getElem?_cons_succ] at q0 q1 q2; clear hgrow hown1 hi hz0 hz1 hz2))
        go_ret
        refine ⟨v2, rfl, ?_, hbel2⟩
        rw [HE.out, rtokCells_snoc]; simpa using hown2
    · have HN : Hid (Ax.rtokens s f (t.at_ + t.text.size) (acc ++ [t]) = R) := (Ax.rtokens_on HT.out hk).symm.trans HR.out
      have hq := p3 hk
      have hb1 : ((t.kind : Int) == 101) = false := by simp; omega
      have hb2 : ((t.kind : Int) == 120) = false := by simp; omega
      clear hk p3 HR
      go_wp2_with (first | (go_at_call 48; refine (token_any s a _ hs ha).mono ?_; rintro e w1 ⟨rfl, hb1⟩; rw [HT.out]; unfold rtokVal; have hown1 := ownsRow_below hown hb1; have hs1 := hb1.size) | (at_builtin; obtain ⟨i0, hi, hz0, hz1, hz2⟩ := info_parts Try.infoRTok; refine wpList_append_own _ rfl (.tmp 9) (.tmp 11) 76 rfl w.heap.size 79 i0 _ 3 32 Try.underlying76 hi hz0 hz1 hz2 rfl (by decide) _ _ _ rfl ((hown1.alloc _).alloc _) ⟨w1.heap.size + 1, 0, none⟩ 1 1 [.int .u8 t.kind, .string t.text, .int .i64 t.at_] rfl rfl (new_cells2 _ _ _ _) (by simp [Value.oneCell']) (by unfold maxLen; omega) (by omega) (by simp; omega) ?_; intro v2 w2 hown2 hgrow _; obtain ⟨hbel2, hblk⟩ := rtoks_world hown hbel hb1 hgrow; have q0 := cell_at hblk 0; have q1 := cell_at hblk 1; have q2 := cell_at hblk 2; simp only [List.getElem?_toArray, List.getElem?_cons_zero, List.getElem?_cons_succ] at q0 q1 q2; clear hgrow hown1 hi hz0 hz1 hz2))
      go_roundg f
      case measure => omega
      case rel =>
        refine ⟨t.at_ + t.text.size, acc ++ [t], by omega, by omega, by simp; omega, by go_num, ?_, hbel2, HN.out⟩
        rw [rtokCells_snoc]; simpa using hown2
end Go.Proofs.Ytdmicblafmhflaa
