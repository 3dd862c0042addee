/- Package follow: join for every atom; meet. -/
import Derived.Test.YtdmicblafmhflaaGreatDoorC28
import Derived.Test.YtdmicblafmhflaaGreatDoorC23
import Derived.Test.YtdmicblafmhflaaGreatDoorC12
import Derived.Test.YtdmicblafmhflaaGreatDoorC11
set_option linter.unusedSimpArgs false
set_option linter.unusedVariables false
namespace Go.Proofs.YtdmicblafmhflaaGreatDoor
open Go.RowKit Go.Maps Go.WideMaps Go.WideElems
open Go.Sort (grow)
theorem jspec_all {sb mb : Nat} {rv : Value} {a : Ax.Atom} {ad : Option Addr} {ac : Nat} {bd : Option Addr} {bc : Nat} {body : List MA} {P : List En.Fct} {z : En.Fct} {turn newest : Nat} (hPl : P.length = newest) (hnb : newest ≤ 999990) (htb : turn ≤ 10) : ∀ (m i : Nat), i + m = body.length → JSpec sb mb rv a ad ac bd bc body P z turn newest i
 | 0, i, h => by
  have : i = body.length := by omega
  subst this
  exact jspec_end
 | m + 1, i, h => jspec_on (by omega) hPl hnb htb (jspec_all hPl hnb htb m (i + 1) (by omega))
structure RulesS (w : World) (rd : Option Addr) (rc : Nat) (l : List MR) : Prop where
 inn : RulesIn w rd rc l
 head : ∀ r, r ∈ l → AOk r.head.1
 atoms : ∀ r, r ∈ l → ∀ x, x ∈ r.body → AOk x.1
 two : ∀ r, r ∈ l → r.body.length ≤ 2
theorem RulesS.below {w w' : World} {rd : Option Addr} {rc : Nat} {l : List MR} (h : RulesS w rd rc l) (hb : Below w.heap.size w w') : RulesS w' rd rc l := ⟨h.inn.below hb, h.head, h.atoms, h.two⟩
theorem RulesS.search {w w' : World} {sb mb : Nat} {rv : Value} {fd : Option Addr} {fc : Nat} {T : List HT} {s s' : En.Sea En.Fct} {rd : Option Addr} {rc : Nat} {l : List MR} (h : RulesS w rd rc l) (h0 : SAt w sb mb rv fd fc T s) (hs : SOn w w' sb mb rv fd fc T s s') : RulesS w' rd rc l := by
 have hno : ∀ b cur U, b ∈ sfoot sb fd fc s.found.length T → w.heap[b]? = some (.cells cur U (0, 0)) → U = 322 ∨ U = 325 ∨ U = 117 ∨ U = 119 ∨ U = 3 := by
  intro b cur U hb e
  obtain ⟨cur', U', e', hU⟩ := sfoot_types h0 hb
  rw [e] at e'
  simp only [Option.some.injEq, Obj.cells.injEq] at e'
  rw [e'.2.1]
  exact hU
 have hT : ∀ b cur, b ∈ sfoot sb fd fc s.found.length T → w.heap[b]? = some (.cells cur 310 (0, 0)) → False := by
  intro b cur hb e
  have := hno b cur _ hb e
  rcases this with e | e | e | e | e <;> cases e
 refine ⟨⟨hs.kept.row h.inn.1 ?_, fun r hr => ⟨MA.keptS (h.inn.2.1 r hr).1 hs.kept hT, hs.kept.row (h.inn.2.1 r hr).2.1 ?_, fun x hx => MA.keptS ((h.inn.2.1 r hr).2.2 x hx) hs.kept hT⟩, h.inn.2.2⟩, h.head, h.atoms, h.two⟩
 · intro b hb hm
   obtain ⟨cur, e⟩ := block_type h.inn.1 hb
   have := hno b cur _ hm e
   rcases this with e | e | e | e | e <;> cases e
 · intro b hb hm
   obtain ⟨cur, e⟩ := block_type (h.inn.2.1 r hr).2.1 hb
   have := hno b cur _ hm e
   rcases this with e | e | e | e | e <;> cases e
theorem RulesS.at {w : World} {rd : Option Addr} {rc : Nat} {l : List MR} (h : RulesS w rd rc l) {k : Nat} (hk : k < l.length) :
 ∃ g a ad ac bd bc body, rd = some ⟨g, 0, none⟩ ∧ g < w.heap.size ∧ l.length ≤ rc ∧ w.cell? ⟨g, k * 4, none⟩ = some (.int .i64 (Ax.Atom.at_ a)) ∧ w.cell? ⟨g, k * 4 + 1, none⟩ = some (.string a.pred) ∧ w.cell? ⟨g, k * 4 + 2, none⟩ = some (.slice ad a.terms.length ac) ∧
  w.cell? ⟨g, k * 4 + 3, none⟩ = some (.slice bd body.length bc) ∧ RAtW w a ad ac bd bc body ∧ (l[k]).rule = ⟨a, List.map Prod.fst body⟩ := by
 obtain ⟨g, rfl, hg, hc, hcs⟩ := row_cells h.inn.1 (by omega)
 have hm := List.getElem_mem hk
 have hok := h.inn.2.1 _ hm
 have h1 := h.head _ hm
 have h2 := h.atoms _ hm
 have h3 := h.two _ hm
 obtain ⟨c0, c1, c2, c3⟩ := ruleCells_get l k hk
 generalize l[k] = r at *
 rcases r with ⟨⟨a, hv⟩, bv, body⟩
 obtain ⟨ad, c, e1⟩ := ownsRow_shape hok.1
 obtain ⟨bd, d, e2⟩ := ownsRow_shape hok.2.1
 simp only at e1 e2
 subst e1 e2
 exact ⟨g, a, ad, c, bd, d, body, rfl, hg, hc, hcs _ _ c0, hcs _ _ c1, hcs _ _ c2, hcs _ _ c3, ⟨hok, h1, h2, h3⟩, rfl⟩
end Go.Proofs.YtdmicblafmhflaaGreatDoor
/- Package follow: takeBodiless. -/
namespace Go.Proofs.YtdmicblafmhflaaGreatDoor.En
def bless (r : Ax.Rule) : List Fct := if r.body = [] then [afact (val []) r.head] else []
end Go.Proofs.YtdmicblafmhflaaGreatDoor.En
namespace Go.Proofs.YtdmicblafmhflaaGreatDoor
open Go.RowKit Go.Maps Go.WideMaps Go.WideElems
open Go.Sort (grow)
set_option maxRecDepth 100000 in
set_option maxHeartbeats 4000000 in
theorem bodiless_any (w : World) (sb mb : Nat) (rd : Option Addr) (rc : Nat) (l : List MR) (fd : Option Addr) (fc : Nat) (T : List HT) (s : En.Sea En.Fct) (h : SAt w sb mb (.slice rd l.length rc) fd fc T s) (hl : RulesS w rd rc l) (hp : ∀ r, r ∈ l → r.head.1.pred ∈ T.map HT.nm) (hll : l.length ≤ 1000)
 (hF : s.found.length + l.length ≤ 999990) (hC : ∀ f, s.count f + l.length ≤ 1000000000000) :
 Calls Tryz.prog 188 #[.pointer (some ⟨sb, 0, none⟩)] w fun e w' => e = .returned (.tuple #[]) ∧ SOn w w' sb mb (.slice rd l.length rc) fd fc T s (En.holds s ((l.map MR.rule).flatMap En.bless)) := by
 have s0 : w.cell? ⟨sb, 0, none⟩ = some (.slice rd l.length rc) := by rw [cell_of_row _ _ 0 _ _ _ h.blk]; rfl
 have hsb : sb < w.heap.size := lt_of_heap h.blk
 have hle := ownsRow_le hl.inn.1
 have HH : Hid (SAt w sb mb (.slice rd l.length rc) fd fc T s) := h
 have HL : Hid (RulesS w rd rc l) := hl
 have HP : Hid (∀ r, r ∈ l → r.head.1.pred ∈ T.map HT.nm) := hp
 have HF : Hid (s.found.length + l.length ≤ 999990) := hF
 have HC : Hid (∀ f, s.count f + l.length ≤ 1000000000000) := hC
 have hbl : Hid (∀ k, (((l.take k).map MR.rule).flatMap En.bless).length ≤ k) := by
  intro k
  have : ∀ q : List MR, ((q.map MR.rule).flatMap En.bless).length ≤ q.length := by
   intro q
   induction q with
   | nil => simp
   | cons r q ih =>
    simp only [List.map_cons, List.flatMap_cons, List.length_append, List.length_cons]
    have : (En.bless r.rule).length ≤ 1 := by unfold En.bless; split <;> simp
    omega
  have := this (l.take k)
  rw [List.length_take] at this
  omega
 clear h hl hp hF hC
 go_enter Tryz.func188, Tryz.ntmps188
 go_wp2_with fail
 go_loopw [9] (fun iv wr => ∃ k : Nat, k ≤ l.length ∧ iv = .int .i64 k ∧ SOn w wr sb mb (.slice rd l.length rc) fd fc T s (En.holds s (((l.take k).map MR.rule).flatMap En.bless))) (fun iv _ => l.length - (intOf iv).toNat)
 case atStart => exact ⟨0, Nat.zero_le _, rfl, SOn.refl HH.out⟩
 case round =>
  obtain ⟨k, hk, rfl, hson⟩ := hrel
  have HS : Hid (SOn w wr sb mb (.slice rd l.length rc) fd fc T s (En.holds s (((l.take k).map MR.rule).flatMap En.bless))) := hson
  clear hson
  by_cases hlt : k < l.length
  · have hrs := HL.out.search HH.out HS.out
    obtain ⟨g, a, ad, ac, bd, bc, body, rfl, hg, hcap, d0, d1, d2, d3, hra, hrule⟩ := hrs.at hlt
    have hst0 : ((l.take (k + 1)).map MR.rule).flatMap En.bless = ((l.take k).map MR.rule).flatMap En.bless ++ En.bless ⟨a, List.map Prod.fst body⟩ := by
     rw [List.take_succ_eq_append_getElem hlt, List.map_append, List.flatMap_append, List.map_singleton, List.flatMap_singleton, hrule]
    have hst : Hid (((l.take (k + 1)).map MR.rule).flatMap En.bless = ((l.take k).map MR.rule).flatMap En.bless ++ En.bless ⟨a, List.map Prod.fst body⟩) := hst0
    clear hst0
    have hpp := HP.out _ (List.getElem_mem hlt)
    have hpa : a.pred ∈ T.map HT.nm := by
     have : (l[k]).head.1 = a := by
      have := congrArg Ax.Rule.head hrule
      exact this
     rw [← this]
     exact hpp
    have hbk := hbl.out k
    have hF1 := HF.out
    have hC1 := HC.out
    by_cases hb0 : body.length = 0
    · have hbe : En.bless ⟨a, List.map Prod.fst body⟩ = [En.afact (En.val []) a] := by
       have : body = [] := List.eq_nil_of_length_eq_zero hb0
       subst this
       rfl
      obtain ⟨fd1, fc1, T1, hs1, hkey1, hft1⟩ := HS.out.on
      have hlen1 := En.holds_len (((l.take k).map MR.rule).flatMap En.bless) s
      obtain ⟨A, t, B, hT1, hpn⟩ := mem_split_nm (T := T1) (p := a.pred) (by rw [nm_of_key hkey1]; exact hpa)
      subst hT1
      have hcon : Hid (∀ W : World, Below wr.heap.size wr W → Calls Tryz.prog 231 #[.pointer (some ⟨sb, 0, none⟩), .agg #[.int .i64 a.at_, .string a.pred, .slice ad a.terms.length ac, .slice bd body.length bc], .agg #[.int .i64 0, .string ⟨#[]⟩, .string ⟨#[]⟩, .string ⟨#[]⟩, .string ⟨#[]⟩, .string ⟨#[]⟩, .string ⟨#[]⟩, .string ⟨#[]⟩, .string ⟨#[]⟩, .string ⟨#[]⟩, .string ⟨#[]⟩, .string ⟨#[]⟩, .string ⟨#[]⟩]] W fun e w' => e = .returned (.tuple #[]) ∧ SOn w w' sb mb (.slice (some ⟨g, 0, none⟩) l.length rc) fd fc T s (En.holds s (((l.take (k + 1)).map MR.rule).flatMap En.bless))) := by
       intro W hW
       have := conclude_any W sb mb _ fd1 fc1 A B t _ (hs1.below hW) (by omega) (fun f => by have h1 := En.holds_count_le (((l.take k).map MR.rule).flatMap En.bless) s f; have h2 := hC1 f; omega) a ad ac _ (hra.below hW).mr.1 hra.head hpn [] 0 _ _ bis_nil bd body.length bc rfl
       refine this.mono ?_
       rintro e w' ⟨rfl, hson⟩
       refine ⟨rfl, ?_⟩
       rw [hst.out, hbe, En.holds_append]
       exact SOn.trans HH.out (hs1.below hW) hkey1 hft1 (HS.out.kept.below hW) (HS.out.post hW).cells hlen1.1 hson
      have hb0' : ((body.length : Int) == 0) = true := by simp [hb0]
      clear hb0 hbe hs1 hft1 hkey1 hlen1 hpn hra hrs hrule hpp hpa hbk hF1 hC1
      go_wp2_with (go_at_call 231; refine (hcon.out _ (by exact (Below.refl _ _).alloc (Nat.le_refl _) _)).mono ?_; rintro e w6 ⟨rfl, hson6⟩; have HS6 : Hid (SOn w w6 sb mb (.slice (some ⟨g, 0, none⟩) l.length rc) fd fc T s (En.holds s (((l.take (k + 1)).map MR.rule).flatMap En.bless))) := hson6; clear hson6)
      go_roundw
      case rel => exact ⟨k + 1, by omega, by go_num, HS6.out⟩
      case measure => simp [intOf]; omega
    · have hbe : En.bless ⟨a, List.map Prod.fst body⟩ = [] := by
       unfold En.bless
       rw [if_neg]
       intro e
       have := congrArg List.length e
       simp at this
       exact hb0 (by rw [this]; rfl)
      have hnx : Hid (SOn w (wr.alloc (.cells #[.int .i64 a.at_, .string a.pred, .slice ad a.terms.length ac, .slice bd body.length bc] 222)) sb mb (.slice (some ⟨g, 0, none⟩) l.length rc) fd fc T s (En.holds s (((l.take (k + 1)).map MR.rule).flatMap En.bless))) := by
       rw [hst.out, hbe, List.append_nil]
       exact HS.out.post ((Below.refl _ _).alloc (Nat.le_refl _) _)
      have hb0' : ((body.length : Int) == 0) = false := by simp only [beq_eq_false_iff_ne]; omega
      have hb0'' : ¬ (body.length = 0) := hb0
      clear hb0 hbe hra hrs hrule hpp hpa hbk hF1 hC1
      go_wp2_with fail
      go_roundw
      case rel => exact ⟨k + 1, by omega, by go_num, hnx.out⟩
      case measure => simp [intOf]; omega
  · have hkc : k = l.length := by omega
    have hfin : Hid (SOn w wr sb mb (.slice rd l.length rc) fd fc T s (En.holds s ((l.map MR.rule).flatMap En.bless))) := by
     have := HS.out
     rw [hkc, List.take_length] at this
     exact this
    clear hkc
    go_wp2_with fail
    go_end0
    exact ⟨rfl, hfin.out⟩
end Go.Proofs.YtdmicblafmhflaaGreatDoor
/- Package follow: meet. -/
namespace Go.Proofs.YtdmicblafmhflaaGreatDoor
open Go.RowKit Go.Maps Go.WideMaps Go.WideElems
open Go.Sort (grow)
theorem range_take {m j : Nat} (h : j < m) : (List.range m).take (j + 1) = (List.range m).take j ++ [j] := by
 rw [List.take_succ_eq_append_getElem (by simpa using h)]
 simp
set_option maxRecDepth 100000 in
set_option maxHeartbeats 4000000 in
theorem meet_any (w : World) (sb mb : Nat) (rd : Option Addr) (rc : Nat) (l : List MR) (fd : Option Addr) (fc : Nat) (T : List HT) (s : En.Sea En.Fct) (h : SAt w sb mb (.slice rd l.length rc) fd fc T s) (hl : RulesS w rd rc l) (hp : ∀ r, r ∈ l → r.head.1.pred ∈ T.map HT.nm) (hll : l.length ≤ 1000)
 (P : List En.Fct) (z : En.Fct) (newest : Nat) (hPl : P.length = newest) (hnw : newest < s.found.length) (hPz : s.found.take (newest + 1) = P ++ [z])
 (hF : s.found.length + ((l.map MR.rule).flatMap (En.jturns P z)).length ≤ 999990) (hC : ∀ f, s.count f + ((l.map MR.rule).flatMap (En.jturns P z)).length ≤ 1000000000000) :
 Calls Tryz.prog 189 #[.pointer (some ⟨sb, 0, none⟩), .int .i64 newest] w fun e w' => e = .returned (.tuple #[]) ∧ SOn w w' sb mb (.slice rd l.length rc) fd fc T s (En.holds s ((l.map MR.rule).flatMap (En.jturns P z))) := by
 have s0 : w.cell? ⟨sb, 0, none⟩ = some (.slice rd l.length rc) := by rw [cell_of_row _ _ 0 _ _ _ h.blk]; rfl
 have hsb : sb < w.heap.size := lt_of_heap h.blk
 have hle := ownsRow_le hl.inn.1
 have HH : Hid (SAt w sb mb (.slice rd l.length rc) fd fc T s) := h
 have HL : Hid (RulesS w rd rc l) := hl
 have HP : Hid (∀ r, r ∈ l → r.head.1.pred ∈ T.map HT.nm) := hp
 have HF : Hid (s.found.length + ((l.map MR.rule).flatMap (En.jturns P z)).length ≤ 999990) := hF
 have HC : Hid (∀ f, s.count f + ((l.map MR.rule).flatMap (En.jturns P z)).length ≤ 1000000000000) := hC
 have HPZ : Hid (s.found.take (newest + 1) = P ++ [z]) := hPz
 have HPL : Hid (P.length = newest) := hPl
 have hnb : newest ≤ 999990 := by omega
 clear h hl hp hF hC hPz hPl
 go_enter Tryz.func189, Tryz.ntmps189
 go_wp2_with fail
 go_loopw [12] (fun iv wr => ∃ k : Nat, k ≤ l.length ∧ iv = .int .i64 k ∧ SOn w wr sb mb (.slice rd l.length rc) fd fc T s (En.holds s (((l.take k).map MR.rule).flatMap (En.jturns P z)))) (fun iv _ => l.length - (intOf iv).toNat)
 case atStart => exact ⟨0, Nat.zero_le _, rfl, SOn.refl HH.out⟩
 case round =>
  obtain ⟨k, hk, rfl, hson⟩ := hrel
  have HS : Hid (SOn w wr sb mb (.slice rd l.length rc) fd fc T s (En.holds s (((l.take k).map MR.rule).flatMap (En.jturns P z)))) := hson
  clear hson
  by_cases hlt : k < l.length
  · have hrs := HL.out.search HH.out HS.out
    obtain ⟨g, a, ad, ac, bd, bc, body, rfl, hg, hcap, d0, d1, d2, d3, hra, hrule⟩ := hrs.at hlt
    have hst0 : ((l.take (k + 1)).map MR.rule).flatMap (En.jturns P z) = ((l.take k).map MR.rule).flatMap (En.jturns P z) ++ En.jturns P z ⟨a, List.map Prod.fst body⟩ := by
     rw [List.take_succ_eq_append_getElem hlt, List.map_append, List.flatMap_append, List.map_singleton, List.flatMap_singleton, hrule]
    have hst : Hid (((l.take (k + 1)).map MR.rule).flatMap (En.jturns P z) = ((l.take k).map MR.rule).flatMap (En.jturns P z) ++ En.jturns P z ⟨a, List.map Prod.fst body⟩) := hst0
    have hpp := HP.out _ (List.getElem_mem hlt)
    have hpa : a.pred ∈ T.map HT.nm := by
     have : (l[k]).head.1 = a := congrArg Ax.Rule.head hrule
     rw [← this]
     exact hpp
    have htot : ((l.take (k + 1)).map MR.rule).flatMap (En.jturns P z) = ((l.map MR.rule).take (k + 1)).flatMap (En.jturns P z) := by rw [List.map_take]
    have hle2 := take_flat_le (En.jturns P z) (l.map MR.rule) (k + 1)
    rw [← htot, hst0, List.length_append] at hle2
    have hjt : En.jturns P z ⟨a, List.map Prod.fst body⟩ = (List.range body.length).flatMap fun turn => En.jn P z turn a 0 (body.map Prod.fst) [] := by
     unfold En.jturns
     simp
    rw [hjt] at hle2
    have HJT : Hid (En.jturns P z ⟨a, List.map Prod.fst body⟩ = (List.range body.length).flatMap fun turn => En.jn P z turn a 0 (body.map Prod.fst) []) := hjt
    have HLE2 : Hid ((((l.take k).map MR.rule).flatMap (En.jturns P z)).length + ((List.range body.length).flatMap fun turn => En.jn P z turn a 0 (body.map Prod.fst) []).length ≤ ((l.map MR.rule).flatMap (En.jturns P z)).length) := hle2
    have h2 := hra.two
    obtain ⟨fd1, fc1, T1, hs1, hkey1, hft1⟩ := HS.out.on
    have hlen1 := En.holds_len (((l.take k).map MR.rule).flatMap (En.jturns P z)) s
    have HLEN : Hid (s.found.length ≤ (En.holds s (((l.take k).map MR.rule).flatMap (En.jturns P z))).found.length ∧ (En.holds s (((l.take k).map MR.rule).flatMap (En.jturns P z))).found.length ≤ s.found.length + (((l.take k).map MR.rule).flatMap (En.jturns P z)).length) := hlen1
    obtain ⟨w1, hw1⟩ : ∃ w1, w1 = wr.alloc (.cells #[.int .i64 a.at_, .string a.pred, .slice ad a.terms.length ac, .slice bd body.length bc] 222) := ⟨_, rfl⟩
    have hbw1 : Below wr.heap.size wr w1 := by rw [hw1]; exact (Below.refl _ _).alloc (Nat.le_refl _) _
    have hbox : w1.heap[wr.heap.size]? = some (.cells #[.int .i64 a.at_, .string a.pred, .slice ad a.terms.length ac, .slice bd body.length bc] 222 (0, 0)) := by rw [hw1]; exact heap_alloc_new wr _
    have HS1 : Hid (SAt w1 sb mb (.slice (some ⟨g, 0, none⟩) l.length rc) fd1 fc1 T1 (En.holds s (((l.take k).map MR.rule).flatMap (En.jturns P z)))) := hs1.below hbw1
    have HS0 : Hid (SAt wr sb mb (.slice (some ⟨g, 0, none⟩) l.length rc) fd1 fc1 T1 (En.holds s (((l.take k).map MR.rule).flatMap (En.jturns P z)))) := hs1
    have HRA : Hid (RAtW w1 a ad ac bd bc body) := hra.below hbw1
    have HBX : Hid (w1.heap[wr.heap.size]? = some (.cells #[.int .i64 a.at_, .string a.pred, .slice ad a.terms.length ac, .slice bd body.length bc] 222 (0, 0))) := hbox
    have HB1 : Hid (Below wr.heap.size wr w1) := hbw1
    have HKEY : Hid (T1.map HT.key = T.map HT.key) := hkey1
    have HFT : Hid (∀ b, b ∈ sfoot sb fd1 fc1 (En.holds s (((l.take k).map MR.rule).flatMap (En.jturns P z))).found.length T1 → b ∈ sfoot sb fd fc s.found.length T ∨ w.heap.size ≤ b) := hft1
    have HPA : Hid (a.pred ∈ T.map HT.nm) := hpa
    have hsz1 : wr.heap.size < w1.heap.size := lt_of_heap hbox
    clear hra hrs hrule hpp hpa htot hle2 hjt hst0 hs1 hlen1 hft1 hkey1 hbox
    obtain ⟨wA, hwA⟩ : ∃ x, x = wr := ⟨wr, rfl⟩
    go_upto_region 4 with fail
    rw [← hw1]
    clear hw1 hbw1
    rw [← hwA]
    rw [← hwA] at HS HS0 HBX HB1 hsz1
    clear d0 d1 d2 d3 hg hwA
    go_loopw [19] (fun jv w2 => ∃ j : Nat, j ≤ body.length ∧ jv = .int .i64 j ∧ SOn w1 w2 sb mb (.slice (some ⟨g, 0, none⟩) l.length rc) fd1 fc1 T1 (En.holds s (((l.take k).map MR.rule).flatMap (En.jturns P z))) (En.holds (En.holds s (((l.take k).map MR.rule).flatMap (En.jturns P z))) (((List.range body.length).take j).flatMap fun turn => En.jn P z turn a 0 (body.map Prod.fst) []))) (fun jv _ => body.length - (intOf jv).toNat)
    case atStart => exact ⟨0, Nat.zero_le _, rfl, SOn.refl HS1.out⟩
    case round =>
     obtain ⟨j, hj, rfl, hson2⟩ := hrel
     have HS2 : Hid (SOn w1 wr sb mb (.slice (some ⟨g, 0, none⟩) l.length rc) fd1 fc1 T1 (En.holds s (((l.take k).map MR.rule).flatMap (En.jturns P z))) (En.holds (En.holds s (((l.take k).map MR.rule).flatMap (En.jturns P z))) (((List.range body.length).take j).flatMap fun turn => En.jn P z turn a 0 (body.map Prod.fst) []))) := hson2
     clear hson2
     have hjr : wr.heap[wA.heap.size]? = some (.cells #[.int .i64 a.at_, .string a.pred, .slice ad a.terms.length ac, .slice bd body.length bc] 222 (0, 0)) := HS2.out.kept.heap HBX.out (fun hc => by have := sfoot_lt HS0.out hc; omega)
     by_cases hjl : j < body.length
     · obtain ⟨fd2, fc2, T2, hs2, hkey2, hft2⟩ := HS2.out.on
       have hst2 : (((List.range body.length).take (j + 1)).flatMap fun turn => En.jn P z turn a 0 (body.map Prod.fst) []) = (((List.range body.length).take j).flatMap fun turn => En.jn P z turn a 0 (body.map Prod.fst) []) ++ En.jn P z j a 0 (body.map Prod.fst) [] := by
        rw [range_take hjl, List.flatMap_append, List.flatMap_singleton]
       have hle3 := take_flat_le (fun turn => En.jn P z turn a 0 (body.map Prod.fst) []) (List.range body.length) (j + 1)
       rw [hst2, List.length_append] at hle3
       have hlen2 := En.holds_len (((List.range body.length).take j).flatMap fun turn => En.jn P z turn a 0 (body.map Prod.fst) []) (En.holds s (((l.take k).map MR.rule).flatMap (En.jturns P z)))
       have hL1 := HLEN.out
       have hL2 := HLE2.out
       have hF1 := HF.out
       have hC1 := HC.out
       have hrec := (jspec_all (sb := sb) (mb := mb) (rv := (.slice (some ⟨g, 0, none⟩) l.length rc)) (a := a) (ad := ad) (ac := ac) (bd := bd) (bc := bc) (body := body) (P := P) (z := z) (turn := j) HPL.out hnb (by omega) body.length 0 (by omega)) wr fd2 fc2 T2 _ [] 0 _ _ hs2 (HRA.out.search HS1.out HS2.out) bis_nil (by omega) (by rw [nm_of_key hkey2, nm_of_key HKEY.out]; exact HPA.out) (by omega) (by rw [En.holds_take _ _ (by omega), En.holds_take _ _ (by omega)]; exact HPZ.out) (by rw [List.drop_zero]; omega) (fun f => by have h1 := En.holds_count_le (((List.range body.length).take j).flatMap fun turn => En.jn P z turn a 0 (body.map Prod.fst) []) (En.holds s (((l.take k).map MR.rule).flatMap (En.jturns P z))) f; have h3 := En.holds_count_le (((l.take k).map MR.rule).flatMap (En.jturns P z)) s f; have h4 := hC1 f; rw [List.drop_zero]; omega)
       rw [List.drop_zero] at hrec
       have hcall : Hid (Calls Tryz.prog 232 #[.pointer (some ⟨sb, 0, none⟩), .agg #[.int .i64 a.at_, .string a.pred, .slice ad a.terms.length ac, .slice bd body.length bc], .int .i64 0, .int .i64 j, .int .i64 newest, .agg #[.int .i64 0, .string ⟨#[]⟩, .string ⟨#[]⟩, .string ⟨#[]⟩, .string ⟨#[]⟩, .string ⟨#[]⟩, .string ⟨#[]⟩, .string ⟨#[]⟩, .string ⟨#[]⟩, .string ⟨#[]⟩, .string ⟨#[]⟩, .string ⟨#[]⟩, .string ⟨#[]⟩]] wr fun e w' => e = .returned (.tuple #[]) ∧ SOn w1 w' sb mb (.slice (some ⟨g, 0, none⟩) l.length rc) fd1 fc1 T1 (En.holds s (((l.take k).map MR.rule).flatMap (En.jturns P z))) (En.holds (En.holds s (((l.take k).map MR.rule).flatMap (En.jturns P z))) (((List.range body.length).take (j + 1)).flatMap fun turn => En.jn P z turn a 0 (body.map Prod.fst) []))) := by
        refine hrec.mono ?_
        rintro e w' ⟨rfl, hson⟩
        refine ⟨rfl, ?_⟩
        rw [hst2, En.holds_append]
        exact SOn.trans HS1.out hs2 hkey2 hft2 HS2.out.kept HS2.out.cells hlen2.1 hson
       have r0 : wr.cell? ⟨wA.heap.size, 0, none⟩ = some (.int .i64 a.at_) := by rw [cell_of_row _ _ _ _ _ _ hjr]; rfl
       have r1 : wr.cell? ⟨wA.heap.size, 1, none⟩ = some (.string a.pred) := by rw [cell_of_row _ _ _ _ _ _ hjr]; rfl
       have r2 : wr.cell? ⟨wA.heap.size, 2, none⟩ = some (.slice ad a.terms.length ac) := by rw [cell_of_row _ _ _ _ _ _ hjr]; rfl
       have r3 : wr.cell? ⟨wA.heap.size, 3, none⟩ = some (.slice bd body.length bc) := by rw [cell_of_row _ _ _ _ _ _ hjr]; rfl
       have u1 : wA.heap.size < wr.heap.size := lt_of_heap hjr
       clear hrec hs2 hkey2 hft2 hst2 hle3 hlen2 hL1 hL2 hF1 hC1 hjr
       go_wp2_with (go_at_call 232; refine hcall.out.mono ?_; rintro e w6 ⟨rfl, hson6⟩; have HS6 : Hid (SOn w1 w6 sb mb (.slice (some ⟨g, 0, none⟩) l.length rc) fd1 fc1 T1 (En.holds s (((l.take k).map MR.rule).flatMap (En.jturns P z))) (En.holds (En.holds s (((l.take k).map MR.rule).flatMap (En.jturns P z))) (((List.range body.length).take (j + 1)).flatMap fun turn => En.jn P z turn a 0 (body.map Prod.fst) []))) := hson6; clear hson6)
       go_roundw
       case rel => exact ⟨j + 1, by omega, by go_num, HS6.out⟩
       case measure => simp [intOf]; omega
     · have hjc : j = body.length := by omega
       have hnext : Hid (SOn w wr sb mb (.slice (some ⟨g, 0, none⟩) l.length rc) fd fc T s (En.holds s (((l.take (k + 1)).map MR.rule).flatMap (En.jturns P z)))) := by
        have h1 := HS2.out
        have e1 : (List.range body.length).take j = List.range body.length := List.take_of_length_le (by simp; omega)
        rw [e1, ← HJT.out] at h1
        rw [hst.out, En.holds_append]
        exact SOn.trans HH.out HS1.out HKEY.out HFT.out (HS.out.kept.below HB1.out) (HS.out.post HB1.out).cells HLEN.out.1 h1
       clear hjc hjr
       go_wp2_with fail
       go_roundw
       case rel => exact ⟨k + 1, by omega, by go_num, hnext.out⟩
       case measure => simp [intOf]; omega
  · have hkc : k = l.length := by omega
    have hfin : Hid (SOn w wr sb mb (.slice rd l.length rc) fd fc T s (En.holds s ((l.map MR.rule).flatMap (En.jturns P z)))) := by
     have := HS.out
     rw [hkc, List.take_length] at this
     exact this
    clear hkc
    go_wp2_with fail
    go_end0
    exact ⟨rfl, hfin.out⟩
end Go.Proofs.YtdmicblafmhflaaGreatDoor
/- The rules of axiomkeep's text are fit for the search. -/
namespace Go.Proofs.YtdmicblafmhflaaGreatDoor
open Go.RowKit
theorem rulesS_gen {w : World} {rd : Option Addr} {rc : Nat} {l : List MR} {kl : List Ax.KRule} (h : RulesIn w rd rc l) (he : (l.map MR.rule).map Ax.erR = Ax.gR kl) : RulesS w rd rc l ∧ (∀ r, r ∈ l → r.head.1.pred ∈ Ax.gP) ∧ l.length ≤ 8 := by
 have hG := Ax.gR_good kl
 have hmem : ∀ r, r ∈ l → Ax.erR r.rule ∈ Ax.gR kl := fun r hr => by
  rw [← he]
  exact List.mem_map.2 ⟨_, List.mem_map.2 ⟨r, hr, rfl⟩, rfl⟩
 have hat : ∀ r, r ∈ l → AOk r.head.1 := fun r hr => by
  have h1 := (hG.fit _ (hmem r hr)).1.1
  have h2 := hG.atoms _ (hmem r hr) _ (.inl rfl)
  exact ⟨h2.2.2, h1.2⟩
 have hab : ∀ r, r ∈ l → ∀ x, x ∈ r.body → AOk x.1 := fun r hr x hx => by
  have hx2 : Ax.erA x.1 ∈ (Ax.erR r.rule).2 := List.mem_map.2 ⟨x.1, List.mem_map.2 ⟨x, hx, rfl⟩, rfl⟩
  have h1 := (hG.fit _ (hmem r hr)).1.2 _ hx2
  have h2 := hG.atoms _ (hmem r hr) _ (.inr hx2)
  exact ⟨h2.2.2, h1.2⟩
 have htw : ∀ r, r ∈ l → r.body.length ≤ 2 := fun r hr => by
  have := (hG.fit _ (hmem r hr)).2
  simpa [Ax.erR, MR.rule] using this
 refine ⟨⟨h, hat, hab, htw⟩, fun r hr => (hG.atoms _ (hmem r hr) _ (.inl rfl)).1, ?_⟩
 have h1 := congrArg List.length he
 simp only [List.length_map] at h1
 have := hG.few
 omega
theorem meet_concl {l : List MR} {P : List En.Fct} {z : En.Fct} (h2 : ∀ r, r ∈ l → r.body.length ≤ 2) : (l.map MR.rule).flatMap (En.jturns P z) = En.concl ((l.map MR.rule).map En.srule) P z := by
 refine En.concl_jturns P z _ ?_
 intro r hr
 obtain ⟨m, hm, rfl⟩ := List.mem_map.1 hr
 simpa [MR.rule] using h2 m hm
end Go.Proofs.YtdmicblafmhflaaGreatDoor
/- The search's beginning: what is given, and the rules without a body. No program here. -/
namespace Go.Proofs.YtdmicblafmhflaaGreatDoor.En
section
variable {F : Type} [DecidableEq F]
def seaNil : Sea F := ⟨[], fun _ => 0⟩
def held0 (s : Sea F) (l : List F) : Sea F := l.foldl (fun s f => hold s f 0) s
theorem held0_cons (s : Sea F) (f : F) (l : List F) : held0 s (f :: l) = held0 (hold s f 0) l := rfl
theorem held0_append (s : Sea F) (a b : List F) : held0 s (a ++ b) = held0 (held0 s a) b := by simp [held0]
theorem hold_mem {s : Sea F} {f g : F} {n : Nat} : g ∈ (hold s f n).found ↔ g = f ∨ g ∈ s.found := by
 obtain ⟨t, h1, h2, h3⟩ := hold_found s f n
 rw [h1, List.mem_append]
 constructor
 · rintro (h | h)
   · exact .inr h
   · exact .inl (h2 g h)
 · rintro (rfl | h)
   · exact List.mem_append.1 h3
   · exact .inl h
theorem held0_spec : ∀ (l : List F) (s : Sea F), (∀ g, g ∈ (held0 s l).found ↔ g ∈ s.found ∨ g ∈ l) ∧ (s.found.Nodup → (held0 s l).found.Nodup) ∧ ∀ g, (held0 s l).count g = s.count g
 | [], s => ⟨fun g => by simp [held0], fun h => h, fun g => rfl⟩
 | f :: l, s => by
  obtain ⟨h1, h2, h3⟩ := held0_spec l (hold s f 0)
  rw [held0_cons]
  refine ⟨fun g => ?_, fun h => h2 (hold_nodup h f 0), fun g => ?_⟩
  · rw [h1, hold_mem, List.mem_cons]
    constructor
    · rintro ((h | h) | h)
      · exact .inr (.inl h)
      · exact .inl h
      · exact .inr (.inr h)
    · rintro (h | h | h)
      · exact .inl (.inr h)
      · exact .inl (.inl h)
      · exact .inr h
  · rw [h3, hold_count]
    simp
def bl0 (R : List (SRule F)) : List F := R.flatMap fun r => if r.k = 0 then (r.inst []).toList else []
theorem total_nil (h : F) : ∀ R : List (SRule F), (∀ r, r ∈ R → r.k ≤ 2) → total R [] h = lcount (bl0 R) h
 | [], _ => rfl
 | r :: R, hR => by
  have ih := total_nil h R (fun q hq => hR q (by simp [hq]))
  unfold total bl0 at *
  simp only [List.map_cons, List.sum_cons, List.flatMap_cons]
  rw [ih]
  have e : cnt r (allT r.k []) h = lcount (if r.k = 0 then (r.inst []).toList else []) h := by
   have hk := hR r (by simp)
   have : r.k = 0 ∨ r.k = 1 ∨ r.k = 2 := by omega
   rcases this with e | e | e
   · rw [e]
     simp only [allT, if_true, cnt_eq, List.filterMap_cons, List.filterMap_nil]
     cases r.inst [] <;> rfl
   · rw [e]
     simp [allT, cnt_eq, lcount]
   · rw [e]
     simp [allT, cnt_eq, lcount]
  rw [e]
  unfold lcount
  rw [List.count_append]
theorem start_inv (R : List (SRule F)) (hR : ∀ r, r ∈ R → r.k ≤ 2) (gl : List F) : Inv R (· ∈ gl) (holds (held0 seaNil gl) (bl0 R)) 0 := by
 obtain ⟨a1, a2, a3⟩ := held0_spec gl (seaNil (F := F))
 obtain ⟨t, b1, b2, b3, b4, b5⟩ := holds_spec (bl0 R) (held0 seaNil gl)
 have hgl : ∀ f, f ∈ (held0 seaNil gl).found ↔ f ∈ gl := fun f => by
  rw [a1]
  simp [seaNil]
 refine ⟨b4 (a2 (by simp [seaNil])), ?_, ?_, ?_, ?_⟩
 · intro f hf
   rw [b1]
   exact List.mem_append_left _ ((hgl f).2 hf)
 · intro h
   rw [List.take_zero, total_nil h R hR, b5, a3]
   show 0 + _ = _
   rw [Nat.zero_add]
   rfl
 · intro r hr fs hfs h hi
   rw [List.take_zero] at hfs
   have hm := (mem_allT (hR r hr)).1 hfs
   have hk0 : r.k = 0 := by
    cases hk : r.k with
    | zero => rfl
    | succ m =>
     rw [hk] at hm
     cases fs with
     | nil => simp at hm
     | cons x _ => exact absurd (hm.2 x (by simp)) (by simp)
   have hfn : fs = [] := by
    rw [hk0] at hm
    exact List.eq_nil_of_length_eq_zero hm.1
   subst hfn
   rw [b1]
   refine b3 h (List.mem_flatMap.2 ⟨r, hr, ?_⟩)
   rw [if_pos hk0, hi]
   simp
 · intro X hX hgX f hf
   rw [b1] at hf
   rcases List.mem_append.1 hf with hf | hf
   · exact hgX f ((hgl f).1 hf)
   · obtain ⟨r, hr, hfr⟩ := List.mem_flatMap.1 (b2 f hf)
     by_cases hk : r.k = 0
     · rw [if_pos hk] at hfr
       have hi : r.inst [] = some f := by
        cases h : r.inst [] with
        | none => rw [h] at hfr; simp at hfr
        | some q => rw [h] at hfr; simp at hfr; rw [hfr]
       exact hX r hr [] (by rw [hk]; rfl) (by simp) f hi
     · rw [if_neg hk] at hfr
       simp at hfr
end
end Go.Proofs.YtdmicblafmhflaaGreatDoor.En
/- takeBodiless says what the rules without a body say. -/
namespace Go.Proofs.YtdmicblafmhflaaGreatDoor.En
theorem bless_one (r : Ax.Rule) : bless r = if (srule r).k = 0 then ((srule r).inst []).toList else [] := by
 obtain ⟨h, b⟩ := r
 cases b with
 | nil => rfl
 | cons x b => rfl
theorem bless_bl0 : ∀ rs : List Ax.Rule, rs.flatMap bless = bl0 (rs.map srule)
 | [] => rfl
 | r :: rs => by
  have ih := bless_bl0 rs
  unfold bl0 at ih ⊢
  rw [List.flatMap_cons, List.map_cons, List.flatMap_cons, ih, bless_one]
end Go.Proofs.YtdmicblafmhflaaGreatDoor.En
