/- The contracts of package pattern's checkNode and checkNames. -/
import Derived.Test.YtfkgicakiapmaaaPatWell
import Derived.Maps.Own
import Derived.Maps.OwnSet
import Derived.Maps.Views
import Derived.Maps.Keyed
import Derived.StringKeys
namespace Go.Proofs.Ytfkgicakiapmaaa
open Go.RowKit Go.Maps Go.ChangeShapes Go.WideShapes

set_option maxRecDepth 100000 in
set_option maxHeartbeats 4000000 in
theorem checkNode_any (op : Int) (ra ka : Option Addr) (rs : List (Nat × Nat)) (rc kl kc : Nat) (nm : ByteArray) (mn mx : Int) (w : World) (h : RangesIn 0 w (.slice ra rs.length rc) rs) :
    Calls Try.prog 88 #[.agg #[.int .i64 op, .slice ra rs.length rc, .string nm, .slice ka kl kc, .int .i64 mn, .int .i64 mx]] w fun e w' => e = .returned (.int .i64 (nodeErr op rs nm kl mn mx)) ∧ Below w.heap.size w w' := by
  have hwe := fun W hW => well_any op ra ka rs rc kl kc nm mn mx W hW
  have hnm := fun W => isName_any nm W
  have hbd := fun W => areBounds_any mn mx W
  unfold nodeErr
  obtain ⟨wl, hwl⟩ : ∃ b, wellB op rs.length (sepN rs) (nmE nm) kl mn mx = b := ⟨_, rfl⟩
  obtain ⟨nb, hnb⟩ : ∃ b, nameN nm.data.toList = b := ⟨_, rfl⟩
  obtain ⟨bb, hbb⟩ : ∃ b, boundsB mn mx = b := ⟨_, rfl⟩
  rw [hwl] at hwe ⊢
  rw [hnb] at hnm ⊢
  rw [hbb] at hbd ⊢
  have hin : RangesIn 0 (w.alloc (.cells #[.int .i64 op, .slice ra rs.length rc, .string nm, .slice ka kl kc, .int .i64 mn, .int .i64 mx] 27)) (.slice ra rs.length rc) rs := h.keeps (keeps_alloc 0 w _)
  obtain ⟨rl, hrl⟩ : ∃ n, rs.length = n := ⟨_, rfl⟩
  rw [hrl] at hwe hin ⊢
  have H := Lib.hid (And.intro hwe (And.intro hnm (And.intro hbd hin)))
  have hB0 : Below w.heap.size w (w.alloc (.cells #[.int .i64 op, .slice ra rl rc, .string nm, .slice ka kl kc, .int .i64 mn, .int .i64 mx] 27)) := (Below.refl _ _).alloc (Nat.le_refl _) _
  have hS0 := SixAt.new w (.int .i64 op) (.slice ra rl rc) (.string nm) (.slice ka kl kc) (.int .i64 mn) (.int .i64 mx) 27
  clear hwe hnm hbd hin hwl hnb hbb hrl h
  cases wl with
  | false =>
    rw [if_pos rfl]
    go_enter Try.func88, Try.ntmps88
    go_wp2_with fail
    refine (H.out.1 _ H.out.2.2.2).mono ?_
    rintro e w1 ⟨rfl, hb1⟩
    go_wp2
    go_ret
    exact ⟨rfl, hB0.trans (hb1.mono (by rw [Go.Deep.nblk_alloc]; omega))⟩
  | true =>
    rw [if_neg (by decide)]
    have six : ∀ w1, Below (w.alloc (.cells #[.int .i64 op, .slice ra rl rc, .string nm, .slice ka kl kc, .int .i64 mn, .int .i64 mx] 27)).heap.size (w.alloc (.cells #[.int .i64 op, .slice ra rl rc, .string nm, .slice ka kl kc, .int .i64 mn, .int .i64 mx] 27)) w1 → SixAt w1 w.heap.size (.int .i64 op) (.slice ra rl rc) (.string nm) (.slice ka kl kc) (.int .i64 mn) (.int .i64 mx) := fun w1 hb => by
      obtain ⟨t, ht⟩ := hS0
      exact ⟨t, (hb.block _ (by rw [Go.Deep.nblk_alloc]; omega)).trans ht⟩
    have S := Lib.hid six
    clear six hS0
    by_cases h5 : op = 5
    · subst h5
      cases nb with
      | false =>
        rw [if_pos ⟨rfl, rfl⟩]
        go_enter Try.func88, Try.ntmps88
        go_wp2_with fail
        refine (H.out.1 _ H.out.2.2.2).mono ?_
        rintro e w1 ⟨rfl, hb1⟩
        obtain ⟨c0, c1, c2, c3, c4, c5⟩ := (S.out w1 hb1).cells
        go_wp2_with fail
        refine (H.out.2.1 _).mono ?_
        rintro e w2 ⟨rfl, hb2⟩
        go_wp2
        go_ret
        exact ⟨rfl, (hB0.trans (hb1.mono (by rw [Go.Deep.nblk_alloc]; omega))).trans (hb2.mono (by have := hb1.size; rw [Go.Deep.nblk_alloc] at this; omega))⟩
      | true =>
        rw [if_neg (by simp), if_neg (by simp)]
        go_enter Try.func88, Try.ntmps88
        go_wp2_with fail
        refine (H.out.1 _ H.out.2.2.2).mono ?_
        rintro e w1 ⟨rfl, hb1⟩
        obtain ⟨c0, c1, c2, c3, c4, c5⟩ := (S.out w1 hb1).cells
        go_wp2_with fail
        refine (H.out.2.1 _).mono ?_
        rintro e w2 ⟨rfl, hb2⟩
        have hz1 := hb1.size
        rw [Go.Deep.nblk_alloc] at hz1
        obtain ⟨d0, d1, d2, d3, d4, d5⟩ := (S.out w2 (hb1.trans (hb2.mono hb1.size))).cells
        go_wp2
        go_ret
        exact ⟨rfl, (hB0.trans (hb1.mono (by rw [Go.Deep.nblk_alloc]; omega))).trans (hb2.mono (by omega))⟩
    · have e5 : (op == 5) = false := by rw [beq_eq_false_iff_ne]; exact h5
      rw [if_neg (fun h => h5 h.1)]
      by_cases h4 : op = 4
      · subst h4
        cases bb with
        | false =>
          rw [if_pos ⟨rfl, rfl⟩]
          clear h5 e5
          go_enter Try.func88, Try.ntmps88
          go_wp2_with fail
          refine (H.out.1 _ H.out.2.2.2).mono ?_
          rintro e w1 ⟨rfl, hb1⟩
          obtain ⟨c0, c1, c2, c3, c4, c5⟩ := (S.out w1 hb1).cells
          go_wp2_with fail
          refine (H.out.2.2.1 _).mono ?_
          rintro e w2 ⟨rfl, rfl⟩
          go_wp2
          go_ret
          exact ⟨rfl, hB0.trans (hb1.mono (by rw [Go.Deep.nblk_alloc]; omega))⟩
        | true =>
          rw [if_neg (by simp)]
          clear h5 e5
          go_enter Try.func88, Try.ntmps88
          go_wp2_with fail
          refine (H.out.1 _ H.out.2.2.2).mono ?_
          rintro e w1 ⟨rfl, hb1⟩
          obtain ⟨c0, c1, c2, c3, c4, c5⟩ := (S.out w1 hb1).cells
          go_wp2_with fail
          refine (H.out.2.2.1 _).mono ?_
          rintro e w2 ⟨rfl, rfl⟩
          go_wp2
          go_ret
          exact ⟨rfl, hB0.trans (hb1.mono (by rw [Go.Deep.nblk_alloc]; omega))⟩
      · have e4 : (op == 4) = false := by rw [beq_eq_false_iff_ne]; exact h4
        rw [if_neg (fun h => h4 h.1)]
        clear h4 h5
        go_enter Try.func88, Try.ntmps88
        go_wp2_with fail
        refine (H.out.1 _ H.out.2.2.2).mono ?_
        rintro e w1 ⟨rfl, hb1⟩
        obtain ⟨c0, c1, c2, c3, c4, c5⟩ := (S.out w1 hb1).cells
        go_wp2
        go_ret
        exact ⟨rfl, hB0.trans (hb1.mono (by rw [Go.Deep.nblk_alloc]; omega))⟩

/-- Strings in a slice. -/
def StrsIn (w : World) (v : Value) (L : List ByteArray) : Prop :=
  ∃ a c, v = .slice a L.length c ∧ L.length ≤ 4096 ∧ (∀ x ∈ L, x.size ≤ maxLen) ∧ ∀ i (h : i < L.length), ∃ b, a = some ⟨b, 0, none⟩ ∧ w.cell? ⟨b, i, none⟩ = some (.string L[i])
theorem nodup_snoc (L : List ByteArray) (k : Nat) (h : k < L.length) : (L.take (k + 1)).Nodup ↔ (L.take k).Nodup ∧ L[k] ∉ L.take k := by
  rw [List.take_succ_eq_append_getElem h, List.nodup_append]
  constructor
  · intro ⟨h1, _, h3⟩
    exact ⟨h1, fun hm => h3 _ hm _ (by simp) rfl⟩
  · intro ⟨h1, h2⟩
    exact ⟨h1, by simp, fun a ha b hb => by simp at hb; rintro rfl; exact h2 (hb ▸ ha)⟩
theorem plainElem_bool_inv {H : Type} {P : Program} {e : TypeId} (he : P.underlying e = some .bool) {v : Value} {z : DataW H × List MemPlace} (h : plainElem P e v = some z) : ∃ x : Bool, v = .bool x ∧ z = (.lit (.bool x), []) := by
  unfold plainElem at h
  rw [he] at h
  cases v <;> simp at h
  exact ⟨_, rfl, h.symm⟩
theorem keyS : Keyed Try.prog 9 := string_keyed Try.underlying9
theorem zeroBool (w : World) : (zeroValue 4).run Try.prog w = .ok (.bool false) w := by kernel_rfl
/-- What the map knows: the names that were met. -/
def Met (D : DataW Unit) (S : List ByteArray) : Prop := ∀ x : ByteArray, ∃ b : Bool, D.atKey (.string x.data.toList) (.lit (.bool false)) = .lit (.bool b) ∧ (b = true ↔ x ∈ S)

set_option maxRecDepth 100000 in
set_option maxHeartbeats 4000000 in
theorem checkNames_any (L : List ByteArray) (v : Value) (w : World) (h : StrsIn w v L) :
    Calls Try.prog 73 #[v] w fun e w' => e = .returned (.int .i64 (namesErr L)) ∧ Below w.heap.size w w' := by
  obtain ⟨a, c, rfl, hl, hsz, hc⟩ := h
  have hcell : ∀ i (hi : i < L.length), ∃ b, a = some ⟨b, 0, none⟩ ∧ b < w.heap.size ∧ w.cell? ⟨b, i, none⟩ = some (.string L[i]) := fun i hi => by
    obtain ⟨b, ha, h1⟩ := hc i hi
    exact ⟨b, ha, block_lt_of_cell (a := ⟨b, i, none⟩) h1, h1⟩
  have HC := Lib.hid hcell
  have HZ := Lib.hid hsz
  clear hcell hc hsz
  have hmm := @run_makeMap Try.prog
  obtain ⟨r, hr⟩ : ∃ r, namesErr L = r := ⟨_, rfl⟩
  rw [hr]
  have HR := Lib.hid hr
  clear hr
  go_enter Try.func73, Try.ntmps73
  go_wp2
  go_loopw [9] (fun i wr => ∃ (k : Nat) (D : DataW Unit), k ≤ L.length ∧ i = .int .i64 k ∧ Hid ((L.take k).Nodup ∧ Met D (L.take k)) ∧ wr.ownsMap Try.prog 9 (plainElem Try.prog 4) w.heap.size k D ∧ Below w.heap.size w wr) (fun i _ => L.length - (intOf i).toNat)
  case atStart => exact ⟨0, .map [], by omega, rfl, ⟨by simp, fun x => ⟨false, rfl, by simp⟩⟩, World.ownsMap_made _ _ _ _, (Below.refl _ _).alloc (Nat.le_refl _) _⟩
  case round =>
    obtain ⟨k, D, hk, rfl, HM, hown, hbw⟩ := hrel
    by_cases hlt : k < L.length
    · obtain ⟨b, rfl, hbl, hc1⟩ := HC.out k hlt
      have g1 : wr.cell? ⟨b, k, none⟩ = some (.string L[k]) := (hbw.cell (p := ⟨b, k, none⟩) hbl).trans hc1
      have hxs := HZ.out L[k] (List.getElem_mem hlt)
      have hnd := nodup_snoc L k hlt
      have hsn : L.take (k + 1) = L.take k ++ [L[k]] := List.take_succ_eq_append_getElem hlt
      obtain ⟨x, hx⟩ : ∃ x, L[k] = x := ⟨_, rfl⟩
      rw [hx] at g1 hxs hnd hsn
      have hkey : keyOf Try.prog 9 (.string x) = some (.string x.data.toList) := Go.WideMaps.keyOf_string_mk Try.underlying9 hxs
      obtain ⟨val, ps, hlk, hat⟩ := hown.lookup keyS Try.underlying164 (zeroBool wr) (plainElem_bool Try.underlying4 false) hkey
      obtain ⟨y, rfl, hy⟩ := plainElem_bool_inv Try.underlying4 hat
      simp only [Prod.mk.injEq] at hy
      have hy := hy.1
      obtain ⟨yb, hyb, hmem⟩ := HM.out.2 x
      rw [hyb] at hy
      simp only [DataW.lit.injEq, Lit.bool.injEq] at hy
      subst hy
      have HY := Lib.hid (And.intro hmem (And.intro hnd hsn))
      clear hat hyb hmem hnd hsn hc1 hx
      cases yb with
      | true =>
        go_wp2
        go_ret
        refine ⟨?_, hbw⟩
        have hx := HY.out.1.1 trivial
        have hn : ¬ L.Nodup := fun h => (HY.out.2.1.1 (List.Sublist.nodup (List.take_sublist _ _) h)).2 hx
        rw [← HR.out]
        simp [namesErr, hn]
      | false =>
        have hown2 := hown
        go_wp2_with (at_mapUpdate; refine wpList_mapUpdate_own _ rfl (.tmp 16) (.tmp 17) (.const (.bool true)) 164 rfl 9 4 keyS Try.underlying164 _ w.heap.size k D rfl hown2 (by unfold maxLen; omega) _ _ _ rfl rfl hkey _ [] (plainElem_bool Try.underlying4 true) ?_; intro w1 hown1 hgrow1)
        have hnx : x ∉ L.take k := fun h => by have := HY.out.1.2 h; cases this
        have hM2 : (L.take (k + 1)).Nodup ∧ Met (D.put (.string x.data.toList) (.lit (.bool true))) (L.take (k + 1)) := by
          refine ⟨HY.out.2.1.2 ⟨HM.out.1, hnx⟩, fun z => ?_⟩
          rw [HY.out.2.2]
          by_cases hz : z.data.toList = x.data.toList
          · refine ⟨true, ?_, ?_⟩
            · rw [hz, atKey_put_same (World.ownsMap.isMap hown) (by simp [WideAt.IsKeyLit])]
            · have : z = x := bext hz
              subst this
              simp
          · obtain ⟨b2, h1, h2⟩ := HM.out.2 z
            refine ⟨b2, ?_, ?_⟩
            · rw [atKey_put_other (fun e => hz (by injection e)), h1]
            · rw [h2, List.mem_append]
              constructor
              · exact fun h => .inl h
              · rintro (h | h)
                · exact h
                · simp at h; exact absurd (by rw [h]) hz
        have HM2 := Lib.hid hM2
        clear hM2 hnx HY HM
        go_wp2
        go_roundw
        case rel => exact ⟨k + 1, _, by omega, by simp, HM2, hown1, hbw.grown hgrow1 hbw.size (fun j hj => by have := Option.some.inj hj; omega)⟩
        case measure => simp [intOf]; omega
    · obtain rfl : k = L.length := by omega
      have hv : (if 16 < L.length then 4 else 0) = r := by
        rw [← HR.out]
        have := HM.out.1
        rw [List.take_length] at this
        simp [namesErr, this]
      by_cases h16 : 16 < L.length
      · rw [if_pos h16] at hv
        subst hv
        have d : decide (16 < (L.length : Int)) = true := by simp; omega
        go_wp2
        go_ret
        exact ⟨rfl, hbw⟩
      · rw [if_neg h16] at hv
        subst hv
        have d : decide (16 < (L.length : Int)) = false := by simp; omega
        go_wp2
        go_ret
        exact ⟨rfl, hbw⟩
end Go.Proofs.Ytfkgicakiapmaaa
