/- The contracts of the references' Name, sorted, bare and shape: what one node of a pattern must be. -/
import Derived.Test.YtfmoidhpafpgnaaPatChkNode
import Derived.Test.YtfmoidhpafpgnaaPatName
import Derived.Test.YtfmoidhpafpgnaaPatBox
import Derived.Deep.RegionWith
import Derived.Deep.QuietTactic
import Derived.BigQuiet
namespace Go.Proofs.Ytfmoidhpafpgnaa
open Go.RowKit

set_option maxRecDepth 100000 in
set_option maxHeartbeats 2000000 in
theorem rname_any (s : ByteArray) (w : World) :
    Calls Try.prog 34 #[.string s, .int .i64 32] w fun e w' => e = .returned (.bool (nameN s.data.toList)) ∧ w = w' := by
  by_cases h0 : 0 < s.size
  · have hn := nameN_of s h0
    by_cases h1 : s.size ≤ 32
    · have hle := fun W => rletter_any (s[0]'h0).toNat W
      by_cases h2 : letB (s[0]'h0).toNat = true
      · rw [h2] at hle hn
        have hn : nameN s.data.toList = s.data.toList.all fun c => wrdB c.toNat := by rw [hn]; simp [h1]
        obtain ⟨r, hr⟩ : ∃ r, nameN s.data.toList = r := ⟨_, rfl⟩
        rw [hr] at hn ⊢
        have HR := Lib.hid hn
        have HL := Lib.hid hle
        clear hn hle h2 hr
        go_enter Try.func34, Try.ntmps34
        go_wp2_with fail
        refine (HL.out _).mono ?_
        rintro e w1 ⟨rfl, rfl⟩
        go_wp2
        go_loop [5] (fun i => ∃ k : Nat, k ≤ s.size ∧ i = .int .i64 k ∧ ((s.data.toList.take k).all fun c => wrdB c.toNat) = true) (fun i => s.size - (intOf i).toNat)
        case atStart => exact ⟨0, by omega, rfl, rfl⟩
        case round =>
          obtain ⟨k, hk, rfl, ha⟩ := hrel
          by_cases hlt : k < s.size
          · have hwd := fun W => rword_any s[k].toNat W
            by_cases h3 : wrdB s[k].toNat = true
            · have hs := all_take_snoc s k hlt
              rw [ha, h3] at hs
              rw [h3] at hwd
              have HS := Lib.hid hs
              have HW := Lib.hid hwd
              clear hs hwd h3 ha
              go_wp2_with fail
              refine (HW.out _).mono ?_
              rintro e w2 ⟨rfl, rfl⟩
              go_wp2
              go_round
              case rel => exact ⟨k + 1, by omega, by simp, HS.out⟩
              case measure => simp [intOf]; omega
            · have h3 : wrdB s[k].toNat = false := by simpa using h3
              have hs := all_false_at s k hlt h3
              rw [h3] at hwd
              have HS := Lib.hid hs
              have HW := Lib.hid hwd
              clear hs hwd h3 ha
              go_wp2_with fail
              refine (HW.out _).mono ?_
              rintro e w2 ⟨rfl, rfl⟩
              go_wp2
              go_ret
              exact ⟨by rw [HR.out, HS.out]; rfl, rfl⟩
          · obtain rfl : k = s.size := by omega
            rw [← sizeB, List.take_length] at ha
            have HS := Lib.hid ha
            clear ha
            go_wp2
            go_ret
            exact ⟨by rw [HR.out, HS.out]; rfl, rfl⟩
      · have h2 : letB (s[0]'h0).toNat = false := by simpa using h2
        rw [h2] at hle hn
        have hn : nameN s.data.toList = false := by rw [hn]; simp
        rw [hn]
        have HL := Lib.hid hle
        clear hn hle h2
        go_enter Try.func34, Try.ntmps34
        go_wp2_with fail
        refine (HL.out _).mono ?_
        rintro e w1 ⟨rfl, rfl⟩
        go_wp2
        go_ret
        exact ⟨rfl, rfl⟩
    · have hn : nameN s.data.toList = false := by rw [hn]; simp [h1]
      rw [hn]
      clear hn
      go_enter Try.func34, Try.ntmps34
      go_wp2
      go_ret
      exact ⟨rfl, rfl⟩
  · have hs0 : s.size = 0 := by omega
    have hn : nameN s.data.toList = false := by
      have hl := sizeB s
      cases hs : s.data.toList with
      | nil => rfl
      | cons c r => rw [hs] at hl; simp at hl; omega
    rw [hn]
    have d0 : decide ((s.size : Int) < 1) = true := by simp; omega
    clear hn hs0
    go_enter Try.func34, Try.ntmps34
    go_wp2
    go_ret
    exact ⟨rfl, rfl⟩

/-- The first byte that the next range may begin with. -/
def frAt (rs : List (Nat × Nat)) : Nat → Nat
  | 0 => 0
  | k + 1 => ((rs[k]?).map (·.2)).getD 0 + 2
set_option maxRecDepth 100000 in
set_option maxHeartbeats 4000000 in
theorem rsorted_any (rs : List (Nat × Nat)) (v : Value) (w : World) (h : RangesIn 0 w v rs) :
    Calls Try.prog 32 #[v] w fun e w' => e = .returned (.bool (sepN rs)) ∧ Below w.heap.size w w' := by
  obtain ⟨a, c, rfl, hl, hb, hc⟩ := h
  have hcell : ∀ i (hi : i < rs.length), ∃ b o, a = some ⟨b, o, none⟩ ∧ b < w.heap.size ∧ w.cell? ⟨b, o + i * 2, none⟩ = some (.int .u8 (rs[i].1 : Nat)) ∧ w.cell? ⟨b, o + i * 2 + 1, none⟩ = some (.int .u8 (rs[i].2 : Nat)) := fun i hi => by
    obtain ⟨b, o, ha, -, h1, h2⟩ := hc i hi
    exact ⟨b, o, ha, block_lt_of_cell (a := ⟨b, o + i * 2, none⟩) h1, h1, h2⟩
  have HC := Lib.hid hcell
  have HB := Lib.hid hb
  clear hcell hb hc
  unfold maxLen at hl
  have hsep : sepN rs = (sepFrom (frAt rs 0) (rs.drop 0) && decide (0 < rs.length)) := rfl
  obtain ⟨r, hr⟩ : ∃ r, sepN rs = r := ⟨_, rfl⟩
  rw [hr] at hsep ⊢
  have HS := Lib.hid hsep
  clear hr hsep
  go_enter Try.func32, Try.ntmps32
  go_wp2
  go_loopw [3] (fun i wr => ∃ k : Nat, k ≤ rs.length ∧ i = .int .i64 k ∧ Hid (r = (sepFrom (frAt rs k) (rs.drop k) && decide (0 < rs.length))) ∧ Below w.heap.size w wr) (fun i _ => rs.length - (intOf i).toNat)
  case atStart => exact ⟨0, by omega, rfl, HS, Below.refl _ _⟩
  case round =>
    obtain ⟨k, hk, rfl, HR, hbw⟩ := hrel
    obtain ⟨W1, rfl⟩ : ∃ W1, W1 = wr := ⟨_, rfl⟩
    by_cases hlt : k < rs.length
    · obtain ⟨b, o, rfl, hbl, hc1, hc2⟩ := HC.out k hlt
      have g1 : W1.cell? ⟨b, o + k * 2, none⟩ = some (.int .u8 (rs[k].1 : Nat)) := (hbw.cell (p := ⟨b, o + k * 2, none⟩) hbl).trans hc1
      have g2 : W1.cell? ⟨b, o + k * 2 + 1, none⟩ = some (.int .u8 (rs[k].2 : Nat)) := (hbw.cell (p := ⟨b, o + k * 2 + 1, none⟩) hbl).trans hc2
      obtain ⟨x1, x2⟩ := HB.out rs[k] (List.getElem_mem hlt)
      have hst := sepFrom_drop rs k hlt (frAt rs k)
      have hnx : frAt rs (k + 1) = rs[k].2 + 2 := by simp [frAt, hlt]
      obtain ⟨x, hx⟩ : ∃ x, rs[k].1 = x := ⟨_, rfl⟩
      obtain ⟨y, hy⟩ : ∃ y, rs[k].2 = y := ⟨_, rfl⟩
      rw [hx, hy] at hst
      rw [hy] at hnx
      rw [hx] at g1 x1
      rw [hy] at g2 x2
      by_cases h1 : y < x
      · have hv : r = false := by rw [HR.out, hst]; simp; omega
        have d1 : decide (y < x) = true := by simp [h1]
        have HV := Lib.hid hv
        clear hst hv hx hy hc1 hc2 hnx HS HR
        go_wp2
        go_quiet (fail)
        go_wp2
        go_ret
        exact ⟨by rw [HV.out]; rfl, below_drewN hbw _⟩
      have d1 : decide (y < x) = false := by simp; omega
      by_cases hk0 : k = 0
      · have hv : r = (sepFrom (y + 2) (rs.drop (k + 1)) && decide (0 < rs.length)) := by
          have hf0 : frAt rs k = 0 := by rw [hk0]; rfl
          have hd : decide (frAt rs k ≤ x ∧ x ≤ y) = true := decide_eq_true ⟨by omega, by omega⟩
          rw [HR.out, hst, hd, Bool.true_and]
        rw [← hnx] at hv
        have d0 : decide ((0 : Int) < (k : Int)) = false := by simp; omega
        have d0' : decide (0 < k) = false := by simp; omega
        have HV := Lib.hid hv
        clear hst hv hx hy hc1 hc2 hnx HS HR hk0
        go_wp2
        go_quiet (fail)
        go_wp2
        go_roundw
        case rel => exact ⟨k + 1, by omega, by simp, HV, below_drewN hbw _⟩
        case measure => simp [intOf]; omega
      · obtain ⟨m, hm⟩ : ∃ m, k = m + 1 := ⟨k - 1, by omega⟩
        obtain ⟨b', o', he, -, -, hc4⟩ := HC.out m (by omega)
        simp only [Option.some.injEq, Addr.mk.injEq, and_true] at he
        obtain ⟨rfl, rfl⟩ := he
        have g3 : W1.cell? ⟨b, o + m * 2 + 1, none⟩ = some (.int .u8 (rs[m].2 : Nat)) := (hbw.cell (p := ⟨b, o + m * 2 + 1, none⟩) hbl).trans hc4
        obtain ⟨-, x3⟩ := HB.out rs[m] (List.getElem_mem (by omega))
        have hfr : frAt rs k = rs[m].2 + 2 := by
          have h3 : m < rs.length := by omega
          have h4 : frAt rs (m + 1) = rs[m].2 + 2 := by simp [frAt, h3]
          rw [← h4]
          exact congrArg (frAt rs) hm
        obtain ⟨z, hz⟩ : ∃ z, rs[m].2 = z := ⟨_, rfl⟩
        rw [hz] at g3 x3 hfr
        have em : (k : Int) - 1 = (m : Int) := by omega
        have hwr : IntKind.i64.wrap (m : Int) = (m : Int) := by rw [IntKind.wrap_i64]; omega
        have hml : decide (m < rs.length) = true := by simp; omega
        have d0 : decide ((0 : Int) < (k : Int)) = true := by simp; omega
        have d0' : decide (0 < k) = true := by simp; omega
        by_cases h2 : x ≤ z + 1
        · have hv : r = false := by rw [HR.out, hst, hfr]; simp; omega
          have d2 : decide (x ≤ z + 1) = true := by simp [h2]
          have d3 : decide ((x : Int) ≤ (z : Int) + 1) = true := by simp; omega
          have HV := Lib.hid hv
          clear hst hv hx hy hz hc1 hc2 hc4 hnx hfr HS HR hm hk0
          go_wp2
          go_quiet (fail)
          go_wp2
          go_ret
          exact ⟨by rw [HV.out]; rfl, below_drewN hbw _⟩
        · have hv : r = (sepFrom (y + 2) (rs.drop (k + 1)) && decide (0 < rs.length)) := by
            have hd : decide (z + 2 ≤ x ∧ x ≤ y) = true := decide_eq_true ⟨by omega, by omega⟩
            rw [HR.out, hst, hfr, hd, Bool.true_and]
          rw [← hnx] at hv
          have d2 : decide (x ≤ z + 1) = false := by simp; omega
          have d3 : decide ((x : Int) ≤ (z : Int) + 1) = false := by simp; omega
          have HV := Lib.hid hv
          clear hst hv hx hy hz hc1 hc2 hc4 hnx hfr HS HR hm hk0
          go_wp2
          go_quiet (fail)
          go_wp2
          go_roundw
          case rel => exact ⟨k + 1, by omega, by simp, HV, below_drewN hbw _⟩
          case measure => simp [intOf]; omega
    · obtain rfl : k = rs.length := by omega
      have hv : r = decide (0 < rs.length) := by rw [HR.out, List.drop_length]; simp [sepFrom]
      have HV := Lib.hid hv
      clear hv HS HR
      go_wp2
      go_ret
      exact ⟨by rw [HV.out]; simp, hbw⟩

def bareB (op : Int) (rl : Nat) (nme : Bool) (mn mx : Int) : Bool := decide ((op = 1 ∨ rl = 0) ∧ (op = 5 ∨ nme = true) ∧ (op = 4 ∨ mn = 0 ∧ mx = 0))
def kidB (op : Int) (sep : Bool) (kl : Nat) : Bool :=
  if op = 0 ∨ op = 6 ∨ op = 7 then decide (kl = 0) else if op = 1 then decide (kl = 0) && sep else if op = 2 ∨ op = 3 then decide (2 ≤ kl) else if op = 4 ∨ op = 5 then decide (kl = 1) else false
theorem well_bare (op : Int) (rl : Nat) (sep nme : Bool) (kl : Nat) (mn mx : Int) : wellB op rl sep nme kl mn mx = (bareB op rl nme mn mx && kidB op sep kl) := by
  unfold wellB bareB kidB
  by_cases h1 : (op ≠ 1 ∧ 0 < rl) ∨ (op ≠ 5 ∧ nme = false)
  · rw [if_pos h1]
    have : ¬ ((op = 1 ∨ rl = 0) ∧ (op = 5 ∨ nme = true) ∧ (op = 4 ∨ mn = 0 ∧ mx = 0)) := by
      rintro ⟨a, b, -⟩
      rcases h1 with ⟨h, h'⟩ | ⟨h, h'⟩
      · rcases a with a | a
        · exact h a
        · omega
      · rcases b with b | b
        · exact h b
        · rw [h'] at b; cases b
    rw [decide_eq_false this]; rfl
  rw [if_neg h1]
  by_cases h2 : op ≠ 4 ∧ (mn ≠ 0 ∨ mx ≠ 0)
  · rw [if_pos h2]
    have : ¬ ((op = 1 ∨ rl = 0) ∧ (op = 5 ∨ nme = true) ∧ (op = 4 ∨ mn = 0 ∧ mx = 0)) := by
      rintro ⟨-, -, c⟩
      rcases c with c | c
      · exact h2.1 c
      · rcases h2.2 with h | h
        · exact h c.1
        · exact h c.2
    rw [decide_eq_false this]; rfl
  rw [if_neg h2]
  have : ((op = 1 ∨ rl = 0) ∧ (op = 5 ∨ nme = true) ∧ (op = 4 ∨ mn = 0 ∧ mx = 0)) := by
    refine ⟨?_, ?_, ?_⟩
    · by_cases h : op = 1
      · exact .inl h
      · right; by_cases h' : 0 < rl
        · exact absurd (.inl ⟨h, h'⟩) h1
        · omega
    · by_cases h : op = 5
      · exact .inl h
      · right; cases hn : nme
        · exact absurd (.inr ⟨h, hn⟩) h1
        · rfl
    · by_cases h : op = 4
      · exact .inl h
      · right
        refine ⟨?_, ?_⟩
        · exact Classical.byContradiction fun h' => h2 ⟨h, .inl h'⟩
        · exact Classical.byContradiction fun h' => h2 ⟨h, .inr h'⟩
  rw [decide_eq_true this, Bool.true_and]

set_option maxRecDepth 100000 in
set_option maxHeartbeats 4000000 in
theorem bare_any (op : Int) (ra ka : Option Addr) (rl rc kl kc : Nat) (nm : ByteArray) (mn mx : Int) (w : World) :
    Calls Try.prog 33 #[.agg #[.int .i64 op, .slice ra rl rc, .string nm, .slice ka kl kc, .int .i64 mn, .int .i64 mx]] w fun e w' => e = .returned (.bool (bareB op rl (nmE nm) mn mx)) ∧ Below w.heap.size w w' := by
  obtain ⟨r, hv⟩ : ∃ r, bareB op rl (nmE nm) mn mx = r := ⟨_, rfl⟩
  rw [hv]
  simp only [bareB, nmE] at hv
  have HV := Lib.hid hv
  clear hv
  go_enter Try.func33, Try.ntmps33
  go_wp2
  all_goals
    go_ret
    refine ⟨?_, (Below.refl _ _).alloc (Nat.le_refl _) _⟩
    have hv := HV.out
    clear HV
    rw [← hv]
    simp_all
    all_goals (rw [← hv, Bool.eq_iff_iff]; simp <;> (intro h; contradiction))

set_option maxRecDepth 100000 in
set_option maxHeartbeats 8000000 in
theorem shape_any (op : Int) (ra ka : Option Addr) (rs : List (Nat × Nat)) (rc kl kc : Nat) (nm : ByteArray) (mn mx : Int) (w : World) (h : RangesIn 0 w (.slice ra rs.length rc) rs) :
    Calls Try.prog 26 #[.agg #[.int .i64 op, .slice ra rs.length rc, .string nm, .slice ka kl kc, .int .i64 mn, .int .i64 mx]] w fun e w' => e = .returned (.int .i64 (nodeErr op rs nm kl mn mx)) ∧ Below w.heap.size w w' := by
  have hso := fun W (hW : RangesIn 0 W (.slice ra rs.length rc) rs) => rsorted_any rs _ W hW
  have hba := fun W => bare_any op ra ka rs.length rc kl kc nm mn mx W
  have hnm := fun W => rname_any nm W
  obtain ⟨r, hr⟩ : ∃ r, nodeErr op rs nm kl mn mx = r := ⟨_, rfl⟩
  rw [hr]
  unfold nodeErr at hr
  rw [well_bare] at hr
  obtain ⟨sp, hsp⟩ : ∃ b, sepN rs = b := ⟨_, rfl⟩
  obtain ⟨bb, hbb⟩ : ∃ b, bareB op rs.length (nmE nm) mn mx = b := ⟨_, rfl⟩
  obtain ⟨nb, hnb⟩ : ∃ b, nameN nm.data.toList = b := ⟨_, rfl⟩
  rw [hsp] at hso hr
  rw [hbb] at hba hr
  rw [hnb] at hnm hr
  have hin : RangesIn 0 (w.alloc (.cells #[.int .i64 op, .slice ra rs.length rc, .string nm, .slice ka kl kc, .int .i64 mn, .int .i64 mx] 25)) (.slice ra rs.length rc) rs := h.keeps (keeps_alloc 0 w _)
  obtain ⟨rl, hrl⟩ : ∃ n, rs.length = n := ⟨_, rfl⟩
  rw [hrl] at hso hba hin ⊢
  have H := Lib.hid (And.intro hso (And.intro hba (And.intro hnm hin)))
  have hB0 : Below w.heap.size w (w.alloc (.cells #[.int .i64 op, .slice ra rl rc, .string nm, .slice ka kl kc, .int .i64 mn, .int .i64 mx] 25)) := (Below.refl _ _).alloc (Nat.le_refl _) _
  have hS0 := NBox.new w (.int .i64 op) (.slice ra rl rc) (.string nm) (.slice ka kl kc) (.int .i64 mn) (.int .i64 mx)
  have six : ∀ w1, Below (w.alloc (.cells #[.int .i64 op, .slice ra rl rc, .string nm, .slice ka kl kc, .int .i64 mn, .int .i64 mx] 25)).heap.size (w.alloc (.cells #[.int .i64 op, .slice ra rl rc, .string nm, .slice ka kl kc, .int .i64 mn, .int .i64 mx] 25)) w1 → NBox w1 w.heap.size (.int .i64 op) (.slice ra rl rc) (.string nm) (.slice ka kl kc) (.int .i64 mn) (.int .i64 mx) := fun w1 hb => hS0.below hb
  have S := Lib.hid six
  clear six hS0 hso hba hnm hin hsp hbb hnb hrl h
  by_cases h067 : op = 0 ∨ op = 6 ∨ op = 7
  · skip
    by_cases hk : kl = 0
    · subst hk
      cases bb with
      | false =>
        rcases h067 with rfl | rfl | rfl
        all_goals
          obtain rfl : r = 1 := by rw [← hr]; simp [kidB]
          clear hr
          go_enter Try.func26, Try.ntmps26
          go_wp2_with fail
          refine (H.out.2.1 _).mono ?_
          rintro e w1 ⟨rfl, hb1⟩
          have hd1 := hb1
          obtain ⟨c01, c11, c21, c31, c41, c51⟩ := (S.out w1 hd1).cells
          go_wp2
          go_ret
          exact ⟨rfl, hB0.trans (hd1.mono (by rw [Go.Deep.nblk_alloc]; omega))⟩
      | true =>
        rcases h067 with rfl | rfl | rfl
        all_goals
          obtain rfl : r = 0 := by rw [← hr]; simp [kidB]
          clear hr
          go_enter Try.func26, Try.ntmps26
          go_wp2_with fail
          refine (H.out.2.1 _).mono ?_
          rintro e w1 ⟨rfl, hb1⟩
          have hd1 := hb1
          obtain ⟨c01, c11, c21, c31, c41, c51⟩ := (S.out w1 hd1).cells
          go_wp2
          go_ret
          exact ⟨rfl, hB0.trans (hd1.mono (by rw [Go.Deep.nblk_alloc]; omega))⟩
    · have k1 : ((kl : Int) == 0) = false := by rw [beq_eq_false_iff_ne]; omega
      have k2 : ((kl : Int) != 0) = true := by rw [bne_iff_ne]; omega
      have k3 : (kl == 0) = false := by rw [beq_eq_false_iff_ne]; omega
      have k4 : (kl != 0) = true := by rw [bne_iff_ne]; omega
      rcases h067 with rfl | rfl | rfl
      all_goals
        obtain rfl : r = 1 := by rw [← hr]; simp [kidB, hk]
        clear hr
        go_enter Try.func26, Try.ntmps26
        go_wp2
        go_ret
        exact ⟨rfl, hB0⟩
  by_cases h1 : op = 1
  · subst h1
    clear h067
    cases sp with
    | false =>
      obtain rfl : r = 1 := by rw [← hr]; simp [kidB]
      clear hr
      go_enter Try.func26, Try.ntmps26
      go_wp2_with fail
      refine (H.out.1 _ H.out.2.2.2).mono ?_
      rintro e w1 ⟨rfl, hb1⟩
      have hd1 := hb1
      obtain ⟨c01, c11, c21, c31, c41, c51⟩ := (S.out w1 hd1).cells
      go_wp2
      go_ret
      exact ⟨rfl, hB0.trans (hd1.mono (by rw [Go.Deep.nblk_alloc]; omega))⟩
    | true =>
      by_cases hk : kl = 0
      · subst hk
        cases bb with
        | false =>
          obtain rfl : r = 1 := by rw [← hr]; simp [kidB]
          clear hr
          go_enter Try.func26, Try.ntmps26
          go_wp2_with fail
          refine (H.out.1 _ H.out.2.2.2).mono ?_
          rintro e w1 ⟨rfl, hb1⟩
          have hd1 := hb1
          obtain ⟨c01, c11, c21, c31, c41, c51⟩ := (S.out w1 hd1).cells
          go_wp2_with fail
          refine (H.out.2.1 _).mono ?_
          rintro e w2 ⟨rfl, hb2⟩
          have hd2 := hd1.trans (hb2.mono hd1.size)
          obtain ⟨c02, c12, c22, c32, c42, c52⟩ := (S.out w2 hd2).cells
          go_wp2
          go_ret
          exact ⟨rfl, hB0.trans (hd2.mono (by rw [Go.Deep.nblk_alloc]; omega))⟩
        | true =>
          obtain rfl : r = 0 := by rw [← hr]; simp [kidB]
          clear hr
          go_enter Try.func26, Try.ntmps26
          go_wp2_with fail
          refine (H.out.1 _ H.out.2.2.2).mono ?_
          rintro e w1 ⟨rfl, hb1⟩
          have hd1 := hb1
          obtain ⟨c01, c11, c21, c31, c41, c51⟩ := (S.out w1 hd1).cells
          go_wp2_with fail
          refine (H.out.2.1 _).mono ?_
          rintro e w2 ⟨rfl, hb2⟩
          have hd2 := hd1.trans (hb2.mono hd1.size)
          obtain ⟨c02, c12, c22, c32, c42, c52⟩ := (S.out w2 hd2).cells
          go_wp2
          go_ret
          exact ⟨rfl, hB0.trans (hd2.mono (by rw [Go.Deep.nblk_alloc]; omega))⟩
      · have k1 : ((kl : Int) == 0) = false := by rw [beq_eq_false_iff_ne]; omega
        have k2 : ((kl : Int) != 0) = true := by rw [bne_iff_ne]; omega
        have k3 : (kl == 0) = false := by rw [beq_eq_false_iff_ne]; omega
        have k4 : (kl != 0) = true := by rw [bne_iff_ne]; omega
        obtain rfl : r = 1 := by rw [← hr]; simp [kidB, hk]
        clear hr
        go_enter Try.func26, Try.ntmps26
        go_wp2_with fail
        refine (H.out.1 _ H.out.2.2.2).mono ?_
        rintro e w1 ⟨rfl, hb1⟩
        have hd1 := hb1
        obtain ⟨c01, c11, c21, c31, c41, c51⟩ := (S.out w1 hd1).cells
        go_wp2
        go_ret
        exact ⟨rfl, hB0.trans (hd1.mono (by rw [Go.Deep.nblk_alloc]; omega))⟩
  by_cases h23 : op = 2 ∨ op = 3
  · clear h067 h1
    by_cases hk : 2 ≤ kl
    · have hm : max (2 : Int) (kl : Int) = kl := by omega
      have hm2 : max 2 kl = kl := by omega
      have d1 : decide ((2 : Int) < (kl : Int)) = decide (2 < kl) := by simp; omega
      cases bb with
      | false =>
        rcases h23 with rfl | rfl
        all_goals
          obtain rfl : r = 1 := by rw [← hr]; simp [kidB]
          clear hr
          go_enter Try.func26, Try.ntmps26
          go_wp2_with fail
          refine (H.out.2.1 _).mono ?_
          rintro e w1 ⟨rfl, hb1⟩
          have hd1 := hb1
          obtain ⟨c01, c11, c21, c31, c41, c51⟩ := (S.out w1 hd1).cells
          go_wp2
          go_ret
          exact ⟨rfl, hB0.trans (hd1.mono (by rw [Go.Deep.nblk_alloc]; omega))⟩
      | true =>
        rcases h23 with rfl | rfl
        all_goals
          obtain rfl : r = 0 := by rw [← hr]; simp [kidB, hk]
          clear hr
          go_enter Try.func26, Try.ntmps26
          go_wp2_with fail
          refine (H.out.2.1 _).mono ?_
          rintro e w1 ⟨rfl, hb1⟩
          have hd1 := hb1
          obtain ⟨c01, c11, c21, c31, c41, c51⟩ := (S.out w1 hd1).cells
          go_wp2
          go_ret
          exact ⟨rfl, hB0.trans (hd1.mono (by rw [Go.Deep.nblk_alloc]; omega))⟩
    · have hm : max (2 : Int) (kl : Int) = 2 := by omega
      have hm2 : max 2 kl = 2 := by omega
      have k1 : ((kl : Int) == 2) = false := by rw [beq_eq_false_iff_ne]; omega
      have k2 : ((kl : Int) != 2) = true := by rw [bne_iff_ne]; omega
      have k3 : (kl == 2) = false := by rw [beq_eq_false_iff_ne]; omega
      have k4 : (kl != 2) = true := by rw [bne_iff_ne]; omega
      rcases h23 with rfl | rfl
      all_goals
        obtain rfl : r = 1 := by rw [← hr]; simp [kidB, hk]
        clear hr
        go_enter Try.func26, Try.ntmps26
        go_wp2
        go_ret
        exact ⟨rfl, hB0⟩
  by_cases h4 : op = 4
  · subst h4
    clear h067 h1 h23
    by_cases hk : kl = 1
    · subst hk
      cases bb with
      | false =>
        obtain rfl : r = 1 := by rw [← hr]; simp [kidB]
        clear hr
        go_enter Try.func26, Try.ntmps26
        go_wp2_with fail
        refine (H.out.2.1 _).mono ?_
        rintro e w1 ⟨rfl, hb1⟩
        have hd1 := hb1
        obtain ⟨c01, c11, c21, c31, c41, c51⟩ := (S.out w1 hd1).cells
        go_wp2
        go_ret
        exact ⟨rfl, hB0.trans (hd1.mono (by rw [Go.Deep.nblk_alloc]; omega))⟩
      | true =>
        by_cases h1 : mn < 0
        · skip
          obtain rfl : r = 2 := by rw [← hr]; simp [kidB, boundsB, h1]
          clear hr
          go_enter Try.func26, Try.ntmps26
          go_wp2_with fail
          refine (H.out.2.1 _).mono ?_
          rintro e w1 ⟨rfl, hb1⟩
          have hd1 := hb1
          obtain ⟨c01, c11, c21, c31, c41, c51⟩ := (S.out w1 hd1).cells
          go_wp2
          go_ret
          exact ⟨rfl, hB0.trans (hd1.mono (by rw [Go.Deep.nblk_alloc]; omega))⟩
        by_cases h2 : 40 < mn
        · skip
          obtain rfl : r = 2 := by rw [← hr]; simp [kidB, boundsB, h1, h2]
          clear hr
          go_enter Try.func26, Try.ntmps26
          go_wp2_with fail
          refine (H.out.2.1 _).mono ?_
          rintro e w1 ⟨rfl, hb1⟩
          have hd1 := hb1
          obtain ⟨c01, c11, c21, c31, c41, c51⟩ := (S.out w1 hd1).cells
          go_wp2
          go_ret
          exact ⟨rfl, hB0.trans (hd1.mono (by rw [Go.Deep.nblk_alloc]; omega))⟩
        by_cases h3 : mx = -1
        · subst h3
          obtain rfl : r = 0 := by rw [← hr]; simp [kidB, boundsB, h1, h2]
          clear hr
          go_enter Try.func26, Try.ntmps26
          go_wp2_with fail
          refine (H.out.2.1 _).mono ?_
          rintro e w1 ⟨rfl, hb1⟩
          have hd1 := hb1
          obtain ⟨c01, c11, c21, c31, c41, c51⟩ := (S.out w1 hd1).cells
          go_wp2
          go_ret
          exact ⟨rfl, hB0.trans (hd1.mono (by rw [Go.Deep.nblk_alloc]; omega))⟩
        have e3 : (mx == -1) = false := by rw [beq_eq_false_iff_ne]; exact h3
        have e3b : (mx != -1) = true := by rw [bne_iff_ne]; exact h3
        by_cases h4 : mx < mn
        · have h4b : ¬ (mn ≤ mx ∧ mx ≤ 40) := by omega
          obtain rfl : r = 2 := by rw [← hr]; simp [kidB, boundsB, h1, h2, h3, h4b]
          clear hr
          go_enter Try.func26, Try.ntmps26
          go_wp2_with fail
          refine (H.out.2.1 _).mono ?_
          rintro e w1 ⟨rfl, hb1⟩
          have hd1 := hb1
          obtain ⟨c01, c11, c21, c31, c41, c51⟩ := (S.out w1 hd1).cells
          go_wp2
          go_ret
          exact ⟨rfl, hB0.trans (hd1.mono (by rw [Go.Deep.nblk_alloc]; omega))⟩
        by_cases h5 : 40 < mx
        · have h4b : ¬ (mn ≤ mx ∧ mx ≤ 40) := by omega
          obtain rfl : r = 2 := by rw [← hr]; simp [kidB, boundsB, h1, h2, h3, h4b]
          clear hr
          go_enter Try.func26, Try.ntmps26
          go_wp2_with fail
          refine (H.out.2.1 _).mono ?_
          rintro e w1 ⟨rfl, hb1⟩
          have hd1 := hb1
          obtain ⟨c01, c11, c21, c31, c41, c51⟩ := (S.out w1 hd1).cells
          go_wp2
          go_ret
          exact ⟨rfl, hB0.trans (hd1.mono (by rw [Go.Deep.nblk_alloc]; omega))⟩
        have h4b : mn ≤ mx ∧ mx ≤ 40 := by omega
        obtain rfl : r = 0 := by rw [← hr]; simp [kidB, boundsB, h1, h2, h4b]
        clear hr
        go_enter Try.func26, Try.ntmps26
        go_wp2_with fail
        refine (H.out.2.1 _).mono ?_
        rintro e w1 ⟨rfl, hb1⟩
        have hd1 := hb1
        obtain ⟨c01, c11, c21, c31, c41, c51⟩ := (S.out w1 hd1).cells
        go_wp2
        go_ret
        exact ⟨rfl, hB0.trans (hd1.mono (by rw [Go.Deep.nblk_alloc]; omega))⟩
    · have k1 : ((kl : Int) == 1) = false := by rw [beq_eq_false_iff_ne]; omega
      have k2 : ((kl : Int) != 1) = true := by rw [bne_iff_ne]; omega
      have k3 : (kl == 1) = false := by rw [beq_eq_false_iff_ne]; omega
      have k4 : (kl != 1) = true := by rw [bne_iff_ne]; omega
      obtain rfl : r = 1 := by rw [← hr]; simp [kidB, hk]
      clear hr
      go_enter Try.func26, Try.ntmps26
      go_wp2
      go_ret
      exact ⟨rfl, hB0⟩
  by_cases h5 : op = 5
  · subst h5
    clear h067 h1 h23 h4
    by_cases hk : kl = 1
    · subst hk
      cases bb with
      | false =>
        obtain rfl : r = 1 := by rw [← hr]; simp [kidB]
        clear hr
        go_enter Try.func26, Try.ntmps26
        go_wp2_with fail
        refine (H.out.2.1 _).mono ?_
        rintro e w1 ⟨rfl, hb1⟩
        have hd1 := hb1
        obtain ⟨c01, c11, c21, c31, c41, c51⟩ := (S.out w1 hd1).cells
        go_wp2
        go_ret
        exact ⟨rfl, hB0.trans (hd1.mono (by rw [Go.Deep.nblk_alloc]; omega))⟩
      | true =>
        cases nb with
        | false =>
          obtain rfl : r = 6 := by rw [← hr]; simp [kidB]
          clear hr
          go_enter Try.func26, Try.ntmps26
          go_wp2_with fail
          refine (H.out.2.1 _).mono ?_
          rintro e w1 ⟨rfl, hb1⟩
          have hd1 := hb1
          obtain ⟨c01, c11, c21, c31, c41, c51⟩ := (S.out w1 hd1).cells
          go_wp2_with fail
          refine (H.out.2.2.1 _).mono ?_
          rintro e w2 ⟨rfl, rfl⟩
          go_wp2
          go_ret
          exact ⟨rfl, hB0.trans (hd1.mono (by rw [Go.Deep.nblk_alloc]; omega))⟩
        | true =>
          obtain rfl : r = 0 := by rw [← hr]; simp [kidB]
          clear hr
          go_enter Try.func26, Try.ntmps26
          go_wp2_with fail
          refine (H.out.2.1 _).mono ?_
          rintro e w1 ⟨rfl, hb1⟩
          have hd1 := hb1
          obtain ⟨c01, c11, c21, c31, c41, c51⟩ := (S.out w1 hd1).cells
          go_wp2_with fail
          refine (H.out.2.2.1 _).mono ?_
          rintro e w2 ⟨rfl, rfl⟩
          go_wp2
          go_ret
          exact ⟨rfl, hB0.trans (hd1.mono (by rw [Go.Deep.nblk_alloc]; omega))⟩
    · have k1 : ((kl : Int) == 1) = false := by rw [beq_eq_false_iff_ne]; omega
      have k2 : ((kl : Int) != 1) = true := by rw [bne_iff_ne]; omega
      have k3 : (kl == 1) = false := by rw [beq_eq_false_iff_ne]; omega
      have k4 : (kl != 1) = true := by rw [bne_iff_ne]; omega
      obtain rfl : r = 1 := by rw [← hr]; simp [kidB, hk]
      clear hr
      go_enter Try.func26, Try.ntmps26
      go_wp2
      go_ret
      exact ⟨rfl, hB0⟩
  have e0 : (op == 0) = false := by rw [beq_eq_false_iff_ne]; exact fun h => h067 (.inl h)
  have e6 : (op == 6) = false := by rw [beq_eq_false_iff_ne]; exact fun h => h067 (.inr (.inl h))
  have e7 : (op == 7) = false := by rw [beq_eq_false_iff_ne]; exact fun h => h067 (.inr (.inr h))
  have e1 : (op == 1) = false := by rw [beq_eq_false_iff_ne]; exact h1
  have e2 : (op == 2) = false := by rw [beq_eq_false_iff_ne]; exact fun h => h23 (.inl h)
  have e3 : (op == 3) = false := by rw [beq_eq_false_iff_ne]; exact fun h => h23 (.inr h)
  have e4 : (op == 4) = false := by rw [beq_eq_false_iff_ne]; exact h4
  have e5 : (op == 5) = false := by rw [beq_eq_false_iff_ne]; exact h5
  obtain rfl : r = 1 := by rw [← hr]; simp [kidB, h067, h1, h23, h4, h5]
  clear hr
  go_enter Try.func26, Try.ntmps26
  go_wp2
  go_ret
  exact ⟨rfl, hB0⟩
end Go.Proofs.Ytfmoidhpafpgnaa
