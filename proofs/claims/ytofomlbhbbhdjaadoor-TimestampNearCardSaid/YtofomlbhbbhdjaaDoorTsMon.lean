/- The contract of package timestamp's Month, where the table of names is as the program's text lays it. -/
import Derived.Test.YtofomlbhbbhdjaaDoorLow
import Derived.Test.YtofomlbhbbhdjaaDoorTsCur
import Derived.Lib.AppendIntMem
namespace Go.Proofs.YtofomlbhbbhdjaaDoor
open Go.RowKit

def monL : List (List UInt8) := [[106, 97, 110], [102, 101, 98], [109, 97, 114], [97, 112, 114], [109, 97, 121], [106, 117, 110], [106, 117, 108], [97, 117, 103], [115, 101, 112], [111, 99, 116], [110, 111, 118], [100, 101, 99]]
def monB (k : Nat) : ByteArray := ⟨(monL.getD k []).toArray⟩
def monRow : Array Value := ((List.range 12).map fun i => Value.string (monB i)).toArray
/-- The number of a month, 0 for what is none. -/
def monthN (l : List UInt8) : Nat := (((List.range 12).find? fun i => decide (lowL l = monL.getD i [])).map (· + 1)).getD 0
theorem monthN_at {l : List UInt8} {k : Nat} (hk : k < 12) (h : ∀ j, j < k → lowL l ≠ monL.getD j []) (e : lowL l = monL.getD k []) : monthN l = k + 1 := by
  have : (List.range 12).find? (fun i => decide (lowL l = monL.getD i [])) = some k := by
    rw [List.find?_range_eq_some]
    exact ⟨by simpa using e, by simpa using hk, fun j hj => by simpa using h j hj⟩
  unfold monthN; rw [this]; rfl
theorem monthN_no {l : List UInt8} (h : ∀ j, j < 12 → lowL l ≠ monL.getD j []) : monthN l = 0 := by
  have : (List.range 12).find? (fun i => decide (lowL l = monL.getD i [])) = none := by
    rw [List.find?_eq_none]
    intro x hx
    simpa using h x (by simpa using hx)
  unfold monthN; rw [this]; rfl
theorem monthN_le (l : List UInt8) : monthN l ≤ 12 := by
  unfold monthN
  cases h : (List.range 12).find? (fun i => decide (lowL l = monL.getD i [])) with
  | none => simp
  | some k => have := List.mem_range.1 (List.mem_of_find?_eq_some h); simp; omega

/-- The name of a month at the cursor. -/
def monQ (s : ByteArray) (p : CS) : Nat := min (p.pos + 3) s.size
def cmonN (s : ByteArray) (p : CS) : Nat := monthN (s.extract p.pos (monQ s p)).data.toList
def monthC (s : ByteArray) (p : CS) : CS := ⟨monQ s p, p.bad || decide (cmonN s p = 0)⟩
def MonT (w : World) : Prop := w.var? Tryd.prog "logtide/timestamp.monthNames" = some monRow
theorem monG : Tryd.prog.globalNamed "logtide/timestamp.monthNames" = some 0 := by kernel_rfl
theorem MonT.heap {w : World} (h : MonT w) : ∃ t fz, w.heap[0]? = some (.cells monRow t fz) := by
  unfold MonT World.var? at h
  rw [monG] at h
  simp only [Option.bind_some] at h
  split at h
  · rename_i cs t fz hh
    obtain rfl := Option.some.inj h
    exact ⟨t, fz, hh⟩
  · cases h
theorem MonT.below {w w' : World} (h : MonT w) (hb : Below w.heap.size w w') : MonT w' := by
  obtain ⟨t, fz, hh⟩ := h.heap
  unfold MonT World.var?
  rw [monG]
  simp only [Option.bind_some]
  rw [hb.block _ (Array.getElem?_eq_some_iff.1 hh).1, hh]
theorem MonT.frp {w w' : World} {P : Nat → Prop} (h : MonT w) (k : FrP P w w') (hn : ¬ P 0) : MonT w' := by
  obtain ⟨t, fz, hh⟩ := h.heap
  unfold MonT World.var?
  rw [monG]
  simp only [Option.bind_some]
  rw [k.block _ (Array.getElem?_eq_some_iff.1 hh).1 hn, hh]
theorem monRow_get (i : Nat) (h : i < 12) : monRow[i]? = some (.string (monB i)) := by simp [monRow, h]
theorem sizeStr : (Tryd.prog.info? 9).map (·.size) = some 1 := by kernel_rfl
theorem sizeMon : (Tryd.prog.info? 80).map (·.size) = some monRow.size := by kernel_rfl
theorem run_index_mon (k : IntKind) (i : Nat) (h : i < 12) (w : World) :
    (Instr.index 80 (.agg monRow) (.int k i)).run Tryd.prog w = .ok (.string (monB i)) w := by
  have hg := monRow_get i h
  have hz := sizeStr
  unfold Instr.index
  cases hq : Tryd.prog.info? 9 with
  | none => simp [hq] at hz
  | some j =>
    have hj : j.size = 1 := by simpa [hq] using hz
    simp [go_sem, asIntOf, run_underlying Tryd.underlying80, sizeOf, typeInfo, hq, hj, h, hg]

theorem monB_toList (k : Nat) (h : k < 12) : (monB k).toList = monL.getD k [] :=
  (by decide +kernel : ∀ i : Fin 12, (monB i.1).toList = monL.getD i.1 []) ⟨k, h⟩
theorem lt_snoc {P : Nat → Prop} {k : Nat} (h : ∀ j, j < k → P j) (e : P k) : ∀ j, j < k + 1 → P j := fun j hj => by
  rcases Nat.lt_or_ge j k with l | l
  · exact h j l
  · obtain rfl : j = k := by omega
    exact e
theorem mk_eq {l m : List UInt8} : ((⟨l.toArray⟩ : ByteArray) = ⟨m.toArray⟩) ↔ l = m := by simp
set_option maxRecDepth 100000 in
set_option maxHeartbeats 4000000 in
theorem month_any (s : ByteArray) (hs : s.size ≤ 140737488351232) (w : World) (hM : MonT w) :
    Calls Tryd.prog 16 #[.string s] w fun e w' => e = .returned (.int .i64 (monthN s.data.toList : Nat)) ∧ Below w.heap.size w w' := by
  have hl := lower_any s hs w
  have hat := fun k (hk : k < 12) h e => monthN_at (l := s.data.toList) hk h e
  have hno := monthN_no (l := s.data.toList)
  obtain ⟨L, hL⟩ : ∃ L, lowL s.data.toList = L := ⟨_, rfl⟩
  obtain ⟨m, hm⟩ : ∃ m, monthN s.data.toList = m := ⟨_, rfl⟩
  rw [hL] at hl hat hno
  rw [hm] at hat hno ⊢
  have HL := Lib.hid hl
  have HA := Lib.hid (And.intro hat hno)
  have HM := Lib.hid hM
  clear hl hat hno hL hm hM hs
  go_enter Tryd.func16, Tryd.ntmps16
  go_wp2_with fail
  refine (HL.out).mono ?_
  rintro e w1 ⟨rfl, hb1⟩
  obtain ⟨t, fz, hh⟩ := (HM.out.below hb1).heap
  have HH := Lib.hid hh
  clear hh
  go_wp2_with (with_reducible refine wpList_load_row rfl 80 (.global 0) rfl 0 rfl t monRow fz _ HH.out Tryd.underlying80 rfl sizeMon ?_)
  go_loop [9] (fun i => ∃ k : Nat, k ≤ 12 ∧ i = .int .i64 k ∧ ∀ j, j < k → L ≠ monL.getD j []) (fun i => 12 - (intOf i).toNat)
  case atStart => exact ⟨0, by omega, rfl, fun j hj => by omega⟩
  case round =>
    obtain ⟨k, hk, rfl, hn⟩ := hrel
    have HN := Lib.hid hn
    clear hn
    by_cases hlt : k < 12
    · have hi := fun kk W => run_index_mon kk k hlt W
      have hd : decide ((k : Int) < 12) = true := by rw [decide_eq_true_iff]; omega
      by_cases he : L = monL.getD k []
      · have hv := HA.out.1 k hlt HN.out he
        have hN : monB k = ⟨L.toArray⟩ := by unfold monB; rw [he]
        rw [hN] at hi
        have HV := Lib.hid hv
        clear hv he hN
        go_wp2
        go_ret
        exact ⟨by rw [HV.out]; simp, hb1⟩
      · obtain ⟨X, hX⟩ : ∃ X, monB k = X := ⟨_, rfl⟩
        have hne : (L == X.toList) = false := by
          rw [beq_eq_false_iff_ne, ← hX, monB_toList k hlt]; exact he
        rw [hX] at hi
        have HE := Lib.hid he
        clear he hX
        go_wp2
        go_round
        case rel => exact ⟨k + 1, by omega, by simp, lt_snoc HN.out HE.out⟩
        case measure => simp [intOf]; omega
    · obtain rfl : k = 12 := by omega
      have hv := HA.out.2 HN.out
      have HV := Lib.hid hv
      clear hv hlt hk
      go_wp2
      go_ret
      exact ⟨by rw [HV.out]; rfl, hb1⟩
end Go.Proofs.YtofomlbhbbhdjaaDoor
