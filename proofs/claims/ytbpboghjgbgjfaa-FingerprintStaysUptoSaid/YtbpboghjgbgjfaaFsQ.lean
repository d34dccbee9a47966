/- The contract of Run over a history of states. -/
import Derived.Test.YtbpboghjgbgjfaaFsO
import Derived.Laws.MakeOwn
namespace Go.Proofs.Ytbpboghjgbgjfaa
open Go.RowKit

/-- A change, by its fields. -/
structure ChF where
  kind : Int
  t : ByteArray
  t2 : ByteArray
  dv : Value
  n : Int
def ChF.ag (c : ChF) : Value := .agg #[.int .i64 c.kind, .string c.t, .string c.t2, c.dv, .int .i64 c.n]
def errA (E : Nat → Int) (n k : Nat) : Array Value := ((List.range n).map fun i => Value.int .i64 (if i < k then E i else 0)).toArray
theorem errA_get (E : Nat → Int) (n k i : Nat) (h : i < n) : (errA E n k)[i]? = some (.int .i64 (if i < k then E i else 0)) := by simp [errA, h]
theorem errA_set (E : Nat → Int) (n k : Nat) (_h : k < n) : (errA E n k).setIfInBounds k (.int .i64 (E k)) = errA E n (k + 1) := by
  apply Array.ext
  · simp [errA]
  · intro i h1 h2
    have hi : i < n := by simpa [errA] using h2
    rw [Array.getElem_setIfInBounds (by simpa [errA] using hi)]
    simp only [errA, List.getElem_toArray, List.getElem_map, List.getElem_range]
    by_cases e : k = i
    · subst e; simp
    · rw [if_neg e]
      by_cases h3 : i < k
      · rw [if_pos h3, if_pos (by omega)]
      · rw [if_neg h3, if_neg (by omega)]
theorem errA_zero (E : Nat → Int) (n : Nat) : errA E n 0 = Array.replicate n (.int .i64 0) := by
  apply Array.ext
  · simp [errA]
  · intro i h1 h2
    simp [errA]
theorem infoE : (Try.prog.info? 43).map (fun i => (i.zero, i.size, i.bytes)) = some (some (.int .i64 0), 1, 8) := by kernel_rfl
theorem make_err (E : Nat → Int) (n : Nat) (hn : n ≤ 1000) (w : World) : (Instr.makeSlice 34 (.int .i64 (n : Int)) (.int .i64 (n : Int))).run Try.prog w = .ok (.slice (some ⟨w.heap.size, 0, none⟩) n n) (w.alloc (.cells (errA E n 0) 43)) := by
  obtain ⟨i0, hi, hz0, hz1, hz2⟩ := info_parts infoE
  have h := run_makeSlice (P := Try.prog) (w := w) 34 43 i0 _ Try.underlying34 hi hz0 .i64 .i64 (n : Int) (n : Int) (by omega) (Int.le_refl _) (by rw [hz1]; simp; omega) (by rw [hz2]; omega) (by omega)
  have e : madeCells (Value.int .i64 0).cells ((n : Int).toNat * i0.size) = errA E n 0 := by
    rw [hz1, errA_zero]
    apply Array.ext
    · simp [madeCells]
    · intro i h1 h2
      simp [madeCells, Value.cells, Nat.mod_one]
  rw [e] at h
  simpa using h
/-- All rows stay, but those of file systems and of errors; and so do all blocks of bytes. -/
def RowKeep (W W' : World) : Prop := (∀ base e size v n xs, e ≠ 33 → e ≠ 43 → W.ownsRow base e size v n xs → W'.ownsRow base e size v n xs) ∧ ∀ (g : Nat) (cs : Array Value) (fz : Nat × Nat), W.heap[g]? = some (.cells cs 5 fz) → W'.heap[g]? = some (.cells cs 5 fz)
theorem rowKeep_below {W W' : World} (k : Below W.heap.size W W') : RowKeep W W' := ⟨fun _ _ _ _ _ _ _ _ h => row_below h k, fun g _ _ h => (k.block g (Array.getElem?_eq_some_iff.1 h).1).trans h⟩
theorem RowKeep.trans {a b c : World} (h : RowKeep a b) (k : RowKeep b c) : RowKeep a c := ⟨fun _ _ _ _ _ _ h1 h2 q => k.1 _ _ _ _ _ _ h1 h2 (h.1 _ _ _ _ _ _ h1 h2 q), fun g cs fz q => k.2 g cs fz (h.2 g cs fz q)⟩
theorem rowKeep_set {W : World} {b : Nat} {T : TypeId} {cs : Array Value} (h : BkAt b T cs W) (hT : T = 33 ∨ T = 43) (i : Nat) (v : Value) : RowKeep W (W.setCell ⟨b, i, none⟩ v) := ⟨fun _ _ _ _ _ _ h1 h2 q =>
  row_ch q ((ChP.refl (fun j => j = b) _).set b i _ rfl) (fun g hg => row_ne q h (by rcases hT with rfl | rfl; exact fun e => h1 e.symm; exact fun e => h2 e.symm) hg), fun g _ _ q => (Below.heap_setCell W ⟨b, i, none⟩ v g (fun e => by
    have e2 : g = b := e
    subst e2
    have hq : W.heap[g]? = some (.cells cs T (0, 0)) := h
    rw [q] at hq
    injection hq with hq
    injection hq with h1 h2
    rcases hT with rfl | rfl
    · exact absurd h2 (by decide)
    · exact absurd h2 (by decide))).trans q⟩
/-- The history's states: what is known of the file system behind k changes. -/
structure Hist (n : Nat) (C : Nat → ChF) (E : Nat → Int) (St : Nat → Value → Value → Value → World → Prop) : Prop where
  keep : ∀ k nv fv ov W W', St k nv fv ov W → RowKeep W W' → St k nv fv ov W'
  form : ∀ k nv fv ov W, St k nv fv ov W → (∃ a m c, nv = .slice a m c) ∧ (∃ a m c, fv = .slice a m c) ∧ (∃ a m c, ov = .slice a m c)
  step : ∀ k nv fv ov W, k < n → St k nv fv ov W → Calls Try.prog 15 #[.agg #[nv, fv, ov], .agg #[.int .i64 (C k).kind, .string (C k).t, .string (C k).t2, (C k).dv, .int .i64 (C k).n]] W fun e W' => ∃ nv' fv' ov', e = .returned (.tuple #[.agg #[nv', fv', ov'], .int .i64 (E k)]) ∧ St (k + 1) nv' fv' ov' W' ∧ Below W.heap.size W W'
theorem Hist.below {n : Nat} {C : Nat → ChF} {E : Nat → Int} {St : Nat → Value → Value → Value → World → Prop} (h : Hist n C E St) : ∀ k nv fv ov W W', St k nv fv ov W → Below W.heap.size W W' → St k nv fv ov W' := fun k nv fv ov W W' hs hb => h.keep k nv fv ov W W' hs (rowKeep_below hb)
def RunOut (n : Nat) (E : Nat → Int) (St : Nat → Value → Value → Value → World → Prop) (w : World) (e : Ending) (w' : World) : Prop :=
  ∃ (nv' fv' ov' : Value) (eb : Nat), e = .returned (.tuple #[.agg #[nv', fv', ov'], .slice (some ⟨eb, 0, none⟩) n n]) ∧ St n nv' fv' ov' w' ∧ BkAt eb 43 (errA E n n) w' ∧ Below w.heap.size w w'
def StepOut (St : Nat → Value → Value → Value → World → Prop) (E : Nat → Int) (k : Nat) (W : World) (e : Ending) (W' : World) : Prop := ∃ nv' fv' ov', e = .returned (.tuple #[.agg #[nv', fv', ov'], .int .i64 (E k)]) ∧ St (k + 1) nv' fv' ov' W' ∧ Below W.heap.size W W'
structure RunI (w : World) (bf br eb : Nat) (n k : Nat) (E : Nat → Int) (St : Nat → Value → Value → Value → World → Prop) (nv fv ov : Value) (wr : World) : Prop where
  f : BkAt bf 33 #[nv, fv, ov] wr
  r : BkAt br 33 #[.slice none 0 0, .slice none 0 0, .slice none 0 0] wr
  e : BkAt eb 43 (errA E n k) wr
  s : St k nv fv ov wr
  b : Below w.heap.size w wr
theorem RunI.below {w : World} {bf br eb n k : Nat} {E : Nat → Int} {St : Nat → Value → Value → Value → World → Prop} {nv fv ov : Value} {wr wd : World} (H : ∀ k nv fv ov W W', St k nv fv ov W → Below W.heap.size W W' → St k nv fv ov W') (h : RunI w bf br eb n k E St nv fv ov wr) (hb : Below wr.heap.size wr wd) : RunI w bf br eb n k E St nv fv ov wd :=
  ⟨h.f.below hb, h.r.below hb, h.e.below hb, H _ _ _ _ _ _ h.s hb, bl_trans' h.b hb⟩
theorem RunI.step {w : World} {bf n k : Nat} {C : Nat → ChF} {E : Nat → Int} {St : Nat → Value → Value → Value → World → Prop} {nv fv ov nv2 fv2 ov2 : Value} {w2 : World} (H : Hist n C E St) (hk : k < n) (hlt : w.heap.size ≤ bf) (h : RunI w bf (bf + 1) (bf + 1 + 1) n k E St nv fv ov w2) (hs : St (k + 1) nv2 fv2 ov2 w2) :
    RunI w bf (bf + 1) (bf + 1 + 1) n (k + 1) E St nv2 fv2 ov2 ((((w2.setCell ⟨bf, 0, none⟩ nv2).setCell ⟨bf, 1, none⟩ fv2).setCell ⟨bf, 2, none⟩ ov2).setCell ⟨bf + 1 + 1, k, none⟩ (.int .i64 (E k))) := by
  have f1 := h.f.set 0 nv2
  have f2 := f1.set 1 fv2
  have f3 := f2.set 2 ov2
  have e3 := ((h.e.other 0 nv2 (c := bf) (by omega)).other 1 fv2 (c := bf) (by omega)).other 2 ov2 (c := bf) (by omega)
  have kp := (((rowKeep_set h.f (.inl rfl) 0 nv2).trans (rowKeep_set f1 (.inl rfl) 1 fv2)).trans (rowKeep_set f2 (.inl rfl) 2 ov2)).trans (rowKeep_set e3 (.inr rfl) k (.int .i64 (E k)))
  have e4 := e3.set k (.int .i64 (E k))
  rw [errA_set E n k hk] at e4
  refine ⟨f3.other _ _ (by omega), (((h.r.other 0 nv2 (c := bf) (by omega)).other 1 fv2 (c := bf) (by omega)).other 2 ov2 (c := bf) (by omega)).other _ _ (by omega), e4, H.keep _ _ _ _ _ _ hs kp, ?_⟩
  exact (((h.b.setCell (p := ⟨bf, 0, none⟩) hlt _).setCell (p := ⟨bf, 1, none⟩) hlt _).setCell (p := ⟨bf, 2, none⟩) hlt _).setCell (p := ⟨bf + 1 + 1, k, none⟩) (by show w.heap.size ≤ bf + 1 + 1; omega) _
set_option maxRecDepth 100000 in
set_option linter.unusedSimpArgs false in
set_option maxHeartbeats 8000000 in
theorem run_any (n : Nat) (C : Nat → ChF) (E : Nat → Int) (St : Nat → Value → Value → Value → World → Prop) (hH : Hist n C E St) (lb : Nat) (nv fv ov : Value) (w : World) (h0 : St 0 nv fv ov w) (hn : n ≤ 1000) (hlt : lb < w.heap.size)
    (hc : ∀ i, i < n → w.cell? ⟨lb, i * 5, none⟩ = some (.int .i64 (C i).kind) ∧ w.cell? ⟨lb, i * 5 + 1, none⟩ = some (.string (C i).t) ∧ w.cell? ⟨lb, i * 5 + 2, none⟩ = some (.string (C i).t2) ∧ w.cell? ⟨lb, i * 5 + 3, none⟩ = some (C i).dv ∧ w.cell? ⟨lb, i * 5 + 4, none⟩ = some (.int .i64 (C i).n)) (hdv : ∀ i, i < n → ∃ a m c, (C i).dv = .slice a m c) :
    Calls Try.prog 8 #[.agg #[nv, fv, ov], .slice (some ⟨lb, 0, none⟩) n n] w (RunOut n E St w) := by
  obtain ⟨⟨na, nm, nc, rfl⟩, ⟨fa, fm, fc, rfl⟩, ⟨oa, om, oc, rfl⟩⟩ := hH.form _ _ _ _ _ h0
  have H := Lib.hid (And.intro hH (And.intro hc (And.intro h0 (And.intro hlt hdv))))
  clear hH hc h0 hlt hdv
  have hmk := fun W => make_err E n hn W
  go_enter Try.func8, Try.ntmps8
  go_wp2_with fail
  clear hmk
  have hz1 : (w.alloc (.cells #[.slice na nm nc, .slice fa fm fc, .slice oa om oc] 33)).heap.size = w.heap.size + 1 := by simp
  have hz2 : ((w.alloc (.cells #[.slice na nm nc, .slice fa fm fc, .slice oa om oc] 33)).alloc (.cells #[.slice none 0 0, .slice none 0 0, .slice none 0 0] 33)).heap.size = w.heap.size + 1 + 1 := by simp
  have hI : RunI w w.heap.size (w.heap.size + 1) (w.heap.size + 1 + 1) n 0 E St (.slice na nm nc) (.slice fa fm fc) (.slice oa om oc) (((w.alloc (.cells #[.slice na nm nc, .slice fa fm fc, .slice oa om oc] 33)).alloc (.cells #[.slice none 0 0, .slice none 0 0, .slice none 0 0] 33)).alloc (.cells (errA E n 0) 43)) := by
    have b1 := below_new w (.cells #[.slice na nm nc, .slice fa fm fc, .slice oa om oc] 33)
    have b2 := below_new (w.alloc (.cells #[.slice na nm nc, .slice fa fm fc, .slice oa om oc] 33)) (.cells #[.slice none 0 0, .slice none 0 0, .slice none 0 0] 33)
    have b3 := below_new ((w.alloc (.cells #[.slice na nm nc, .slice fa fm fc, .slice oa om oc] 33)).alloc (.cells #[.slice none 0 0, .slice none 0 0, .slice none 0 0] 33)) (.cells (errA E n 0) 43)
    exact ⟨((BkAt.new _ _ w).below b2).below b3, (hz1 ▸ BkAt.new 33 #[.slice none 0 0, .slice none 0 0, .slice none 0 0] (w.alloc (.cells #[.slice na nm nc, .slice fa fm fc, .slice oa om oc] 33))).below b3, hz2 ▸ BkAt.new _ _ _, H.out.1.below _ _ _ _ _ _ H.out.2.2.1 (bl_trans' (bl_trans' b1 b2) b3), bl_trans' (bl_trans' b1 b2) b3⟩
  obtain ⟨X, hX⟩ : ∃ X, (((w.alloc (.cells #[.slice na nm nc, .slice fa fm fc, .slice oa om oc] 33)).alloc (.cells #[.slice none 0 0, .slice none 0 0, .slice none 0 0] 33)).alloc (.cells (errA E n 0) 43)) = X := ⟨_, rfl⟩
  rw [hX] at hI ⊢
  have HI0 := Lib.hid hI
  obtain ⟨bf, hbf⟩ : ∃ b, w.heap.size = b := ⟨_, rfl⟩
  rw [hbf] at HI0 ⊢
  have HBF := Lib.hid hbf
  clear hI hX hz1 hz2 hbf
  go_loopw [14] (fun v wr => ∃ (k : Nat) (nv fv ov : Value), k ≤ n ∧ v = .int .i64 k ∧ RunI w bf (bf + 1) (bf + 1 + 1) n k E St nv fv ov wr) (fun v _ => n - (intOf v).toNat)
  case atStart => exact ⟨0, _, _, _, Nat.zero_le _, rfl, HI0.out⟩
  case round =>
    obtain ⟨k, nv, fv, ov, hk, rfl, hI⟩ := hrel
    obtain ⟨⟨xa, xm, xc, rfl⟩, ⟨ya, ym, yc, rfl⟩, ⟨za, zm, zc, rfl⟩⟩ := H.out.1.form _ _ _ _ _ hI.s
    by_cases hlt : k < n
    · have d1 : decide ((k : Int) < (n : Int)) = true := by rw [decide_eq_true_iff]; omega
      obtain ⟨c0, c1, c2, c3, c4⟩ : wr.cell? ⟨lb, k * 5, none⟩ = some (.int .i64 (C k).kind) ∧ wr.cell? ⟨lb, k * 5 + 1, none⟩ = some (.string (C k).t) ∧ wr.cell? ⟨lb, k * 5 + 2, none⟩ = some (.string (C k).t2) ∧ wr.cell? ⟨lb, k * 5 + 3, none⟩ = some (C k).dv ∧ wr.cell? ⟨lb, k * 5 + 4, none⟩ = some (.int .i64 (C k).n) := by
        obtain ⟨q0, q1, q2, q3, q4⟩ := H.out.2.1 k hlt
        have hl := H.out.2.2.2.1
        exact ⟨(hI.b.cell (p := ⟨lb, k * 5, none⟩) hl).trans q0, (hI.b.cell (p := ⟨lb, k * 5 + 1, none⟩) hl).trans q1, (hI.b.cell (p := ⟨lb, k * 5 + 2, none⟩) hl).trans q2, (hI.b.cell (p := ⟨lb, k * 5 + 3, none⟩) hl).trans q3, (hI.b.cell (p := ⟨lb, k * 5 + 4, none⟩) hl).trans q4⟩
      have hst := fun W nv fv ov (hW : St k nv fv ov W) => H.out.1.step k nv fv ov W hlt hW
      obtain ⟨da, dm, dc, hdv⟩ := H.out.2.2.2.2 k hlt
      obtain ⟨⟨kd, t, t2, dv, nn⟩, hC⟩ : ∃ x, C k = x := ⟨_, rfl⟩
      rw [hC] at c0 c1 c2 c3 c4 hst hdv
      simp only at c0 c1 c2 c3 c4 hst hdv
      subst hdv
      obtain ⟨f0, f1, f2⟩ : wr.cell? ⟨bf, 0, none⟩ = some (.slice xa xm xc) ∧ wr.cell? ⟨bf, 1, none⟩ = some (.slice ya ym yc) ∧ wr.cell? ⟨bf, 2, none⟩ = some (.slice za zm zc) := ⟨hI.f.cell 0, hI.f.cell 1, hI.f.cell 2⟩
      have hlf := hI.f.lt
      have hne : bf ≠ wr.heap.size := by omega
      have HS := Lib.hid hst
      have HI := Lib.hid hI
      clear hst hI hC
      go_wp2_with fail
      refine (HS.out _ _ _ _ (HI.out.below H.out.1.below (below_new _ _)).s).mono ?_
      rintro e w2 ⟨nv2, fv2, ov2, rfl, hs2, hb2⟩
      clear c0 c1 c2 c3 c4 f0 f1 f2
      obtain ⟨⟨a1, a2, a3, rfl⟩, ⟨b1, b2, b3, rfl⟩, ⟨e1, e2, e3, rfl⟩⟩ := H.out.1.form _ _ _ _ _ hs2
      have hJ := (HI.out.below H.out.1.below (below_new _ _)).below H.out.1.below hb2
      have hnx := hJ.step H.out.1 hlt (Nat.le_of_eq HBF.out) hs2
      obtain ⟨g0, g1, g2⟩ : w2.cell? ⟨bf, 0, none⟩ = some (.slice xa xm xc) ∧ w2.cell? ⟨bf, 1, none⟩ = some (.slice ya ym yc) ∧ w2.cell? ⟨bf, 2, none⟩ = some (.slice za zm zc) := ⟨hJ.f.cell 0, hJ.f.cell 1, hJ.f.cell 2⟩
      obtain ⟨p0, p1, p2⟩ : w2.frozen? ⟨bf, 0, none⟩ = false ∧ w2.frozen? ⟨bf, 1, none⟩ = false ∧ w2.frozen? ⟨bf, 2, none⟩ = false := ⟨hJ.f.free 0, hJ.f.free 1, hJ.f.free 2⟩
      have er : w2.cell? ⟨bf + 1 + 1, k, none⟩ = some (.int .i64 0) := by rw [hJ.e.cell k, errA_get E n k k hlt, if_neg (by omega)]
      have ef := hJ.e.free k
      have hn1 : bf ≠ bf + 1 + 1 := by omega
      have hn2 : bf + 1 + 1 ≠ bf := by omega
      have HX := Lib.hid hnx
      obtain ⟨ek, hek⟩ : ∃ x, E k = x := ⟨_, rfl⟩
      rw [hek] at HX ⊢
      clear hJ hnx hs2 hb2 hek
      go_wp2
      go_roundw
      case rel => exact ⟨k + 1, _, _, _, by omega, by go_num, HX.out⟩
      case measure => simp [intOf]; omega
    · obtain rfl : k = n := by omega
      have d1 : decide ((k : Int) < (k : Int)) = false := by simp
      obtain ⟨f0, f1, f2⟩ : wr.cell? ⟨bf, 0, none⟩ = some (.slice xa xm xc) ∧ wr.cell? ⟨bf, 1, none⟩ = some (.slice ya ym yc) ∧ wr.cell? ⟨bf, 2, none⟩ = some (.slice za zm zc) := ⟨hI.f.cell 0, hI.f.cell 1, hI.f.cell 2⟩
      obtain ⟨r0, r1, r2⟩ : wr.cell? ⟨bf + 1, 0, none⟩ = some (.slice none 0 0) ∧ wr.cell? ⟨bf + 1, 1, none⟩ = some (.slice none 0 0) ∧ wr.cell? ⟨bf + 1, 2, none⟩ = some (.slice none 0 0) := ⟨hI.r.cell 0, hI.r.cell 1, hI.r.cell 2⟩
      obtain ⟨p0, p1, p2⟩ : wr.frozen? ⟨bf + 1, 0, none⟩ = false ∧ wr.frozen? ⟨bf + 1, 1, none⟩ = false ∧ wr.frozen? ⟨bf + 1, 2, none⟩ = false := ⟨hI.r.free 0, hI.r.free 1, hI.r.free 2⟩
      have s1 := hI.r.set 0 (.slice xa xm xc)
      have s2 := s1.set 1 (.slice ya ym yc)
      have kp := ((rowKeep_set hI.r (.inl rfl) 0 (.slice xa xm xc)).trans (rowKeep_set s1 (.inl rfl) 1 (.slice ya ym yc))).trans (rowKeep_set s2 (.inl rfl) 2 (.slice za zm zc))
      have hst := H.out.1.keep _ _ _ _ _ _ hI.s kp
      have he := ((hI.e.other 0 (.slice xa xm xc) (c := bf + 1) (by omega)).other 1 (.slice ya ym yc) (c := bf + 1) (by omega)).other 2 (.slice za zm zc) (c := bf + 1) (by omega)
      have hbl := ((hI.b.setCell (p := ⟨bf + 1, 0, none⟩) (by show w.heap.size ≤ bf + 1; have := HBF.out; omega) (.slice xa xm xc)).setCell (p := ⟨bf + 1, 1, none⟩) (by show w.heap.size ≤ bf + 1; have := HBF.out; omega) (.slice ya ym yc)).setCell (p := ⟨bf + 1, 2, none⟩) (by show w.heap.size ≤ bf + 1; have := HBF.out; omega) (.slice za zm zc)
      have HO := Lib.hid (And.intro hst (And.intro he hbl))
      clear hI s1 s2 kp hst he hbl hlt hk
      go_wp2
      exact bodyPost_ret (v := .tuple #[.agg #[.slice xa xm xc, .slice ya ym yc, .slice za zm zc], .slice (some ⟨bf + 1 + 1, 0, none⟩) k k]) (by simp [results, Try.results8, go_sem, r0, r1, r2, p0, p1, p2]) rfl ⟨_, _, _, _, rfl, HO.out.1, HO.out.2.1, HO.out.2.2⟩
end Go.Proofs.Ytbpboghjgbgjfaa
