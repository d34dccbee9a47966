/- Package multiline: Flush, Tick. Package multiline: what stands between the lines that Assemble adds. -/
import Derived.Test.YtfkgicakiapmaaaMlL
namespace Go.Proofs.Ytfkgicakiapmaaa
open Go Go.RowKit
variable {v : Value} {s now : Int} {opn : List LnV} {w : World}

set_option maxRecDepth 100000 in
set_option maxHeartbeats 2000000 in
theorem flush_any (hl : LnsAt v opn w) (hnl : opn = [] → v = .slice none 0 0) (hok : OkS opn) :
    Calls Try.prog 11 #[.agg #[v, .int .i64 s]] w fun e w' => ∃ sl xs, e = .returned (.tuple #[.agg #[.slice none 0 0, .int .i64 s], sl]) ∧
      w'.ownsRow w.heap.size 44 4 sl xs.length (bksC xs) ∧ xs.map (·.p) = flB opn ∧ (∀ b ∈ xs, ElB b w') ∧ Below w.heap.size w w' := by
  obtain ⟨va, vn, vc, hve⟩ := row_slice hl
  subst hve
  have H := Lib.hid (And.intro hl (And.intro hnl hok))
  clear hl hnl hok
  go_enter Try.func11, Try.ntmps11
  obtain ⟨W0, hW0⟩ : ∃ y, ((w.alloc (.cells #[.slice va vn vc, .int .i64 s] 35)).alloc (.cells #[.slice none 0 0, .int .i64 0] 35)).alloc (.cells #[.slice va vn vc, .int .i64 s] 65) = y := ⟨_, rfl⟩
  have hb0 : Below w.heap.size w W0 := by rw [← hW0]; exact bl_trans' (bl_trans' (below_new _ _) (below_new _ _)) (below_new _ _)
  have hd0 : AsAt (w.heap.size + 1 + 1) (.slice va vn vc) s W0 := by
    have q := BkAt.new 65 #[.slice va vn vc, .int .i64 s] ((w.alloc (.cells #[.slice va vn vc, .int .i64 s] 35)).alloc (.cells #[.slice none 0 0, .int .i64 0] 35))
    simp only [World.size_alloc] at q
    rw [← hW0]
    exact q
  have hr0 : BkAt (w.heap.size + 1) 35 #[.slice none 0 0, .int .i64 0] W0 := by
    have q := BkAt.new 35 #[.slice none 0 0, .int .i64 0] (w.alloc (.cells #[.slice va vn vc, .int .i64 s] 35))
    simp only [World.size_alloc] at q
    rw [← hW0]
    exact q.below (below_new _ _)
  have HW := Lib.hid hW0
  clear hW0
  go_wp2_with fail
  rw [HW.out]
  clear HW
  obtain ⟨R, hR⟩ : ∃ R, w.heap.size + 1 = R := ⟨_, rfl⟩
  have hDw : w.heap.size ≤ R + 1 ∧ w.heap.size ≤ R := by omega
  simp only [hR] at hd0 hr0 ⊢
  clear hR
  obtain ⟨D, hD⟩ : ∃ D, R + 1 = D := ⟨_, rfl⟩
  have hDR : R ≠ D := by omega
  rw [hD] at hDw
  simp only [hD] at hd0 ⊢
  clear hD
  refine (collect_any (N := 1) (by omega) (enters_of Try.func20 (by kernel_rfl) rfl) W0 (fun n0 _ => flush_seq D (.slice va vn vc) s opn W0 hd0 (H.out.1.below hb0) H.out.2.2 n0) (fun k hk => by rw [hk]; exact hd0.lt) (fun xs W l o o' h a b => FlS.put h o' a b)).mono ?_
  rintro e w2 ⟨sl, xs, rfl, hxs, hrow, hch⟩
  obtain ⟨hxp, hs2, hel⟩ := hxs.out H.out.2.1
  obtain ⟨sa, sn, sc, rfl⟩ := row_slice hrow
  have hr2 := hr0.ch hch hDR
  have hw2 : ChP (fun k => k = D) w w2 := (ChP.ofBelow hb0 : ChP (fun k => k = D) w W0).trans hch (fun _ _ h => h)
  have hb2 : Below w.heap.size w w2 := hw2.toBelow (Nat.le_refl _) (fun i hi => by rw [hi]; exact hDw.1)
  have d0 : w2.cell? ⟨D, 0, none⟩ = some (.slice none 0 0) := hs2.cell 0
  have d1 : w2.cell? ⟨D, 1, none⟩ = some (.int .i64 s) := hs2.cell 1
  have r0 : w2.cell? ⟨R, 0, none⟩ = some (.slice none 0 0) := hr2.cell 0
  have r1 : w2.cell? ⟨R, 1, none⟩ = some (.int .i64 0) := hr2.cell 1
  have f0 : w2.frozen? ⟨R, 0, none⟩ = false := hr2.free 0
  have f1 : w2.frozen? ⟨R, 1, none⟩ = false := hr2.free 1
  have hr4 : BkAt R 35 #[.slice none 0 0, .int .i64 s] ((w2.setCell ⟨R, 0, none⟩ (.slice none 0 0)).setCell ⟨R, 1, none⟩ (.int .i64 s)) := (hr2.set 0 _).set 1 _
  have hc4 : ChP (fun k => k = R) w2 ((w2.setCell ⟨R, 0, none⟩ (.slice none 0 0)).setCell ⟨R, 1, none⟩ (.int .i64 s)) := ((ChP.refl (fun k => k = R) w2).set R 0 _ rfl).set R 1 _ rfl
  have hb4 : Below w.heap.size w ((w2.setCell ⟨R, 0, none⟩ (.slice none 0 0)).setCell ⟨R, 1, none⟩ (.int .i64 s)) := (hb2.setCell (p := ⟨R, 0, none⟩) hDw.2 _).setCell (p := ⟨R, 1, none⟩) hDw.2 _
  have hw4 := ownsRow_base (row_ch hrow hc4 (fun g hg e => row_ne hrow hr2 (by decide) hg e)) hb0.size
  have he4 : ∀ b ∈ xs, ElB b ((w2.setCell ⟨R, 0, none⟩ (.slice none 0 0)).setCell ⟨R, 1, none⟩ (.int .i64 s)) := fun b hb => row_ch (hel b hb) hc4 (fun g hg e => row_ne (hel b hb) hr2 (by decide) hg e)
  have HZ := Lib.hid (And.intro hr4 (And.intro hw4 (And.intro hxp (And.intro he4 hb4))))
  clear hr4 hw4 hxp he4 hb4 hs2 hel hrow hch hr2 hw2 hb2 hc4 hd0 hr0 hb0 hxs hDw
  go_wp2_with fail
  refine bodyPost_ret (results_ct rfl _ _ R 35 #[.slice none 0 0, .int .i64 s] (0, 0) _ rfl HZ.out.1 Try.underlying35 rfl sizeAs) rfl ?_
  exact ⟨.slice sa sn sc, xs, rfl, HZ.out.2.1, HZ.out.2.2.1, HZ.out.2.2.2.1, HZ.out.2.2.2.2⟩

def OldP (wait : Int) (w : World) (e : Ending) (w' : World) : Prop := ∃ b, e = .returned (.bool b) ∧ (wait ≤ 0 → b = true) ∧ w' = w
set_option maxRecDepth 100000 in
set_option maxHeartbeats 1000000 in
theorem isOld_any (since wait now : Int) (w : World) : Calls Try.prog 19 #[.int .i64 since, .int .i64 wait, .int .i64 now] w (OldP wait w) := by
  by_cases h : wait ≤ 0
  · have d1 : decide (wait ≤ 0) = true := decide_eq_true h
    go_enter Try.func19, Try.ntmps19
    go_wp2
    go_ret
    exact ⟨_, rfl, fun _ => rfl, rfl⟩
  · have d1 : decide (wait ≤ 0) = false := decide_eq_false h
    by_cases h2 : now < since
    · have d2 : decide (now < since) = true := decide_eq_true h2
      go_enter Try.func19, Try.ntmps19
      go_wp2
      go_ret
      exact ⟨_, rfl, fun _ => rfl, rfl⟩
    · have d2 : decide (now < since) = false := decide_eq_false h2
      go_enter Try.func19, Try.ntmps19
      go_wp2
      go_ret
      exact ⟨_, rfl, fun q => absurd q (by omega), rfl⟩

set_option maxRecDepth 100000 in
set_option maxHeartbeats 2000000 in
theorem tick_any (wait now : Int) (hl : LnsAt v opn w) (hnl : opn = [] → v = .slice none 0 0) (hok : OkS opn) :
    Calls Try.prog 10 #[.agg #[v, .int .i64 s], .int .i64 wait, .int .i64 now] w fun e w' => ∃ v' opn' sl xs, e = .returned (.tuple #[.agg #[v', .int .i64 s], sl]) ∧ LnsAt v' opn' w' ∧ (opn' = [] → v' = .slice none 0 0) ∧
      w'.ownsRow w.heap.size 44 4 sl xs.length (bksC xs) ∧ ((opn' = opn ∧ xs = [] ∧ 0 < wait) ∨ (opn' = [] ∧ xs.map (·.p) = flB opn)) ∧ (∀ b ∈ xs, ElB b w') ∧ Below w.heap.size w w' := by
  obtain ⟨va, vn, vc, hve⟩ := row_slice hl
  subst hve
  have H := Lib.hid (And.intro hl (And.intro hnl hok))
  clear hl hnl hok
  have HO := Lib.hid (fun W => isOld_any s wait now W)
  have h0 := below_new w (.cells #[.slice va vn vc, .int .i64 s] 35)
  have h1 := bl_trans' h0 (below_new _ (.cells #[.slice none 0 0, .int .i64 0] 35))
  have k1 : BkAt (w.heap.size + 1) 35 #[.slice none 0 0, .int .i64 0] ((w.alloc (.cells #[.slice va vn vc, .int .i64 s] 35)).alloc (.cells #[.slice none 0 0, .int .i64 0] 35)) := by
    have q := BkAt.new 35 #[.slice none 0 0, .int .i64 0] (w.alloc (.cells #[.slice va vn vc, .int .i64 s] 35))
    rw [World.size_alloc] at q
    exact q
  have k0 : BkAt w.heap.size 35 #[.slice va vn vc, .int .i64 s] ((w.alloc (.cells #[.slice va vn vc, .int .i64 s] 35)).alloc (.cells #[.slice none 0 0, .int .i64 0] 35)) := (BkAt.new _ _ _).below (below_new _ _)
  have HB := Lib.hid (And.intro h1 (And.intro k1 k0))
  clear h0 h1 k1 k0
  go_enter Try.func10, Try.ntmps10
  go_wp2_with fail
  refine (HO.out _).mono ?_
  rintro e w1 ⟨b, rfl, hb, rfl⟩
  obtain ⟨W1, hW1⟩ : ∃ y, (w.alloc (.cells #[.slice va vn vc, .int .i64 s] 35)).alloc (.cells #[.slice none 0 0, .int .i64 0] 35) = y := ⟨_, rfl⟩
  rw [hW1] at HB ⊢
  clear hW1
  have p0 : W1.cell? ⟨w.heap.size, 0, none⟩ = some (.slice va vn vc) := HB.out.2.2.cell 0
  have p1 : W1.cell? ⟨w.heap.size, 1, none⟩ = some (.int .i64 s) := HB.out.2.2.cell 1
  cases b with
  | false =>
    have hwt : 0 < wait := by
      by_cases h : 0 < wait
      · exact h
      · exact absurd (hb (by omega)) (by simp)
    have r0 : W1.cell? ⟨w.heap.size + 1, 0, none⟩ = some (.slice none 0 0) := HB.out.2.1.cell 0
    have r1 : W1.cell? ⟨w.heap.size + 1, 1, none⟩ = some (.int .i64 0) := HB.out.2.1.cell 1
    have f0 : W1.frozen? ⟨w.heap.size + 1, 0, none⟩ = false := HB.out.2.1.free 0
    have f1 : W1.frozen? ⟨w.heap.size + 1, 1, none⟩ = false := HB.out.2.1.free 1
    have hr4 : BkAt (w.heap.size + 1) 35 #[.slice va vn vc, .int .i64 s] ((W1.setCell ⟨w.heap.size + 1, 0, none⟩ (.slice va vn vc)).setCell ⟨w.heap.size + 1, 1, none⟩ (.int .i64 s)) := (HB.out.2.1.set 0 _).set 1 _
    have hb4 : Below w.heap.size w ((W1.setCell ⟨w.heap.size + 1, 0, none⟩ (.slice va vn vc)).setCell ⟨w.heap.size + 1, 1, none⟩ (.int .i64 s)) := (HB.out.1.setCell (p := ⟨w.heap.size + 1, 0, none⟩) (by show _ ≤ w.heap.size + 1; omega) _).setCell (p := ⟨w.heap.size + 1, 1, none⟩) (by show _ ≤ w.heap.size + 1; omega) _
    have HZ := Lib.hid (And.intro hr4 (And.intro hb4 hwt))
    clear hr4 hb4 hb hwt
    go_wp2_with fail
    refine bodyPost_ret (results_ct rfl _ _ (w.heap.size + 1) 35 #[.slice va vn vc, .int .i64 s] (0, 0) _ rfl HZ.out.1 Try.underlying35 rfl sizeAs) rfl ?_
    exact ⟨.slice va vn vc, opn, .slice none 0 0, [], rfl, H.out.1.below HZ.out.2.1, H.out.2.1, World.ownsRow_nil _ _ _ _, .inl ⟨rfl, rfl, HZ.out.2.2⟩, fun b hb => absurd hb (by simp), HZ.out.2.1⟩
  | true =>
    have HF := Lib.hid (flush_any (s := s) (w := W1) (H.out.1.below HB.out.1) H.out.2.1 H.out.2.2)
    clear hb
    go_wp2_with fail
    refine HF.out.mono ?_
    rintro e w2 ⟨sl, xs, rfl, hrow, hxp, hel, hb2⟩
    obtain ⟨sa, sn, sc, rfl⟩ := row_slice hrow
    have hr2 := HB.out.2.1.below hb2
    have r0 : w2.cell? ⟨w.heap.size + 1, 0, none⟩ = some (.slice none 0 0) := hr2.cell 0
    have r1 : w2.cell? ⟨w.heap.size + 1, 1, none⟩ = some (.int .i64 0) := hr2.cell 1
    have f0 : w2.frozen? ⟨w.heap.size + 1, 0, none⟩ = false := hr2.free 0
    have f1 : w2.frozen? ⟨w.heap.size + 1, 1, none⟩ = false := hr2.free 1
    have hr4 : BkAt (w.heap.size + 1) 35 #[.slice none 0 0, .int .i64 s] ((w2.setCell ⟨w.heap.size + 1, 0, none⟩ (.slice none 0 0)).setCell ⟨w.heap.size + 1, 1, none⟩ (.int .i64 s)) := (hr2.set 0 _).set 1 _
    have hc4 : ChP (fun k => k = w.heap.size + 1) w2 ((w2.setCell ⟨w.heap.size + 1, 0, none⟩ (.slice none 0 0)).setCell ⟨w.heap.size + 1, 1, none⟩ (.int .i64 s)) := ((ChP.refl (fun k => k = w.heap.size + 1) w2).set (w.heap.size + 1) 0 _ rfl).set (w.heap.size + 1) 1 _ rfl
    have hb4 : Below w.heap.size w ((w2.setCell ⟨w.heap.size + 1, 0, none⟩ (.slice none 0 0)).setCell ⟨w.heap.size + 1, 1, none⟩ (.int .i64 s)) := ((bl_trans' HB.out.1 hb2).setCell (p := ⟨w.heap.size + 1, 0, none⟩) (by show _ ≤ w.heap.size + 1; omega) _).setCell (p := ⟨w.heap.size + 1, 1, none⟩) (by show _ ≤ w.heap.size + 1; omega) _
    have hw4 := ownsRow_base (row_ch hrow hc4 (fun g hg e => row_ne hrow hr2 (by decide) hg e)) HB.out.1.size
    have he4 : ∀ b ∈ xs, ElB b ((w2.setCell ⟨w.heap.size + 1, 0, none⟩ (.slice none 0 0)).setCell ⟨w.heap.size + 1, 1, none⟩ (.int .i64 s)) := fun b hb => row_ch (hel b hb) hc4 (fun g hg e => row_ne (hel b hb) hr2 (by decide) hg e)
    have HZ := Lib.hid (And.intro hr4 (And.intro hw4 (And.intro hxp (And.intro he4 hb4))))
    clear hr4 hw4 hxp he4 hb4 hel hrow hr2 hc4 hb2
    go_wp2_with fail
    refine bodyPost_ret (results_ct rfl _ _ (w.heap.size + 1) 35 #[.slice none 0 0, .int .i64 s] (0, 0) _ rfl HZ.out.1 Try.underlying35 rfl sizeAs) rfl ?_
    exact ⟨.slice none 0 0, [], .slice sa sn sc, xs, rfl, lns_empty _, fun _ => rfl, HZ.out.2.1, .inr ⟨rfl, HZ.out.2.2.1⟩, HZ.out.2.2.2.1, HZ.out.2.2.2.2⟩
end Go.Proofs.Ytfkgicakiapmaaa

namespace Go.Proofs.Ytfkgicakiapmaaa
open Go Go.RowKit

/-- A line of a file. -/
structure FrV where
  ln : LnV
  dmg : Int
  tl : Bool
def frvC (x : FrV) : List Value := [.int .i64 x.ln.off, .int .i64 x.ln.len, .string x.ln.txt, .int .i64 x.dmg, .bool x.tl]
def frvsC (l : List FrV) : List Value := (l.map frvC).flatten
def FrsAt (v : Value) (l : List FrV) (w : World) : Prop := w.ownsRow 0 38 5 v l.length (frvsC l)
theorem frvsC_get : ∀ (l : List FrV) (i : Nat) (h : i < l.length) (j : Nat), j < 5 → (frvsC l)[i * 5 + j]? = (frvC l[i])[j]?
  | [], i, h, _, _ => by simp at h
  | x :: t, 0, h, j, hj => by
    have e : frvsC (x :: t) = frvC x ++ frvsC t := by simp [frvsC]
    rw [e, Nat.zero_mul, Nat.zero_add, List.getElem?_append_left (by simp [frvC]; omega)]
    rfl
  | x :: t, i + 1, h, j, hj => by
    have e : frvsC (x :: t) = frvC x ++ frvsC t := by simp [frvsC]
    have hl : (frvC x).length = 5 := rfl
    have ih := frvsC_get t i (by simp at h; omega) j hj
    rw [e, List.getElem?_append_right (by omega), hl, show (i + 1) * 5 + j - 5 = i * 5 + j by omega]
    simpa using ih
theorem frs_form {v : Value} {l : List FrV} {w : World} (h : FrsAt v l w) : ∃ a c, v = .slice a l.length c ∧ l.length ≤ c ∧ ∀ i (hi : i < l.length), ∃ g, a = some ⟨g, 0, none⟩ ∧ g < w.heap.size ∧ ∀ j, j < 5 → w.cell? ⟨g, i * 5 + j, none⟩ = (frvC l[i])[j]? := by
  rcases row_form h with ⟨h1, h2⟩ | ⟨g, c, h1, -, hg, h3, -⟩
  · exact ⟨none, 0, by rw [h1, h2], by omega, fun i hi => by omega⟩
  · subst h1
    refine ⟨_, c, rfl, h3, fun i hi => ⟨g, rfl, hg, fun j hj => ?_⟩⟩
    exact (World.ownsRow.cellAt h (i * 5 + j) (by omega)).trans (frvsC_get l i hi j hj)
/-- A row as a block known whole. -/
theorem row_bks {W : World} {base : Nat} {e : TypeId} {size n : Nat} {v : Value} {xs : List Value} (h : W.ownsRow base e size v n xs) : ∃ Lr : List (Nat × TypeId × Array Value), Bks Lr W ∧ (∀ t ∈ Lr, t.2.1 = e) ∧ ∀ W', Bks Lr W' → W'.ownsRow base e size v n xs := by
  obtain ⟨h1, h2⟩ := h
  rcases h2 with q | ⟨g, cap, cur, q1, q2, q3, q4, q5, q6⟩
  · exact ⟨[], fun t ht => absurd ht (by simp), fun t ht => absurd ht (by simp), fun W' _ => ⟨h1, .inl q⟩⟩
  · refine ⟨[(g, e, cur)], fun t ht => ?_, fun t ht => ?_, fun W' hW => ⟨h1, .inr ⟨g, cap, cur, q1, q2, hW _ (.head _), q4, q5, q6⟩⟩⟩
    · simp only [List.mem_singleton] at ht
      subst ht
      exact q3
    · simp only [List.mem_singleton] at ht
      subst ht
      rfl
theorem YOk.env {N l n0 n1 : Nat} {J : List BkV → World → Prop} {P : World → Prop} (h : YOk N l n0 J) (hn : n0 ≤ n1) (hk : ∀ A B, P A → KpB n0 A B → P B) : YOk N l n1 (fun pre W => J pre W ∧ P W) := fun pre x W1 hj hel hlen m => by
  obtain ⟨fn, tm, u1, bo, hy, hR⟩ := h pre x W1 hj.1 hel hlen m
  refine ⟨fn, tm, u1, bo, hy, hR.mono ?_⟩
  rintro e W' ⟨rfl, h1, h2⟩
  exact ⟨rfl, ⟨h1, hk _ _ hj.2 h2⟩, h2.mono hn⟩
theorem StJ.env {n0 n1 : Nat} {PI : Nat → Prop} {J : List BkV → World → Prop} {P : World → Prop} (h : StJ n0 PI J) (hn : n0 ≤ n1) {QI : Nat → Prop} (hq : ∀ k, QI k → PI k ∨ n0 ≤ k) (hi : ∀ A B, P A → ItP n1 QI A B → P B) : StJ n1 QI (fun pre W => J pre W ∧ P W) := fun s A B hj k =>
  ⟨h s A B hj.1 (k.mono hn hq), hi A B hj.2 k⟩
/-- The blocks of the rounds' deferred calls. -/
def Mks (Ds : List Nat) (W : World) : Prop := ∀ D ∈ Ds, W.heap[D]? = some (.deferred (some []))
/-- Lines of blocks, in blocks below n but d. -/
def ElN (n d : Nat) (xs : List BkV) (W : World) : Prop := ∀ b ∈ xs, ElB b W ∧ ∀ g, b.sl.ownBlock = some g → g < n ∧ g ≠ d
/-- What stands between the lines. -/
structure EnvP (n0 n d : Nat) (L : List (Nat × TypeId × Array Value)) (Ds : List Nat) (xs : List BkV) (W : World) : Prop where
  b : Bks L W
  m : Mks Ds W
  e : ElN n d xs W
  bt : ∀ t ∈ L, t.2.1 ≠ 44 ∧ t.2.1 ≠ 36
  bn : ∀ t ∈ L, t.1 < n ∧ ¬ t.1 = d
  mn : ∀ D ∈ Ds, n0 ≤ D ∧ D < n ∧ D ≠ d
theorem EnvP.kp {n0 n d : Nat} {L : List (Nat × TypeId × Array Value)} {Ds : List Nat} {xs : List BkV} {A B : World} (h : EnvP n0 n d L Ds xs A) (k : KpB n0 A B) : EnvP n0 n d L Ds xs B :=
  ⟨h.b.kp k h.bt, fun D hD => k.others D _ (h.mn D hD).1 (h.m D hD) rfl, fun b hb => ⟨k.lns (h.e b hb).1, (h.e b hb).2⟩, h.bt, h.bn, h.mn⟩
theorem EnvP.it {n0 n d : Nat} {L : List (Nat × TypeId × Array Value)} {Ds : List Nat} {xs : List BkV} {A B : World} (h : EnvP n0 n d L Ds xs A) (k : ItP n (fun k => k = d) A B) : EnvP n0 n d L Ds xs B := by
  refine ⟨h.b.it k h.bn, fun D hD => (k.low D (h.mn D hD).2.1 (h.mn D hD).2.2).trans (h.m D hD), fun b hb => ⟨?_, (h.e b hb).2⟩, h.bt, h.bn, h.mn⟩
  obtain ⟨h1, h2⟩ := h.e b hb
  refine ⟨h1.1, ?_⟩
  rcases h1.2 with q | ⟨g, cap, cur, q1, q2, q3, q4, q5, q6⟩
  · exact .inl q
  · have hg := h2 g (by rw [q1]; rfl)
    exact .inr ⟨g, cap, cur, q1, q2, (k.low g hg.1 hg.2).trans q3, q4, q5, q6⟩
theorem EnvP.below {n0 n d : Nat} {L : List (Nat × TypeId × Array Value)} {Ds : List Nat} {xs : List BkV} {A B : World} (h : EnvP n0 n d L Ds xs A) (k : Below A.heap.size A B) : EnvP n0 n d L Ds xs B :=
  ⟨h.b.below k, fun D hD => (k.block D (lt_of_some (h.m D hD))).trans (h.m D hD), fun b hb => ⟨LnsAt.below (h.e b hb).1 k, (h.e b hb).2⟩, h.bt, h.bn, h.mn⟩
theorem EnvP.mono {n0 n n2 d : Nat} {L : List (Nat × TypeId × Array Value)} {Ds : List Nat} {xs : List BkV} {A : World} (h : EnvP n0 n d L Ds xs A) (k : n ≤ n2) : EnvP n0 n2 d L Ds xs A :=
  ⟨h.b, h.m, fun b hb => ⟨(h.e b hb).1, fun g hg => ⟨Nat.lt_of_lt_of_le ((h.e b hb).2 g hg).1 k, ((h.e b hb).2 g hg).2⟩⟩, h.bt, fun t ht => ⟨Nat.lt_of_lt_of_le (h.bn t ht).1 k, (h.bn t ht).2⟩, fun D hD => ⟨(h.mn D hD).1, Nat.lt_of_lt_of_le (h.mn D hD).2.1 k, (h.mn D hD).2.2⟩⟩
theorem EnvP.put {n0 n d : Nat} {L : List (Nat × TypeId × Array Value)} {Ds : List Nat} {xs : List BkV} {W : World} (h : EnvP n0 n d L Ds xs W) {l : Nat} {o : Obj} (o' : Obj) (h1 : W.heap[l]? = some o) (h2 : o.isCells = false) (hl : ∀ D ∈ Ds, D ≠ l) : EnvP n0 n d L Ds xs (W.putObj l o') :=
  ⟨h.b.putO o' h1 h2, fun D hD => (World.putObj_heap_other (hl D hD)).trans (h.m D hD), fun b hb => ⟨row_putO (h.e b hb).1 o' h1 h2, (h.e b hb).2⟩, h.bt, h.bn, h.mn⟩
theorem EnvP.addM {n0 n d : Nat} {L : List (Nat × TypeId × Array Value)} {Ds : List Nat} {xs : List BkV} {W : World} (h : EnvP n0 n d L Ds xs W) {D : Nat} (hD : W.heap[D]? = some (.deferred (some []))) (hn : n0 ≤ D ∧ D < n ∧ D ≠ d) : EnvP n0 n d L (D :: Ds) xs W :=
  ⟨h.b, fun E hE => by rcases List.mem_cons.1 hE with rfl | hE; exact hD; exact h.m E hE, h.e, h.bt, h.bn, fun E hE => by rcases List.mem_cons.1 hE with rfl | hE; exact hn; exact h.mn E hE⟩
theorem EnvP.addX {n0 n d : Nat} {L : List (Nat × TypeId × Array Value)} {Ds : List Nat} {xs ys : List BkV} {W : World} {cs : Array Value} (h : EnvP n0 n d L Ds xs W) (hd : BkAt d 65 cs W) (hy : ∀ b ∈ ys, ElB b W) (hn : W.heap.size ≤ n) : EnvP n0 n d L Ds (xs ++ ys) W :=
  ⟨h.b, h.m, fun b hb => by
    rcases List.mem_append.1 hb with hb | hb
    · exact h.e b hb
    · refine ⟨hy b hb, fun g hg => ?_⟩
      obtain ⟨cur, fz, q, -⟩ := row_type (hy b hb) hg
      exact ⟨Nat.lt_of_lt_of_le (lt_of_some q) hn, row_ne (hy b hb) hd (by decide) hg⟩, h.bt, h.bn, h.mn⟩

/-- The blocks of some lines, and the lines that are open behind them. -/
def asmF (m : ByteArray → Bool) (emp : Bool) (l : List FrV) : List LnV × List PBk :=
  l.foldl (fun a x => (addO m emp a.1 x.ln x.tl, a.2 ++ addB m emp a.1 x.ln x.tl)) ([], [])
theorem asmF_snoc (m : ByteArray → Bool) (emp : Bool) (l : List FrV) (x : FrV) : asmF m emp (l ++ [x]) = (addO m emp (asmF m emp l).1 x.ln x.tl, (asmF m emp l).2 ++ addB m emp (asmF m emp l).1 x.ln x.tl) := by unfold asmF; rw [List.foldl_append]; rfl
def asmB (m : ByteArray → Bool) (emp : Bool) (l : List FrV) : List PBk := (asmF m emp l).2 ++ flB (asmF m emp l).1
theorem addB_len (m : ByteArray → Bool) (emp : Bool) (opn : List LnV) (x : LnV) (tl : Bool) : (addB m emp opn x tl).length ≤ 2 := by
  unfold addB flB
  repeat' split
  all_goals simp
theorem addO_ok {m : ByteArray → Bool} {emp : Bool} {opn : List LnV} {x : LnV} {tl : Bool} (h : OkS opn) (hx : OkL x) : OkS (addO m emp opn x tl) := by
  unfold addO
  split
  · exact ⟨by simp, fun y hy => absurd hy (by simp)⟩
  · split
    · exact h
    · split
      · rename_i hc
        unfold contS at hc
        rw [Bool.and_eq_true, decide_eq_true_eq] at hc
        refine ⟨by rw [List.length_append]; simp; omega, fun y hy => ?_⟩
        rcases List.mem_append.1 hy with hy | hy
        · exact h.2 y hy
        · simp only [List.mem_singleton] at hy
          subst hy
          exact hx
      · refine ⟨by simp, fun y hy => ?_⟩
        simp only [List.mem_singleton] at hy
        subst hy
        exact hx
theorem asmF_ok_aux {m : ByteArray → Bool} {emp : Bool} : ∀ (l : List FrV) (a : List LnV × List PBk), OkS a.1 → (∀ x ∈ l, OkL x.ln) → OkS (l.foldl (fun a x => (addO m emp a.1 x.ln x.tl, a.2 ++ addB m emp a.1 x.ln x.tl)) a).1 ∧ (l.foldl (fun a x => (addO m emp a.1 x.ln x.tl, a.2 ++ addB m emp a.1 x.ln x.tl)) a).2.length ≤ a.2.length + 2 * l.length
  | [], a, h, _ => ⟨h, by simp⟩
  | x :: t, a, h, hx => by
    have ih := asmF_ok_aux (m := m) (emp := emp) t (addO m emp a.1 x.ln x.tl, a.2 ++ addB m emp a.1 x.ln x.tl) (addO_ok h (hx x (by simp))) (fun y hy => hx y (by simp [hy]))
    refine ⟨ih.1, ?_⟩
    have h1 := ih.2
    have h2 := addB_len m emp a.1 x.ln x.tl
    simp only [List.length_append, List.length_cons, List.foldl_cons] at h1 ⊢
    omega
theorem asmF_ok {m : ByteArray → Bool} {emp : Bool} (l : List FrV) (h : ∀ x ∈ l, OkL x.ln) : OkS (asmF m emp l).1 ∧ (asmF m emp l).2.length ≤ 2 * l.length := by
  have := asmF_ok_aux (m := m) (emp := emp) l ([], []) ⟨by simp, fun y hy => absurd hy (by simp)⟩ h
  simpa [asmF] using this
end Go.Proofs.Ytfkgicakiapmaaa
