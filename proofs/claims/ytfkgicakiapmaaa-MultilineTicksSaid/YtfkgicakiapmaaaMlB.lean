/- A range over an iterator of blocks that writes memory of its own; every round of it goes on. -/
import Derived.Test.YtfkgicakiapmaaaMlA
namespace Go.Proofs.Ytfkgicakiapmaaa
open Go.RowKit

theorem YieldAt.any {m k : Nat} {l : Nat} {args : Array Value} {W : World} {R : Ending → World → Prop} (h : YieldAt Fence.wide m Try.prog l args W R) : YieldAt Fence.wide k Try.prog l args W R := by
  obtain ⟨fn, tm, u1, bo, h1, h2, h3⟩ := h
  exact ⟨fn, tm, u1, bo, h1, h2, fun c cs _ => h3 c cs (fun d e => by cases e)⟩
theorem CallsIn.any {m k : Nat} {f : FuncId} {args : Array Value} {w : World} {R : Ending → World → Prop} (h : CallsIn Fence.wide m Try.prog f args w R) : CallsIn Fence.wide k Try.prog f args w R := callsIn_wide.2 (callsIn_wide.1 h)
/-- What a round says where the loop's record is l. -/
def YOk (N l n1 : Nat) (J : List BkV → World → Prop) : Prop :=
  ∀ pre x W1, J pre W1 → ElB x W1 → pre.length < N → ∀ m, YieldAt Fence.wide m Try.prog l (bkE x) W1 fun e W' => e = .returned (.bool true) ∧ J (pre ++ [x]) W' ∧ KpB n1 W1 W'
def StJ (n1 : Nat) (PI : Nat → Prop) (J : List BkV → World → Prop) : Prop := ∀ s A B, J s A → ItP n1 PI A B → J s B
/-- How a round's body is left. -/
def rdPost (B : Nat) (I : List BkV → World → Prop) (xs : List BkV) (W : World) : Exit → Act → World → Prop
  | .normal, _, W' => KpB B W W' ∧ I xs W'
  | _, _, _ => False
/-- The iterator gf, at every loop that keeps its word, yields blocks of which S holds at its end. -/
def SeqM (N n0 : Nat) (gf : Nat) (la lb : Array Value) (PI : Nat → Prop) (S : List BkV → World → Prop) (w : World) : Prop :=
  ∀ (l : Nat) (J : List BkV → World → Prop) (W : World), Below w.heap.size w W → n0 ≤ W.heap.size → StJ n0 PI J → YOk N l n0 J → J [] W →
    CallsIn Fence.wide 9 Try.prog gf (la ++ #[.func (.yield l) #[] #[]] ++ lb) W fun e W' => (∃ v, e = .returned v) ∧ ∃ xs, S xs W' ∧ J xs W'

theorem wpIn_rangeM {g : Operand} {ps : Array Tmp} {assign body : Code} {Q : Exit → Act → World → Prop} {a : Act} {w : World} {n : Nat} (hn : 1 ≤ n) {gf : Nat} {la lb : Array Value} (hg : a.eval g = .func (.func gf) la lb)
    (eg : ∀ args w, (callFunc gf args).run Try.prog w = .ok (.enter gf args) w) (hps : ps.size = 1) {PI : Nat → Prop} {S : List BkV → World → Prop} {N : Nat} (hseq : SeqM N (w.heap.size + 2) gf la lb PI S w)
    (I : List BkV → World → Prop) (hI : StJ (w.heap.size + 2) PI I) (hIo : ∀ s W l o o', I s W → w.heap.size ≤ l → W.heap[l]? = some o → o.isCells = false → I s (W.putObj l o'))
    (h0 : ∀ W1, Below w.heap.size w W1 → I [] W1) (hPI : ∀ k, PI k → k < w.heap.size)
    (Ax : BkV → Act → World → Prop) (hAx : ∀ x a' W l o o', Ax x a' W → w.heap.size ≤ l → W.heap[l]? = some o → o.isCells = false → Ax x a' (W.putObj l o'))
    (hassign : ∀ (l m : Nat) (pre : List BkV) (x : BkV) (W : World) (K : Act → World → Prop), I pre W → ElB x W → pre.length < N → (∀ a' W', KpB w.heap.size W W' → I pre W' → Ax x a' W' → K a' W') →
      assign.wpIn (Fence.wide.inRound l) m Try.prog (Exit.then K (fun _ _ _ => False)) { tmps := (ps.zip (bkE x)).foldl (fun t (p, v) => t.setIfInBounds p v) a.tmps, defers := [] } W)
    (hbody : ∀ (l m : Nat) (pre : List BkV) (x : BkV) (a' : Act) (W : World), w.heap.size ≤ l → (∃ r, W.heap[l]? = some (.loop r)) → I pre W → Ax x a' W → pre.length < N → body.wpIn (Fence.wide.inRound l) m Try.prog (rdPost w.heap.size I (pre ++ [x]) W) a' W)
    (hdone : ∀ (D l : Nat) (o o' : Obj) (xs : List BkV) (W : World), w.heap.size ≤ D → w.heap.size ≤ l → W.heap[l]? = some o → o.isCells = false → S xs W → I xs (W.putObj l o') → (W.putObj l o').heap[D]? = some (.deferred (some [])) →
      Q .normal { a with defers := { target := .collected D, args := #[] } :: a.defers } (W.putObj l o')) :
    (Code.rangeFunc g ps assign body).wpIn Fence.wide n Try.prog Q a w := by
  refine wpIn_rangeFunc ?_
  intro fn hfn
  obtain ⟨rec, hrec⟩ : ∃ rec : LoopState → Loop, rec = fun st => { state := st, pending := none, fn, tmps := a.tmps, params := ps, assign, body, defers := w.heap.size } := ⟨_, rfl⟩
  obtain ⟨W1, hW1⟩ : ∃ W1, (w.alloc (.deferred (some []))).alloc (.loop (rec .ready)) = W1 := ⟨_, rfl⟩
  have hb1 : Below w.heap.size w W1 := by rw [← hW1]; exact ((Below.refl _ w).alloc (Nat.le_refl _) _).alloc (by simp) _
  have hs1 : W1.heap.size = w.heap.size + 2 := by rw [← hW1]; simp
  have hL1 : W1.heap[w.heap.size + 1]? = some (.loop (rec .ready)) := by
    rw [← hW1]
    have := World.alloc_heap_new (w.alloc (.deferred (some []))) (.loop (rec .ready))
    rwa [World.size_alloc] at this
  have hK1 : W1.heap[w.heap.size]? = some (.deferred (some [])) := by
    rw [← hW1]
    exact (Below.heap_alloc _ _ _ (by simp)).trans (World.alloc_heap_new w _)
  have hp0 : ¬ PI w.heap.size := fun q => by have := hPI _ q; omega
  have hp1 : ¬ PI (w.heap.size + 1) := fun q => by have := hPI _ q; omega
  refine ⟨w.heap.size + 1, [{ target := .collected w.heap.size, args := #[] }], W1, { target := .fn (.func gf) lb, args := la ++ #[.func (.yield (w.heap.size + 1)) #[] #[]] }, W1, gf,
    la ++ #[.func (.yield (w.heap.size + 1)) #[] #[]] ++ lb, W1, ?_, ?_, ?_, ?_, fun _ => hn, ?_⟩
  · rw [← hW1, hrec]
    exact run_enterLoop_outer _ _ _ _ _
  · simp only [resolve, hg]
    simp [go_sem]
  · intro f' _
    trivial
  · simp [invoke, go_sem, eg]
  · refine CallsIn.any (m := 9) ((hseq (w.heap.size + 1)
      (fun pre W => I pre W ∧ W.heap[w.heap.size + 1]? = some (.loop (rec .ready)) ∧ W.heap[w.heap.size]? = some (.deferred (some [])))
      W1 hb1 (by omega) ?_ ?_ ⟨h0 W1 hb1, hL1, hK1⟩).mono ?_)
    · rintro s A B ⟨h1, h2, h3⟩ hab
      exact ⟨hI s A B h1 hab, (hab.low _ (by omega) hp1).trans h2, (hab.low _ (by omega) hp0).trans h3⟩
    · rintro pre x W ⟨hi, hl, hk⟩ hel hN m
      have hlt : w.heap.size + 1 < W.heap.size := (Array.getElem?_eq_some_iff.1 hl).1
      have hy := run_yield (P := Try.prog) (args := bkE x) hl (by rw [hrec]; exact hps.symm)
      rw [hrec] at hy
      refine ⟨fn, _, assign, body, hy, roundIn_of_wpIn hfn (hassign _ _ pre x W _ hi hel hN ?_)⟩
      clear hy
      intro a' Wa hka hia hax
      have hla := hka.others _ _ (by omega) hl rfl
      have hda := hka.others _ _ (Nat.le_refl _) hk rfl
      have hlta : w.heap.size + 1 < Wa.heap.size := (Array.getElem?_eq_some_iff.1 hla).1
      refine ⟨_, run_beginRound hla (by rw [hrec]), ?_⟩
      have hl2 : (Wa.putObj (w.heap.size + 1) (.loop { rec .ready with state := .busy })).heap[w.heap.size + 1]? = some (.loop { rec .ready with state := .busy }) := World.putObj_heap_same hlta
      have hk2 : (Wa.putObj (w.heap.size + 1) (.loop { rec .ready with state := .busy })).heap[w.heap.size]? = some (.deferred (some [])) := (World.putObj_heap_other (by omega)).trans hda
      refine wpIn_mono (hbody _ _ pre x a' _ (by omega) ⟨_, hl2⟩ (hIo _ _ _ _ _ hia (by omega) hla rfl) (hAx x a' _ _ _ _ hax (by omega) hla rfl) hN) ?_
      rintro e a3 W3 hp
      cases e with
      | normal =>
        obtain ⟨hk3, hi3⟩ := hp
        have hl3 := hk3.others _ _ (by omega) hl2 rfl
        have hd3 := hk3.others _ _ (Nat.le_refl _) hk2 rfl
        have hr := run_endRound (P := Try.prog) none hl3
        refine ⟨_, _, hr, rfl, ⟨hIo _ _ _ _ _ hi3 (by omega) hl3 rfl, ?_, (World.putObj_heap_other (by omega)).trans hd3⟩, ?_⟩
        · rw [World.putObj_heap_same (Array.getElem?_eq_some_iff.1 hl3).1, hrec]
          rfl
        · refine ((hka.mono (by omega)).trans ((KpB.putObj _ hla rfl (by omega)).trans ((hk3.mono (by omega)).trans (KpB.putObj _ hl3 rfl (by omega)))))
      | ret => exact hp.elim
      | exit id => exact hp.elim
      | goto t => exact hp.elim
      | panic ch => exact hp.elim
      | outgrown => exact hp.elim
    · rintro e W2 ⟨⟨v, rfl⟩, xs, hS, hi, hl, hk⟩
      exact ⟨none, _, by have := run_endLoop (P := Try.prog) hl (by rw [hrec]; simp); rw [hrec] at this; exact this,
        hdone _ _ _ _ xs _ (Nat.le_refl _) (by omega) hl rfl hS (hIo _ _ _ _ _ hi (by omega) hl rfl) ((World.putObj_heap_other (by omega)).trans hk)⟩
theorem SeqM.later {N n0 gf : Nat} {la lb : Array Value} {PI : Nat → Prop} {S : List BkV → World → Prop} {w w' : World} (h : SeqM N n0 gf la lb PI S w) (hb : Below w.heap.size w w') : SeqM N n0 gf la lb PI S w' :=
  fun l J W hW => h l J W (hb.trans (hW.mono hb.size))
theorem SeqM.lessN {N M n0 gf : Nat} {la lb : Array Value} {PI : Nat → Prop} {S : List BkV → World → Prop} {w : World} (h : SeqM N n0 gf la lb PI S w) (hm : N ≤ M) : SeqM M n0 gf la lb PI S w :=
  fun l J W hW h1 h2 hy => h l J W hW h1 h2 (fun pre x W1 a b c => hy pre x W1 a b (by omega))
end Go.Proofs.Ytfkgicakiapmaaa
