/- FilesystemCopies: Lookup, Do and Read at the copy. -/
import Derived.Test.YtfihnmfbgdjkpaaFuF
import Derived.Test.YtfihnmfbgdjkpaaRnB
import Derived.Test.YtfihnmfbgdjkpaaFtG
import Derived.Test.YtfihnmfbgdjkpaaFtH
import Derived.Test.YtfihnmfbgdjkpaaFtF
namespace Go.Proofs.Ytfihnmfbgdjkpaa
open Go.RowKit

/-- The copy, of which lf bytes are left. -/
def CpAt (l : List UInt8) (nv fv ov : Value) (wh : Bool) (lf : Nat) (W : World) : Prop := ∃ N3 F dv k j, FsAt N3 (F wh (lf : Int)) [] nv fv ov W ∧ DtR W dv l ∧ CopF N3 F dv k j
theorem CpAt.below {l : List UInt8} {nv fv ov : Value} {wh : Bool} {lf : Nat} {W W' : World} (h : CpAt l nv fv ov wh lf W) (k : Below W.heap.size W W') : CpAt l nv fv ov wh lf W' := by
  obtain ⟨N3, F, dv, i, j, h1, h2, h3⟩ := h
  exact ⟨N3, F, dv, i, j, h1.below k, row_below h2 k, h3⟩
theorem CpAt.keep {l : List UInt8} {nv fv ov : Value} {wh : Bool} {lf : Nat} {W W' : World} (h : CpAt l nv fv ov wh lf W) (k : RowKeep W W') : CpAt l nv fv ov wh lf W' := by
  obtain ⟨N3, F, dv, i, j, h1, h2, h3⟩ := h
  exact ⟨N3, F, dv, i, j, fs_keep h1 k, dt_keep k _ _ h2, h3⟩
theorem CpAt.form {l : List UInt8} {nv fv ov : Value} {wh : Bool} {lf : Nat} {W : World} (h : CpAt l nv fv ov wh lf W) : (∃ a m c, nv = .slice a m c) ∧ (∃ a m c, fv = .slice a m c) ∧ (∃ a m c, ov = .slice a m c) := by
  obtain ⟨N3, F, dv, i, j, h1, h2, h3⟩ := h
  exact ⟨row_slice h1.n, row_slice h1.f, row_slice h1.o⟩
section
variable {l : List UInt8} {nv fv ov : Value} {wh : Bool} {lf : Nat} {w : World}
theorem look_C (h : CpAt l nv fv ov wh lf w) : Calls Try.prog 14 #[.agg #[nv, fv, ov], .string bsB] w fun e w' => e = .returned (.tuple #[.int .i64 2, .bool true]) ∧ Below w.heap.size w w' := by
  obtain ⟨N3, F, dv, k, j, h1, h2, h3⟩ := h
  have hn := h3.nm wh lf
  refine (lookup_yes bsB k h1 hn.p hn.hk hn.hh).mono ?_
  rintro e w' ⟨he, hb⟩
  rw [h3.n2 hn.hk] at he
  exact ⟨he, hb⟩
theorem moreE_C (n : Int) (h : CpAt l nv fv ov true lf w) : Calls Try.prog 15 #[.agg #[nv, fv, ov], .agg #[.int .i64 6, .string bsB, .string ⟨#[]⟩, .slice none 0 0, .int .i64 n]] w fun e w' => e = .returned (.tuple #[.agg #[nv, fv, ov], .int .i64 17]) ∧ Below w.heap.size w w' := by
  obtain ⟨N3, F, dv, k, j, h1, h2, h3⟩ := h
  have hn := h3.nm true lf
  refine doE_copyMore 17 (by decide) bsB ⟨#[]⟩ (.slice none 0 0) n h1 ⟨isNm_B, fun h => by rcases h with h | h <;> cases h⟩ ⟨_, _, _, rfl⟩ (fun d base W nv' fv' ha hb hW => ?_)
  exact copyMore_end 6 bsB ⟨#[]⟩ (.slice none 0 0) n k j ha hn (by rw [h3.at']) (by rw [h3.at'])
theorem more_C (n : Int) (z : Nat) (h : CpAt l nv fv ov false lf w) (n1 : 1 ≤ n) (n2 : n ≤ 1000000) (hlf : lf ≤ 1000000) (hz : (z : Int) = max ((lf : Int) - n) 0) :
    Calls Try.prog 15 #[.agg #[nv, fv, ov], .agg #[.int .i64 6, .string bsB, .string ⟨#[]⟩, .slice none 0 0, .int .i64 n]] w fun e w' => ∃ nv' fv', e = .returned (.tuple #[.agg #[nv', fv', ov], .int .i64 0]) ∧ CpAt l nv' fv' ov (z == 0) z w' ∧ Below w.heap.size w w' := by
  obtain ⟨N3, F, dv, k, j, h1, h2, h3⟩ := h
  have hn := h3.nm false lf
  have hz2 : ((z : Int) == 0) = (z == 0) := by
    cases z with
    | zero => rfl
    | succ z => simp; omega
  refine (do_copyMore bsB ⟨#[]⟩ (.slice none 0 0) n N3 (fun fs W => fs = F (z == 0) (z : Int) ∧ DtR W dv l) h1 ⟨isNm_B, fun h => by rcases h with h | h <;> cases h⟩ ⟨_, _, _, rfl⟩ (fun fs W W' h hd => ⟨h.1, hd _ _ h.2⟩) (fun fs W h x hx => h3.used _ _ x (h.1 ▸ hx)) (fun d base W nv' fv' ha hb hW => ?_)).mono ?_
  · refine (copyMore_ok 6 bsB ⟨#[]⟩ (.slice none 0 0) n k j ha hn (by rw [h3.at']) (by rw [h3.at']) n1 n2 (by rw [h3.at']; exact Int.natCast_nonneg lf) (by rw [h3.at']; show (lf : Int) ≤ 1000000; omega) (z : Int) (by rw [h3.at']; exact hz)).mono ?_
    rintro e w' ⟨he, ho⟩
    refine ⟨he, _, nv', fv', ho, ?_, (show DtR W dv l from row_below h2 hW).dir ha ho.c⟩
    simp only [h3.at', h3.set, hz2]
  · rintro e w' ⟨fs, nv2, fv2, he, hF, ⟨rfl, hd⟩, hb⟩
    exact ⟨nv2, fv2, he, ⟨N3, F, dv, k, j, hF, hd, h3⟩, hb⟩
theorem read_C (h : CpAt l nv fv ov wh lf w) (hwl : wh = (lf == 0)) (hl0 : 0 < l.length) (hlf : lf ≤ l.length) (hlm : l.length ≤ 60000) :
    Calls Try.prog 16 #[.agg #[nv, fv, ov], .int .i64 2] w fun e w' => ∃ a c lf', e = .returned (.tuple #[.agg #[.int .i64 2, .slice a (l.length - lf) c, .bool true, .bool wh, .int .i64 lf'], .bool true]) ∧ BySl w' (.slice a (l.length - lf) c) (l.take (l.length - lf)) ∧ Below w.heap.size w w' := by
  obtain ⟨N3, F, dv, k, j, h1, h2, h3⟩ := h
  have hn := h3.nm wh lf
  have hf := hn.f
  rw [h3.n2 hn.hk] at hf
  have hby := DtR.by' h2
  rcases row_form h2 with ⟨-, h0⟩ | ⟨g, c, hdv, -, hg3, hc, hcm⟩
  · omega
  · by_cases hz : lf = 0
    · subst hz
      obtain rfl : wh = true := hwl
      refine (read_whole 2 j h1 hf hn.hj (by rw [h3.at']; exact .inr rfl) (by rw [h3.at']; exact ⟨_, _, _, hdv⟩)).mono ?_
      rintro e w' ⟨he, hb⟩
      simp only [h3.at'] at he
      rw [hdv] at he hby
      exact ⟨_, c, _, he, by simpa using hby.below hb, hb⟩
    · obtain rfl : wh = false := by rw [hwl]; simpa using hz
      refine (read_part 2 j h1 hf hn.hj (by rw [h3.at']; exact ⟨rfl, rfl⟩) g lf (by rw [h3.at']; exact ⟨_, _, hdv, hc, Nat.le_trans hcm (by decide), hlf⟩) (by rw [h3.at']) l.length (by rw [h3.at']; exact ⟨_, hdv⟩)).mono ?_
      rintro e w' ⟨he, hb⟩
      simp only [h3.at'] at he
      rw [hdv] at hby
      exact ⟨_, _, _, he, (hby.take (l.length - lf) (by omega) _ (Nat.le_refl _)).below hb, hb⟩
end
end Go.Proofs.Ytfihnmfbgdjkpaa
