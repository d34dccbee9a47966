/- Package multiline: Assemble. -/
import Derived.Test.YtfkgicakiapmaaaMlO
namespace Go.Proofs.Ytfkgicakiapmaaa
open Go Go.RowKit

def AsdP (fv : Value) (op : Int) (ra : Option Addr) (rn rc : Nat) (w : World) (e : Ending) (w' : World) : Prop :=
  ∃ Bl Bs, e = .returned (.func (.func 34) #[] #[.pointer (some ⟨Bl, 0, none⟩), .pointer (some ⟨Bs, 0, none⟩)]) ∧ BkAt Bl 28 #[fv] w' ∧ BkAt Bs 27 (ndA op ra rn rc) w' ∧ Below w.heap.size w w'
set_option maxRecDepth 100000 in
theorem assembled_ret (op : Int) (ra : Option Addr) (rn rc : Nat) (a : Option Addr) (n c : Nat) (w : World) :
    Calls Try.prog 21 #[.agg (ndA op ra rn rc), .slice a n c] w (AsdP (.slice a n c) op ra rn rc w) := by
  unfold ndA
  go_enter Try.func21, Try.ntmps21
  go_wp2
  go_ret
  have h0 := BkAt.new 27 #[.int .i64 op, .slice ra rn rc, .string ⟨#[]⟩, .slice none 0 0, .int .i64 0, .int .i64 0] w
  have h1 := BkAt.new 28 #[.slice a n c] (w.alloc (.cells #[.int .i64 op, .slice ra rn rc, .string ⟨#[]⟩, .slice none 0 0, .int .i64 0, .int .i64 0] 27))
  rw [World.size_alloc] at h1
  exact ⟨w.heap.size + 1, w.heap.size, by simp, h1, h0.below (below_new _ _), bl_trans' (below_new _ _) (below_new _ _)⟩
/-- What Assemble leaves. -/
def AssP (bs : List PBk) (w : World) (e : Ending) (w' : World) : Prop :=
  ∃ v xs, e = .returned v ∧ w'.ownsRow w.heap.size 44 4 v xs.length (bksC xs) ∧ xs.map (·.p) = bs ∧ (∀ b ∈ xs, ElB b w') ∧ Below w.heap.size w w'
set_option maxRecDepth 100000 in
set_option maxHeartbeats 2000000 in
theorem assemble_any (op : Int) (rs : List (Nat × Nat)) (ra : Option Addr) (rc : Nat) (m : ByteArray → Bool) (hM : op ≠ 0 → MtC op rs ra rc m) (fv : Value) (ls : List FrV) (hl : ls.length ≤ 400) (hok : ∀ x ∈ ls, OkL x.ln ∧ x.ln.txt.size ≤ 20000) (w : World) (hfr : FrsAt fv ls w) (hnd : NdAt rs ra rc w) :
    Calls Try.prog 12 #[.agg (ndA op ra rs.length rc), fv] w (AssP (asmB m (decide (op = 0)) ls) w) := by
  obtain ⟨fa, fc, rfl, hfc, -⟩ := frs_form hfr
  have hseq := fun (Bl Bs : Nat) (W : World) h1 h2 h3 h4 n0 => asm1_seq op rs ra rc m hM Bl Bs (.slice fa ls.length fc) ls hl hok W h1 h2 h3 h4 n0
  have hb1 := below_new w (.cells (ndA op ra rs.length rc) 27)
  have hfr1 : FrsAt (.slice fa ls.length fc) ls _ := row_below hfr hb1
  have hnd1 := hnd.below hb1
  have HR := Lib.hid (fun W => assembled_ret op ra rs.length rc fa ls.length fc W)
  obtain ⟨bs, hbs⟩ : ∃ b, asmB m (decide (op = 0)) ls = b := ⟨_, rfl⟩
  rw [hbs] at hseq ⊢
  have H := Lib.hid (And.intro hseq (And.intro hb1 (And.intro hfr1 hnd1)))
  clear hseq hb1 hfr1 hnd1 hfr hnd hM hbs hok
  unfold ndA at HR H ⊢
  go_enter Try.func12, Try.ntmps12
  go_wp2_with fail
  refine (HR.out _).mono ?_
  rintro e w1 ⟨Bl, Bs, rfl, h1, h2, hb2⟩
  have hfr2 : FrsAt (.slice fa ls.length fc) ls w1 := row_below H.out.2.2.1 hb2
  have hcl := collect_any (N := 1000) (by omega) (enters_of Try.func34 (by kernel_rfl) rfl) w1 (fun n0 _ => H.out.1 _ _ w1 h1 h2 hfr2 (H.out.2.2.2.below hb2) n0) (fun k hk => hk.elim) (fun xs W l o o' h a b => ⟨h.1, fun b' hb' => row_putO (h.2 b' hb') o' a b⟩)
  have hbw := bl_trans' H.out.2.1 hb2
  have HC := Lib.hid (And.intro hcl hbw)
  clear h1 h2 hb2 hfr2 hcl hbw
  go_wp2_with fail
  refine HC.out.1.mono ?_
  rintro e w2 ⟨v, xs, rfl, hS, hrow, hch⟩
  obtain ⟨va, vn, vc, rfl⟩ := row_slice hrow
  have hb3 : Below w.heap.size w w2 := HC.out.2.trans (hch.toBelow HC.out.2.size (fun i hi => hi.elim))
  have HZ := Lib.hid (And.intro (ownsRow_base hrow HC.out.2.size) (And.intro hS.1 (And.intro hS.2 hb3)))
  clear hS hrow hch hb3
  go_wp2
  go_ret
  exact ⟨_, xs, rfl, HZ.out⟩
end Go.Proofs.Ytfkgicakiapmaaa
