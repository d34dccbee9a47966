/- The sanity check of the statements about chapter 11 answers true. -/
import Derived.Test.YtdjkemodlbbmaaaDoorKvI
namespace Go.Proofs.YtdjkemodlbbmaaaDoor
open Go.RowKit

def kvEx : List UInt8 := [98, 61, 50, 32, 97, 61, 34, 120, 32, 121, 34]
def kvExL : List FldV := [(⟨#[98]⟩, ⟨#[50]⟩), (⟨#[97]⟩, ⟨#[120, 32, 121]⟩)]
def kvExS : List FldV := [(⟨#[97]⟩, ⟨#[120, 32, 121]⟩), (⟨#[98]⟩, ⟨#[50]⟩)]
theorem kvEx_eq : kvN kvEx = some kvExL := by
  decide +kernel
theorem kvEx_sort : sortE kvExL = 0 := by decide +kernel
theorem kvEx_asc : Asc kvExS := by
  unfold Asc kvExS
  simp only [List.pairwise_cons, List.mem_cons, List.not_mem_nil, or_false, forall_eq, List.Pairwise.nil, and_true, false_implies, implies_true]
  show ([97] : List UInt8) < [98]
  decide
theorem kvEx_perm : kvExS.Perm kvExL := List.Perm.swap _ _ _
theorem fsI_two {w : World} {v : Value} {x y : FldV} (h : FsI w v [x, y]) : ∃ g o c, v = .slice (some ⟨g, o, none⟩) 2 c ∧ w.cell? ⟨g, o, none⟩ = some (.string x.1) ∧ w.cell? ⟨g, o + 1, none⟩ = some (.string x.2) ∧ w.cell? ⟨g, o + 2, none⟩ = some (.string y.1) ∧ w.cell? ⟨g, o + 3, none⟩ = some (.string y.2) := by
  rcases h with ⟨h, -⟩ | ⟨g, o, c, hv, -, -, -, h⟩
  · cases h
  · exact ⟨g, o, c, hv, (h 0 (by simp)).1, (h 0 (by simp)).2, (h 1 (by simp)).1, (h 1 (by simp)).2⟩
set_option maxRecDepth 100000 in
set_option maxHeartbeats 1000000 in
theorem awake11_any (w : World) : Calls Tryd.prog 7 #[] w fun e w' => e = .returned (.bool true) ∧ Below w.heap.size w w' := by
  have hk := kv_any ⟨kvEx.toArray⟩ w (by decide)
  rw [show (⟨kvEx.toArray⟩ : ByteArray).data.toList = kvEx from rfl, kvEx_eq] at hk
  have hk2 : Calls Tryd.prog 19 #[.string ⟨#[98, 61, 50, 32, 97, 61, 34, 120, 32, 121, 34]⟩] w fun e w' => (∃ g o c, e = .returned (.tuple #[.slice (some ⟨g, o, none⟩) 2 c, .int .i64 0]) ∧ w'.cell? ⟨g, o, none⟩ = some (.string ⟨#[97]⟩) ∧ w'.cell? ⟨g, o + 1, none⟩ = some (.string ⟨#[120, 32, 121]⟩) ∧ w'.cell? ⟨g, o + 3, none⟩ = some (.string ⟨#[50]⟩)) ∧ Below w.heap.size w w' := by
    refine hk.mono fun e w' => ?_
    rintro ⟨h, hb⟩
    refine ⟨?_, hb⟩
    rcases h with ⟨-, S, v', h1, h2, h3, he⟩ | ⟨h1, -⟩
    · have hS : S = kvExS := asc_uniq h2 kvEx_asc (h1.trans kvEx_perm.symm)
      subst hS
      obtain ⟨g, o, c, rfl, c0, c1, -, c3⟩ := fsI_two h3
      exact ⟨g, o, c, he, c0, c1, c3⟩
    · exact absurd kvEx_sort h1
  have HK := Lib.hid hk2
  clear hk hk2
  go_enter Tryd.func7, Tryd.ntmps7
  go_wp2_with fail
  refine (HK.out).mono ?_
  rintro e w1 ⟨⟨g, o, c, rfl, c0, c1, c3⟩, hb⟩
  have HB := Lib.hid hb
  clear hb
  go_wp2
  go_ret
  exact ⟨rfl, HB.out⟩
end Go.Proofs.YtdjkemodlbbmaaaDoor
