/- The contracts of Clone at names, files and bytes, and of Insert at the end. -/
import Derived.Test.YtbpboghjgbgjfaaFsF
import Derived.Lib.SliceRun
import Derived.Maps.AppendAt
import Derived.WalkSpells
namespace Go.Proofs.Ytbpboghjgbgjfaa
open Go.RowKit

theorem below_own {w w1 : World} {g : Option Nat} (h : Below w.heap.size w w1) {w2 : World} (k : w1.grownBy w2 g) (hg : ∀ b, g = some b → w.heap.size ≤ b) : Below w.heap.size w w2 :=
  ⟨k.os.trans h.os, k.tape.trans h.tape, k.output.trans h.output, Nat.le_trans h.size k.size, fun i hi => (k.block i (Nat.lt_of_lt_of_le hi h.size) (fun e => by have := hg i e.symm; omega)).trans (h.block i hi)⟩
theorem infoN : (Try.prog.info? 73).map (fun i => (i.zero, i.size, i.bytes)) = some (some (.agg #[.string ⟨#[]⟩, .int .i64 0]), 2, 24) := by kernel_rfl
set_option maxRecDepth 100000 in
set_option maxHeartbeats 2000000 in
theorem cloneN_row (g n c : Nat) (news : List Value) (w : World) (hl : news.length = n * 2) (hn : n ≤ 100000000) (hc : ∀ j u, news[j]? = some u → w.cell? ((⟨g, 0, none⟩ : Addr).add j) = some u) (h1 : ∀ u ∈ news, u.oneCell' = true) (hg : g < w.heap.size) :
    Calls Try.prog 34 #[.slice (some ⟨g, 0, none⟩) n c] w fun e w' => (∃ v', e = .returned v' ∧ w'.ownsRow w.heap.size 73 2 v' n news) ∧ Below w.heap.size w w' := by
  have q22 := fun (w : World) (a : Option Addr) (n c n' c' : Nat) => Lib.run_eql_slice_nil (P := Try.prog) w 29 73 a n c n' c' Try.underlying29
  obtain ⟨i0, hi, hz0, hz1, hz2⟩ := info_parts infoN
  have H := Lib.hid (And.intro hc h1)
  clear hc h1
  go_enter Try.func34, Try.ntmps34
  go_wp2_with (at_builtin; refine wpList_append_own_at _ rfl (.tmp 5) (.tmp 6) 29 rfl w.heap.size 73 i0 (.agg #[.string ⟨#[]⟩, .int .i64 0]) 2 24 Try.underlying29 hi hz0 hz1 hz2 rfl (by decide) _ _ _ rfl (World.ownsRow_lit w #[] 0 (Nat.le_refl _) (Nat.zero_le _) (by simp)) ⟨g, 0, none⟩ n c news rfl hl ?c1 H.out.2 ?c3 ?c4 ?c5 ?_)
  case c1 =>
    intro j u hj
    have hcl := H.out.1 j u hj
    rw [← hcl]
    have hbl : ((⟨g, 0, none⟩ : Addr).add j).block = g := by unfold Addr.add; split <;> rfl
    exact (below_new w _).cell (by rw [hbl]; exact hg)
  case c3 => unfold maxLen; omega
  case c4 => omega
  case c5 => simp
  intro v' w1 hown hgrow _ hat
  have HO := Lib.hid (And.intro hown hgrow)
  obtain ⟨va, vn, vc, rfl⟩ := row_slice hown
  clear hown hgrow hat
  go_wp2
  go_ret
  exact ⟨⟨_, rfl, by have := HO.out.1; simpa using this⟩, below_own (below_new _ _) HO.out.2 (fun b hb => by simp [Value.ownBlock] at hb; omega)⟩
set_option maxRecDepth 100000 in
set_option maxHeartbeats 1000000 in
theorem cloneN_nil (w : World) : Calls Try.prog 34 #[.slice none 0 0] w fun e w' => e = .returned (.slice none 0 0) ∧ w' = w := by
  have q22 := fun (w : World) (a : Option Addr) (n c n' c' : Nat) => Lib.run_eql_slice_nil (P := Try.prog) w 29 73 a n c n' c' Try.underlying29
  go_enter Try.func34, Try.ntmps34
  go_wp2
  go_ret
  exact ⟨rfl, rfl⟩
theorem infoF : (Try.prog.info? 58).map (fun i => (i.zero, i.size, i.bytes)) = some (some (.agg #[.int .i64 0, .slice none 0 0, .bool false, .bool false, .int .i64 0]), 5, 48) := by kernel_rfl
set_option maxRecDepth 100000 in
set_option maxHeartbeats 2000000 in
theorem cloneF_row (g n c : Nat) (news : List Value) (w : World) (hl : news.length = n * 5) (hn : n ≤ 100000000) (hc : ∀ j u, news[j]? = some u → w.cell? ((⟨g, 0, none⟩ : Addr).add j) = some u) (h1 : ∀ u ∈ news, u.oneCell' = true) (hg : g < w.heap.size) :
    Calls Try.prog 35 #[.slice (some ⟨g, 0, none⟩) n c] w fun e w' => (∃ v', e = .returned v' ∧ w'.ownsRow w.heap.size 58 5 v' n news) ∧ Below w.heap.size w w' := by
  have q22 := fun (w : World) (a : Option Addr) (n c n' c' : Nat) => Lib.run_eql_slice_nil (P := Try.prog) w 30 58 a n c n' c' Try.underlying30
  obtain ⟨i0, hi, hz0, hz1, hz2⟩ := info_parts infoF
  have H := Lib.hid (And.intro hc h1)
  clear hc h1
  go_enter Try.func35, Try.ntmps35
  go_wp2_with (at_builtin; refine wpList_append_own_at _ rfl (.tmp 5) (.tmp 6) 30 rfl w.heap.size 58 i0 (.agg #[.int .i64 0, .slice none 0 0, .bool false, .bool false, .int .i64 0]) 5 48 Try.underlying30 hi hz0 hz1 hz2 rfl (by decide) _ _ _ rfl (World.ownsRow_lit w #[] 0 (Nat.le_refl _) (Nat.zero_le _) (by simp)) ⟨g, 0, none⟩ n c news rfl hl ?c1 H.out.2 ?c3 ?c4 ?c5 ?_)
  case c1 =>
    intro j u hj
    have hcl := H.out.1 j u hj
    rw [← hcl]
    have hbl : ((⟨g, 0, none⟩ : Addr).add j).block = g := by unfold Addr.add; split <;> rfl
    exact (below_new w _).cell (by rw [hbl]; exact hg)
  case c3 => unfold maxLen; omega
  case c4 => omega
  case c5 => simp
  intro v' w1 hown hgrow _ hat
  have HO := Lib.hid (And.intro hown hgrow)
  obtain ⟨va, vn, vc, rfl⟩ := row_slice hown
  clear hown hgrow hat
  go_wp2
  go_ret
  exact ⟨⟨_, rfl, by have := HO.out.1; simpa using this⟩, below_own (below_new _ _) HO.out.2 (fun b hb => by simp [Value.ownBlock] at hb; omega)⟩
set_option maxRecDepth 100000 in
set_option maxHeartbeats 1000000 in
theorem cloneF_nil (w : World) : Calls Try.prog 35 #[.slice none 0 0] w fun e w' => e = .returned (.slice none 0 0) ∧ w' = w := by
  have q22 := fun (w : World) (a : Option Addr) (n c n' c' : Nat) => Lib.run_eql_slice_nil (P := Try.prog) w 30 58 a n c n' c' Try.underlying30
  go_enter Try.func35, Try.ntmps35
  go_wp2
  go_ret
  exact ⟨rfl, rfl⟩
theorem infoB : (Try.prog.info? 5).map (fun i => (i.zero, i.size, i.bytes)) = some (some (.int .u8 0), 1, 1) := by kernel_rfl
set_option maxRecDepth 100000 in
set_option maxHeartbeats 2000000 in
theorem cloneB_row (g n c : Nat) (news : List Value) (w : World) (hl : news.length = n * 1) (hn : n ≤ 100000000) (hc : ∀ j u, news[j]? = some u → w.cell? ((⟨g, 0, none⟩ : Addr).add j) = some u) (h1 : ∀ u ∈ news, u.oneCell' = true) (hg : g < w.heap.size) :
    Calls Try.prog 77 #[.slice (some ⟨g, 0, none⟩) n c] w fun e w' => (∃ v', e = .returned v' ∧ w'.ownsRow w.heap.size 5 1 v' n news) ∧ Below w.heap.size w w' := by
  have q22 := fun (w : World) (a : Option Addr) (n c n' c' : Nat) => Lib.run_eql_slice_nil (P := Try.prog) w 22 5 a n c n' c' Try.underlying22
  obtain ⟨i0, hi, hz0, hz1, hz2⟩ := info_parts infoB
  have H := Lib.hid (And.intro hc h1)
  clear hc h1
  go_enter Try.func77, Try.ntmps77
  go_wp2_with (at_builtin; refine wpList_append_own_at _ rfl (.tmp 5) (.tmp 6) 22 rfl w.heap.size 5 i0 (.int .u8 0) 1 1 Try.underlying22 hi hz0 hz1 hz2 rfl (by decide) _ _ _ rfl (World.ownsRow_lit w #[] 0 (Nat.le_refl _) (Nat.zero_le _) (by simp)) ⟨g, 0, none⟩ n c news rfl hl ?c1 H.out.2 ?c3 ?c4 ?c5 ?_)
  case c1 =>
    intro j u hj
    have hcl := H.out.1 j u hj
    rw [← hcl]
    have hbl : ((⟨g, 0, none⟩ : Addr).add j).block = g := by unfold Addr.add; split <;> rfl
    exact (below_new w _).cell (by rw [hbl]; exact hg)
  case c3 => unfold maxLen; omega
  case c4 => omega
  case c5 => simp
  intro v' w1 hown hgrow _ hat
  have HO := Lib.hid (And.intro hown hgrow)
  obtain ⟨va, vn, vc, rfl⟩ := row_slice hown
  clear hown hgrow hat
  go_wp2
  go_ret
  exact ⟨⟨_, rfl, by have := HO.out.1; simpa using this⟩, below_own (below_new _ _) HO.out.2 (fun b hb => by simp [Value.ownBlock] at hb; omega)⟩
set_option maxRecDepth 100000 in
set_option maxHeartbeats 1000000 in
theorem cloneB_nil (w : World) : Calls Try.prog 77 #[.slice none 0 0] w fun e w' => e = .returned (.slice none 0 0) ∧ w' = w := by
  have q22 := fun (w : World) (a : Option Addr) (n c n' c' : Nat) => Lib.run_eql_slice_nil (P := Try.prog) w 22 5 a n c n' c' Try.underlying22
  go_enter Try.func77, Try.ntmps77
  go_wp2
  go_ret
  exact ⟨rfl, rfl⟩
theorem cloneN_any (L : List NameV) (base : Nat) (v : Value) (w : World) (hr : NmR base w v L) (hn : L.length ≤ 1000) :
    Calls Try.prog 34 #[v] w fun e w' => (∃ v', e = .returned v' ∧ NmR w.heap.size w' v' L) ∧ Below w.heap.size w w' := by
  rcases row_form hr with ⟨rfl, h0⟩ | ⟨g, cap, rfl, -, hg, hcap, hcm⟩
  · have hL : L = [] := List.eq_nil_of_length_eq_zero h0
    subst hL
    exact (cloneN_nil w).mono fun e w' ⟨he, hw⟩ => ⟨⟨_, he, World.ownsRow_nil _ _ _ _⟩, by subst hw; exact Below.refl _ _⟩
  · exact cloneN_row g L.length cap (encN L) w (encN_len L) (by omega) (World.ownsRow.cells hr rfl) (encN_one L) hg
set_option maxRecDepth 100000 in
set_option maxHeartbeats 4000000 in
theorem insN_end (L : List NameV) (x : NameV) (base b : Nat) (v : Value) (w : World) (hr : NmR base w v L) (hn : L.length ≤ 1000) (hb : BkAt b 73 (Array.mk [.string x.1, .int .i64 x.2]) w) (hbase : base ≤ w.heap.size) :
    Calls Try.prog 76 #[v, .int .i64 (L.length : Int), .slice (some ⟨b, 0, none⟩) 1 1] w fun e w' => (∃ v', e = .returned v' ∧ NmR base w' v' (L ++ [x]) ∧ (v'.ownBlock = v.ownBlock ∨ v'.ownBlock = some w.heap.size)) ∧ w.grownBy w' v.ownBlock := by
  obtain ⟨i0, hi, hz0, hz1, hz2⟩ := info_parts infoN
  have hlen : (encN (L ++ [x])) = encN L ++ [.string x.1, .int .i64 x.2] := by rw [encN_app]; rfl
  have hnews : ∀ j u, ([.string x.1, .int .i64 x.2] : List Value)[j]? = some u → w.cell? ((⟨b, 0, none⟩ : Addr).add j) = some u := fun j u hj => by rw [Addr.add_lit, Nat.zero_add, hb.cell j]; simpa using hj
  have HH := Lib.hid (And.intro hr (And.intro hlen hnews))
  obtain ⟨n, hnn⟩ : ∃ n, L.length = n := ⟨_, rfl⟩
  have HN := Lib.hid hnn
  have hap : ∀ (w1 : World) v' , w1.ownsRow base 73 2 v' (L.length + 1) (encN L ++ [.string x.1, .int .i64 x.2]) → NmR base w1 v' (L ++ [x]) := fun w1 v' h => by
    unfold NmR
    rw [HH.out.2.1, List.length_append]
    exact h
  have HA := Lib.hid hap
  have hf : (v = .slice none 0 0 ∧ n = 0) ∨ ∃ g cap, v = .slice (some ⟨g, 0, none⟩) n cap ∧ n ≤ cap ∧ cap ≤ 9223372036854775807 := by
    rcases row_form hr with ⟨h1, h2⟩ | ⟨g, cap, h1, -, -, h2, h3⟩
    · exact .inl ⟨h1, by omega⟩
    · exact .inr ⟨g, cap, by rw [h1, hnn], by omega, by unfold maxLen at h3; omega⟩
  rw [hnn]
  have hn2 : n ≤ 1000 := by omega
  clear hr hlen hnews hb hnn hap hn
  rcases hf with ⟨rfl, rfl⟩ | ⟨g, cap, rfl, hcap, hcm⟩
  · go_enter Try.func76, Try.ntmps76
    go_wp2_with (at_builtin; refine wpList_append_own_at _ rfl (.tmp 23) (.tmp 24) 29 rfl base 73 i0 (.agg #[.string ⟨#[]⟩, .int .i64 0]) 2 24 Try.underlying29 hi hz0 hz1 hz2 rfl (by decide) _ L.length _ (by simp [Act.eval]) HH.out.1 ⟨b, 0, none⟩ 1 1 [.string x.1, .int .i64 x.2] rfl rfl ?c1 ?c2 ?c3 ?c4 ?c5 ?_)
    case c1 => exact HH.out.2.2
    case c2 => exact fun u hu => by simp only [List.mem_cons, List.not_mem_nil, or_false] at hu; rcases hu with rfl | rfl <;> rfl
    case c3 => have := HN.out; unfold maxLen; omega
    case c4 => have := HN.out; omega
    case c5 => exact hbase
    intro v' w1 hown hgrow _ hat
    have HO := Lib.hid (And.intro hown (And.intro hgrow hat))
    obtain ⟨va, vn, vc, rfl⟩ := row_slice hown
    clear hown hgrow hat
    go_wp2
    go_ret
    exact ⟨⟨_, rfl, HA.out _ _ HO.out.1, HO.out.2.2⟩, HO.out.2.1⟩
  by_cases hcn : cap = n
  · subst hcn
    go_enter Try.func76, Try.ntmps76
    go_wp2_with (at_builtin; refine wpList_append_own_at _ rfl (.tmp 23) (.tmp 24) 29 rfl base 73 i0 (.agg #[.string ⟨#[]⟩, .int .i64 0]) 2 24 Try.underlying29 hi hz0 hz1 hz2 rfl (by decide) _ L.length _ (by simp [Act.eval]) HH.out.1 ⟨b, 0, none⟩ 1 1 [.string x.1, .int .i64 x.2] rfl rfl ?d1 ?d2 ?d3 ?d4 ?d5 ?_)
    case d1 => exact HH.out.2.2
    case d2 => exact fun u hu => by simp only [List.mem_cons, List.not_mem_nil, or_false] at hu; rcases hu with rfl | rfl <;> rfl
    case d3 => have := HN.out; unfold maxLen; omega
    case d4 => have := HN.out; omega
    case d5 => exact hbase
    intro v' w1 hown hgrow _ hat
    have HO := Lib.hid (And.intro hown (And.intro hgrow hat))
    obtain ⟨va, vn, vc, rfl⟩ := row_slice hown
    clear hown hgrow hat
    go_wp2
    go_ret
    exact ⟨⟨_, rfl, HA.out _ _ HO.out.1, HO.out.2.2⟩, HO.out.2.1⟩
  · skip
    go_enter Try.func76, Try.ntmps76
    go_wp2_with (at_builtin; refine wpList_append_own_at _ rfl (.tmp 23) (.tmp 24) 29 rfl base 73 i0 (.agg #[.string ⟨#[]⟩, .int .i64 0]) 2 24 Try.underlying29 hi hz0 hz1 hz2 rfl (by decide) _ L.length _ (by simp [Act.eval]) HH.out.1 ⟨b, 0, none⟩ 1 1 [.string x.1, .int .i64 x.2] rfl rfl ?e1 ?e2 ?e3 ?e4 ?e5 ?_)
    case e1 => exact HH.out.2.2
    case e2 => exact fun u hu => by simp only [List.mem_cons, List.not_mem_nil, or_false] at hu; rcases hu with rfl | rfl <;> rfl
    case e3 => have := HN.out; unfold maxLen; omega
    case e4 => have := HN.out; omega
    case e5 => exact hbase
    intro v' w1 hown hgrow _ hat
    have HO := Lib.hid (And.intro hown (And.intro hgrow hat))
    obtain ⟨va, vn, vc, rfl⟩ := row_slice hown
    clear hown hgrow hat
    go_wp2
    go_ret
    exact ⟨⟨_, rfl, HA.out _ _ HO.out.1, HO.out.2.2⟩, HO.out.2.1⟩
theorem cloneF_any (L : List FileV) (base : Nat) (v : Value) (w : World) (hr : FlR base w v L) (hn : L.length ≤ 1000) (hs : Slices L) :
    Calls Try.prog 35 #[v] w fun e w' => (∃ v', e = .returned v' ∧ FlR w.heap.size w' v' L) ∧ Below w.heap.size w w' := by
  rcases row_form hr with ⟨rfl, h0⟩ | ⟨g, cap, rfl, -, hg, hcap, hcm⟩
  · have hL : L = [] := List.eq_nil_of_length_eq_zero h0
    subst hL
    exact (cloneF_nil w).mono fun e w' ⟨he, hw⟩ => ⟨⟨_, he, World.ownsRow_nil _ _ _ _⟩, by subst hw; exact Below.refl _ _⟩
  · exact cloneF_row g L.length cap (encF L) w (encF_len L) (by omega) (World.ownsRow.cells hr rfl) (encF_one L hs) hg
set_option maxRecDepth 100000 in
set_option maxHeartbeats 4000000 in
theorem insF_end (L : List FileV) (x : FileV) (base b : Nat) (v : Value) (w : World) (hr : FlR base w v L) (hn : L.length ≤ 1000) (hb : BkAt b 58 (Array.mk [.int .i64 x.ino, x.dv, .bool x.cp, .bool x.wh, .int .i64 x.lf]) w) (hbase : base ≤ w.heap.size) (hx : x.dv.oneCell' = true) :
    Calls Try.prog 78 #[v, .int .i64 (L.length : Int), .slice (some ⟨b, 0, none⟩) 1 1] w fun e w' => (∃ v', e = .returned v' ∧ FlR base w' v' (L ++ [x]) ∧ (v'.ownBlock = v.ownBlock ∨ v'.ownBlock = some w.heap.size)) ∧ w.grownBy w' v.ownBlock := by
  obtain ⟨i0, hi, hz0, hz1, hz2⟩ := info_parts infoF
  have hlen : (encF (L ++ [x])) = encF L ++ [.int .i64 x.ino, x.dv, .bool x.cp, .bool x.wh, .int .i64 x.lf] := by rw [encF_app]; rfl
  have hnews : ∀ j u, ([.int .i64 x.ino, x.dv, .bool x.cp, .bool x.wh, .int .i64 x.lf] : List Value)[j]? = some u → w.cell? ((⟨b, 0, none⟩ : Addr).add j) = some u := fun j u hj => by rw [Addr.add_lit, Nat.zero_add, hb.cell j]; simpa using hj
  have HH := Lib.hid (And.intro hr (And.intro hlen hnews))
  obtain ⟨n, hnn⟩ : ∃ n, L.length = n := ⟨_, rfl⟩
  have HN := Lib.hid hnn
  have hap : ∀ (w1 : World) v' , w1.ownsRow base 58 5 v' (L.length + 1) (encF L ++ [.int .i64 x.ino, x.dv, .bool x.cp, .bool x.wh, .int .i64 x.lf]) → FlR base w1 v' (L ++ [x]) := fun w1 v' h => by
    unfold FlR
    rw [HH.out.2.1, List.length_append]
    exact h
  have HA := Lib.hid hap
  have hf : (v = .slice none 0 0 ∧ n = 0) ∨ ∃ g cap, v = .slice (some ⟨g, 0, none⟩) n cap ∧ n ≤ cap ∧ cap ≤ 9223372036854775807 := by
    rcases row_form hr with ⟨h1, h2⟩ | ⟨g, cap, h1, -, -, h2, h3⟩
    · exact .inl ⟨h1, by omega⟩
    · exact .inr ⟨g, cap, by rw [h1, hnn], by omega, by unfold maxLen at h3; omega⟩
  rw [hnn]
  have hn2 : n ≤ 1000 := by omega
  clear hr hlen hnews hb hnn hap hn
  rcases hf with ⟨rfl, rfl⟩ | ⟨g, cap, rfl, hcap, hcm⟩
  · go_enter Try.func78, Try.ntmps78
    go_wp2_with (at_builtin; refine wpList_append_own_at _ rfl (.tmp 23) (.tmp 24) 30 rfl base 58 i0 (.agg #[.int .i64 0, .slice none 0 0, .bool false, .bool false, .int .i64 0]) 5 48 Try.underlying30 hi hz0 hz1 hz2 rfl (by decide) _ L.length _ (by simp [Act.eval]) HH.out.1 ⟨b, 0, none⟩ 1 1 [.int .i64 x.ino, x.dv, .bool x.cp, .bool x.wh, .int .i64 x.lf] rfl rfl ?c1 ?c2 ?c3 ?c4 ?c5 ?_)
    case c1 => exact HH.out.2.2
    case c2 => exact fun u hu => by simp only [List.mem_cons, List.not_mem_nil, or_false] at hu; rcases hu with rfl | rfl | rfl | rfl | rfl; rfl; exact hx; rfl; rfl; rfl
    case c3 => have := HN.out; unfold maxLen; omega
    case c4 => have := HN.out; omega
    case c5 => exact hbase
    intro v' w1 hown hgrow _ hat
    have HO := Lib.hid (And.intro hown (And.intro hgrow hat))
    obtain ⟨va, vn, vc, rfl⟩ := row_slice hown
    clear hown hgrow hat
    go_wp2
    go_ret
    exact ⟨⟨_, rfl, HA.out _ _ HO.out.1, HO.out.2.2⟩, HO.out.2.1⟩
  by_cases hcn : cap = n
  · subst hcn
    go_enter Try.func78, Try.ntmps78
    go_wp2_with (at_builtin; refine wpList_append_own_at _ rfl (.tmp 23) (.tmp 24) 30 rfl base 58 i0 (.agg #[.int .i64 0, .slice none 0 0, .bool false, .bool false, .int .i64 0]) 5 48 Try.underlying30 hi hz0 hz1 hz2 rfl (by decide) _ L.length _ (by simp [Act.eval]) HH.out.1 ⟨b, 0, none⟩ 1 1 [.int .i64 x.ino, x.dv, .bool x.cp, .bool x.wh, .int .i64 x.lf] rfl rfl ?d1 ?d2 ?d3 ?d4 ?d5 ?_)
    case d1 => exact HH.out.2.2
    case d2 => exact fun u hu => by simp only [List.mem_cons, List.not_mem_nil, or_false] at hu; rcases hu with rfl | rfl | rfl | rfl | rfl; rfl; exact hx; rfl; rfl; rfl
    case d3 => have := HN.out; unfold maxLen; omega
    case d4 => have := HN.out; omega
    case d5 => exact hbase
    intro v' w1 hown hgrow _ hat
    have HO := Lib.hid (And.intro hown (And.intro hgrow hat))
    obtain ⟨va, vn, vc, rfl⟩ := row_slice hown
    clear hown hgrow hat
    go_wp2
    go_ret
    exact ⟨⟨_, rfl, HA.out _ _ HO.out.1, HO.out.2.2⟩, HO.out.2.1⟩
  · skip
    go_enter Try.func78, Try.ntmps78
    go_wp2_with (at_builtin; refine wpList_append_own_at _ rfl (.tmp 23) (.tmp 24) 30 rfl base 58 i0 (.agg #[.int .i64 0, .slice none 0 0, .bool false, .bool false, .int .i64 0]) 5 48 Try.underlying30 hi hz0 hz1 hz2 rfl (by decide) _ L.length _ (by simp [Act.eval]) HH.out.1 ⟨b, 0, none⟩ 1 1 [.int .i64 x.ino, x.dv, .bool x.cp, .bool x.wh, .int .i64 x.lf] rfl rfl ?e1 ?e2 ?e3 ?e4 ?e5 ?_)
    case e1 => exact HH.out.2.2
    case e2 => exact fun u hu => by simp only [List.mem_cons, List.not_mem_nil, or_false] at hu; rcases hu with rfl | rfl | rfl | rfl | rfl; rfl; exact hx; rfl; rfl; rfl
    case e3 => have := HN.out; unfold maxLen; omega
    case e4 => have := HN.out; omega
    case e5 => exact hbase
    intro v' w1 hown hgrow _ hat
    have HO := Lib.hid (And.intro hown (And.intro hgrow hat))
    obtain ⟨va, vn, vc, rfl⟩ := row_slice hown
    clear hown hgrow hat
    go_wp2
    go_ret
    exact ⟨⟨_, rfl, HA.out _ _ HO.out.1, HO.out.2.2⟩, HO.out.2.1⟩
end Go.Proofs.Ytbpboghjgbgjfaa
