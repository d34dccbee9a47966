/- The reference's Fields, at at most 2097152 bytes: the same fields. -/
import Derived.Test.YtkopibaoolaelaaDoorFields2
namespace Go.Proofs.YtkopibaoolaelaaDoor
open Go.RowKit

set_option maxRecDepth 100000 in
set_option maxHeartbeats 2000000 in
theorem rfields_any (s : ByteArray) (hlen : s.size ≤ 2097152) (w : World) :
    Calls Tryd.prog 24 #[.string s] w fun e w' => ∃ v, e = .returned v ∧ StrsAt w' w'.heap.size v (fieldsB s.data.toList) ∧ Below w.heap.size w w' := by
  obtain ⟨i0, hi, hz0, hz1, hz2⟩ := info_parts infoStr
  go_enter Tryd.func24, Tryd.ntmps24
  go_wp2
  go_loopw [3, 4] (fun v i wr => ∃ (k : Nat) (L : List (List UInt8)), k ≤ s.size ∧ i = .int .i64 k ∧ fclose (fscan (s.data.toList.take k)) = L ∧ (∀ h : k < s.size, isSp s[k] = false → (fscan (s.data.toList.take k)).2 = []) ∧ wr.ownsRow w.heap.size 9 1 v L.length (L.map fEnc) ∧ Below w.heap.size w wr)
    (fun _ i _ => s.size - (intOf i).toNat)
  case atStart => exact ⟨0, [], by omega, rfl, rfl, fun _ _ => rfl, World.ownsRow_nil _ _ _ _, Below.refl _ _⟩
  case round =>
    obtain ⟨k, L, hk, rfl, hcl, hno, hrow, hbr⟩ := hrel
    have HCL := Lib.hid hcl
    have HNO := Lib.hid hno
    clear hcl hno
    by_cases hlt : k < s.size
    · have hclt := UInt8.toNat_lt s[k]
      have hsn := take_snocB s k hlt
      by_cases hsp : isSp s[k] = true
      · have hspb : spcB s[k].toNat = true := hsp
        have hnx : fclose (fscan (s.data.toList.take (k + 1))) = L ∧ (fscan (s.data.toList.take (k + 1))).2 = [] := by
          rw [hsn, fscan_snoc, fstep_sp hsp, HCL.out, fclose_nil]
          exact ⟨rfl, rfl⟩
        have HNX := Lib.hid hnx
        clear hsn hnx hsp
        go_wp2_with (go_at_call 17; refine (rspace_any _ _).mono ?_; rintro e w' ⟨rfl, rfl⟩)
        go_roundw
        case rel => exact ⟨k + 1, L, by omega, by simp, HNX.out.1, fun _ _ => HNX.out.2, hrow, hbr⟩
        case measure => simp [intOf]; omega
      · have hsf : isSp s[k] = false := by simpa using hsp
        have hspb : spcB s[k].toNat = false := hsf
        have hst : fscan (s.data.toList.take k) = (L, []) := by
          have h1 := HNO.out hlt hsf
          have h2 := HCL.out
          rw [← h2]
          unfold fclose
          rw [if_pos h1, ← h1]
        have HST := Lib.hid hst
        have hL := fscan_len (s.data.toList.take k)
        rw [hst, List.length_take, sizeB] at hL
        simp only [if_true] at hL
        clear hsn hst hsp
        go_wp2_with (go_at_call 17; refine (rspace_any _ _).mono ?_; rintro e w' ⟨rfl, rfl⟩)
        go_loop [4] (fun i => ∃ j : Nat, k ≤ j ∧ j ≤ s.size ∧ i = .int .i64 j ∧ fscan (s.data.toList.take j) = (L, (s.data.toList.take j).drop k)) (fun i => s.size - (intOf i).toNat)
        case atStart => exact ⟨k, by omega, by omega, rfl, by rw [HST.out, List.drop_eq_nil_of_le (by rw [List.length_take]; omega)]⟩
        case round =>
          obtain ⟨j, hkj, hj, rfl, hsj⟩ := hrel
          have HSJ := Lib.hid hsj
          clear hsj
          by_cases hgo : ∃ h : j < s.size, isSp s[j] = false
          · obtain ⟨hjl, hjs⟩ := hgo
            have hjb : spcB s[j].toNat = false := hjs
            have hnx : fscan (s.data.toList.take (j + 1)) = (L, (s.data.toList.take (j + 1)).drop k) := by
              rw [take_snocB s j hjl, fscan_snoc, HSJ.out, fstep_no hjs, List.drop_append_of_le_length (by rw [List.length_take, sizeB]; omega)]
            have HNX := Lib.hid hnx
            clear hnx hjs
            go_wp2_with (go_at_call 17; refine (rspace_any _ _).mono ?_; rintro e w' ⟨rfl, rfl⟩)
            go_round
            case rel => exact ⟨j + 1, by omega, by omega, by simp, HNX.out⟩
            case measure => simp [intOf]; omega
          · have hkj2 : k < j := by
              rcases Nat.lt_or_ge k j with h | h
              · exact h
              · obtain rfl : k = j := by omega
                exact absurd ⟨hlt, hsf⟩ hgo
            obtain ⟨x, hx⟩ : ∃ x, (s.data.toList.take j).drop k = x := ⟨_, rfl⟩
            have hxe : fEnc x = .string (s.extract k j) := by rw [← hx, fEnc_cut]
            have hxn : x ≠ [] := by
              intro e
              have := congrArg List.length hx
              rw [e, List.length_drop, List.length_take, sizeB, List.length_nil] at this
              omega
            have hnx : fclose (fscan (s.data.toList.take j)) = L ++ [x] := by rw [HSJ.out, hx, fclose_ne hxn]
            have hns : ∀ h : j < s.size, isSp s[j] = false → (fscan (s.data.toList.take j)).2 = [] := fun h h' => absurd ⟨h, h'⟩ hgo
            have HX := Lib.hid (And.intro hnx hns)
            have q1 : ∀ u ∈ [Value.string (s.extract k j)], u.oneCell' = true := by simp [Value.oneCell']
            have q2 : ∀ (i : Nat) (u : Value), [Value.string (s.extract k j)][i]? = some u → (wr.alloc (Obj.cells #[Value.string (s.extract k j)] 9)).cell? ((⟨wr.heap.size, 0, none⟩ : Addr).add i) = some u := fun i u hi => by
              obtain rfl : i = 0 := by
                have := (List.getElem?_eq_some_iff.1 hi).1
                simpa using this
              obtain rfl : Value.string (s.extract k j) = u := by simpa using hi
              simp [Addr.add]
            have q3 : L.length + 1 ≤ maxLen := by unfold maxLen; omega
            have q4 : (L.length + 1) * 16 ≤ 140737488355328 := by omega
            have q5 : w.heap.size ≤ (wr.alloc (Obj.cells #[Value.string (s.extract k j)] 9)).heap.size := by have := hbr.size; simp; omega
            clear hnx hns hxn hx
            by_cases hjl : j < s.size
            · have hjs : isSp s[j] = true := by
                cases h : isSp s[j] with
                | true => rfl
                | false => exact absurd ⟨hjl, h⟩ hgo
              have hjb : spcB s[j].toNat = true := hjs
              clear hgo hjs
              go_wp2_with (first
                | (go_at_call 17; refine (rspace_any _ _).mono ?_; rintro e w' ⟨rfl, rfl⟩)
                | (at_builtin; refine wpList_append_own _ rfl (.tmp 30) (.tmp 35) 29 rfl w.heap.size 9 i0 (.string ⟨#[]⟩) 1 16 Tryd.underlying29 hi hz0 hz1 hz2 rfl (by decide) _ _ _ rfl (hrow.alloc _) ⟨wr.heap.size, 0, none⟩ 1 1 [.string (s.extract k j)] rfl rfl q2 q1 q3 q4 q5 ?_))
              intro v' w3 hown' hg3 _
              have hb3 : Below w.heap.size w w3 := (hbr.alloc hbr.size _).grown hg3 q5 (fun r e => (hrow.lt r e).1)
              rw [← hxe] at hown'
              have hown2 : w3.ownsRow w.heap.size 9 1 v' (L ++ [x]).length ((L ++ [x]).map fEnc) := by
                simpa using hown'
              clear hown' hg3
              go_wp2
              go_roundw
              case rel => exact ⟨j, L ++ [x], by omega, rfl, HX.out.1, HX.out.2, hown2, hb3⟩
              case measure => simp [intOf]; omega
            · clear hgo
              go_wp2_with (first
                | (go_at_call 17; refine (rspace_any _ _).mono ?_; rintro e w' ⟨rfl, rfl⟩)
                | (at_builtin; refine wpList_append_own _ rfl (.tmp 30) (.tmp 35) 29 rfl w.heap.size 9 i0 (.string ⟨#[]⟩) 1 16 Tryd.underlying29 hi hz0 hz1 hz2 rfl (by decide) _ _ _ rfl (hrow.alloc _) ⟨wr.heap.size, 0, none⟩ 1 1 [.string (s.extract k j)] rfl rfl q2 q1 q3 q4 q5 ?_))
              intro v' w3 hown' hg3 _
              have hb3 : Below w.heap.size w w3 := (hbr.alloc hbr.size _).grown hg3 q5 (fun r e => (hrow.lt r e).1)
              rw [← hxe] at hown'
              have hown2 : w3.ownsRow w.heap.size 9 1 v' (L ++ [x]).length ((L ++ [x]).map fEnc) := by
                simpa using hown'
              clear hown' hg3
              go_wp2
              go_roundw
              case rel => exact ⟨j, L ++ [x], by omega, rfl, HX.out.1, HX.out.2, hown2, hb3⟩
              case measure => simp [intOf]; omega
    · obtain rfl : k = s.size := by omega
      have htk : s.data.toList.take s.size = s.data.toList := by rw [← sizeB, List.take_length]
      have hfin : fieldsB s.data.toList = L := by
        have := HCL.out
        rw [htk] at this
        exact this
      go_wp2
      go_ret
      rw [hfin]
      exact ⟨_, rfl, strsAt_of hrow, hbr⟩
end Go.Proofs.YtkopibaoolaelaaDoor
