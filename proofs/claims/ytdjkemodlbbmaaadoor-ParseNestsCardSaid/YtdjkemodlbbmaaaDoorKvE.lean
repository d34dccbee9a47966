/- The contract of quoted: a string in quotes with escapes. -/
import Derived.Test.YtdjkemodlbbmaaaDoorKvC
import Derived.Test.YtdjkemodlbbmaaaDoorBld
import Derived.Test.YtdjkemodlbbmaaaDoorShelf
import Derived.Deep.QuietTactic
import Derived.BigQuiet
import Derived.IntWalk
namespace Go.Proofs.YtdjkemodlbbmaaaDoor
open Go.RowKit

/-- A string in quotes, read behind its first quote: what stands for it, and what follows it; the first argument: whether a backslash stands before. -/
def qS (m : UInt8) (esc : UInt8 → Option UInt8) : Bool → List UInt8 → List UInt8 → Option (List UInt8 × List UInt8)
  | _, _, [] => none
  | true, acc, d :: r => match esc d with
    | none => none
    | some x => qS m esc false (acc ++ [x]) r
  | false, acc, c :: r => if c = 34 then some (acc, r) else if c < m then none else if c = 92 then qS m esc true acc r else qS m esc false (acc ++ [c]) r
def qA (m : UInt8) (esc : UInt8 → Option UInt8) (acc l : List UInt8) : Option (List UInt8 × List UInt8) := qS m esc false acc l
theorem qA_nil (m : UInt8) (esc : UInt8 → Option UInt8) (acc : List UInt8) : qA m esc acc [] = none := rfl
theorem qA_end (m : UInt8) (esc : UInt8 → Option UInt8) (acc r : List UInt8) : qA m esc acc (34 :: r) = some (acc, r) := by unfold qA; rw [qS, if_pos rfl]
theorem qA_low {m : UInt8} (esc : UInt8 → Option UInt8) (acc r : List UInt8) {c : UInt8} (h : c ≠ 34) (h2 : c < m) : qA m esc acc (c :: r) = none := by unfold qA; rw [qS, if_neg h, if_pos h2]
theorem qA_open {m : UInt8} (esc : UInt8 → Option UInt8) (acc : List UInt8) (h2 : ¬ 92 < m) : qA m esc acc [92] = none := by unfold qA; rw [qS, if_neg (by decide), if_neg h2, if_pos rfl]; rfl
theorem qA_bad {m : UInt8} {esc : UInt8 → Option UInt8} (acc r : List UInt8) {d : UInt8} (h2 : ¬ 92 < m) (h : esc d = none) : qA m esc acc (92 :: d :: r) = none := by unfold qA; rw [qS, if_neg (by decide), if_neg h2, if_pos rfl, qS]; simp only [h]
theorem qA_esc {m : UInt8} {esc : UInt8 → Option UInt8} (acc r : List UInt8) {d x : UInt8} (h2 : ¬ 92 < m) (h : esc d = some x) : qA m esc acc (92 :: d :: r) = qA m esc (acc ++ [x]) r := by unfold qA; rw [qS, if_neg (by decide), if_neg h2, if_pos rfl, qS]; simp only [h]
theorem qA_byte {m : UInt8} (esc : UInt8 → Option UInt8) (acc r : List UInt8) {c : UInt8} (h : c ≠ 34) (h2 : ¬ c < m) (h3 : c ≠ 92) : qA m esc acc (c :: r) = qA m esc (acc ++ [c]) r := by unfold qA; rw [qS, if_neg h, if_neg h2, if_neg h3]
theorem qS_len (m : UInt8) (esc : UInt8 → Option UInt8) : ∀ (l : List UInt8) (p : Bool) (acc t u : List UInt8), qS m esc p acc l = some (t, u) → u.length < l.length
  | [], p, acc, t, u, h => by cases p <;> cases h
  | c :: r, true, acc, t, u, h => by
    rw [qS] at h
    cases he : esc c with
    | none => rw [he] at h; cases h
    | some x => rw [he] at h; have := qS_len m esc r _ _ _ _ h; simp only [List.length_cons]; omega
  | c :: r, false, acc, t, u, h => by
    simp only [List.length_cons]
    rw [qS] at h
    split at h
    · cases h; omega
    · split at h
      · cases h
      · split at h
        · have := qS_len m esc r _ _ _ _ h; omega
        · have := qS_len m esc r _ _ _ _ h; omega
/-- What a function of escapes answers, at every byte. -/
def EscIs (g : Nat) (esc : UInt8 → Option UInt8) : Prop := ∀ (c : UInt8) (w : World), Calls Tryd.prog g #[.int .u8 c.toNat] w fun e w' => (∃ x : UInt8, e = .returned (.tuple #[.int .u8 x.toNat, .bool (esc c).isSome]) ∧ (∀ y, esc c = some y → y = x)) ∧ w = w'
def qR (r : Option (List UInt8 × List UInt8)) : Value := match r with
  | none => .tuple #[.string ⟨#[]⟩, .string ⟨#[]⟩, .bool false]
  | some (t, r) => .tuple #[.string ⟨t.toArray⟩, .string ⟨r.toArray⟩, .bool true]
theorem qR_some (s : ByteArray) (k : Nat) (acc : List UInt8) : qR (some (acc, s.data.toList.drop k)) = .tuple #[.string ⟨acc.toArray⟩, .string (s.extract k s.size), .bool true] := by
  rw [str_of _ _ (extract_from s k)]
  rfl
theorem ret_eq {a b : Value} (h : a = b) : Ending.returned b = .returned a := by rw [h]
/-- The state at the head of quoted's loop. -/
structure QI (w : World) (s : ByteArray) (R : Option (List UInt8 × List UInt8)) (m : UInt8) (esc : UInt8 → Option UInt8) (k : Nat) (wr : World) : Prop where
  mk' ::
  st : ∃ acc : List UInt8, acc.length ≤ k ∧ Bd w.heap.size w.heap.size acc wr ∧ R = qA m esc acc (s.data.toList.drop k)
  hb : Below w.heap.size w wr
theorem bd_new (w : World) : Bd w.heap.size w.heap.size [] (w.alloc (.cells #[.pointer none, .slice none 0 0] 96)) :=
  ⟨.pointer none, .inl rfl, Nat.le_refl _, .slice none 0 0, heap_alloc_new w _, World.ownsRow_nil _ _ _ _, by simp [Value.ownBlock]⟩
theorem bdString (B b : Nat) (l : List UInt8) (w : World) (h : Bd B b l w) (hBw : B ≤ w.heap.size) :
    Calls Tryd.prog 68 #[.pointer (some ⟨b, 0, none⟩)] w fun e w' => e = .returned (.string ⟨l.toArray⟩) ∧ Below B w w' :=
  Tryd.Builder_String_any B b l w (by
    obtain ⟨p, hp, h⟩ := h
    rcases hp with rfl | rfl
    · exact .inl h
    · exact .inr h) hBw

set_option maxRecDepth 100000 in
set_option maxHeartbeats 4000000 in
theorem quoted_any (s : ByteArray) (m : UInt8) (g : Nat) (esc : UInt8 → Option UInt8) (w : World) (h1 : 1 ≤ s.size) (hs : s.size ≤ 1000000) (hg : EscIs g esc) (hen : ∀ args w, (callFunc g args).run Tryd.prog w = .ok (.enter g args) w) (hm : ¬ 92 < m) :
    Calls Tryd.prog 74 #[.string s, .int .u8 m.toNat, .func (.func g) #[] #[]] w fun e w' => e = .returned (qR (qA m esc [] (s.data.toList.drop 1))) ∧ Below w.heap.size w w' := by
  obtain ⟨R, hR⟩ : ∃ R, qA m esc [] (s.data.toList.drop 1) = R := ⟨_, rfl⟩
  have HR := Lib.hid hR
  rw [hR]
  clear hR
  have HG := Lib.hid hg
  have HM := Lib.hid hm
  clear hg hm
  go_enter Tryd.func74, Tryd.ntmps74
  go_wp2
  go_loopw [10] (fun v wr => ∃ k : Nat, v = .int .i64 k ∧ 1 ≤ k ∧ k ≤ s.size ∧ QI w s R m esc k wr) (fun v _ => s.size - (intOf v).toNat)
  case atStart => exact ⟨1, rfl, Nat.le_refl _, h1, ⟨[], Nat.zero_le _, bd_new w, HR.out.symm⟩, bel_new w _⟩
  case round =>
    obtain ⟨k, rfl, hk1, hk, hI⟩ := hrel
    have HI := Lib.hid hI
    clear hI
    by_cases hlt : k < s.size
    · obtain ⟨c, hc⟩ : ∃ c, s[k] = c := ⟨_, rfl⟩
      have hdr : s.data.toList.drop k = c :: s.data.toList.drop (k + 1) := by
        have e := List.drop_eq_getElem_cons (l := s.data.toList) (i := k) (by rw [size_b]; exact hlt)
        rw [e, ← hc]; rfl
      have HD := Lib.hid hdr
      have hix : s[k].toNat = c.toNat := by rw [hc]
      have HX := Lib.hid hix
      clear hdr hc
      by_cases h34 : c = 34
      · subst h34
        have t1 : ((s[k].toNat : Int) == 34) = true := by rw [hix]; rfl
        clear hix
        obtain ⟨⟨acc, hal, hbd, hRR⟩, hbel⟩ := HI.out
        have hRv : R = some (acc, s.data.toList.drop (k + 1)) := by rw [hRR, HD.out, qA_end]
        have HRV := Lib.hid hRv
        have HB := Lib.hid (And.intro hbd hbel)
        have HS := Lib.hid (fun (W : World) (q1 : Bd w.heap.size w.heap.size acc W) (q2 : w.heap.size ≤ W.heap.size) => bdString _ _ acc W q1 q2)
        clear hRR hRv hbd hbel
        have e1 : IntKind.i64.wrap ((k : Int) + 1) = (k : Int) + 1 := IntWalk.i64_in _ (by omega)
        have e2 : (0 : Int) ≤ (k : Int) + 1 := by omega
        have e3 : ((k : Int) + 1).toNat = k + 1 := by omega
        have e4 : k + 1 ≤ s.size := by omega
        go_wp2_with fail
        go_region_with ((go_at_call 68; refine (HS.out _ (by exact HB.out.1) (by exact HB.out.2.size)).mono ?_; rintro e w3 ⟨rfl, hb3⟩))
        all_goals
          go_wp2
          go_ret3
          exact ⟨ret_eq (by rw [HRV.out, qR_some]; rfl), HB.out.2.drew.trans hb3⟩
      · have t1 : ((s[k].toNat : Int) == 34) = false := by
          rw [hix, beq_eq_false_iff_ne]
          intro q
          exact h34 (UInt8.toNat_inj.1 (by simpa using (by omega : c.toNat = 34)))
        by_cases hcm : c < m
        · have t2 : decide (s[k].toNat < m.toNat) = true := by
            rw [hix]; exact decide_eq_true (UInt8.lt_iff_toNat_lt.1 hcm)
          clear hix
          obtain ⟨⟨acc, hal, hbd, hRR⟩, hbel⟩ := HI.out
          have hRv : R = none := by rw [hRR, HD.out, qA_low _ _ _ h34 hcm]
          have HRV := Lib.hid hRv
          have HB := Lib.hid hbel
          clear hRR hRv hbd hbel
          go_wp2
          go_ret3
          exact ⟨ret_eq (by rw [HRV.out]; rfl), HB.out⟩
        · have t2 : decide (s[k].toNat < m.toNat) = false := by
            rw [hix]; exact decide_eq_false (fun q => hcm (UInt8.lt_iff_toNat_lt.2 q))
          by_cases h92 : c = 92
          · subst h92
            have t3 : ((s[k].toNat : Int) == 92) = true := by rw [hix]; rfl
            clear hix
            obtain ⟨⟨acc, hal, hbd, hRR⟩, hbel⟩ := HI.out
            by_cases hk2 : k + 1 < s.size
            · obtain ⟨d, hd⟩ : ∃ d, s[k + 1] = d := ⟨_, rfl⟩
              have hdr2 : s.data.toList.drop (k + 1) = d :: s.data.toList.drop (k + 2) := by
                have e := List.drop_eq_getElem_cons (l := s.data.toList) (i := k + 1) (by rw [size_b]; exact hk2)
                rw [e, ← hd]; rfl
              have hF := HG.out s[k + 1] wr
              have t4 : ¬ k + 1 = s.size := by omega
              cases he : esc d with
              | none =>
                rw [show esc s[k + 1] = none by rw [hd]; exact he] at hF
                have HF : Hid (Calls Tryd.prog g #[.int .u8 s[k + 1].toNat] wr fun e w' => (∃ x : UInt8, e = .returned (.tuple #[.int .u8 x.toNat, .bool false])) ∧ wr = w') := Lib.hid (hF.mono fun e w' h => ⟨⟨h.1.choose, h.1.choose_spec.1⟩, h.2⟩)
                have hRv : R = none := by rw [hRR, HD.out, hdr2, qA_bad _ _ HM.out he]
                have HRV := Lib.hid hRv
                have HB := Lib.hid hbel
                clear hd hdr2 hF hRR hbd hbel hRv he
                go_wp2_with fail
                refine (HF.out).mono ?_
                rintro e w' ⟨⟨x, rfl⟩, rfl⟩
                go_wp2
                go_ret3
                exact ⟨ret_eq (by rw [HRV.out]; rfl), HB.out⟩
              | some y =>
                rw [show esc s[k + 1] = some y by rw [hd]; exact he] at hF
                have HF : Hid (Calls Tryd.prog g #[.int .u8 s[k + 1].toNat] wr fun e w' => e = .returned (.tuple #[.int .u8 y.toNat, .bool true]) ∧ wr = w') := Lib.hid (hF.mono fun e w' h => ⟨by
                  obtain ⟨x, hx, hy⟩ := h.1
                  rw [hx, hy y rfl]; rfl, h.2⟩)
                have hRv : R = qA m esc (acc ++ [y]) (s.data.toList.drop (k + 2)) := by rw [hRR, HD.out, hdr2, qA_esc _ _ HM.out he]
                have hwb := bldByte _ _ acc y wr hbd (by omega)
                have HB := Lib.hid (And.intro hRv (And.intro hbel hwb))
                clear hd hdr2 hF hRR hbd hbel hRv he hwb
                go_wp2_with fail
                refine (HF.out).mono ?_
                rintro e w' ⟨rfl, rfl⟩
                go_wp2_with (go_at_call 67; refine (HB.out.2.2).mono ?_; rintro e w3 ⟨rfl, hb3, hb4, -, hb5⟩)
                go_roundw
                case rel =>
                  exact ⟨k + 2, by go_num, by omega, by omega, ⟨acc ++ [y], by rw [List.length_append]; simp only [List.length_cons, List.length_nil]; omega, hb3, HB.out.1⟩, HB.out.2.1.trans hb4⟩
                case measure => simp [intOf]; omega
            · have hRv : R = none := by
                rw [hRR, HD.out, List.drop_eq_nil_of_le (by rw [size_b]; omega), qA_open _ _ HM.out]
              have HRV := Lib.hid hRv
              have HB := Lib.hid hbel
              have t4 : k + 1 = s.size := by omega
              clear hRR hRv hbd hbel
              go_wp2
              go_ret3
              exact ⟨ret_eq (by rw [HRV.out]; rfl), HB.out⟩
          · have t3 : ((s[k].toNat : Int) == 92) = false := by
              rw [hix, beq_eq_false_iff_ne]
              intro q
              exact h92 (UInt8.toNat_inj.1 (by simpa using (by omega : c.toNat = 92)))
            have HY := Lib.hid hix
            obtain ⟨⟨acc, hal, hbd, hRR⟩, hbel⟩ := HI.out
            have hRv : R = qA m esc (acc ++ [c]) (s.data.toList.drop (k + 1)) := by rw [hRR, HD.out, qA_byte _ _ _ h34 hcm h92]
            have hwb := bldByte _ _ acc s[k] wr hbd (by omega)
            have HB := Lib.hid (And.intro hRv (And.intro hbel hwb))
            clear hRR hRv hbd hbel hwb hix
            go_wp2_with (go_at_call 67; refine (HB.out.2.2).mono ?_; rintro e w3 ⟨rfl, hb3, hb4, -, hb5⟩)
            go_roundw
            case rel =>
              refine ⟨k + 1, by go_num, by omega, by omega, ⟨acc ++ [c], by rw [List.length_append]; simp only [List.length_cons, List.length_nil]; omega, ?_, HB.out.1⟩, HB.out.2.1.trans hb4⟩
              have e : s[k] = c := UInt8.toNat_inj.1 HX.out
              rw [← e]
              exact hb3
            case measure => simp [intOf]; omega
    · obtain ⟨⟨acc, hal, hbd, hRR⟩, hbel⟩ := HI.out
      have hRv : R = none := by rw [hRR, List.drop_eq_nil_of_le (by rw [size_b]; omega), qA_nil]
      have HRV := Lib.hid hRv
      have HB := Lib.hid hbel
      clear hRR hRv hbd hbel
      go_wp2
      go_ret3
      exact ⟨ret_eq (by rw [HRV.out]; rfl), HB.out⟩
end Go.Proofs.YtdjkemodlbbmaaaDoor
