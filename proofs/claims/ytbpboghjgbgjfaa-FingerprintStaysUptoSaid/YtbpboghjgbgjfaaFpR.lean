/- Scan of package fingerprint, up to the sort: the loop over the map of two inodes. -/
import Derived.Test.YtbpboghjgbgjfaaFwD
import Derived.Test.YtbpboghjgbgjfaaFpA
import Derived.Test.YtbpboghjgbgjfaaFpS
import Derived.RangeFuncBox
import Derived.Maps.AppendAt
namespace Go.Proofs.Ytbpboghjgbgjfaa
open Go.RowKit Go.Maps Go.ChangeMaps

theorem infoSn : (Try.prog.info? 45).map (fun i => (i.zero, i.size, i.bytes)) = some (some (.agg #[.int .i64 0, .int .i64 0, .int .i64 0]), 3, 24) := by kernel_rfl
def seenV (l : List UInt8) (z : Nat) (n : Int) (x : Int) : List Value := encS (n, x, (lenS l z x : Int))
/-- The inodes that give a number. -/
def selB (ok : Bool) (vs : List Int) : List Int := if ok then vs else []
structure ScI (w : World) (l : List UInt8) (z : Nat) (ok : Bool) (n : Int) (nv fv : Value) (fb B r : Nat) (v : Value) (vs : List Int) (cnt : Nat) (wr : World) : Prop where
  hr : wr.ranges Try.prog 3 heldR B r 2 (mapP 2) (Lf vs) cnt
  row : wr.ownsRow w.heap.size 45 3 v (selB ok vs).length ((selB ok vs).flatMap (seenV l z n))
  b : BkAt fb 33 #[nv, fv, .slice none 0 0] wr
  ok : vs.Nodup ∧ ∀ x ∈ vs, x = 1 ∨ x = 2
  lb : w.heap.size ≤ B ∧ w.heap.size ≤ r ∧ w.heap.size ≤ fb
  bw : Below w.heap.size w wr
theorem ranges_obj {w : World} {k : TypeId} {b r n : Nat} {D : DataW HV} {left : Lit → Bool} {cnt : Nat} (h : w.ranges Try.prog k heldR b r n D left cnt) : ∃ es ck rs, w.heap[b]? = some (.map es ck) ∧ w.heap[r]? = some rs ∧ rs.isCells = false := by
  obtain ⟨es, clock, since, seen, c0, hb, -, -, -, hr, -⟩ := h
  exact ⟨es, clock, _, hb, hr, rfl⟩
theorem row_obj {w w' : World} {base : Nat} {e : TypeId} {size : Nat} {v : Value} {n : Nat} {xs : List Value} {r : Nat} {o : Obj} (h : w.ownsRow base e size v n xs) (hg : w.grownBy w' (some r)) (hr : w.heap[r]? = some o) (ho : o.isCells = false) : w'.ownsRow base e size v n xs := by
  refine h.kept hg ?_
  rcases h.2 with ⟨rfl, _⟩ | ⟨g, cap, cur, rfl, _, hgb, _⟩
  · exact .inl rfl
  · refine .inr fun e => ?_
    obtain rfl : g = r := by simpa [Value.ownBlock] using e
    rw [hgb] at hr
    cases hr
    cases ho
theorem row_own_ne {w : World} {base : Nat} {e : TypeId} {size : Nat} {v : Value} {n : Nat} {xs : List Value} {r : Nat} {o : Obj} (h : w.ownsRow base e size v n xs) (hr : w.heap[r]? = some o) (ho : o.isCells = false) : some r ≠ v.ownBlock := by
  rcases h.2 with ⟨rfl, _⟩ | ⟨g, cap, cur, rfl, _, hgb, _⟩
  · simp [Value.ownBlock]
  · intro e
    obtain rfl : r = g := by simpa [Value.ownBlock] using e
    rw [hgb] at hr
    cases hr
    cases ho
theorem scok {vs : List Int} {x : Int} (h : vs.Nodup ∧ ∀ y ∈ vs, y = 1 ∨ y = 2) (hx : x = 1 ∨ x = 2) (hn : x ∉ vs) : (vs ++ [x]).Nodup ∧ ∀ y ∈ vs ++ [x], y = 1 ∨ y = 2 := by
  refine ⟨List.nodup_append.2 ⟨h.1, by simp, fun a ha b hb e => ?_⟩, fun y hy => ?_⟩
  · obtain rfl : b = x := by simpa using hb
    subst e
    exact hn ha
  · rcases List.mem_append.1 hy with h1 | h1
    · exact h.2 y h1
    · obtain rfl : y = x := by simpa using h1
      exact hx
theorem vs_len {vs : List Int} (h : vs.Nodup ∧ ∀ y ∈ vs, y = 1 ∨ y = 2) : vs.length ≤ 2 := by
  match vs, h with
  | [], _ => simp
  | [a], _ => simp
  | [a, b], _ => simp
  | a :: b :: c :: r, ⟨h1, h2⟩ =>
    have ha := h2 a (by simp)
    have hb := h2 b (by simp)
    have hc := h2 c (by simp)
    simp only [List.nodup_cons, List.mem_cons, not_or] at h1
    omega
theorem vs_two {vs : List Int} (h : vs.Nodup ∧ ∀ y ∈ vs, y = 1 ∨ y = 2) (h1 : (1 : Int) ∈ vs) (h2 : (2 : Int) ∈ vs) : vs = [1, 2] ∨ vs = [2, 1] := by
  have hl := vs_len h
  match vs, h with
  | [], _ => cases h1
  | [a], _ =>
    have e1 : (1 : Int) = a := by simpa using h1
    have e2 : (2 : Int) = a := by simpa using h2
    omega
  | [a, b], ⟨hn, ha⟩ =>
    have q1 := ha a (by simp)
    have q2 := ha b (by simp)
    have q3 : a ≠ b := by simp only [List.nodup_cons, List.mem_cons, List.not_mem_nil, or_false] at hn; exact hn.1
    rcases q1 with rfl | rfl <;> rcases q2 with rfl | rfl
    · exact absurd rfl q3
    · exact .inl rfl
    · exact .inr rfl
    · exact absurd rfl q3
  | a :: b :: c :: r, _ => simp at hl
/-- What Scan hands back. -/
def ScanOut (ok : Bool) (n : Int) (w : World) (e : Ending) (w' : World) : Prop :=
  (∃ p m c, e = .returned (.slice p m c) ∧ (ok = true → m = 2 ∧ ∃ (g : Nat) (s0 s1 : Int), p = some ⟨g, 0, none⟩ ∧ w'.cell? ⟨g, 0, none⟩ = some (.int .i64 n) ∧ w'.cell? ⟨g, 2, none⟩ = some (.int .i64 s0) ∧ w'.cell? ⟨g, 3, none⟩ = some (.int .i64 n) ∧ w'.cell? ⟨g, 5, none⟩ = some (.int .i64 s1) ∧ s1 ≤ s0)) ∧ Below w.heap.size w w'
theorem bk_obj {w w' : World} {b r : Nat} {T : TypeId} {cs : Array Value} {o : Obj} (h : BkAt b T cs w) (hg : w.grownBy w' (some r)) (hr : w.heap[r]? = some o) (ho : o.isCells = false) : BkAt b T cs w' := by
  refine (hg.block b h.lt (fun e => ?_)).trans h
  have e2 := Option.some.inj e
  rw [← e2, show w.heap[b]? = _ from h] at hr
  cases hr
  cases ho
set_option maxRecDepth 100000 in
set_option linter.unusedSimpArgs false in
set_option maxHeartbeats 4000000 in
theorem scan_P {l : List UInt8} {z k : Nat} {nv fv : Value} {w : World} (h : SnAt l z nv fv w) (hl0 : 0 < l.length) (hz : z ≤ l.length) (hk : 1 ≤ k) (hk2 : k ≤ 64) (ok : Bool) (hok : ok = true → k ≤ l.length - z) (hno : ok = false → l.length < k) :
    Calls Try.prog 10 #[.agg #[nv, fv, .slice none 0 0], .string bsP, .int .i64 (k : Int)] w (ScanOut ok (numK l k) w) := by
  have hbn := below_new w (.cells #[nv, fv, .slice none 0 0] 33)
  have hbx := BkAt.new 33 #[nv, fv, .slice none 0 0] w
  have h1 := h.below hbn
  obtain ⟨⟨na, nm, nc, rfl⟩, fa, fm, fc, rfl⟩ : (∃ a m c, nv = .slice a m c) ∧ ∃ a m c, fv = .slice a m c := by
    obtain ⟨dv, dv2, q1, -, -⟩ := h
    exact ⟨row_slice q1.n, row_slice q1.f⟩
  have hwan : Calls Try.prog 16 #[.agg #[.slice na nm nc, .slice fa fm fc, .slice none 0 0], .string bsP] (w.alloc (.cells #[.slice na nm nc, .slice fa fm fc, .slice none 0 0] 33)) (WanOut (w.alloc (.cells #[.slice na nm nc, .slice fa fm fc, .slice none 0 0] 33))) := by
    obtain ⟨dv, dv2, q1, -, -⟩ := h1
    exact wanted_P q1
  have H := Lib.hid (And.intro hwan (And.intro hbx (And.intro hbn h)))
  clear hwan hbx hbn h h1
  go_enter Try.func10, Try.ntmps10
  go_wp2_with fail
  refine H.out.1.mono ?_
  rintro e w1 ⟨B, rfl, hown, hB, hb1⟩
  obtain ⟨fb, hfb⟩ : ∃ b, w.heap.size = b := ⟨_, rfl⟩
  have hsz1 : w.heap.size + 1 ≤ B := by simpa using hB
  have H1 := Lib.hid (And.intro hown (And.intro hsz1 (And.intro (H.out.2.1.below hb1) (bl_trans' H.out.2.2.1 hb1))))
  clear hown hB hb1 hsz1
  go_wp2_with (at_range; refine wpList_range_own _ rfl _ 55 rfl 3 9 law3 Try.underlying55 heldR B 2 (mapP 2) rfl H1.out.1 ?_; intro w2 hrg hg2 hs2)
  go_frame
  have hk0 : Lf [] = Maps.has (mapP 2) := lf_nil.symm
  rw [← hk0] at hrg
  obtain ⟨r, hr⟩ : ∃ r, w1.heap.size = r := ⟨_, rfl⟩
  have hsr : w.heap.size ≤ r := hr ▸ H1.out.2.2.2.size
  rw [hr] at hrg
  simp only [hr]
  have hg2b : Below w1.heap.size w1 w2 := ⟨hg2.os, hg2.tape, hg2.output, World.grownBy.size hg2, fun i hi => World.grownBy.block hg2 i hi (by simp)⟩
  have hI0 : ScI w l z ok (numK l k) (.slice na nm nc) (.slice fa fm fc) w.heap.size B r (.slice none 0 0) [] _ w2 := ⟨hrg, by cases ok <;> exact World.ownsRow_nil _ _ _ _, H1.out.2.2.1.below hg2b, ⟨List.nodup_nil, fun x hx => by cases hx⟩, ⟨by have := H1.out.2.1; omega, hsr, Nat.le_refl _⟩, bl_trans' H1.out.2.2.2 hg2b⟩
  have HI0 := Lib.hid hI0
  clear hI0 hrg hg2 hs2 hg2b hk0 hr
  simp only [hfb] at HI0 ⊢
  have HFB := Lib.hid hfb
  clear hfb
  go_loopw [7] (fun lv wr => ∃ (vs : List Int) (cnt : Nat), ScI w l z ok (numK l k) (.slice na nm nc) (.slice fa fm fc) fb B r lv vs cnt wr) (fun _ wr => wr.rangeLeft B r)
  case atStart => exact ⟨[], _, HI0.out⟩
  case round =>
    obtain ⟨vs, cnt, hI⟩ := hrel
    obtain ⟨la, lm, lc, rfl⟩ := row_slice hI.row
    have HI := Lib.hid hI
    clear hI
    go_wp2_with (at_next; refine wpList_next_ranges _ rfl _ rfl 3 law3 heldR (Value.int .i64) (fun v : Value => v) (fun key kl hkey => by obtain ⟨x, rfl, _⟩ := Maps.keyOf_int_inv Try.underlying3 hkey; exact ⟨x, rfl⟩) (fun v y hv => ⟨v, rfl⟩) B r 2 (mapP 2) (Lf vs) cnt rfl HI.out.hr ?_ ?_)
    · intro hc0 hlf
      obtain ⟨h1, h2⟩ := lf_done hlf
      have htwo := vs_two HI.out.ok h1 h2
      clear h1 h2 hlf hc0
      cases ok with
      | false =>
        have hrow : wr.ownsRow w.heap.size 45 3 (.slice la lm lc) 0 [] := HI.out.row
        obtain ⟨p, c, he⟩ : ∃ p c, Value.slice la lm lc = .slice p 0 c := by
          rcases row_form hrow with ⟨h1, -⟩ | ⟨g, cap, h1, -⟩
          · exact ⟨_, _, h1⟩
          · exact ⟨_, _, h1⟩
        have HS := Lib.hid (sort_none p c (.func (.func 19) #[] #[]) wr)
        clear hrow
        rw [he]
        clear he
        go_wp2_with fail
        with_reducible refine HS.out.mono ?_
        rintro e w5 ⟨rfl, rfl⟩
        go_wp2
        go_ret
        exact ⟨⟨_, _, _, rfl, fun h => by cases h⟩, HI.out.bw⟩
      | true =>
        obtain ⟨x1, x2, hrow⟩ : ∃ x1 x2 : Int, wr.ownsRow w.heap.size 45 3 (.slice la lm lc) 2 (encS (numK l k, x1, (lenS l z x1 : Int)) ++ encS (numK l k, x2, (lenS l z x2 : Int))) := by
          have h := HI.out.row
          rcases htwo with e | e
          · rw [e] at h; exact ⟨1, 2, h⟩
          · rw [e] at h; exact ⟨2, 1, h⟩
        obtain ⟨g, cap, he⟩ : ∃ g cap, Value.slice la lm lc = .slice (some ⟨g, 0, none⟩) 2 cap := by
          rcases row_form hrow with ⟨-, h1⟩ | ⟨g, cap, h1, -⟩
          · cases h1
          · exact ⟨_, _, h1⟩
        rw [he] at hrow ⊢
        have HS := Lib.hid (sort_two g cap w.heap.size _ _ wr hrow HI.out.bw.size)
        clear hrow he htwo
        go_wp2_with fail
        with_reducible refine HS.out.mono ?_
        rintro e w5 ⟨rfl, ⟨a, b, ha, hb, hlt, hc⟩, hbw⟩
        have hout : ScanOut true (numK l k) w (.returned (.slice (some ⟨g, 0, none⟩) 2 cap)) w5 := by
          have ha1 : a.1 = numK l k := by rcases ha with rfl | rfl <;> rfl
          have hb1 : b.1 = numK l k := by rcases hb with rfl | rfl <;> rfl
          have c0 := hc 0 (by omega)
          have c2 := hc 2 (by omega)
          have c3 := hc 3 (by omega)
          have c5 := hc 5 (by omega)
          rw [ltS_not] at hlt
          refine ⟨⟨_, _, _, rfl, fun _ => ⟨rfl, g, a.2.2, b.2.2, rfl, ?_, c2, ?_, c5, by omega⟩⟩, HI.out.bw.trans hbw⟩
          · rw [c0, ← ha1]; rfl
          · rw [c3, ← hb1]; rfl
        have HO := Lib.hid hout
        clear hout hc hlt ha hb hbw
        go_wp2
        go_ret
        exact HO.out
    · intro x c kl ya yb w3 cnt3 hkx hlx hRx hat hrg3 hlt3 hg3 hs3 hen
      obtain rfl : kl = kL x := by
        obtain ⟨x', ex, e2, -⟩ := Maps.keyOf_int_inv Try.underlying3 hkx
        cases ex
        exact e2
      obtain ⟨hx12, hxn⟩ := lf_key hlx
      obtain ⟨es, ck, rs, hB, hrr, hrc⟩ := ranges_obj HI.out.hr
      rw [lf_step] at hrg3
      have hrow3 := row_obj HI.out.row hg3 hrr hrc
      have hb3 := bk_obj HI.out.b hg3 hrr hrc
      have hbw3 : Below w.heap.size w w3 := HI.out.bw.grown hg3 HI.out.bw.size (fun i hi => by cases hi; exact HI.out.lb.2.1)
      have hcnt := HI.out.hr.left_eq
      have hS3 := H.out.2.2.2.below hbw3
      have hrd := read_S hS3 hl0 hz x hx12
      have HR := Lib.hid (And.intro hrg3 (And.intro hrow3 (And.intro hb3 (And.intro hbw3 (And.intro hrd (And.intro hlt3 (And.intro hcnt (And.intro hx12 hxn))))))))
      have c0 : w3.cell? ⟨fb, 0, none⟩ = some (.slice na nm nc) := hb3.cell 0
      have c1 : w3.cell? ⟨fb, 1, none⟩ = some (.slice fa fm fc) := hb3.cell 1
      have c2 : w3.cell? ⟨fb, 2, none⟩ = some (.slice none 0 0) := hb3.cell 2
      clear hrg3 hrow3 hb3 hbw3 hrd hlt3 hcnt hx12 hxn hB hrr hrc hS3 hkx hlx hat hg3 hs3
      go_wp2_with fail
      with_reducible refine HR.out.2.2.2.2.1.mono ?_
      rintro e w4 ⟨da, dc, f1, f2, lf, rfl, hby, hb4⟩
      have hlen : lenS l z x ≤ l.length := by unfold lenS; split <;> omega
      obtain ⟨m, hm⟩ : ∃ m, lenS l z x = m := ⟨_, rfl⟩
      rw [hm] at hby hlen ⊢
      have htl : (l.take m).length = m := by rw [List.length_take]; omega
      have hn5 := below_new w4 (.cells #[.int .i64 x, .slice da m dc, .bool f1, .bool f2, .int .i64 lf] 58)
      have hby5 := hby.below hn5
      have hb5 := bl_trans' hb4 hn5
      have hr5 : (w4.alloc (.cells #[.int .i64 x, .slice da m dc, .bool f1, .bool f2, .int .i64 lf] 58)).ranges Try.prog 3 heldR B r 2 (mapP 2) (Lf (vs ++ [x])) cnt3 := by
        have g5 : w3.grownBy (w4.alloc (.cells #[.int .i64 x, .slice da m dc, .bool f1, .bool f2, .int .i64 lf] 58)) none := ⟨hb5.os, hb5.tape, hb5.output, hb5.size, fun i hi _ => hb5.block i hi⟩
        exact HR.out.1.kept g5 (by simp) (by simp)
      have hrow5 := row_below HR.out.2.1 hb5
      have hbk5 := HR.out.2.2.1.below hb5
      have hbw5 : Below w.heap.size w (w4.alloc (.cells #[.int .i64 x, .slice da m dc, .bool f1, .bool f2, .int .i64 lf] 58)) := bl_trans' HR.out.2.2.2.1 hb5
      have hfk := BkAt.new 58 #[.int .i64 x, .slice da m dc, .bool f1, .bool f2, .int .i64 lf] w4
      obtain ⟨w5, hw5⟩ : ∃ y, w4.alloc (.cells #[.int .i64 x, .slice da m dc, .bool f1, .bool f2, .int .i64 lf] 58) = y := ⟨_, rfl⟩
      obtain ⟨b9, hb9⟩ : ∃ y, w4.heap.size = y := ⟨_, rfl⟩
      rw [hw5] at hby5 hr5 hrow5 hbk5 hbw5 hfk
      rw [hb9] at hfk
      have HK := Lib.hid (And.intro hr5 (And.intro hrow5 (And.intro hbk5 (And.intro hbw5 (And.intro hfk (And.intro hw5 (And.intro hb9 hm)))))))
      clear hr5 hrow5 hbk5 hbw5 hn5 hb5 hw5 hb4 hby hm c0 c1 c2
      cases ok with
      | false =>
        have hnu := number_no da m dc (k : Int) w5 (by have := hno rfl; omega)
        have HNU := Lib.hid hnu
        clear hnu
        go_wp2_with fail
        rw [HK.out.2.2.2.2.2.1]
        with_reducible refine HNU.out.mono ?_
        rintro e w6 ⟨rfl, rfl⟩
        clear hb9
        go_wp2
        go_roundw
        case rel => exact ⟨vs ++ [x], cnt3, HK.out.1, HK.out.2.1, HK.out.2.2.1, scok HI.out.ok HR.out.2.2.2.2.2.2.2.1 HR.out.2.2.2.2.2.2.2.2, HI.out.lb, HK.out.2.2.2.1⟩
        case measure => rw [HK.out.1.left_eq, HR.out.2.2.2.2.2.2.1]; exact HR.out.2.2.2.2.2.1
      | true =>
        have hmk : k ≤ m := by
          have h1 := hok rfl
          have h2 : l.length - z ≤ lenS l z x := by unfold lenS; split <;> omega
          have h3 := HK.out.2.2.2.2.2.2.2
          omega
        have hnu := number_yes (.slice da m dc) (l.take m) k w5 hby5 hk hk2 (by omega)
        rw [numK_take (l.take m) l k (fun i hi => by rw [List.getElem?_take, if_pos (by omega)])] at hnu
        obtain ⟨nn, hnn⟩ : ∃ nn, numK l k = nn := ⟨_, rfl⟩
        rw [hnn] at hnu
        have hv2 := vs_len HI.out.ok
        have y1 : w5.cell? ⟨b9, 1, none⟩ = some (.slice da m dc) := HK.out.2.2.2.2.1.cell 1
        have HNU := Lib.hid (And.intro hnu hnn)
        clear hnu hnn
        go_wp2_with fail
        rw [HK.out.2.2.2.2.2.1]
        with_reducible refine HNU.out.1.mono ?_
        rintro e w6 ⟨rfl, rfl⟩
        clear hb9
        obtain ⟨i0, hi, hz0, hz1, hz2⟩ := info_parts infoSn
        go_wp2_with (at_builtin; refine wpList_append_own_at _ rfl (.tmp 35) (.tmp 42) 41 rfl w.heap.size 45 i0 (.agg #[.int .i64 0, .int .i64 0, .int .i64 0]) 3 24 Try.underlying41 hi hz0 hz1 hz2 rfl (by decide) _ vs.length _ rfl (row_below HK.out.2.1 (below_new _ _)) ⟨w5.heap.size, 0, none⟩ 1 1 [.int .i64 nn, .int .i64 x, .int .i64 (m : Int)] rfl rfl ?c1 ?c2 ?c3 ?c4 ?c5 ?_)
        case c1 =>
          intro j u hj
          rw [Addr.add_lit, Nat.zero_add, Lib.cell_of_heap (heap_alloc_new w5 _)]
          simpa using hj
        case c2 =>
          intro u hu
          simp only [List.mem_cons, List.not_mem_nil, or_false] at hu
          rcases hu with rfl | rfl | rfl <;> rfl
        case c3 => unfold maxLen; omega
        case c4 => omega
        case c5 => have h2 := HK.out.2.2.2.1.size; simp; omega
        intro v' w7 hown hgrow _ _
        obtain ⟨es7, ck7, rs7, hB7, hr7, hrc7⟩ := ranges_obj HK.out.1
        have hR7 := (HK.out.1.alloc (.cells #[.int .i64 nn, .int .i64 x, .int .i64 (m : Int)] 45)).kept hgrow (row_own_ne HK.out.2.1 hB7 rfl) (row_own_ne HK.out.2.1 hr7 hrc7)
        have hbk7 : BkAt fb 33 #[.slice na nm nc, .slice fa fm fc, .slice none 0 0] w7 := (hgrow.block fb (by have := HK.out.2.2.1.lt; simp; omega) (fun e => row_ne HK.out.2.1 HK.out.2.2.1 (by decide) e.symm rfl)).trans ((Below.heap_alloc _ _ fb HK.out.2.2.1.lt).trans HK.out.2.2.1)
        have hbw7 : Below w.heap.size w w7 := (HK.out.2.2.2.1.alloc HK.out.2.2.2.1.size _).grown hgrow (by have := HK.out.2.2.2.1.size; simp; omega) (fun gg hgg => (World.ownsRow.lt HK.out.2.1 gg hgg).1)
        have hrow7 : w7.ownsRow w.heap.size 45 3 v' (selB true (vs ++ [x])).length ((selB true (vs ++ [x])).flatMap (seenV l z (numK l k))) := by
          show w7.ownsRow w.heap.size 45 3 v' (vs ++ [x]).length ((vs ++ [x]).flatMap (seenV l z (numK l k)))
          rw [List.flatMap_append, List.length_append]
          have e : List.flatMap (seenV l z (numK l k)) [x] = [.int .i64 nn, .int .i64 x, .int .i64 (m : Int)] := by
            rw [← HNU.out.2, ← HK.out.2.2.2.2.2.2.2]
            simp [seenV, encS]
          rw [e]
          exact hown
        have HW := Lib.hid (And.intro hR7 (And.intro hbk7 (And.intro hbw7 hrow7)))
        clear hown hgrow hR7 hbk7 hbw7 hrow7 hB7 hr7
        go_wp2
        go_roundw
        case rel => exact ⟨vs ++ [x], cnt3, HW.out.1, HW.out.2.2.2, HW.out.2.1, scok HI.out.ok HR.out.2.2.2.2.2.2.2.1 HR.out.2.2.2.2.2.2.2.2, HI.out.lb, HW.out.2.2.1⟩
        case measure => rw [HW.out.1.left_eq, HR.out.2.2.2.2.2.2.1]; exact HR.out.2.2.2.2.2.1
end Go.Proofs.Ytbpboghjgbgjfaa
