/- The contracts of the formatter's item, brackets and class. The contracts of the formatter's brackets and class. The contract of the formatter's class. The contract of the formatter's bounds. -/
import Derived.Test.YtbadhhfnbgaamaaDoorPatBld
import Derived.Test.YtbadhhfnbgaamaaDoorPatSetOf
import Derived.Test.YtbadhhfnbgaamaaDoorPatHas
import Derived.Test.YtbadhhfnbgaamaaDoorPatRgs
import Derived.Test.YtbadhhfnbgaamaaDoorDecimal
import Derived.Test.YtbadhhfnbgaamaaDoorPatTrip
namespace Go.Proofs.YtbadhhfnbgaamaaDoor
open Go.RowKit

theorem wByte (B b : Nat) (l : List UInt8) (er z : Int) (k : Nat) (hz : z = k) (hk : k < 256) (w : World) (h : Fm B b l er w) (hlen : l.length ≤ 1000000) :
    Calls Tryd.prog 25 #[.pointer (some ⟨b, 0, none⟩), .int .u8 z] w fun e w' => e = .returned .nilIface ∧ WOut B b (l ++ [UInt8.ofNat k]) er w w' := by
  have := writeByte_fm B b l er (UInt8.ofNat k) w h hlen
  have e : (UInt8.ofNat k).toNat = k := by rw [UInt8.toNat_ofNat']; omega
  rw [e] at this
  rw [hz]
  exact this
theorem WOut.trans {B b : Nat} {l m : List UInt8} {er er' : Int} {w w1 w2 : World} (h : WOut B b l er w w1) (k : WOut B b m er' w1 w2) : WOut B b m er' w w2 :=
  ⟨k.1, h.2.1.trans k.2.1, h.2.2.1.trans k.2.2.1, k.2.2.2⟩

set_option maxRecDepth 100000 in
set_option maxHeartbeats 2000000 in
theorem item_two (B b : Nat) (l : List UInt8) (er : Int) (c : Nat) (w : World) (h : Fm B b l er w) (hlen : l.length + 10 ≤ 1000000) (hc : c = 10 ∨ c = 9) :
    Calls Tryd.prog 45 #[.pointer (some ⟨b, 0, none⟩), .int .u8 (c : Int)] w fun e w' => e = .returned (.tuple #[]) ∧ WOut B b (l ++ itemF c) er w w' := by
  have H := Lib.hid h
  clear h
  rcases hc with rfl | rfl
  · go_enter Tryd.func45, Tryd.ntmps45
    go_wp2_with fail
    refine (writeStr_fm B b l er ⟨#[92, 110]⟩ w H.out (by omega) (by decide)).mono ?_
    rintro e w1 ⟨⟨r, rfl⟩, hw⟩
    have K := Lib.hid hw
    clear hw
    go_wp2
    go_end0
    exact ⟨rfl, K.out⟩
  · go_enter Tryd.func45, Tryd.ntmps45
    go_wp2_with fail
    refine (writeStr_fm B b l er ⟨#[92, 116]⟩ w H.out (by omega) (by decide)).mono ?_
    rintro e w1 ⟨⟨r, rfl⟩, hw⟩
    have K := Lib.hid hw
    clear hw
    go_wp2
    go_end0
    exact ⟨rfl, K.out⟩

set_option maxRecDepth 100000 in
set_option maxHeartbeats 2000000 in
theorem item_esc_w (B b : Nat) (l : List UInt8) (er : Int) (c : Nat) (w : World) (h : Fm B b l er w) (hlen : l.length + 10 ≤ 1000000) (hc : c = 93 ∨ c = 45 ∨ c = 94 ∨ c = 92) :
    Calls Tryd.prog 45 #[.pointer (some ⟨b, 0, none⟩), .int .u8 (c : Int)] w fun e w' => e = .returned (.tuple #[]) ∧ WOut B b (l ++ itemF c) er w w' := by
  have H := Lib.hid h
  clear h
  have hf : itemF c = [92, UInt8.ofNat c] := by rcases hc with rfl | rfl | rfl | rfl <;> decide
  rw [hf]
  have HF := Lib.hid (fun W (hW : Fm B b (l ++ [92]) er W) => wByte B b (l ++ [92]) er c c rfl (by omega) W hW (by simp; omega))
  have HL := Lib.hid hf
  clear hf
  rcases hc with rfl | rfl | rfl | rfl
  all_goals
    go_enter Tryd.func45, Tryd.ntmps45
    go_wp2_with fail
    refine (wByte B b l er 92 92 rfl (by decide) w H.out (by omega)).mono ?_
    rintro e w1 ⟨rfl, hw⟩
    have K := Lib.hid hw
    clear hw
    go_wp2_with fail
    refine (HF.out _ K.out.1).mono ?_
    rintro e w2 ⟨rfl, hw⟩
    have K2 := Lib.hid hw
    clear hw
    go_wp2
    go_end0
    exact ⟨rfl, by have := K.out.trans K2.out; simpa using this⟩

set_option maxRecDepth 100000 in
set_option maxHeartbeats 2000000 in
theorem item_plain_w (B b : Nat) (l : List UInt8) (er : Int) (c : Nat) (w : World) (h : Fm B b l er w) (hlen : l.length + 10 ≤ 1000000) (hc : c < 256) (h1 : c ≠ 10) (h2 : c ≠ 9) (h3 : ¬ (c = 93 ∨ c = 45 ∨ c = 94 ∨ c = 92)) :
    Calls Tryd.prog 45 #[.pointer (some ⟨b, 0, none⟩), .int .u8 (c : Int)] w fun e w' => e = .returned (.tuple #[]) ∧ WOut B b (l ++ itemF c) er w w' := by
  have hf : itemF c = [UInt8.ofNat c] := by unfold itemF; rw [if_neg h1, if_neg h2, if_neg h3]
  rw [hf]
  have H := Lib.hid (And.intro h hf)
  have e1 : ((c : Int) == 10) = false := by rw [beq_eq_false_iff_ne]; omega
  have e2 : ((c : Int) == 9) = false := by rw [beq_eq_false_iff_ne]; omega
  have e3 : ((c : Int) == 93) = false := by rw [beq_eq_false_iff_ne]; omega
  have e4 : ((c : Int) == 45) = false := by rw [beq_eq_false_iff_ne]; omega
  have e5 : ((c : Int) == 94) = false := by rw [beq_eq_false_iff_ne]; omega
  have e6 : ((c : Int) == 92) = false := by rw [beq_eq_false_iff_ne]; omega
  clear h hf h1 h2 h3
  go_enter Tryd.func45, Tryd.ntmps45
  go_wp2_with fail
  refine (wByte B b l er c c rfl hc w H.out.1 (by omega)).mono ?_
  rintro e w1 ⟨rfl, hw⟩
  have K := Lib.hid hw
  clear hw
  go_wp2
  go_end0
  exact ⟨rfl, K.out⟩
theorem item_fm (B b : Nat) (l : List UInt8) (er : Int) (c : Nat) (w : World) (h : Fm B b l er w) (hlen : l.length + 10 ≤ 1000000) (hc : c < 256) :
    Calls Tryd.prog 45 #[.pointer (some ⟨b, 0, none⟩), .int .u8 (c : Int)] w fun e w' => e = .returned (.tuple #[]) ∧ WOut B b (l ++ itemF c) er w w' := by
  by_cases h1 : c = 10
  · exact item_two B b l er c w h hlen (.inl h1)
  by_cases h2 : c = 9
  · exact item_two B b l er c w h hlen (.inr h2)
  by_cases h3 : c = 93 ∨ c = 45 ∨ c = 94 ∨ c = 92
  · exact item_esc_w B b l er c w h hlen h3
  · exact item_plain_w B b l er c w h hlen hc h1 h2 h3
theorem itemF_len (c : Nat) : (itemF c).length ≤ 2 := by
  unfold itemF; split <;> (try split) <;> (try split) <;> simp
theorem rgF_len (r : Nat × Nat) : (rgF r).length ≤ 5 := by
  have h1 := itemF_len r.1
  have h2 := itemF_len r.2
  unfold rgF
  split <;> simp <;> omega
theorem flatF_len : ∀ (rs : List (Nat × Nat)), (rs.flatMap rgF).length ≤ 5 * rs.length
  | [] => by simp
  | x :: r => by
    have h1 := flatF_len r
    have h2 := rgF_len x
    rw [List.flatMap_cons, List.length_append, List.length_cons]; omega
theorem flat_take (rs : List (Nat × Nat)) (k : Nat) (h : k < rs.length) : (rs.take (k + 1)).flatMap rgF = (rs.take k).flatMap rgF ++ rgF rs[k] := by
  rw [List.take_succ_eq_append_getElem h, List.flatMap_append]; simp
end Go.Proofs.YtbadhhfnbgaamaaDoor

namespace Go.Proofs.YtbadhhfnbgaamaaDoor
open Go.RowKit

def RgKept (B b lo : Nat) (w : World) (v : Value) (rs : List (Nat × Nat)) : Prop := ∀ w', Below B w w' → Others b w w' → RangesIn lo w' v rs
theorem others_box {b X : Nat} {w w' : World} {c : Array Value} (h : Others b w w') (hX : w.heap[X]? = some (.cells c 57 (0, 0))) (hb : X ≠ b) : w'.heap[X]? = some (.cells c 57 (0, 0)) :=
  h X _ hX (by simpa using hb) (by intro c fz e; simp at e)

set_option maxRecDepth 100000 in
set_option maxHeartbeats 8000000 in
theorem brackets_fm (B b lo : Nat) (l : List UInt8) (er : Int) (o : ByteArray) (rs : List (Nat × Nat)) (v : Value) (w : World) (h : Fm B b l er w) (hk0 : RgKept B b lo w v rs)
    (hlen : l.length + 3000 ≤ 1000000) (hrl : rs.length ≤ 257) (ho : o.size ≤ 10) :
    Calls Tryd.prog 32 #[.pointer (some ⟨b, 0, none⟩), .string o, v] w fun e w' => e = .returned (.tuple #[]) ∧ WOut B b (l ++ brF o.data.toList rs) er w w' := by
  have hsz : o.data.toList.length = o.size := sizeB o
  obtain ⟨a, c, rfl, hl, hb, -⟩ := hk0 w (Below.refl _ _) (Lib.OthersKept.refl _ _ _)
  have hc0 : ∀ w', Below B w w' → Others b w w' → ∀ i (h : i < rs.length), ∃ b o, a = some ⟨b, o, none⟩ ∧ w'.cell? ⟨b, o + i * 2, none⟩ = some (.int .u8 (rs[i].1 : Nat)) ∧ w'.cell? ⟨b, o + i * 2 + 1, none⟩ = some (.int .u8 (rs[i].2 : Nat)) := fun w' h1 h2 => by
    obtain ⟨a', c', he, -, -, hc⟩ := hk0 w' h1 h2
    cases he
    exact fun i hi => by obtain ⟨b, o, h1, -, h2⟩ := hc i hi; exact ⟨b, o, h1, h2⟩
  have HC := Lib.hid hc0
  have HB := Lib.hid hb
  have HS := Lib.hid hsz
  have hW := writeStr_fm B b l er o w h (by omega) (by omega)
  have HW := Lib.hid hW
  have hfl := flatF_len
  have HFL := Lib.hid hfl
  clear hc0 hb hk0 hsz hW hfl h hl
  go_enter Tryd.func32, Tryd.ntmps32
  go_wp2_with fail
  refine (HW.out).mono ?_
  rintro e w1 ⟨⟨r, rfl⟩, hw1⟩
  have K1 := Lib.hid hw1
  clear hw1
  go_wp2
  go_loopw [15] (fun i wr => ∃ k : Nat, k ≤ rs.length ∧ i = .int .i64 k ∧ WOut B b (l ++ o.data.toList ++ (rs.take k).flatMap rgF) er w wr) (fun i _ => rs.length - (intOf i).toNat)
  case atStart => exact ⟨0, by omega, rfl, by have := K1.out; simpa using this⟩
  case round =>
    obtain ⟨k, hk, rfl, hat⟩ := hrel
    obtain ⟨W1, rfl⟩ : ∃ W1, W1 = wr := ⟨_, rfl⟩
    have hlk : (l ++ o.data.toList ++ (rs.take k).flatMap rgF).length + 20 ≤ 1000000 := by
      have h1 := HFL.out (rs.take k)
      have h2 := HS.out
      rw [List.length_append, List.length_append, h2]
      rw [List.length_take] at h1
      omega
    by_cases hlt : k < rs.length
    · obtain ⟨bb, oo, rfl, g1, g2⟩ := HC.out W1 hat.2.1 hat.2.2.1 k hlt
      have hst := flat_take rs k hlt
      obtain ⟨x1, x2⟩ := HB.out rs[k] (List.getElem_mem hlt)
      obtain ⟨x, hx⟩ : ∃ x, rs[k].1 = x := ⟨_, rfl⟩
      obtain ⟨y, hy⟩ : ∃ y, rs[k].2 = y := ⟨_, rfl⟩
      have hrg : rgF rs[k] = itemF x ++ if y = x then [] else 45 :: itemF y := by unfold rgF; rw [hx, hy]
      rw [hx] at g1 x1
      rw [hy] at g2 x2
      rw [hrg] at hst
      obtain ⟨L, hL⟩ : ∃ L, l ++ o.data.toList ++ (rs.take k).flatMap rgF = L := ⟨_, rfl⟩
      rw [hL] at hat hlk
      obtain ⟨hfm, hbel, hoth, hBz⟩ := hat
      have hfa := hfm.alloc (.cells #[.int .u8 (x : Int), .int .u8 (y : Int)] 57)
      have hba := hbel.alloc hBz (.cells #[.int .u8 (x : Int), .int .u8 (y : Int)] 57)
      have hoa := hoth.alloc (.cells #[.int .u8 (x : Int), .int .u8 (y : Int)] 57)
      have hbox := heap_alloc_new W1 (.cells #[.int .u8 (x : Int), .int .u8 (y : Int)] 57)
      have hne : W1.heap.size ≠ b := by have := hfm.lt; omega
      have hit1 := item_fm B b L er x _ hfa (by omega) x1
      have hlx := itemF_len x
      have K := Lib.hid (And.intro hst (And.intro hL (And.intro hba (And.intro hoa (And.intro hbox (And.intro hit1 hBz))))))
      clear hst hL hba hoa hbox hit1 hrg hx hy hfa hbel hoth hfm hBz
      go_wp2_with fail
      refine (K.out.2.2.2.2.2.1).mono ?_
      rintro e w2 ⟨rfl, hw2⟩
      have hbox2 := others_box hw2.2.2.1 K.out.2.2.2.2.1 hne
      have q0 : w2.cell? ⟨W1.heap.size, 0, none⟩ = some (.int .u8 (x : Int)) := by rw [Lib.cell_of_heap hbox2]; rfl
      have q1 : w2.cell? ⟨W1.heap.size, 1, none⟩ = some (.int .u8 (y : Int)) := by rw [Lib.cell_of_heap hbox2]; rfl
      by_cases hxy : y = x
      · subst hxy
        have K2 := Lib.hid hw2
        clear hw2 hbox2
        go_wp2
        go_roundw
        case rel =>
          refine ⟨k + 1, by omega, by simp, ?_, K.out.2.2.1.trans K2.out.2.1, K.out.2.2.2.1.trans K2.out.2.2.1, K2.out.2.2.2⟩
          have e5 : l ++ o.data.toList ++ (rs.take (k + 1)).flatMap rgF = L ++ itemF y := by
            rw [K.out.1, ← K.out.2.1]; simp
          rw [e5]
          exact K2.out.1
        case measure => simp [intOf]; omega
      · have e1 : ((y : Int) != (x : Int)) = true := by simp; omega
        have hm : (L ++ itemF x).length + 15 ≤ 1000000 := by rw [List.length_append]; omega
        have hb3 := wByte B b (L ++ itemF x) er 45 45 rfl (by decide) w2 hw2.1 (by omega)
        have K2 := Lib.hid (And.intro hw2 (And.intro hbox2 hb3))
        clear hw2 hbox2 hb3
        go_wp2_with fail
        refine (K2.out.2.2).mono ?_
        rintro e w3 ⟨rfl, hw3⟩
        have hbox3 := others_box hw3.2.2.1 K2.out.2.1 hne
        have q1 : w3.cell? ⟨W1.heap.size, 1, none⟩ = some (.int .u8 (y : Int)) := by rw [Lib.cell_of_heap hbox3]; rfl
        have hm2 : (L ++ itemF x ++ [UInt8.ofNat 45]).length + 10 ≤ 1000000 := by rw [List.length_append, List.length_singleton]; omega
        have hit3 := item_fm B b _ er y w3 hw3.1 hm2 x2
        have K3 := Lib.hid (And.intro hw3 hit3)
        clear hw3 hbox3 hit3
        go_wp2_with fail
        refine (K3.out.2).mono ?_
        rintro e w4 ⟨rfl, hw4⟩
        have K4 := Lib.hid hw4
        clear hw4
        go_wp2
        go_roundw
        case rel =>
          have hT := (K2.out.1.trans K3.out.1).trans K4.out
          refine ⟨k + 1, by omega, by simp, ?_, K.out.2.2.1.trans hT.2.1, K.out.2.2.2.1.trans hT.2.2.1, hT.2.2.2⟩
          have e5 : l ++ o.data.toList ++ (rs.take (k + 1)).flatMap rgF = L ++ itemF x ++ [UInt8.ofNat 45] ++ itemF y := by
            rw [K.out.1, if_neg hxy, ← K.out.2.1]; simp
          rw [e5]
          exact hT.1
        case measure => simp [intOf]; omega
    · obtain rfl : k = rs.length := by omega
      rw [List.take_length] at hat hlk
      have hb3 := wByte B b _ er 93 93 rfl (by decide) W1 hat.1 (by omega)
      have K := Lib.hid (And.intro hat hb3)
      clear hat hb3
      go_wp2_with fail
      refine (K.out.2).mono ?_
      rintro e w2 ⟨rfl, hw2⟩
      have K2 := Lib.hid hw2
      clear hw2
      go_wp2
      go_end0
      refine ⟨rfl, ?_⟩
      have := K.out.1.trans K2.out
      unfold brF
      simpa using this

theorem sep_len : ∀ (l : List (Nat × Nat)) (f : Nat), sepFrom f l = true → (∀ x ∈ l, x.1 < 256 ∧ x.2 < 256) → f ≤ 257 → l.length + f ≤ 257
  | [], f, _, _, h => by simpa using h
  | x :: r, f, h, hb, _ => by
    unfold sepFrom at h
    simp only [Bool.and_eq_true, decide_eq_true_eq] at h
    have hx := hb x (List.mem_cons_self ..)
    have := sep_len r (x.2 + 2) h.2 (fun y hy => hb y (List.mem_cons_of_mem _ hy)) (by omega)
    rw [List.length_cons]; omega
theorem own_others {b base : Nat} {w w' : World} {v : Value} {n : Nat} {xs : List Value} (h : w.ownsRow base 57 2 v n xs) (ho : Others b w w') (hb : b < base) : w'.ownsRow base 57 2 v n xs := by
  obtain ⟨h1, h2⟩ := h
  refine ⟨h1, ?_⟩
  rcases h2 with h2 | ⟨g, cap, cur, hv, hlo, hg, h3⟩
  · exact .inl h2
  · exact .inr ⟨g, cap, cur, hv, hlo, ho g _ hg (by simp; omega) (by intro c fz e; simp at e), h3⟩
theorem others_len (rs : List (Nat × Nat)) : (othersR rs).length ≤ 256 := rangesTo_len (fun c => !(addS (fun _ => false) rs c)) 256
theorem WOut.keep {B b : Nat} {l : List UInt8} {er : Int} {w : World} (h : Fm B b l er w) : WOut B b l er w w := ⟨h, Below.refl _ _, Lib.OthersKept.refl _ _ _, by have := h.lo; have := h.lt; omega⟩
theorem others_below {b : Nat} {w w' : World} (h : Below w.heap.size w w') : Others b w w' := fun k _ hk _ _ => (h.block k (Array.getElem?_eq_some_iff.1 hk).1).trans hk
theorem Fm.below {B b : Nat} {l : List UInt8} {er : Int} {w w' : World} (h : Fm B b l er w) (hb : Below w.heap.size w w') : Fm B b l er w' := by
  have hlt := h.lt
  obtain ⟨p, hp, hB, v, hbk, hown, hne⟩ := h
  refine ⟨p, hp, hB, v, (hb.block b hlt).trans hbk, hown.kept (row := none) ⟨hb.os, hb.tape, hb.output, hb.size, fun i hi _ => hb.block i hi⟩ ?_, hne⟩
  cases v.ownBlock with
  | none => exact .inl rfl
  | some a => exact .inr (by simp)
theorem WOut.below {B b : Nat} {l : List UInt8} {er : Int} {w w1 w2 : World} (h : WOut B b l er w w1) (hb : Below w1.heap.size w1 w2) : WOut B b l er w w2 :=
  ⟨h.1.below hb, h.2.1.trans (hb.mono h.2.2.2), h.2.2.1.trans (others_below hb), Nat.le_trans h.2.2.2 hb.size⟩
end Go.Proofs.YtbadhhfnbgaamaaDoor

namespace Go.Proofs.YtbadhhfnbgaamaaDoor
open Go.RowKit

def errF (b : Bool) (er : Int) : Int := if b = true then 1 else er
set_option maxRecDepth 100000 in
set_option maxHeartbeats 8000000 in
theorem class_fm (B b lo : Nat) (l : List UInt8) (er : Int) (rs : List (Nat × Nat)) (v : Value) (w : World) (h : Fm B b l er w) (hk0 : RgKept B b lo w v rs)
    (hlen : l.length + 3000 ≤ 1000000) (hs : sepN rs = true) :
    Calls Tryd.prog 23 #[.pointer (some ⟨b, 0, none⟩), v] w fun e w' => e = .returned (.tuple #[]) ∧ WOut B b (l ++ classF rs) (errF (badR rs) er) w w' := by
  have hr0 := hk0 w (Below.refl _ _) (Lib.OthersKept.refl _ _ _)
  have hbb : ∀ x ∈ rs, x.1 < 256 ∧ x.2 < 256 := by obtain ⟨a, c, -, -, hb, -⟩ := hr0; exact hb
  have hrl : rs.length ≤ 257 := by
    simp only [sepN, Bool.and_eq_true, decide_eq_true_eq] at hs
    have := sep_len rs 0 hs.1 hbb (by omega); omega
  have hA := areWritable_any lo rs v w hr0
  have hBw : B ≤ w.heap.size := by have := h.lo; have := h.lt; omega
  by_cases hw : wrR rs = true
  · have hbad : badR rs = false := by unfold badR; rw [hw]; rfl
    have hcf : classF rs = brF [91] rs ∧ errF (badR rs) er = er := by
      refine ⟨by unfold classF; rw [if_pos hw], by rw [hbad]; rfl⟩
    rw [hw] at hA
    have hbk : ∀ w1, Below w.heap.size w w1 → _ := fun w1 hb1 => brackets_fm B b lo l er ⟨#[91]⟩ rs v w1 (h.below hb1) (fun w' h1 h2 => hk0 w' ((hb1.mono hBw).trans h1) ((others_below hb1).trans h2)) (by omega) hrl (by decide)
    have H := Lib.hid (And.intro hA (And.intro hbk h))
    have HF := Lib.hid hcf
    clear hA hbk h hk0 hr0 hbb hs hw hbad hcf
    go_enter Tryd.func23, Tryd.ntmps23
    go_wp2_with fail
    refine (H.out.1).mono ?_
    rintro e w1 ⟨rfl, hb1⟩
    have hbk1 := H.out.2.1 w1 hb1
    have K := Lib.hid (And.intro hb1 hbk1)
    clear hb1 hbk1
    go_wp2_with fail
    refine (K.out.2).mono ?_
    rintro e w2 ⟨rfl, hw2⟩
    have K2 := Lib.hid hw2
    clear hw2
    go_wp2
    refine bodyPost_ret (results_none rfl _ _ _) rfl ?_
    rw [HF.out.1, HF.out.2]
    exact ⟨rfl, ((WOut.keep H.out.2.2).below K.out.1).trans K2.out⟩
  · have hw : wrR rs = false := by simpa using hw
    rw [hw] at hA
    have hset : ∀ w1, Below w.heap.size w w1 → _ := fun w1 hb1 => setOf_any lo rs v w1 (hk0 w1 (hb1.mono hBw) (others_below hb1))
    have hoth := fun W => others_any (addS (fun _ => false) rs) W
    have hrgs := fun W => ranges_own (fun c => !(addS (fun _ => false) rs c)) W
    have hbd : badR rs = (decide ((othersR rs).length = 0) || !(wrR (othersR rs))) := by unfold badR; rw [hw]; rfl
    have hol := others_len rs
    have hob : ∀ x ∈ othersR rs, x.1 < 256 ∧ x.2 < 256 := rangesTo_lt (fun c => !(addS (fun _ => false) rs c)) 256 (Nat.le_refl _)
    have hcf : classF rs = (if badR rs = true then [] else brF [91, 94] (othersR rs)) := by unfold classF; rw [if_neg (by rw [hw]; decide)]
    have hrgs' : ∀ W, Calls Tryd.prog 35 #[.agg (rowB fun c => !(addS (fun _ => false) rs c))] W fun e w' => ∃ v, e = .returned v ∧ w'.ownsRow (W.heap.size + 1) 57 2 v (othersR rs).length (rsList (othersR rs)) ∧ Below W.heap.size W w' := hrgs
    obtain ⟨os, hos⟩ : ∃ os, othersR rs = os := ⟨_, rfl⟩
    rw [hos] at hrgs' hol hob hbd hcf
    have HF := Lib.hid (And.intro hcf hbd)
    have H := Lib.hid (And.intro hA (And.intro hset (And.intro hoth (And.intro hrgs' (And.intro h hob)))))
    have hbw := h.lt
    have h0 := h
    clear hA hset hoth hrgs hrgs' h hk0 hr0 hbb hs hw hbd hos hob hcf
    go_enter Tryd.func23, Tryd.ntmps23
    go_wp2_with fail
    refine (H.out.1).mono ?_
    rintro e w1 ⟨rfl, hb1⟩
    have hs1 := H.out.2.1 w1 hb1
    have K1 := Lib.hid (And.intro hb1 hs1)
    clear hb1 hs1
    go_wp2_with fail
    refine (K1.out.2).mono ?_
    rintro e w2 ⟨rfl, hb2⟩
    have K2 := Lib.hid hb2
    clear hb2
    go_wp2_with fail
    refine (H.out.2.2.1 _).mono ?_
    rintro e w3 ⟨rfl, hb3⟩
    have K3 := Lib.hid hb3
    clear hb3
    go_wp2_with fail
    refine (H.out.2.2.2.1 _).mono ?_
    rintro e w4 ⟨ov, rfl, hov, hb4⟩
    have hB14 := ((K1.out.1.trans (K2.out.mono K1.out.1.size)).trans (K3.out.mono (Nat.le_trans K1.out.1.size K2.out.size))).trans (hb4.mono (Nat.le_trans (Nat.le_trans K1.out.1.size K2.out.size) K3.out.size))
    have hz3 : w.heap.size ≤ w3.heap.size := Nat.le_trans (Nat.le_trans K1.out.1.size K2.out.size) K3.out.size
    have hfm4 := H.out.2.2.2.2.1.below hB14
    have hW4 := (WOut.keep H.out.2.2.2.2.1).below hB14
    have hbw4 : b < w3.heap.size + 1 := by omega
    have hown : ∀ w', Others b w4 w' → RangesIn 0 w' ov os := fun w' ho => RangesIn.lower (ranges_of_own (own_others hov ho hbw4) hol H.out.2.2.2.2.2) (Nat.zero_le _)
    obtain ⟨oa, oc, rfl⟩ : ∃ oa oc, ov = .slice oa os.length oc := by
      rcases hov.2 with ⟨hv, h0⟩ | ⟨g, cap, cur, hv, _⟩
      · exact ⟨none, 0, by rw [hv, h0]⟩
      · exact ⟨_, _, hv⟩
    have hA4 := fun W (hW : RangesIn 0 W (.slice oa os.length oc) os) => areWritable_any 0 os (.slice oa os.length oc) W hW
    have her := fun W q (hW : Fm B b l er W) => hW.err q
    have hce := fun W (hW : Fm B b l er W) => hW.erCell
    have hbc := fun W (hW : Fm B b l er W) (hO : ∀ w', Others b W w' → RangesIn 0 w' (.slice oa os.length oc) os) => brackets_fm B b 0 l er ⟨#[91, 94]⟩ os (.slice oa os.length oc) W hW (fun w' _ h2 => hO w' h2) (by omega) (by omega) (by decide)
    have K4 := Lib.hid (And.intro hW4 (And.intro hfm4 (And.intro hown (And.intro hA4 (And.intro hbc hov)))))
    have HE := Lib.hid (And.intro her hce)
    have hlo := h0.lo
    obtain ⟨ol, hoL⟩ : ∃ n, os.length = n := ⟨_, rfl⟩
    have HOL := Lib.hid hoL
    rw [hoL] at K4 hol ⊢
    clear hW4 hfm4 hown hA4 hbc hov her hce hB14 hz3 hb4 hoL
    by_cases hz : ol = 0
    · subst hz
      have hcell := (HE.out.2 w4 K4.out.2.1)
      obtain ⟨q2, q2f⟩ := hcell
      go_wp2
      refine bodyPost_ret (results_none rfl _ _ _) rfl ?_
      refine ⟨rfl, ?_⟩
      have := K4.out.1
      have e2 := HE.out.1 w4 1 K4.out.2.1
      have hbd : badR rs = true := by rw [HF.out.2, HOL.out]; rfl
      rw [HF.out.1, hbd]
      simp only [errF, if_true, List.append_nil]
      exact ⟨e2, this.2.1.setCell (p := ⟨b, 2, none⟩) hlo _, this.2.2.1.setCell ⟨b, 2, none⟩ rfl _, by have := this.2.2.2; simpa [World.setCell] using this⟩
    · have e1 : ((ol : Int) == 0) = false := by rw [beq_eq_false_iff_ne]; omega
      have hA4 := K4.out.2.2.2.1 w4 (K4.out.2.2.1 w4 (Lib.OthersKept.refl _ _ _))
      have hd : decide (os.length = 0) = false := by rw [HOL.out]; simpa using hz
      obtain ⟨wr, hwr⟩ : ∃ x, wrR os = x := ⟨_, rfl⟩
      rw [hwr] at hA4
      have KA := Lib.hid hA4
      have HD := Lib.hid (And.intro hd hwr)
      clear hA4 hwr hd
      cases wr with
      | false =>
        go_wp2_with fail
        refine (KA.out).mono ?_
        rintro e w5 ⟨rfl, hb5⟩
        have hfm5 := K4.out.2.1.below hb5
        have hW5 := K4.out.1.below hb5
        obtain ⟨q2, q2f⟩ := HE.out.2 w5 hfm5
        have K5 := Lib.hid (And.intro hfm5 hW5)
        clear hfm5 hW5 hb5
        go_wp2
        refine bodyPost_ret (results_none rfl _ _ _) rfl ?_
        refine ⟨rfl, ?_⟩
        have := K5.out.2
        have e2 := HE.out.1 w5 1 K5.out.1
        have hbd : badR rs = true := by rw [HF.out.2, HD.out.1, HD.out.2]; rfl
        rw [HF.out.1, hbd]
        simp only [errF, if_true, List.append_nil]
        exact ⟨e2, this.2.1.setCell (p := ⟨b, 2, none⟩) hlo _, this.2.2.1.setCell ⟨b, 2, none⟩ rfl _, by have := this.2.2.2; simpa [World.setCell] using this⟩
      | true =>
        go_wp2_with fail
        refine (KA.out).mono ?_
        rintro e w5 ⟨rfl, hb5⟩
        have hfm5 := K4.out.2.1.below hb5
        have hW5 := K4.out.1.below hb5
        have hbr := K4.out.2.2.2.2.1 w5 hfm5 (fun w' ho => K4.out.2.2.1 w' ((others_below hb5).trans ho))
        have K5 := Lib.hid (And.intro hW5 hbr)
        clear hfm5 hW5 hb5 hbr
        go_wp2_with fail
        refine (K5.out.2).mono ?_
        rintro e w6 ⟨rfl, hw6⟩
        have K6 := Lib.hid hw6
        clear hw6
        go_wp2
        go_end0
        refine ⟨rfl, ?_⟩
        have hbd : badR rs = false := by rw [HF.out.2, HD.out.1, HD.out.2]; rfl
        rw [HF.out.1, hbd]
        simp only [errF, Bool.false_eq_true, if_false]
        exact K5.out.1.trans K6.out
end Go.Proofs.YtbadhhfnbgaamaaDoor

namespace Go.Proofs.YtbadhhfnbgaamaaDoor
open Go.RowKit

theorem itoa_small (x : Nat) (h : x ≤ 40) : (Lib.itoa (x : Int)).length ≤ 2 := by
  rw [dec_small x h]; split <;> simp
theorem wStr (B b : Nat) (l : List UInt8) (er : Int) (s : ByteArray) (m : List UInt8) (hm : s.data.toList = m) (w : World) (h : Fm B b l er w) (hlen : l.length ≤ 1000000) (hs : m.length ≤ 1000000) :
    Calls Tryd.prog 22 #[.pointer (some ⟨b, 0, none⟩), .string s] w fun e w' => (∃ r, e = .returned (.tuple r)) ∧ WOut B b (l ++ m) er w w' := by
  subst hm
  exact writeStr_fm B b l er s w h hlen (by rw [sizeB] at hs; exact hs)
theorem cat_list (a b : ByteArray) : (a ++ b).data.toList = a.data.toList ++ b.data.toList := by simp [ByteArray.data_append]
theorem mk_toList (m : List UInt8) : (ByteArray.mk m.toArray).data.toList = m := rfl

set_option maxRecDepth 100000 in
set_option maxHeartbeats 8000000 in
theorem bounds_fm1 (B b : Nat) (l : List UInt8) (er : Int) (x : Nat) (w : World) (h : Fm B b l er w) (hP : ∀ w', Below B w w' → Pow10 w')
    (hlen : l.length + 100 ≤ 1000000) (hx : x ≤ 40) :
    Calls Tryd.prog 26 #[.pointer (some ⟨b, 0, none⟩), .int .i64 (x : Int), .int .i64 (x : Int)] w fun e w' => e = .returned (.tuple #[]) ∧ WOut B b (l ++ boundsF (x : Int) (x : Int)) er w w' := by
  have hd := fun W (hW : Below B w W) => decimal_any (x : Int) (by omega) (by omega) W (hP W hW)
  have hs := itoa_small x hx
  have hBw : B ≤ w.heap.size := by have := h.lo; have := h.lt; omega
  have hbf : boundsF (x : Int) (x : Int) = 123 :: Lib.itoa (x : Int) ++ [125] := by
    unfold boundsF
    simp
  obtain ⟨m, hm⟩ : ∃ m, Lib.itoa (x : Int) = m := ⟨_, rfl⟩
  rw [hm] at hd hs hbf
  have HB := Lib.hid hbf
  have H := Lib.hid (And.intro h hd)
  clear h hm hbf hd hP
  go_enter Tryd.func26, Tryd.ntmps26
  go_wp2
  go_region_with (first
    | (go_at_call 37; refine (H.out.2 _ ((Below.refl _ _).drew)).mono ?_; rintro e w2 ⟨rfl, hb2⟩)
    | (go_at_call 22; refine (wStr B b l er _ (123 :: m) (cat_list _ _) _ (Fm.below (Fm.drew H.out.1) (by assumption)) (by omega) (by rw [List.length_cons]; omega)).mono ?_; rintro e w3 ⟨⟨r, rfl⟩, hw3⟩))
  have hB2 : Below B w w2 := Below.trans ((Below.refl _ w).drew) (hb2.mono hBw)
  have hoth2 : Others b w w2 := (Lib.OthersKept.refl _ _ w).drew.trans (others_below hb2)
  have hT : WOut B b (l ++ 123 :: m) er w w3 := ⟨hw3.1, hB2.trans hw3.2.1, hoth2.trans hw3.2.2.1, hw3.2.2.2⟩
  have hlm : (l ++ 123 :: m).length + 40 ≤ 1000000 := by rw [List.length_append, List.length_cons]; omega
  have hb3 := wByte B b _ er 125 125 rfl (by decide) w3 hT.1 (by omega)
  have K := Lib.hid (And.intro hT hb3)
  clear hT hb3 hw3 hB2 hoth2 hb2
  go_wp2_with fail
  refine (K.out.2).mono ?_
  rintro e w4 ⟨rfl, hw4⟩
  have K4 := Lib.hid hw4
  clear hw4
  go_wp2
  go_end0
  refine ⟨rfl, ?_⟩
  rw [HB.out]
  have := K.out.1.trans K4.out
  simpa using this
set_option maxRecDepth 100000 in
set_option maxHeartbeats 8000000 in
theorem bounds_fm2 (B b : Nat) (l : List UInt8) (er : Int) (x : Nat) (w : World) (h : Fm B b l er w) (hP : ∀ w', Below B w w' → Pow10 w')
    (hlen : l.length + 100 ≤ 1000000) (hx : x ≤ 40) :
    Calls Tryd.prog 26 #[.pointer (some ⟨b, 0, none⟩), .int .i64 (x : Int), .int .i64 (-1)] w fun e w' => e = .returned (.tuple #[]) ∧ WOut B b (l ++ boundsF (x : Int) (-1)) er w w' := by
  have hd := fun W (hW : Below B w W) => decimal_any (x : Int) (by omega) (by omega) W (hP W hW)
  have hs := itoa_small x hx
  have hBw : B ≤ w.heap.size := by have := h.lo; have := h.lt; omega
  have hbf : boundsF (x : Int) (-1) = 123 :: Lib.itoa (x : Int) ++ [44, 125] := by
    unfold boundsF
    simp [show ¬ (((-1) : Int) = (x : Int)) by omega]
  obtain ⟨m, hm⟩ : ∃ m, Lib.itoa (x : Int) = m := ⟨_, rfl⟩
  rw [hm] at hd hs hbf
  have HB := Lib.hid hbf
  have H := Lib.hid (And.intro h hd)
  clear h hm hbf hd hP
  go_enter Tryd.func26, Tryd.ntmps26
  go_wp2
  go_region_with (first
    | (go_at_call 37; refine (H.out.2 _ ((Below.refl _ _).drew)).mono ?_; rintro e w2 ⟨rfl, hb2⟩)
    | (go_at_call 22; refine (wStr B b l er _ (123 :: m) (cat_list _ _) _ (Fm.below (Fm.drew H.out.1) (by assumption)) (by omega) (by rw [List.length_cons]; omega)).mono ?_; rintro e w3 ⟨⟨r, rfl⟩, hw3⟩))
  have hB2 : Below B w w2 := Below.trans ((Below.refl _ w).drew) (hb2.mono hBw)
  have hoth2 : Others b w w2 := (Lib.OthersKept.refl _ _ w).drew.trans (others_below hb2)
  have hT : WOut B b (l ++ 123 :: m) er w w3 := ⟨hw3.1, hB2.trans hw3.2.1, hoth2.trans hw3.2.2.1, hw3.2.2.2⟩
  have hlm : (l ++ 123 :: m).length + 40 ≤ 1000000 := by rw [List.length_append, List.length_cons]; omega
  have e1 : ((-1 : Int) != (x : Int)) = true := by rw [bne_iff_ne]; omega
  have hb3 := wByte B b _ er 44 44 rfl (by decide) w3 hT.1 (by omega)
  have K := Lib.hid (And.intro hT hb3)
  clear hT hb3 hw3 hB2 hoth2 hb2
  go_wp2_with fail
  refine (K.out.2).mono ?_
  rintro e w4 ⟨rfl, hw4⟩
  have hb4 := wByte B b _ er 125 125 rfl (by decide) w4 hw4.1 (by rw [List.length_append, List.length_singleton]; omega)
  have K4 := Lib.hid (And.intro hw4 hb4)
  clear hw4 hb4
  go_wp2_with fail
  refine (K4.out.2).mono ?_
  rintro e w5 ⟨rfl, hw5⟩
  have K5 := Lib.hid hw5
  clear hw5
  go_wp2
  go_end0
  refine ⟨rfl, ?_⟩
  rw [HB.out]
  have := (K.out.1.trans K4.out.1).trans K5.out
  simpa using this
set_option maxRecDepth 100000 in
set_option maxHeartbeats 8000000 in
theorem bounds_fm3 (B b : Nat) (l : List UInt8) (er : Int) (x : Nat) (y : Nat) (w : World) (h : Fm B b l er w) (hP : ∀ w', Below B w w' → Pow10 w')
    (hlen : l.length + 100 ≤ 1000000) (hx : x ≤ 40) (hy : y ≤ 40) (hxy : x ≠ y) :
    Calls Tryd.prog 26 #[.pointer (some ⟨b, 0, none⟩), .int .i64 (x : Int), .int .i64 (y : Int)] w fun e w' => e = .returned (.tuple #[]) ∧ WOut B b (l ++ boundsF (x : Int) (y : Int)) er w w' := by
  have hd := fun W (hW : Below B w W) => decimal_any (x : Int) (by omega) (by omega) W (hP W hW)
  have hs := itoa_small x hx
  have hBw : B ≤ w.heap.size := by have := h.lo; have := h.lt; omega
  have hdy := fun W (hW : Below B w W) => decimal_any (y : Int) (by omega) (by omega) W (hP W hW)
  have hsy := itoa_small y hy
  have hbf : boundsF (x : Int) (y : Int) = 123 :: Lib.itoa (x : Int) ++ (44 :: Lib.itoa (y : Int) ++ [125]) := by
    unfold boundsF
    simp [show ¬ (((y : Int) : Int) = (x : Int)) by omega, show ¬ (((y : Int) : Int) = -1) by omega]
  obtain ⟨m, hm⟩ : ∃ m, Lib.itoa (x : Int) = m := ⟨_, rfl⟩
  rw [hm] at hd hs hbf
  obtain ⟨my, hmy⟩ : ∃ m, Lib.itoa (y : Int) = m := ⟨_, rfl⟩
  rw [hmy] at hdy hsy hbf
  have HY := Lib.hid hdy
  have HB := Lib.hid hbf
  have H := Lib.hid (And.intro h hd)
  clear h hm hbf hd hP hmy hdy
  go_enter Tryd.func26, Tryd.ntmps26
  go_wp2
  go_region_with (first
    | (go_at_call 37; refine (H.out.2 _ ((Below.refl _ _).drew)).mono ?_; rintro e w2 ⟨rfl, hb2⟩)
    | (go_at_call 22; refine (wStr B b l er _ (123 :: m) (cat_list _ _) _ (Fm.below (Fm.drew H.out.1) (by assumption)) (by omega) (by rw [List.length_cons]; omega)).mono ?_; rintro e w3 ⟨⟨r, rfl⟩, hw3⟩))
  have hB2 : Below B w w2 := Below.trans ((Below.refl _ w).drew) (hb2.mono hBw)
  have hoth2 : Others b w w2 := (Lib.OthersKept.refl _ _ w).drew.trans (others_below hb2)
  have hT : WOut B b (l ++ 123 :: m) er w w3 := ⟨hw3.1, hB2.trans hw3.2.1, hoth2.trans hw3.2.2.1, hw3.2.2.2⟩
  have hlm : (l ++ 123 :: m).length + 40 ≤ 1000000 := by rw [List.length_append, List.length_cons]; omega
  have e1 : ((y : Int) != (x : Int)) = true := by simp; omega
  have e2 : ((y : Int) != -1) = true := by simp
  have hb3 := wByte B b _ er 44 44 rfl (by decide) w3 hT.1 (by omega)
  have K := Lib.hid (And.intro hT hb3)
  clear hT hb3 hw3 hB2 hoth2 hb2
  go_wp2_with fail
  refine (K.out.2).mono ?_
  rintro e w4 ⟨rfl, hw4⟩
  have hT4 := K.out.1.trans hw4
  have hB4 := hT4.2.2.2
  have K4 := Lib.hid hT4
  clear hw4 hT4
  go_wp2
  go_region_with (first
    | (go_at_call 37; refine (HY.out _ (K4.out.2.1.trans ((Below.refl _ _).drew))).mono ?_; rintro e w5 ⟨rfl, hb5⟩)
    | (go_at_call 22; refine (wStr B b _ er _ my rfl _ (Fm.below (Fm.drew K4.out.1) (by assumption)) (by simp; omega) (by omega)).mono ?_; rintro e w6 ⟨⟨r, rfl⟩, hw6⟩))
  have hT6 := (K4.out.below (Below.trans ((Below.refl _ w4).drew) hb5)).trans hw6
  have hb6 := wByte B b _ er 125 125 rfl (by decide) w6 hT6.1 (by simp; omega)
  have K6 := Lib.hid (And.intro hT6 hb6)
  clear hT6 hb6 hw6 hb5
  go_wp2_with fail
  refine (K6.out.2).mono ?_
  rintro e w7 ⟨rfl, hw7⟩
  have K7 := Lib.hid hw7
  clear hw7
  go_wp2
  go_end0
  refine ⟨rfl, ?_⟩
  rw [HB.out]
  have := K6.out.1.trans K7.out
  simpa using this
theorem bounds_fm (B b : Nat) (l : List UInt8) (er : Int) (x y : Int) (w : World) (h : Fm B b l er w) (hP : ∀ w', Below B w w' → Pow10 w')
    (hlen : l.length + 100 ≤ 1000000) (hb : boundsB x y = true) :
    Calls Tryd.prog 26 #[.pointer (some ⟨b, 0, none⟩), .int .i64 x, .int .i64 y] w fun e w' => e = .returned (.tuple #[]) ∧ WOut B b (l ++ boundsF x y) er w w' := by
  obtain ⟨a, ha, rfl, hy⟩ := bounds_cases hb
  rcases hy with rfl | ⟨c, hc, hac, rfl⟩
  · exact bounds_fm2 B b l er a w h hP hlen ha
  · by_cases he : a = c
    · subst he; exact bounds_fm1 B b l er a w h hP hlen ha
    · exact bounds_fm3 B b l er a c w h hP hlen ha hc he
end Go.Proofs.YtbadhhfnbgaamaaDoor
