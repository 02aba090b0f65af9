/-
  P101: every things that are put, one behind the other: the walk of the statement PackPuts.
-/
import Derived.Test.YtadcmjcafimkeaaDoorPuts1
namespace Go.Proofs.YtadcmjcafimkeaaDoor.P1
open Go Go.RowKit Go.Lib

theorem PutIs.alloc {w : World} {b : Nat} {xs : List UInt8} {bad : Int} (h : PutIs w b xs bad) (o : Obj) : PutIs (w.alloc o) b xs bad := h.below ((Below.refl _ _).alloc (Nat.le_refl _) o)
theorem PutIs.drewN {w : World} {b : Nat} {xs : List UInt8} {bad : Int} (h : PutIs w b xs bad) (n : Nat) : PutIs (w.drewN n) b xs bad := h
theorem kept_cells {w w' : World} {c o : Nat} {K N : Int} {S : ByteArray} (h : w.heap[o]? = some (.cells #[.int .i64 K, .int .i64 N, .string S] 31 (0, 0))) (f : Fr c w w') (hne : o ≠ c) :
    w'.cell? ⟨o, 1, none⟩ = some (.int .i64 N) ∧ w'.cell? ⟨o, 2, none⟩ = some (.string S) := by
  have h1 := f.keeps _ _ _ _ h (by decide) hne
  exact ⟨by rw [cell_at h1]; rfl, by rw [cell_at h1]; rfl⟩
theorem puts_end {w wr v1 v2 : World} {p : Nat} (h : Below w.heap.size w wr) (hp : w.heap.size ≤ p) (f1 : Fr p wr v1) (b2 : Below v1.heap.size v1 v2) (n : Nat) : Below w.heap.size w (v2.drewN n) := by
  have h1 := h.trans (f1.below.mono hp)
  have h2 := h1.trans (b2.mono h1.size)
  exact ⟨h2.os, h2.tape, h2.output, h2.size, h2.block⟩
theorem rLow_comp (w : World) (v : Int) : Calls Tryd.prog 17 #[.int .u64 (IntKind.u64.wrap v), .int .i64 8] w fun r w' => r = .returned (.string (str (low 8 (comp v)))) ∧ Below w.heap.size w w' := by
  rw [wrap_comp]; exact rLow_any w (comp v) 8 (comp_lt v) (by omega)

/-- a round's facts, whatever kind the thing has -/
def Room (f : Nat → OpD) (k : Nat) (xs : List UInt8) (W : ByteArray) : Prop := xs.length ≤ 10 * k + total f k ∧ W.size ≤ 10 * k + total f k
theorem Room.next {f : Nat → OpD} {k m : Nat} {xs xs' : List UInt8} {W W' : ByteArray} (h : Room f k xs W) (h1 : xs'.length ≤ xs.length + m) (h2 : W'.size ≤ W.size + m) (hm : m ≤ 10 + (f k).s.size) : Room f (k + 1) xs' W' := by
  obtain ⟨a, b⟩ := h
  have e : total f (k + 1) = total f k + (f k).s.size := rfl
  exact ⟨by omega, by omega⟩

set_option maxRecDepth 100000 in
set_option maxHeartbeats 6400000 in
theorem puts_in (w : World) (v : Value) (L : Nat) (f : Nat → OpD) (h : OpsIn w v L f) (h60 : L ≤ 60) (h20 : total f L ≤ 20000) (hl : Calls Tryd.prog 10 #[v] w fun r w' => r = .returned (.bool true) ∧ w = w') (hp : Pow w) :
    Calls Tryd.prog 3 #[v] w fun r w' => r = .returned (.bool true) ∧ Below w.heap.size w w' := by
  have K := Lib.hid (alive_any w hp)
  have HL := Lib.hid hl
  obtain ⟨a, c, rfl, _, hc⟩ := h
  have h0 : ∀ w0 : World, PutIs (w0.alloc (.cells #[.slice none 0 0, .pointer none, .int .i64 0] 29)) w0.heap.size [] 0 := fun w0 => .inr ⟨new_at w0 _ _, rfl⟩
  have H0 := Lib.hid h0
  obtain ⟨j, hj⟩ := Option.isSome_iff_exists.1 infoPut
  have kp := fun (w' : World) (p : Nat) => run_neq_ptr_same w' ⟨p, 0, none⟩ Tryd.underlying25 hj
  clear hj
  clear hp hl h0
  go_enter Tryd.func3, Tryd.ntmps3
  go_wp2_with (first
    | (go_at_call 10; refine HL.out.mono ?_; rintro e w0 ⟨rfl, rfl⟩)
    | (go_at_call 11; refine K.out.mono ?_; rintro e w1 ⟨rfl, hb1⟩))
  have hP3 := H0.out w1
  have hb3 : Below w.heap.size w (w1.alloc (.cells #[.slice none 0 0, .pointer none, .int .i64 0] 29)) := hb1.alloc hb1.size _
  have hge : w.heap.size ≤ w1.heap.size := hb1.size
  go_loopw [4, 5, 6] (fun wt bv i wr => ∃ (k : Nat) (W : ByteArray) (xs : List UInt8) (bd : Int), k ≤ L ∧ i = .int .i64 k ∧ wt = .string W ∧ bv = .int .i64 bd ∧ PutIs wr w1.heap.size xs bd ∧ Hid (bd = 0 → W = str xs) ∧ Room f k xs W ∧ Below w.heap.size w wr) (fun _ _ i _ => L - (RowKit.intOf i).toNat)
  case atStart => exact ⟨0, ⟨#[]⟩, [], 0, Nat.zero_le _, rfl, rfl, rfl, hP3, fun _ => rfl, ⟨Nat.zero_le _, Nat.zero_le _⟩, hb3⟩
  case round =>
    clear hP3 hb3 hb1 K HL H0
    obtain ⟨k, W, xs, bd, hk, rfl, rfl, rfl, hP, hWH, hroom, hB⟩ := hrel
    have hpl := hP.lt
    obtain ⟨p, hpe⟩ : ∃ p, p = w1.heap.size := ⟨_, rfl⟩
    by_cases hlt : k < L
    · obtain ⟨b, off, rfl, hbb, hcc⟩ := hc (by omega)
      obtain ⟨⟨c0, c1, c2⟩, _, ⟨hn0, hn1⟩, _⟩ := hcc k hlt
      have htk := total_le f L (k + 1) (by omega)
      have hts : total f (k + 1) = total f k + (f k).s.size := rfl
      have hlx : xs.length ≤ 30000 := by have := hroom.1; omega
      have hlW : W.size ≤ 30000 := by have := hroom.2; omega
      have hsz : (f k).s.size ≤ 20000 := by omega
      have hnext := fun (m : Nat) (xs' : List UInt8) (W' : ByteArray) => @Room.next f k m xs xs' W W' hroom
      have HNX := Lib.hid hnext
      have hW := hWH.out
      clear hts htk hnext hroom hWH
      generalize f k = d at c0 c1 c2 hn0 hn1 hsz HNX
      obtain ⟨K, N, S⟩ := d
      simp only at c0 c1 c2 hn0 hn1 hsz HNX
      have d0 := (hB.cell (p := ⟨b, off + k * 3, none⟩) hbb).trans c0
      have d1 := (hB.cell (p := ⟨b, off + k * 3 + 1, none⟩) hbb).trans c1
      have d2 := (hB.cell (p := ⟨b, off + k * 3 + 2, none⟩) hbb).trans c2
      have hPO : PutIs (wr.alloc (.cells #[.int .i64 K, .int .i64 N, .string S] 31)) w1.heap.size xs bd := hP.alloc _
      have hBO : Below w.heap.size w (wr.alloc (.cells #[.int .i64 K, .int .i64 N, .string S] 31)) := hB.alloc hB.size _
      have hO : (wr.alloc (.cells #[.int .i64 K, .int .i64 N, .string S] 31)).heap[wr.heap.size]? = some (.cells #[.int .i64 K, .int .i64 N, .string S] 31) := new_at wr _ _
      have FO := Lib.hid hO
      have hne : wr.heap.size ≠ w1.heap.size := by omega
      clear c0 c1 c2 hcc hP hB hc hO hpl
      by_cases e1 : K = 1
      · subst e1
        obtain ⟨xs2, bd2, W2, hOut, hx2, hw2, hS⟩ : PStep w1.heap.size xs bd W 8 12 (.int .i64 N) (fitS 1 N) (fitB 1 N) 1 := (pstep_fit w1.heap.size 1 12 N hW (by omega) (fun w' hw => putByte_any w' w1.heap.size xs N bd (by omega) (by omega) hw))
        have hrm := HNX.out _ xs2 W2 hx2 hw2 (by omega)
        have hwb : W2.size ≤ 60000 := by omega
        have HS := Lib.hid hS
        have hR := fun w' : World => (rFit_1 w' N (by omega))
        generalize fitS 1 N = sR at hOut hR
        generalize fitB 1 N = okR at hOut hR
        have RR := Lib.hid hR
        clear hS hx2 hw2 HNX hR
        rcases hOut with ⟨hbd, rfl, rfl⟩ | ⟨rfl, rfl, rfl, hWW, hW2⟩ | ⟨rfl, rfl, rfl, hbe, rfl⟩
        · have kb : (bd2 == 0) = false := by simpa using hbd
          have kb2 : (bd2 != 0) = true := by simpa using hbd
          have HE := Lib.hid (fun (w' : World) (hw : PutIs w' w1.heap.size xs2 bd2) => putEnd_bad w' w1.heap.size xs2 bd2 hbd hw)
          clear hW
          go_wp2_with (first | (go_at_call 12; refine (HS.out _ hPO).mono ?_; rintro e v1 ⟨rfl, p1, f1⟩; obtain ⟨n1, n2⟩ := kept_cells (by exact FO.out) f1 hne) | (go_at_call 13; refine (RR.out _).mono ?_; rintro e v2 ⟨rfl, b2⟩; have p2 := p1.below b2) | (go_at_call 21; refine (HE.out _ p2).mono ?_; rintro e v3 ⟨rfl, nd, rfl⟩))
          go_roundw
          case rel => exact ⟨k + 1, W2, xs2, bd2, by omega, by go_num, rfl, rfl, p2, fun h => absurd h hbd, hrm, puts_end hBO hge f1 b2 nd⟩
          case measure => simp [RowKit.intOf]; omega
        · have hsb : W.size + sR.size ≤ 200000 := by have h1 := size_app W sR; rw [hWW] at h1; omega
          obtain ⟨hE1, hE2⟩ := end_good w1.heap.size xs2 W2 hW2
          have HE := Lib.hid hE1
          have HN := Lib.hid hE2
          have HW2 := Lib.hid hW2
          clear hW hE1 hE2 hW2
          go_wp2_with (first | (go_at_call 12; refine (HS.out _ hPO).mono ?_; rintro e v1 ⟨rfl, p1, f1⟩; obtain ⟨n1, n2⟩ := kept_cells (by exact FO.out) f1 hne) | (go_at_call 13; refine (RR.out _).mono ?_; rintro e v2 ⟨rfl, b2⟩; have p2 := p1.below b2) | (go_at_call 21; refine (HE.out _ p2).mono ?_; rintro e v3 ⟨rfl, rfl⟩) | (go_at_call 22; refine (HN.out _ p2).mono ?_; rintro e v4 ⟨rfl, rfl⟩))
          go_roundw
          case rel => exact ⟨k + 1, W2, xs2, 0, by omega, by go_num, rfl, rfl, p2, fun _ => HW2.out, hrm, puts_end hBO hge f1 b2 0⟩
          case measure => simp [RowKit.intOf]; omega
        · have HE := Lib.hid (fun (w' : World) (hw : PutIs w' w1.heap.size xs2 1) => putEnd_bad w' w1.heap.size xs2 1 (by decide) hw)
          clear hW
          go_wp2_with (first | (go_at_call 12; refine (HS.out _ hPO).mono ?_; rintro e v1 ⟨rfl, p1, f1⟩; obtain ⟨n1, n2⟩ := kept_cells (by exact FO.out) f1 hne) | (go_at_call 13; refine (RR.out _).mono ?_; rintro e v2 ⟨rfl, b2⟩; have p2 := p1.below b2) | (go_at_call 21; refine (HE.out _ p2).mono ?_; rintro e v3 ⟨rfl, nd, rfl⟩))
          go_roundw
          case rel => exact ⟨k + 1, W2, xs2, 1, by omega, by go_num, rfl, rfl, p2, fun h => absurd h (by decide), hrm, puts_end hBO hge f1 b2 nd⟩
          case measure => simp [RowKit.intOf]; omega
      have b1 : (K == 1) = false := by simpa using e1
      by_cases e2 : K = 2
      · subst e2
        obtain ⟨xs2, bd2, W2, hOut, hx2, hw2, hS⟩ : PStep w1.heap.size xs bd W 8 14 (.int .i64 N) (fitS 2 N) (fitB 2 N) 1 := (pstep_fit w1.heap.size 2 14 N hW (by omega) (fun w' hw => putHalf_any w' w1.heap.size xs N bd (by omega) (by omega) hw))
        have hrm := HNX.out _ xs2 W2 hx2 hw2 (by omega)
        have hwb : W2.size ≤ 60000 := by omega
        have HS := Lib.hid hS
        have hR := fun w' : World => (rFit_2 w' N (by omega))
        generalize fitS 2 N = sR at hOut hR
        generalize fitB 2 N = okR at hOut hR
        have RR := Lib.hid hR
        clear hS hx2 hw2 HNX hR
        rcases hOut with ⟨hbd, rfl, rfl⟩ | ⟨rfl, rfl, rfl, hWW, hW2⟩ | ⟨rfl, rfl, rfl, hbe, rfl⟩
        · have kb : (bd2 == 0) = false := by simpa using hbd
          have kb2 : (bd2 != 0) = true := by simpa using hbd
          have HE := Lib.hid (fun (w' : World) (hw : PutIs w' w1.heap.size xs2 bd2) => putEnd_bad w' w1.heap.size xs2 bd2 hbd hw)
          clear hW
          go_wp2_with (first | (go_at_call 14; refine (HS.out _ hPO).mono ?_; rintro e v1 ⟨rfl, p1, f1⟩; obtain ⟨n1, n2⟩ := kept_cells (by exact FO.out) f1 hne) | (go_at_call 13; refine (RR.out _).mono ?_; rintro e v2 ⟨rfl, b2⟩; have p2 := p1.below b2) | (go_at_call 21; refine (HE.out _ p2).mono ?_; rintro e v3 ⟨rfl, nd, rfl⟩))
          go_roundw
          case rel => exact ⟨k + 1, W2, xs2, bd2, by omega, by go_num, rfl, rfl, p2, fun h => absurd h hbd, hrm, puts_end hBO hge f1 b2 nd⟩
          case measure => simp [RowKit.intOf]; omega
        · have hsb : W.size + sR.size ≤ 200000 := by have h1 := size_app W sR; rw [hWW] at h1; omega
          obtain ⟨hE1, hE2⟩ := end_good w1.heap.size xs2 W2 hW2
          have HE := Lib.hid hE1
          have HN := Lib.hid hE2
          have HW2 := Lib.hid hW2
          clear hW hE1 hE2 hW2
          go_wp2_with (first | (go_at_call 14; refine (HS.out _ hPO).mono ?_; rintro e v1 ⟨rfl, p1, f1⟩; obtain ⟨n1, n2⟩ := kept_cells (by exact FO.out) f1 hne) | (go_at_call 13; refine (RR.out _).mono ?_; rintro e v2 ⟨rfl, b2⟩; have p2 := p1.below b2) | (go_at_call 21; refine (HE.out _ p2).mono ?_; rintro e v3 ⟨rfl, rfl⟩) | (go_at_call 22; refine (HN.out _ p2).mono ?_; rintro e v4 ⟨rfl, rfl⟩))
          go_roundw
          case rel => exact ⟨k + 1, W2, xs2, 0, by omega, by go_num, rfl, rfl, p2, fun _ => HW2.out, hrm, puts_end hBO hge f1 b2 0⟩
          case measure => simp [RowKit.intOf]; omega
        · have HE := Lib.hid (fun (w' : World) (hw : PutIs w' w1.heap.size xs2 1) => putEnd_bad w' w1.heap.size xs2 1 (by decide) hw)
          clear hW
          go_wp2_with (first | (go_at_call 14; refine (HS.out _ hPO).mono ?_; rintro e v1 ⟨rfl, p1, f1⟩; obtain ⟨n1, n2⟩ := kept_cells (by exact FO.out) f1 hne) | (go_at_call 13; refine (RR.out _).mono ?_; rintro e v2 ⟨rfl, b2⟩; have p2 := p1.below b2) | (go_at_call 21; refine (HE.out _ p2).mono ?_; rintro e v3 ⟨rfl, nd, rfl⟩))
          go_roundw
          case rel => exact ⟨k + 1, W2, xs2, 1, by omega, by go_num, rfl, rfl, p2, fun h => absurd h (by decide), hrm, puts_end hBO hge f1 b2 nd⟩
          case measure => simp [RowKit.intOf]; omega
      have b2 : (K == 2) = false := by simpa using e2
      by_cases e3 : K = 3
      · subst e3
        obtain ⟨xs2, bd2, W2, hOut, hx2, hw2, hS⟩ : PStep w1.heap.size xs bd W 8 15 (.int .i64 N) (fitS 4 N) (fitB 4 N) 1 := (pstep_fit w1.heap.size 4 15 N hW (by omega) (fun w' hw => putWord_any w' w1.heap.size xs N bd (by omega) (by omega) hw))
        have hrm := HNX.out _ xs2 W2 hx2 hw2 (by omega)
        have hwb : W2.size ≤ 60000 := by omega
        have HS := Lib.hid hS
        have hR := fun w' : World => (rFit_4 w' N (by omega))
        generalize fitS 4 N = sR at hOut hR
        generalize fitB 4 N = okR at hOut hR
        have RR := Lib.hid hR
        clear hS hx2 hw2 HNX hR
        rcases hOut with ⟨hbd, rfl, rfl⟩ | ⟨rfl, rfl, rfl, hWW, hW2⟩ | ⟨rfl, rfl, rfl, hbe, rfl⟩
        · have kb : (bd2 == 0) = false := by simpa using hbd
          have kb2 : (bd2 != 0) = true := by simpa using hbd
          have HE := Lib.hid (fun (w' : World) (hw : PutIs w' w1.heap.size xs2 bd2) => putEnd_bad w' w1.heap.size xs2 bd2 hbd hw)
          clear hW
          go_wp2_with (first | (go_at_call 15; refine (HS.out _ hPO).mono ?_; rintro e v1 ⟨rfl, p1, f1⟩; obtain ⟨n1, n2⟩ := kept_cells (by exact FO.out) f1 hne) | (go_at_call 13; refine (RR.out _).mono ?_; rintro e v2 ⟨rfl, b2⟩; have p2 := p1.below b2) | (go_at_call 21; refine (HE.out _ p2).mono ?_; rintro e v3 ⟨rfl, nd, rfl⟩))
          go_roundw
          case rel => exact ⟨k + 1, W2, xs2, bd2, by omega, by go_num, rfl, rfl, p2, fun h => absurd h hbd, hrm, puts_end hBO hge f1 b2 nd⟩
          case measure => simp [RowKit.intOf]; omega
        · have hsb : W.size + sR.size ≤ 200000 := by have h1 := size_app W sR; rw [hWW] at h1; omega
          obtain ⟨hE1, hE2⟩ := end_good w1.heap.size xs2 W2 hW2
          have HE := Lib.hid hE1
          have HN := Lib.hid hE2
          have HW2 := Lib.hid hW2
          clear hW hE1 hE2 hW2
          go_wp2_with (first | (go_at_call 15; refine (HS.out _ hPO).mono ?_; rintro e v1 ⟨rfl, p1, f1⟩; obtain ⟨n1, n2⟩ := kept_cells (by exact FO.out) f1 hne) | (go_at_call 13; refine (RR.out _).mono ?_; rintro e v2 ⟨rfl, b2⟩; have p2 := p1.below b2) | (go_at_call 21; refine (HE.out _ p2).mono ?_; rintro e v3 ⟨rfl, rfl⟩) | (go_at_call 22; refine (HN.out _ p2).mono ?_; rintro e v4 ⟨rfl, rfl⟩))
          go_roundw
          case rel => exact ⟨k + 1, W2, xs2, 0, by omega, by go_num, rfl, rfl, p2, fun _ => HW2.out, hrm, puts_end hBO hge f1 b2 0⟩
          case measure => simp [RowKit.intOf]; omega
        · have HE := Lib.hid (fun (w' : World) (hw : PutIs w' w1.heap.size xs2 1) => putEnd_bad w' w1.heap.size xs2 1 (by decide) hw)
          clear hW
          go_wp2_with (first | (go_at_call 15; refine (HS.out _ hPO).mono ?_; rintro e v1 ⟨rfl, p1, f1⟩; obtain ⟨n1, n2⟩ := kept_cells (by exact FO.out) f1 hne) | (go_at_call 13; refine (RR.out _).mono ?_; rintro e v2 ⟨rfl, b2⟩; have p2 := p1.below b2) | (go_at_call 21; refine (HE.out _ p2).mono ?_; rintro e v3 ⟨rfl, nd, rfl⟩))
          go_roundw
          case rel => exact ⟨k + 1, W2, xs2, 1, by omega, by go_num, rfl, rfl, p2, fun h => absurd h (by decide), hrm, puts_end hBO hge f1 b2 nd⟩
          case measure => simp [RowKit.intOf]; omega
      have b3 : (K == 3) = false := by simpa using e3
      by_cases e4 : K = 4
      · subst e4
        obtain ⟨xs2, bd2, W2, hOut, hx2, hw2, hS⟩ : PStep w1.heap.size xs bd W 8 16 (.int .i64 N) (str (low 8 (comp N))) true 1 := (pstep_int w1.heap.size N hW (by omega))
        have hrm := HNX.out _ xs2 W2 hx2 hw2 (by omega)
        have hwb : W2.size ≤ 60000 := by omega
        have HS := Lib.hid hS
        have hR := fun w' : World => (rLow_comp w' N)
        generalize str (low 8 (comp N)) = sR at hOut hR
        have RR := Lib.hid hR
        clear hS hx2 hw2 HNX hR
        rcases hOut with ⟨hbd, rfl, rfl⟩ | ⟨rfl, _, rfl, hWW, hW2⟩ | ⟨rfl, hno, rfl, hbe, rfl⟩
        · have kb : (bd2 == 0) = false := by simpa using hbd
          have kb2 : (bd2 != 0) = true := by simpa using hbd
          have HE := Lib.hid (fun (w' : World) (hw : PutIs w' w1.heap.size xs2 bd2) => putEnd_bad w' w1.heap.size xs2 bd2 hbd hw)
          clear hW
          go_wp2_with (first | (go_at_call 16; refine (HS.out _ hPO).mono ?_; rintro e v1 ⟨rfl, p1, f1⟩; obtain ⟨n1, n2⟩ := kept_cells (by exact FO.out) f1 hne) | (go_at_call 17; refine (RR.out _).mono ?_; rintro e v2 ⟨rfl, b2⟩; have p2 := p1.below b2) | (go_at_call 21; refine (HE.out _ p2).mono ?_; rintro e v3 ⟨rfl, nd, rfl⟩))
          go_roundw
          case rel => exact ⟨k + 1, W2, xs2, bd2, by omega, by go_num, rfl, rfl, p2, fun h => absurd h hbd, hrm, puts_end hBO hge f1 b2 nd⟩
          case measure => simp [RowKit.intOf]; omega
        · have hsb : W.size + sR.size ≤ 200000 := by have h1 := size_app W sR; rw [hWW] at h1; omega
          obtain ⟨hE1, hE2⟩ := end_good w1.heap.size xs2 W2 hW2
          have HE := Lib.hid hE1
          have HN := Lib.hid hE2
          have HW2 := Lib.hid hW2
          clear hW hE1 hE2 hW2
          go_wp2_with (first | (go_at_call 16; refine (HS.out _ hPO).mono ?_; rintro e v1 ⟨rfl, p1, f1⟩; obtain ⟨n1, n2⟩ := kept_cells (by exact FO.out) f1 hne) | (go_at_call 17; refine (RR.out _).mono ?_; rintro e v2 ⟨rfl, b2⟩; have p2 := p1.below b2) | (go_at_call 21; refine (HE.out _ p2).mono ?_; rintro e v3 ⟨rfl, rfl⟩) | (go_at_call 22; refine (HN.out _ p2).mono ?_; rintro e v4 ⟨rfl, rfl⟩))
          go_roundw
          case rel => exact ⟨k + 1, W2, xs2, 0, by omega, by go_num, rfl, rfl, p2, fun _ => HW2.out, hrm, puts_end hBO hge f1 b2 0⟩
          case measure => simp [RowKit.intOf]; omega
        · cases hno
      have b4 : (K == 4) = false := by simpa using e4
      by_cases e5 : K = 5
      · subst e5
        obtain ⟨xs2, bd2, W2, hOut, hx2, hw2, hS⟩ : PStep w1.heap.size xs bd W (S.size + 2) 18 (.string S) (textS S) (textB S) 2 := (pstep_text w1.heap.size S hW (by omega) (by omega))
        have hrm := HNX.out _ xs2 W2 hx2 hw2 (by omega)
        have hwb : W2.size ≤ 60000 := by omega
        have HS := Lib.hid hS
        have hR := fun w' : World => (rText_any w' S (by omega))
        generalize textS S = sR at hOut hR
        generalize textB S = okR at hOut hR
        have RR := Lib.hid hR
        clear hS hx2 hw2 HNX hR
        rcases hOut with ⟨hbd, rfl, rfl⟩ | ⟨rfl, rfl, rfl, hWW, hW2⟩ | ⟨rfl, rfl, rfl, hbe, rfl⟩
        · have kb : (bd2 == 0) = false := by simpa using hbd
          have kb2 : (bd2 != 0) = true := by simpa using hbd
          have HE := Lib.hid (fun (w' : World) (hw : PutIs w' w1.heap.size xs2 bd2) => putEnd_bad w' w1.heap.size xs2 bd2 hbd hw)
          clear hW
          go_wp2_with (first | (go_at_call 18; refine (HS.out _ hPO).mono ?_; rintro e v1 ⟨rfl, p1, f1⟩; obtain ⟨n1, n2⟩ := kept_cells (by exact FO.out) f1 hne) | (go_at_call 19; refine (RR.out _).mono ?_; rintro e v2 ⟨rfl, b2⟩; have p2 := p1.below b2) | (go_at_call 21; refine (HE.out _ p2).mono ?_; rintro e v3 ⟨rfl, nd, rfl⟩))
          go_roundw
          case rel => exact ⟨k + 1, W2, xs2, bd2, by omega, by go_num, rfl, rfl, p2, fun h => absurd h hbd, hrm, puts_end hBO hge f1 b2 nd⟩
          case measure => simp [RowKit.intOf]; omega
        · have hsb : W.size + sR.size ≤ 200000 := by have h1 := size_app W sR; rw [hWW] at h1; omega
          obtain ⟨hE1, hE2⟩ := end_good w1.heap.size xs2 W2 hW2
          have HE := Lib.hid hE1
          have HN := Lib.hid hE2
          have HW2 := Lib.hid hW2
          clear hW hE1 hE2 hW2
          go_wp2_with (first | (go_at_call 18; refine (HS.out _ hPO).mono ?_; rintro e v1 ⟨rfl, p1, f1⟩; obtain ⟨n1, n2⟩ := kept_cells (by exact FO.out) f1 hne) | (go_at_call 19; refine (RR.out _).mono ?_; rintro e v2 ⟨rfl, b2⟩; have p2 := p1.below b2) | (go_at_call 21; refine (HE.out _ p2).mono ?_; rintro e v3 ⟨rfl, rfl⟩) | (go_at_call 22; refine (HN.out _ p2).mono ?_; rintro e v4 ⟨rfl, rfl⟩))
          go_roundw
          case rel => exact ⟨k + 1, W2, xs2, 0, by omega, by go_num, rfl, rfl, p2, fun _ => HW2.out, hrm, puts_end hBO hge f1 b2 0⟩
          case measure => simp [RowKit.intOf]; omega
        · have HE := Lib.hid (fun (w' : World) (hw : PutIs w' w1.heap.size xs2 2) => putEnd_bad w' w1.heap.size xs2 2 (by decide) hw)
          clear hW
          go_wp2_with (first | (go_at_call 18; refine (HS.out _ hPO).mono ?_; rintro e v1 ⟨rfl, p1, f1⟩; obtain ⟨n1, n2⟩ := kept_cells (by exact FO.out) f1 hne) | (go_at_call 19; refine (RR.out _).mono ?_; rintro e v2 ⟨rfl, b2⟩; have p2 := p1.below b2) | (go_at_call 21; refine (HE.out _ p2).mono ?_; rintro e v3 ⟨rfl, nd, rfl⟩))
          go_roundw
          case rel => exact ⟨k + 1, W2, xs2, 2, by omega, by go_num, rfl, rfl, p2, fun h => absurd h (by decide), hrm, puts_end hBO hge f1 b2 nd⟩
          case measure => simp [RowKit.intOf]; omega
      have b5 : (K == 5) = false := by simpa using e5
      clear e1 e2 e3 e4 e5
      obtain ⟨xs2, bd2, W2, hOut, hx2, hw2, hS⟩ : PStep w1.heap.size xs bd W S.size 20 (.string S) S true 1 := (pstep_raw w1.heap.size S hW (by omega) (by omega))
      have hrm := HNX.out _ xs2 W2 hx2 hw2 (by omega)
      have hwb : W2.size ≤ 60000 := by omega
      have HS := Lib.hid hS
      clear hS hx2 hw2 HNX
      rcases hOut with ⟨hbd, rfl, rfl⟩ | ⟨rfl, _, rfl, hWW, hW2⟩ | ⟨rfl, hno, rfl, hbe, rfl⟩
      · have kb : (bd2 == 0) = false := by simpa using hbd
        have kb2 : (bd2 != 0) = true := by simpa using hbd
        have HE := Lib.hid (fun (w' : World) (hw : PutIs w' w1.heap.size xs2 bd2) => putEnd_bad w' w1.heap.size xs2 bd2 hbd hw)
        clear hW
        go_wp2_with (first | (go_at_call 20; refine (HS.out _ hPO).mono ?_; rintro e v1 ⟨rfl, p1, f1⟩; obtain ⟨n1, n2⟩ := kept_cells (by exact FO.out) f1 hne) | (go_at_call 21; refine (HE.out _ p1).mono ?_; rintro e v3 ⟨rfl, nd, rfl⟩))
        go_roundw
        case rel => exact ⟨k + 1, W2, xs2, bd2, by omega, by go_num, rfl, rfl, p1, fun h => absurd h hbd, hrm, puts_end hBO hge f1 (Below.refl _ _) nd⟩
        case measure => simp [RowKit.intOf]; omega
      · have hsb : W.size + S.size ≤ 200000 := by have h1 := size_app W S; rw [hWW] at h1; omega
        obtain ⟨hE1, hE2⟩ := end_good w1.heap.size xs2 W2 hW2
        have HE := Lib.hid hE1
        have HN := Lib.hid hE2
        have HW2 := Lib.hid hW2
        clear hW hE1 hE2 hW2
        go_wp2_with (first | (go_at_call 20; refine (HS.out _ hPO).mono ?_; rintro e v1 ⟨rfl, p1, f1⟩; obtain ⟨n1, n2⟩ := kept_cells (by exact FO.out) f1 hne) | (go_at_call 21; refine (HE.out _ p1).mono ?_; rintro e v3 ⟨rfl, rfl⟩) | (go_at_call 22; refine (HN.out _ p1).mono ?_; rintro e v4 ⟨rfl, rfl⟩))
        go_roundw
        case rel => exact ⟨k + 1, W2, xs2, 0, by omega, by go_num, rfl, rfl, p1, fun _ => HW2.out, hrm, puts_end hBO hge f1 (Below.refl _ _) 0⟩
        case measure => simp [RowKit.intOf]; omega
      · cases hno
    · obtain rfl : k = L := by omega
      go_wp2
      go_ret
      exact ⟨rfl, hB⟩

theorem puts_walk (w : World) (v : Value) (L : Nat) (f : Nat → OpD) (h : OpsIn w v L f) (hp : Pow w) :
    Calls Tryd.prog 3 #[v] w fun r w' => r = .returned (.bool true) ∧ Below w.heap.size w w' := by
  have hl := light_any w v L f h
  cases hb : lightB L f
  · rw [hb] at hl
    have K := Lib.hid (alive_any w hp)
    have HL := Lib.hid hl
    clear hl hp hb h
    go_enter Tryd.func3, Tryd.ntmps3
    go_wp2_with (first
      | (go_at_call 10; refine HL.out.mono ?_; rintro e w0 ⟨rfl, rfl⟩)
      | (go_at_call 11; refine K.out.mono ?_; rintro e w1 ⟨rfl, hb1⟩))
    go_ret
    exact ⟨rfl, hb1⟩
  · rw [hb] at hl
    have h2 := of_decide_eq_true hb
    exact puts_in w v L f h h2.1 h2.2 hl hp

end Go.Proofs.YtadcmjcafimkeaaDoor.P1
