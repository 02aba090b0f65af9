/-
  P102: every bytes, read in every way: the walk of the statement PackGets.
-/
import Derived.Test.YtadcmjcafimkeaaDoorOps1
import Derived.Test.YtadcmjcafimkeaaDoorRGet
import Derived.Deep.RegionHeld3
namespace Go.Proofs.YtadcmjcafimkeaaDoor.P1
open Go Go.RowKit Go.Lib

theorem GetAt.fr {w w' : World} {b c : Nat} {s : ByteArray} {bad : Int} (h : GetAt w b s bad) (f : Fr c w w') (hne : b ≠ c) : GetAt w' b s bad := f.keeps _ _ _ _ h (by decide) hne
theorem RGetAt.fr {w w' : World} {b c : Nat} {s : ByteArray} {e : Int} (h : RGetAt w b s e) (f : Fr c w w') (hne : b ≠ c) : RGetAt w' b s e := f.keeps _ _ _ _ h (by decide) hne
theorem GetAt.alloc {w : World} {b : Nat} {s : ByteArray} {bad : Int} (h : GetAt w b s bad) (o : Obj) : GetAt (w.alloc o) b s bad := by
  unfold GetAt at *; rw [Below.heap_alloc _ _ _ (lt_of_block h)]; exact h
theorem RGetAt.alloc {w : World} {b : Nat} {s : ByteArray} {e : Int} (h : RGetAt w b s e) (o : Obj) : RGetAt (w.alloc o) b s e := by
  unfold RGetAt at *; rw [Below.heap_alloc _ _ _ (lt_of_block h)]; exact h
theorem GetAt.drewN {w : World} {b : Nat} {s : ByteArray} {bad : Int} (h : GetAt w b s bad) (n : Nat) : GetAt (w.drewN n) b s bad := h
theorem RGetAt.drewN {w : World} {b : Nat} {s : ByteArray} {e : Int} (h : RGetAt w b s e) (n : Nat) : RGetAt (w.drewN n) b s e := h

/-- one thing read by both: the same answer, and the two stay alike -/
def Both (g r : Nat) (s : ByteArray) (bad : Int) (B : ByteArray) (e : Int) (f : FuncId) (a : Array Value) (f' : FuncId) (a' : Array Value) (x : Value) (s' : ByteArray) (bad' : Int) (B' : ByteArray) : Prop :=
  Rel s' bad' B' bad' ∧
  (∀ w, GetAt w g s bad → Calls Tryd.prog f (#[.pointer (some ⟨g, 0, none⟩)] ++ a) w fun q w' => q = .returned x ∧ GetAt w' g s' bad' ∧ Fr g w w') ∧
  (∀ w, RGetAt w r B e → Calls Tryd.prog f' (#[.pointer (some ⟨r, 0, none⟩)] ++ a') w fun q w' => q = .returned x ∧ RGetAt w' r B' bad' ∧ Fr r w w')

theorem both_num {s B : ByteArray} {bad e : Int} (h : Rel s bad B e) (g r n : Nat) (f : FuncId) (h8 : n ≤ 8)
    (hf : ∀ w, GetAt w g s bad → Calls Tryd.prog f #[.pointer (some ⟨g, 0, none⟩)] w fun q w' => q = .returned (.int .i64 (getNum n s bad).1) ∧ GetAt w' g (getNum n s bad).2.1 (getNum n s bad).2.2 ∧ Fr g w w') :
    ∃ x s' bad' B', Both g r s bad B e f #[] 25 #[.int .i64 n] (.int .i64 x) s' bad' B' := by
  obtain ⟨h1, h2⟩ := h.num n
  have he := h2.1
  refine ⟨(getNum n s bad).1, (getNum n s bad).2.1, (getNum n s bad).2.2, (refNum n B e).2.1, ?_, fun w hw => hf w hw, fun w hw => ?_⟩
  · rwa [he] at h2
  · have H := rGetNum_any w r B e n h8 hw
    rwa [h1, he] at H
theorem both_txt {s B : ByteArray} {bad e : Int} (h : Rel s bad B e) (g r : Nat) :
    ∃ x s' bad' B', Both g r s bad B e 29 #[] 30 #[] (.string x) s' bad' B' := by
  obtain ⟨h1, h2⟩ := h.txt
  have he := h2.1
  refine ⟨(getTxt s bad).1, (getTxt s bad).2.1, (getTxt s bad).2.2, (refTxt B e).2.1, ?_, fun w hw => getText_any w g s bad hw, fun w hw => ?_⟩
  · rwa [he] at h2
  · have H := rGetText_any w r B e hw
    rwa [h1, he] at H
theorem both_raw {s B : ByteArray} {bad e : Int} (h : Rel s bad B e) (g r : Nat) (n : Int) :
    ∃ x s' bad' B', Both g r s bad B e 31 #[.int .i64 n] 32 #[.int .i64 n] (.string x) s' bad' B' := by
  obtain ⟨h1, h2⟩ := h.str n
  have he := h2.1
  refine ⟨(getStr n s bad).1, (getStr n s bad).2.1, (getStr n s bad).2.2, (refStr n B e).2.1, ?_, fun w hw => getRaw_any w g s bad n hw, fun w hw => ?_⟩
  · rwa [he] at h2
  · have H := rRaw_any w r B e n hw
    rwa [h1, he] at H

/-- behind a reading: how much is left, the error -/
theorem both_left {s B : ByteArray} {bad : Int} (h : Rel s bad B bad) (g r : Nat) :
    (∀ w n, GetAt w g s bad → Calls Tryd.prog 33 #[.pointer (some ⟨g, 0, none⟩)] (w.drewN n) fun q w' => q = .returned (.int .i64 s.size) ∧ w' = w.drewN n) ∧
    (∀ w n, RGetAt w r B bad → Calls Tryd.prog 34 #[.pointer (some ⟨r, 0, none⟩)] (w.drewN n) fun q w' => q = .returned (.int .i64 s.size) ∧ w' = w.drewN n) ∧
    (∀ w n, GetAt w g s bad → Calls Tryd.prog 35 #[.pointer (some ⟨g, 0, none⟩)] (w.drewN n) fun q w' => q = .returned (.int .i64 bad) ∧ w' = w.drewN n) := by
  refine ⟨fun w n hw => (getLeft_any (w.drewN n) g s bad hw).mono fun _ _ ⟨a, c⟩ => ⟨a, c.symm⟩, fun w n hw => ?_, fun w n hw => (getBad_any (w.drewN n) g s bad hw).mono fun _ _ ⟨a, c⟩ => ⟨a, c.symm⟩⟩
  have H := rLeft_any (w.drewN n) r B bad hw
  rw [h.left] at H
  exact H.mono fun _ _ ⟨a, c⟩ => ⟨a, c.symm⟩

theorem kept_n {w w' : World} {c o : Nat} {K N : Int} {S : ByteArray} (h : w.heap[o]? = some (.cells #[.int .i64 K, .int .i64 N, .string S] 31 (0, 0))) (f : Fr c w w') (hne : o ≠ c) :
    w'.heap[o]? = some (.cells #[.int .i64 K, .int .i64 N, .string S] 31 (0, 0)) ∧ w'.cell? ⟨o, 1, none⟩ = some (.int .i64 N) := by
  have h1 := f.keeps _ _ _ _ h (by decide) hne
  exact ⟨h1, by rw [cell_at h1]; rfl⟩
theorem gets_end {w wr v1 v2 : World} {g r : Nat} (h : Below w.heap.size w wr) (hg : w.heap.size ≤ g) (hgr : g < r) (f1 : Fr g wr v1) (f2 : Fr r v1 v2) (n : Nat) : Below w.heap.size w (v2.drewN n) := by
  have h1 := (h.trans (f1.below.mono hg)).trans (f2.below.mono (by omega))
  exact ⟨h1.os, h1.tape, h1.output, h1.size, h1.block⟩

set_option maxRecDepth 100000 in
set_option maxHeartbeats 3200000 in
theorem gets_in (w : World) (s : ByteArray) (v : Value) (L : Nat) (f : Nat → OpD) (h : OpsIn w v L f) (hs : s.size ≤ 2000) (hl : Calls Tryd.prog 10 #[v] w fun r w' => r = .returned (.bool true) ∧ w = w') (hp : Pow w) :
    Calls Tryd.prog 4 #[.string s, v] w fun r w' => r = .returned (.bool true) ∧ Below w.heap.size w w' := by
  have K := Lib.hid (alive_any w hp)
  have HL := Lib.hid hl
  obtain ⟨a, c, rfl, _, hc⟩ := h
  have hR0 : ∀ w1 : World, RGetAt (w1.alloc (.cells #[.string s, .int .i64 0] 46)) w1.heap.size s 0 := fun w1 => new_at w1 _ _
  have HR := Lib.hid hR0
  have k1 : decide ((2000 : Int) < (s.size : Int)) = false := decide_eq_false (by omega)
  clear hp hl hR0
  go_enter Tryd.func4, Tryd.ntmps4
  go_wp2_with (first
    | (go_at_call 10; refine HL.out.mono ?_; rintro e w0 ⟨rfl, rfl⟩)
    | (go_at_call 11; refine K.out.mono ?_; rintro e w1 ⟨rfl, hb1⟩)
    | (go_at_call 23; refine (getFrom_any _ _).mono ?_; rintro e w2 ⟨rfl, hg2, hb2, hz2⟩; have HZ := Lib.hid hz2; clear hz2))
  have hg3 := hg2.alloc (.cells #[.string s, .int .i64 0] 46)
  have hr3 := HR.out w2
  have hb3 : Below w.heap.size w (w2.alloc (.cells #[.string s, .int .i64 0] 46)) := (hb1.trans (hb2.mono hb1.size)).alloc (by have := HZ.out; have := hb1.size; omega) _
  have hgr : w1.heap.size < w2.heap.size := by have := HZ.out; omega
  have hge : w.heap.size ≤ w1.heap.size := hb1.size
  clear hg2 hb2
  go_loopw [7] (fun i wr => ∃ (k : Nat) (t : ByteArray) (bad : Int) (B : ByteArray), k ≤ L ∧ i = .int .i64 k ∧ Rel t bad B bad ∧ GetAt wr w1.heap.size t bad ∧ RGetAt wr w2.heap.size B bad ∧ Below w.heap.size w wr) (fun i _ => L - (RowKit.intOf i).toNat)
  case atStart => exact ⟨0, s, 0, s, Nat.zero_le _, rfl, Rel.start s, hg3, hr3, hb3⟩
  case round =>
    clear hg3 hr3 hb3 hb1 K HL HR
    obtain ⟨k, t, bad, B, hk, rfl, hrel, hG, hR, hB⟩ := hrel
    by_cases hlt : k < L
    · obtain ⟨b, off, rfl, hbb, hcc⟩ := hc (by omega)
      obtain ⟨⟨c0, c1, c2⟩, _⟩ := hcc k hlt
      generalize f k = d at c0 c1 c2
      obtain ⟨K, N, S⟩ := d
      have d0 := (hB.cell (p := ⟨b, off + k * 3, none⟩) hbb).trans c0
      have d1 := (hB.cell (p := ⟨b, off + k * 3 + 1, none⟩) hbb).trans c1
      have d2 := (hB.cell (p := ⟨b, off + k * 3 + 2, none⟩) hbb).trans c2
      have hgO : GetAt (wr.alloc (.cells #[.int .i64 K, .int .i64 N, .string S] 31)) w1.heap.size t bad := hG.alloc _
      have hrO : RGetAt (wr.alloc (.cells #[.int .i64 K, .int .i64 N, .string S] 31)) w2.heap.size B bad := hR.alloc _
      have hBO : Below w.heap.size w (wr.alloc (.cells #[.int .i64 K, .int .i64 N, .string S] 31)) := hB.alloc hB.size _
      have hO : (wr.alloc (.cells #[.int .i64 K, .int .i64 N, .string S] 31)).heap[wr.heap.size]? = some (.cells #[.int .i64 K, .int .i64 N, .string S] 31) := new_at wr _ _
      have hrw : w2.heap.size < wr.heap.size := lt_of_block hR
      clear c0 c1 c2 hcc hG hR hB hc
      have FO := Lib.hid hO
      clear hO
      by_cases e1 : K = 1
      · subst e1
        obtain ⟨x, s2, bad2, B2, hr2, hp1, hp2⟩ := both_num hrel w1.heap.size w2.heap.size 1 24 (by omega) (fun w' hw => getByte_any w' w1.heap.size t bad hw)
        obtain ⟨l1, l2, l3⟩ := both_left hr2 w1.heap.size w2.heap.size
        have P1 := Lib.hid hp1
        have P2 := Lib.hid hp2
        have Q1 := Lib.hid l1
        have Q2 := Lib.hid l2
        have Q3 := Lib.hid l3
        clear hp1 hp2 l1 l2 l3
        go_wp2_with (first | (go_at_call 24; refine (P1.out _ hgO).mono ?_; rintro e v1 ⟨rfl, g1, f1⟩) | (go_at_call 25; refine (P2.out _ (hrO.fr f1 (by omega))).mono ?_; rintro e v2 ⟨rfl, r1, f2⟩; have g2 := g1.fr f2 (by omega); have e2 := r1.c1))
        go_quiet ((first | (go_at_call 33; exact Calls.quiet_of_same (Q1.out _ _ g2)) | (go_at_call 34; exact Calls.quiet_of_same (Q2.out _ _ r1)) | (go_at_call 35; exact Calls.quiet_of_same (Q3.out _ _ g2))))
        go_wp2
        go_roundw
        case rel => exact ⟨k + 1, s2, bad2, B2, by omega, by go_num, hr2, g2, r1, gets_end hBO hge hgr f1 f2 _⟩
        case measure => simp [RowKit.intOf]; omega
      have b1 : (K == 1) = false := by simpa using e1
      by_cases e2 : K = 2
      · subst e2
        obtain ⟨x, s2, bad2, B2, hr2, hp1, hp2⟩ := both_num hrel w1.heap.size w2.heap.size 2 26 (by omega) (fun w' hw => getHalf_any w' w1.heap.size t bad hw)
        obtain ⟨l1, l2, l3⟩ := both_left hr2 w1.heap.size w2.heap.size
        have P1 := Lib.hid hp1
        have P2 := Lib.hid hp2
        have Q1 := Lib.hid l1
        have Q2 := Lib.hid l2
        have Q3 := Lib.hid l3
        clear hp1 hp2 l1 l2 l3
        go_wp2_with (first | (go_at_call 26; refine (P1.out _ hgO).mono ?_; rintro e v1 ⟨rfl, g1, f1⟩) | (go_at_call 25; refine (P2.out _ (hrO.fr f1 (by omega))).mono ?_; rintro e v2 ⟨rfl, r1, f2⟩; have g2 := g1.fr f2 (by omega); have e2 := r1.c1))
        go_quiet ((first | (go_at_call 33; exact Calls.quiet_of_same (Q1.out _ _ g2)) | (go_at_call 34; exact Calls.quiet_of_same (Q2.out _ _ r1)) | (go_at_call 35; exact Calls.quiet_of_same (Q3.out _ _ g2))))
        go_wp2
        go_roundw
        case rel => exact ⟨k + 1, s2, bad2, B2, by omega, by go_num, hr2, g2, r1, gets_end hBO hge hgr f1 f2 _⟩
        case measure => simp [RowKit.intOf]; omega
      have b2 : (K == 2) = false := by simpa using e2
      by_cases e3 : K = 3
      · subst e3
        obtain ⟨x, s2, bad2, B2, hr2, hp1, hp2⟩ := both_num hrel w1.heap.size w2.heap.size 4 27 (by omega) (fun w' hw => getWord_any w' w1.heap.size t bad hw)
        obtain ⟨l1, l2, l3⟩ := both_left hr2 w1.heap.size w2.heap.size
        have P1 := Lib.hid hp1
        have P2 := Lib.hid hp2
        have Q1 := Lib.hid l1
        have Q2 := Lib.hid l2
        have Q3 := Lib.hid l3
        clear hp1 hp2 l1 l2 l3
        go_wp2_with (first | (go_at_call 27; refine (P1.out _ hgO).mono ?_; rintro e v1 ⟨rfl, g1, f1⟩) | (go_at_call 25; refine (P2.out _ (hrO.fr f1 (by omega))).mono ?_; rintro e v2 ⟨rfl, r1, f2⟩; have g2 := g1.fr f2 (by omega); have e2 := r1.c1))
        go_quiet ((first | (go_at_call 33; exact Calls.quiet_of_same (Q1.out _ _ g2)) | (go_at_call 34; exact Calls.quiet_of_same (Q2.out _ _ r1)) | (go_at_call 35; exact Calls.quiet_of_same (Q3.out _ _ g2))))
        go_wp2
        go_roundw
        case rel => exact ⟨k + 1, s2, bad2, B2, by omega, by go_num, hr2, g2, r1, gets_end hBO hge hgr f1 f2 _⟩
        case measure => simp [RowKit.intOf]; omega
      have b3 : (K == 3) = false := by simpa using e3
      by_cases e4 : K = 4
      · subst e4
        obtain ⟨x, s2, bad2, B2, hr2, hp1, hp2⟩ := both_num hrel w1.heap.size w2.heap.size 8 28 (by omega) (fun w' hw => getInt_any w' w1.heap.size t bad hw)
        obtain ⟨l1, l2, l3⟩ := both_left hr2 w1.heap.size w2.heap.size
        have P1 := Lib.hid hp1
        have P2 := Lib.hid hp2
        have Q1 := Lib.hid l1
        have Q2 := Lib.hid l2
        have Q3 := Lib.hid l3
        clear hp1 hp2 l1 l2 l3
        go_wp2_with (first | (go_at_call 28; refine (P1.out _ hgO).mono ?_; rintro e v1 ⟨rfl, g1, f1⟩) | (go_at_call 25; refine (P2.out _ (hrO.fr f1 (by omega))).mono ?_; rintro e v2 ⟨rfl, r1, f2⟩; have g2 := g1.fr f2 (by omega); have e2 := r1.c1))
        go_quiet ((first | (go_at_call 33; exact Calls.quiet_of_same (Q1.out _ _ g2)) | (go_at_call 34; exact Calls.quiet_of_same (Q2.out _ _ r1)) | (go_at_call 35; exact Calls.quiet_of_same (Q3.out _ _ g2))))
        go_wp2
        go_roundw
        case rel => exact ⟨k + 1, s2, bad2, B2, by omega, by go_num, hr2, g2, r1, gets_end hBO hge hgr f1 f2 _⟩
        case measure => simp [RowKit.intOf]; omega
      have b4 : (K == 4) = false := by simpa using e4
      by_cases e5 : K = 5
      · subst e5
        obtain ⟨x, s2, bad2, B2, hr2, hp1, hp2⟩ := both_txt hrel w1.heap.size w2.heap.size
        obtain ⟨l1, l2, l3⟩ := both_left hr2 w1.heap.size w2.heap.size
        have P1 := Lib.hid hp1
        have P2 := Lib.hid hp2
        have Q1 := Lib.hid l1
        have Q2 := Lib.hid l2
        have Q3 := Lib.hid l3
        clear hp1 hp2 l1 l2 l3
        go_wp2_with (first | (go_at_call 29; refine (P1.out _ hgO).mono ?_; rintro e v1 ⟨rfl, g1, f1⟩) | (go_at_call 30; refine (P2.out _ (hrO.fr f1 (by omega))).mono ?_; rintro e v2 ⟨rfl, r1, f2⟩; have g2 := g1.fr f2 (by omega); have e2 := r1.c1))
        go_quiet ((first | (go_at_call 33; exact Calls.quiet_of_same (Q1.out _ _ g2)) | (go_at_call 34; exact Calls.quiet_of_same (Q2.out _ _ r1)) | (go_at_call 35; exact Calls.quiet_of_same (Q3.out _ _ g2))))
        go_wp2
        go_roundw
        case rel => exact ⟨k + 1, s2, bad2, B2, by omega, by go_num, hr2, g2, r1, gets_end hBO hge hgr f1 f2 _⟩
        case measure => simp [RowKit.intOf]; omega
      have b5 : (K == 5) = false := by simpa using e5
      clear e1 e2 e3 e4 e5
      obtain ⟨x, s2, bad2, B2, hr2, hp1, hp2⟩ := both_raw hrel w1.heap.size w2.heap.size N
      obtain ⟨l1, l2, l3⟩ := both_left hr2 w1.heap.size w2.heap.size
      have P1 := Lib.hid hp1
      have P2 := Lib.hid hp2
      have Q1 := Lib.hid l1
      have Q2 := Lib.hid l2
      have Q3 := Lib.hid l3
      clear hp1 hp2 l1 l2 l3
      have m0 : (wr.alloc (.cells #[.int .i64 K, .int .i64 N, .string S] 31)).cell? ⟨wr.heap.size, 1, none⟩ = some (.int .i64 N) := by rw [cell_at FO.out]; rfl
      go_wp2_with fail
      go_region_held3 (fun w' => w'.cell? ⟨wr.heap.size, 1, none⟩ = some (.int .i64 N))
        (first | go_keep | assumption)
        ((first
          | (go_at_call 31; refine (P1.out _ (by exact hgO)).mono ?_; rintro e v1 ⟨rfl, g1, f1⟩; obtain ⟨o1, m1⟩ := kept_n (by exact FO.out) f1 (by omega))
          | (go_at_call 32; refine (P2.out _ (RGetAt.fr (by exact hrO) f1 (by omega))).mono ?_; rintro e v2 ⟨rfl, r1, f2⟩; obtain ⟨o2, m2⟩ := kept_n o1 f2 (by omega); have g2 := g1.fr f2 (by omega); have e2 := r1.c1)))
      go_wp2_with fail
      go_quiet ((first | (go_at_call 33; exact Calls.quiet_of_same (Q1.out _ _ g2)) | (go_at_call 34; exact Calls.quiet_of_same (Q2.out _ _ r1)) | (go_at_call 35; exact Calls.quiet_of_same (Q3.out _ _ g2))))
      go_wp2
      go_roundw
      case rel => exact ⟨k + 1, s2, bad2, B2, by omega, by go_num, hr2, g2, r1, gets_end hBO.drew hge hgr f1 f2 _⟩
      case measure => simp [RowKit.intOf]; omega
    · obtain rfl : k = L := by omega
      have E1 := Lib.hid (getEnd_any wr w1.heap.size t bad hG)
      have hE2 : ∀ w', RGetAt w' w2.heap.size B bad → Calls Tryd.prog 37 #[.pointer (some ⟨w2.heap.size, 0, none⟩)] w' fun q w'' => q = .returned (.int .i64 (getFin t bad)) ∧ Fr w2.heap.size w' w'' := fun w' hw => by
        have H := rEnd_any w' w2.heap.size B bad hw
        rwa [hrel.fin] at H
      have E2 := Lib.hid hE2
      clear hE2
      go_wp2_with (first | (go_at_call 36; refine E1.out.mono ?_; rintro e v1 ⟨rfl, f1⟩) | (go_at_call 37; refine (E2.out _ (hR.fr f1 (by omega))).mono ?_; rintro e v2 ⟨rfl, f2⟩))
      go_ret
      exact ⟨rfl, (hB.trans (f1.below.mono hge)).trans (f2.below.mono (by omega))⟩

theorem gets_walk (w : World) (s : ByteArray) (v : Value) (L : Nat) (f : Nat → OpD) (h : OpsIn w v L f) (hp : Pow w) :
    Calls Tryd.prog 4 #[.string s, v] w fun r w' => r = .returned (.bool true) ∧ Below w.heap.size w w' := by
  have hl := light_any w v L f h
  by_cases hs : s.size ≤ 2000
  · cases hb : lightB L f
    · rw [hb] at hl
      have K := Lib.hid (alive_any w hp)
      have HL := Lib.hid hl
      have k1 : decide ((2000 : Int) < (s.size : Int)) = false := decide_eq_false (by omega)
      clear hl hp hb h
      go_enter Tryd.func4, Tryd.ntmps4
      go_wp2_with (first
        | (go_at_call 10; refine HL.out.mono ?_; rintro e w0 ⟨rfl, rfl⟩)
        | (go_at_call 11; refine K.out.mono ?_; rintro e w1 ⟨rfl, hb1⟩))
      go_ret
      exact ⟨rfl, hb1⟩
    · rw [hb] at hl
      exact gets_in w s v L f h hs hl hp
  · have K := Lib.hid (alive_any w hp)
    have k1 : decide ((2000 : Int) < (s.size : Int)) = true := decide_eq_true (by omega)
    clear hl hp h
    go_enter Tryd.func4, Tryd.ntmps4
    go_wp2_with (go_at_call 11; refine K.out.mono ?_; rintro e w1 ⟨rfl, hb1⟩)
    go_ret
    exact ⟨rfl, hb1⟩

end Go.Proofs.YtadcmjcafimkeaaDoor.P1
