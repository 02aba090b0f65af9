/-
  The book, Kids: its lists are grown.
-/
import Derived.Test.YthihjkdankbnjaaGreatK4Kids
import Derived.Maps.AppendAt
namespace Go.Proofs.YthihjkdankbnjaaGreat.PK
open Go Go.RowKit Go.Lib

set_option maxRecDepth 100000 in
set_option maxHeartbeats 4000000 in
theorem growKids_some (w0 w : World) (X : List Row) (b : Nat) (bs : List Value) (tv : Value) (us : List Value) (ns : List Nat) (h : Rws w0 (restR kKids (.slice none 0 0) tv [] us X [] ns 0) w) (hX : bl b bs 36 ∈ X) (hp : bs[6]? = some tv) (hl : Looks us ns) (hlen : us.length = ns.length) (few : ns.length ≤ 240) (hne : 0 < ns.length) :
    Calls Tryz.prog 61 #[.pointer (some ⟨b, 0, none⟩)] w fun e w' => ∃ ov gs D, e = .returned ov ∧ Rws w0 (restR kKids ov tv gs us X D ns ns.length) w' ∧ Grown kKids w0 D us gs ns ns.length := by
  obtain ⟨i0, hi0, hz0, hz1, hz2⟩ := info_parts infoEKids
  obtain ⟨i1, hi1, hy0, hy1, hy2⟩ := info_parts infoSKids
  obtain ⟨g, cap, rfl⟩ : ∃ g cap, tv = .slice (some ⟨g, 0, none⟩) us.length cap := by
    rcases (h.own (vRow kKids tv us) (by simp [restR])).slice with ⟨_, h1, _⟩ | ⟨g, cap, e1, _⟩
    · exact absurd (show us.length = 0 from h1) (by omega)
    · exact ⟨g, cap, e1⟩
  have HC := Lib.hid (show ∀ W lo, (bl b bs 36).At W lo → W.cell? ⟨b, 6, none⟩ = some (.slice (some ⟨g, 0, none⟩) us.length cap) from fun W lo hW => by rw [cell_at (bl_heap hW)]; simpa using hp)
  have HCi := Lib.hid (show ∀ W lo i u, (vRow kKids (.slice (some ⟨g, 0, none⟩) us.length cap) us).At W lo → us[i]? = some u → W.cell? ⟨g, i, none⟩ = some u from fun W lo i u hW hu => hW.cell rfl hu)
  have HL := Lib.hid hl
  have H0 := Lib.hid h
  have HX := Lib.hid hX
  clear h hl hX hp
  go_enter Tryz.func61, Tryz.ntmps61
  go_wp2
  go_loopw [3, 4] (fun vo vi wr => ∃ (i : Nat) (gs : List Value) (D : List Row), i ≤ ns.length ∧ vi = .int .i64 i ∧ Hid (Rws w0 (restR kKids vo (.slice (some ⟨g, 0, none⟩) us.length cap) gs us X D ns i) wr) ∧ Hid (Grown kKids w0 D us gs ns i)) (fun _ vi _ => ns.length - (RowKit.intOf vi).toNat)
  case atStart => exact ⟨0, [], [], Nat.zero_le _, rfl, H0, ⟨rfl, fun j hj => absurd hj (Nat.not_lt_zero _)⟩⟩
  case round =>
    obtain ⟨i, gs, D, hi, rfl, HR, HG⟩ := hrel
    have c0 := HC.out wr _ (HR.out.own _ (by simp [restR, HX.out]))
    by_cases hil : i < ns.length
    · have b1 : decide ((i : Int) < (us.length : Int)) = true := decide_eq_true (by omega)
      have b1' : decide (i < us.length) = true := decide_eq_true (by omega)
      have j0 : (0 : Int) ≤ (i : Int) := by omega
      have j1 : (i : Int) < (us.length : Int) := by omega
      obtain ⟨u, hu⟩ : ∃ u, us[i]? = some u := ⟨_, List.getElem?_eq_getElem (by omega)⟩
      obtain ⟨n, hn⟩ : ∃ n, ns[i]? = some n := ⟨_, List.getElem?_eq_getElem hil⟩
      have c1 := HCi.out wr _ i u (HR.out.own _ (by simp [restR])) hu
      obtain ⟨hn1, -⟩ := HL.out i u n hu hn
      have HGr := Lib.hid (Gr.start (take_out hu hn HR.out))
      have HU := Lib.hid hu
      have HN := Lib.hid hn
      clear hu hn HR H0
      go_wp2
      go_loopw [5, 6] (fun vl vn wx => ∃ q : Nat, q ≤ 12 ∧ vn = .int .i64 q ∧ Hid (Gr kKids w0 i u n (restR kKids u3 (.slice (some ⟨g, 0, none⟩) us.length cap) gs us X D ns (i + 1)) vl (n + q) wx)) (fun _ vn _ => 12 - (RowKit.intOf vn).toNat)
      case atStart => exact ⟨0, Nat.zero_le _, rfl, HGr⟩
      case round =>
        obtain ⟨q, hq, rfl, HX2⟩ := hrel
        obtain ⟨m, hm⟩ : ∃ m, m = n + q := ⟨_, rfl⟩
        rw [← hm] at HX2
        obtain ⟨ao, cc, rfl, hnone, hsome⟩ : ∃ (ao : Option Addr) (cc : Nat), u5 = .slice ao m cc ∧ (ao = none → m = 0 ∧ cc = 0) ∧ (∀ a, ao = some a → ∃ gc, a = ⟨gc, 0, none⟩) := by
          rcases HX2.out.cur_ with ⟨e, e1⟩ | ⟨gc, cc, e, _⟩
          · exact ⟨none, 0, by rw [e, e1], (fun _ => ⟨e1, rfl⟩), (fun a h => by cases h)⟩
          · exact ⟨_, cc, e, (fun h => by cases h), (fun a h => ⟨gc, by cases h; rfl⟩)⟩
        by_cases hq12 : q < 12
        · have b2 : decide ((q : Int) < 12) = true := decide_eq_true (by omega)
          have b2' : decide (q < 12) = true := decide_eq_true hq12
          have MP := fun W => Lib.hid (show Calls Tryz.prog 102 #[.int .i64 i, .int .i64 m, .int .i64 1] W fun e w' => ∃ (g c : Nat), e = .returned (.slice (some ⟨g, 0, none⟩) 1 c) ∧ (∀ j u, (marksL kKids i m 1).flatten[j]? = some u → w'.cell? ((⟨g, 0, none⟩ : Addr).add j) = some u) ∧ Below W.heap.size W w' from marksPKids W i m 1 (by omega) (by omega) (by omega) (by omega))
          have hm1 : m ≤ 5000 := by omega
          have hfl0 : (marksL kKids i 0 m).flatten.length = m * 2 := by have h9 := (marksL_ok (κ := kKids) i 0 m).flat; rw [marksL_length] at h9; exact h9
          have hfl1 : (marksL kKids i m 1).flatten.length = 1 * 2 := by have h9 := (marksL_ok (κ := kKids) i m 1).flat; rw [marksL_length] at h9; exact h9
          have hone1 := (marksL_ok (κ := kKids) i m 1).one
          have hone0 := (marksL_ok (κ := kKids) i 0 m).one
          have HF0 := Lib.hid hfl0
          have HF1 := Lib.hid hfl1
          have HO1 := Lib.hid hone1
          have HO0 := Lib.hid hone0
          have hM := Lib.hid hm
          clear hm HGr hfl0 hfl1 hone1 hone0
          by_cases hroom : m + 1 ≤ cc
          · obtain ⟨gc, rfl⟩ : ∃ gc, ao = some ⟨gc, 0, none⟩ := by
              cases ao with
              | none => exact absurd (hnone rfl).2 (by omega)
              | some a => obtain ⟨gc, rfl⟩ := hsome a rfl; exact ⟨gc, rfl⟩
            clear hnone hsome
            go_wp2_with (first
              | (go_at_call 102; (with_reducible refine (MP _).out.mono ?_); rintro e w2 ⟨gm, cm, rfl, hnews, hb⟩; have hG2 := HX2.out.over hb; clear hb)
              | (at_builtin; refine wpList_append_own_spare _ rfl _ _ 22 rfl w0.heap.size 50 i0 2 Tryz.underlying22 hi0 hz1 gc m cc (marksL kKids i 0 m).flatten rfl ?c0 ⟨gm, 0, none⟩ 1 cm (marksL kKids i m 1).flatten rfl ?c1 hnews ?c2 hroom ?_))
            case c0 => have h9 := hG2.row; rw [mRow_eq] at h9; exact h9
            case c1 => exact HF1.out
            case c2 => exact HO1.out
            intro w3 hown3 hgrow3
            have HG3 := Lib.hid (hG2.room hown3 hgrow3)
            clear hown3 hgrow3 hG2 hnews HX2
            go_wp2
            go_roundw
            case rel => exact ⟨q + 1, by omega, by go_num, by rw [show n + (q + 1) = m + 1 by have := hM.out; omega]; exact HG3⟩
            case measure => simp [RowKit.intOf]; omega
          · go_wp2_with (first
              | (go_at_call 102; (with_reducible refine (MP _).out.mono ?_); rintro e w2 ⟨gm, cm, rfl, hnews, hb⟩; have hG2 := HX2.out.over hb; clear hb)
              | (at_builtin; refine wpList_append_grows _ rfl _ _ 22 rfl 50 i0 (Value.agg #[.string ⟨#[]⟩, .int .i64 0]) 2 24 Tryz.underlying22 hi0 hz0 hz1 hz2 rfl (by decide) ao m cc (marksL kKids i 0 m).flatten rfl hnone ?c0 ?c1 ⟨gm, 0, none⟩ 1 cm (marksL kKids i m 1).flatten rfl ?c2 hnews ?c3 ?c4 ?c5 ?c6 ?_))
            case c0 => exact HF0.out
            case c1 =>
              intro a ha j x hx
              obtain ⟨gc, rfl⟩ := hsome a ha
              subst ha
              have hr := hG2.row
              rw [mRow_eq] at hr
              rw [Go.WideShapes.add_plain, Nat.zero_add]
              exact hr.cell rfl hx
            case c2 => exact HF1.out
            case c3 => exact HO1.out
            case c4 => omega
            case c5 => unfold maxLen; omega
            case c6 => omega
            intro v3 w3 hown3 hgrow3
            have HG3 := Lib.hid (hG2.fresh hown3 hgrow3)
            clear hown3 hgrow3 hG2 hnews HX2 hnone hsome
            go_wp2
            go_roundw
            case rel => exact ⟨q + 1, by omega, by go_num, by rw [show n + (q + 1) = m + 1 by have := hM.out; omega]; exact HG3⟩
            case measure => simp [RowKit.intOf]; omega
        · have b2 : decide ((q : Int) < 12) = false := decide_eq_false (by omega)
          have b2' : decide (q < 12) = false := decide_eq_false hq12
          obtain rfl : q = 12 := by omega
          have MP := fun W => Lib.hid (show Calls Tryz.prog 102 #[.int .i64 i, .int .i64 m, .int .i64 60] W fun e w' => ∃ (g c : Nat), e = .returned (.slice (some ⟨g, 0, none⟩) 60 c) ∧ (∀ j u, (marksL kKids i m 60).flatten[j]? = some u → w'.cell? ((⟨g, 0, none⟩ : Addr).add j) = some u) ∧ Below W.heap.size W w' from marksPKids W i m 60 (by omega) (by omega) (by omega) (by omega))
          have hm1 : m ≤ 5000 := by omega
          have hfl0 : (marksL kKids i 0 m).flatten.length = m * 2 := by have h9 := (marksL_ok (κ := kKids) i 0 m).flat; rw [marksL_length] at h9; exact h9
          have hfl1 : (marksL kKids i m 60).flatten.length = 60 * 2 := by have h9 := (marksL_ok (κ := kKids) i m 60).flat; rw [marksL_length] at h9; exact h9
          have hone1 := (marksL_ok (κ := kKids) i m 60).one
          have hone0 := (marksL_ok (κ := kKids) i 0 m).one
          have HF0 := Lib.hid hfl0
          have HF1 := Lib.hid hfl1
          have HO1 := Lib.hid hone1
          have HO0 := Lib.hid hone0
          have hM := Lib.hid hm
          clear hm HGr hfl0 hfl1 hone1 hone0
          by_cases hroom : m + 60 ≤ cc
          · obtain ⟨gc, rfl⟩ : ∃ gc, ao = some ⟨gc, 0, none⟩ := by
              cases ao with
              | none => exact absurd (hnone rfl).2 (by omega)
              | some a => obtain ⟨gc, rfl⟩ := hsome a rfl; exact ⟨gc, rfl⟩
            clear hnone hsome
            go_wp2_with (first
              | (go_at_call 102; (with_reducible refine (MP _).out.mono ?_); rintro e w2 ⟨gm, cm, rfl, hnews, hb⟩; have hG2 := HX2.out.over hb; clear hb)
              | (at_builtin; refine wpList_append_own_spare _ rfl _ _ 22 rfl w0.heap.size 50 i0 2 Tryz.underlying22 hi0 hz1 gc m cc (marksL kKids i 0 m).flatten rfl ?c0 ⟨gm, 0, none⟩ 60 cm (marksL kKids i m 60).flatten rfl ?c1 hnews ?c2 hroom ?_))
            case c0 => have h9 := hG2.row; rw [mRow_eq] at h9; exact h9
            case c1 => exact HF1.out
            case c2 => exact HO1.out
            intro w3 hown3 hgrow3
            have HG3 := Lib.hid (hG2.room hown3 hgrow3)
            clear hown3 hgrow3 hG2 hnews HX2
            have HG4 := Lib.hid (HG3.out.over (below_new w3 (.cells #[Value.slice (some ⟨gc, 0, none⟩) (m + 60) cc] 22)))
            have hout := HG4.out.side (x := vRow kKids u3 gs) (by simp [restR])
            have hone : (Value.slice (some ⟨gc, 0, none⟩) (m + 60) cc).oneCell' = true := by
              rcases HG3.out.cur_ with ⟨e, _⟩ | ⟨g9, c9, e, _⟩
              · rw [e]; rfl
              · rw [e]; rfl
            have hgl := HG.out.1
            have hw3 := HG3.out.below.size
            go_wp2_with (at_builtin; refine wpList_append_own_at _ rfl _ _ 29 rfl w0.heap.size 22 i1 (.slice none 0 0) 1 24 Tryz.underlying29 hi1 hy0 hy1 hy2 rfl (by decide) u3 gs.length gs rfl ?d0 ⟨w3.heap.size, 0, none⟩ 1 1 [Value.slice (some ⟨gc, 0, none⟩) (m + 60) cc] rfl rfl ?d1 ?d2 ?d3 ?d4 ?d5 ?_)
            case d0 => exact hout
            case d1 => exact cell_one_new _ _ _
            case d2 => intro x hx; simp at hx; subst hx; exact hone
            case d3 => unfold maxLen; omega
            case d4 => omega
            case d5 => simp; omega
            intro v5 w5 hown5 hgrow5 _ hat
            have hown5' : w5.ownsRow w0.heap.size 22 1 v5 (gs.length + 1) (gs ++ [Value.slice (some ⟨gc, 0, none⟩) (m + 60) cc]) := by first | exact hown5 | (rw [hgl]; exact hown5)
            have hz5 : (w3.alloc (.cells #[Value.slice (some ⟨gc, 0, none⟩) (m + 60) cc] 22)).heap.size = w3.heap.size + 1 := by simp
            obtain ⟨D', hD1, hD2⟩ := put_in (ov' := v5) HU.out HN.out HL.out HG.out HG4.out (by have := hM.out; omega) (w' := w5) (fun E hE => by
              have e : mRow kKids i (Value.slice (some ⟨gc, 0, none⟩) (m + 60) cc) (m + 60) :: (E ++ restR kKids u3 (.slice (some ⟨g, 0, none⟩) us.length cap) gs us X D ns (i + 1)) = (mRow kKids i (Value.slice (some ⟨gc, 0, none⟩) (m + 60) cc) (m + 60) :: E) ++ vRow kKids u3 gs :: (vRow kKids (.slice (some ⟨g, 0, none⟩) us.length cap) us :: (D ++ rowsOf kKids (us.drop (i + 1)) ((ns.mapIdx fun j n => marksL kKids j 0 n).drop (i + 1)) ++ X)) := by simp [restR]
              rw [e] at hE
              have hq := hE.grown hgrow5 hown5' (by
                rcases hat with hat | hat
                · exact .inl hat
                · exact .inr (fun g9 hg9 => by rw [hat] at hg9; have h9 := Option.some.inj hg9; first | omega | (simp at h9 ⊢; omega)))
              have e2 : (⟨v5, (vRow kKids u3 gs).e, (vRow kKids u3 gs).size, gs.length + 1, gs ++ [Value.slice (some ⟨gc, 0, none⟩) (m + 60) cc]⟩ : Row) = vRow kKids v5 (gs ++ [Value.slice (some ⟨gc, 0, none⟩) (m + 60) cc]) := by unfold vRow; simp
              rw [e2] at hq
              simpa [restR] using hq)
            have HD1 := Lib.hid hD1
            have HD2 := Lib.hid hD2
            clear hown5 hown5' hgrow5 hz5 hat hout hone hD1 hD2 hgl hw3 HG3 HG4
            go_wp2
            go_roundw
            case rel => exact ⟨i + 1, _, D', by omega, by go_num, HD1, HD2⟩
            case measure => simp [RowKit.intOf]; omega
          · go_wp2_with (first
              | (go_at_call 102; (with_reducible refine (MP _).out.mono ?_); rintro e w2 ⟨gm, cm, rfl, hnews, hb⟩; have hG2 := HX2.out.over hb; clear hb)
              | (at_builtin; refine wpList_append_grows _ rfl _ _ 22 rfl 50 i0 (Value.agg #[.string ⟨#[]⟩, .int .i64 0]) 2 24 Tryz.underlying22 hi0 hz0 hz1 hz2 rfl (by decide) ao m cc (marksL kKids i 0 m).flatten rfl hnone ?c0 ?c1 ⟨gm, 0, none⟩ 60 cm (marksL kKids i m 60).flatten rfl ?c2 hnews ?c3 ?c4 ?c5 ?c6 ?_))
            case c0 => exact HF0.out
            case c1 =>
              intro a ha j x hx
              obtain ⟨gc, rfl⟩ := hsome a ha
              subst ha
              have hr := hG2.row
              rw [mRow_eq] at hr
              rw [Go.WideShapes.add_plain, Nat.zero_add]
              exact hr.cell rfl hx
            case c2 => exact HF1.out
            case c3 => exact HO1.out
            case c4 => omega
            case c5 => unfold maxLen; omega
            case c6 => omega
            intro v3 w3 hown3 hgrow3
            have hG3 := hG2.fresh hown3 hgrow3
            obtain ⟨g7, c7, rfl⟩ : ∃ g7 c7, v3 = .slice (some ⟨g7, 0, none⟩) (m + 60) c7 := by
              rcases hG3.cur_ with ⟨_, e⟩ | ⟨g7, c7, e, _⟩
              · omega
              · exact ⟨g7, c7, e⟩
            have HG3 := Lib.hid hG3
            clear hown3 hgrow3 hG2 hG3 hnews HX2 hnone hsome
            have HG4 := Lib.hid (HG3.out.over (below_new w3 (.cells #[Value.slice (some ⟨g7, 0, none⟩) (m + 60) c7] 22)))
            have hout := HG4.out.side (x := vRow kKids u3 gs) (by simp [restR])
            have hone : (Value.slice (some ⟨g7, 0, none⟩) (m + 60) c7).oneCell' = true := by
              rcases HG3.out.cur_ with ⟨e, _⟩ | ⟨g9, c9, e, _⟩
              · rw [e]; rfl
              · rw [e]; rfl
            have hgl := HG.out.1
            have hw3 := HG3.out.below.size
            go_wp2_with (at_builtin; refine wpList_append_own_at _ rfl _ _ 29 rfl w0.heap.size 22 i1 (.slice none 0 0) 1 24 Tryz.underlying29 hi1 hy0 hy1 hy2 rfl (by decide) u3 gs.length gs rfl ?d0 ⟨w3.heap.size, 0, none⟩ 1 1 [Value.slice (some ⟨g7, 0, none⟩) (m + 60) c7] rfl rfl ?d1 ?d2 ?d3 ?d4 ?d5 ?_)
            case d0 => exact hout
            case d1 => exact cell_one_new _ _ _
            case d2 => intro x hx; simp at hx; subst hx; exact hone
            case d3 => unfold maxLen; omega
            case d4 => omega
            case d5 => simp; omega
            intro v5 w5 hown5 hgrow5 _ hat
            have hown5' : w5.ownsRow w0.heap.size 22 1 v5 (gs.length + 1) (gs ++ [Value.slice (some ⟨g7, 0, none⟩) (m + 60) c7]) := by first | exact hown5 | (rw [hgl]; exact hown5)
            have hz5 : (w3.alloc (.cells #[Value.slice (some ⟨g7, 0, none⟩) (m + 60) c7] 22)).heap.size = w3.heap.size + 1 := by simp
            obtain ⟨D', hD1, hD2⟩ := put_in (ov' := v5) HU.out HN.out HL.out HG.out HG4.out (by have := hM.out; omega) (w' := w5) (fun E hE => by
              have e : mRow kKids i (Value.slice (some ⟨g7, 0, none⟩) (m + 60) c7) (m + 60) :: (E ++ restR kKids u3 (.slice (some ⟨g, 0, none⟩) us.length cap) gs us X D ns (i + 1)) = (mRow kKids i (Value.slice (some ⟨g7, 0, none⟩) (m + 60) c7) (m + 60) :: E) ++ vRow kKids u3 gs :: (vRow kKids (.slice (some ⟨g, 0, none⟩) us.length cap) us :: (D ++ rowsOf kKids (us.drop (i + 1)) ((ns.mapIdx fun j n => marksL kKids j 0 n).drop (i + 1)) ++ X)) := by simp [restR]
              rw [e] at hE
              have hq := hE.grown hgrow5 hown5' (by
                rcases hat with hat | hat
                · exact .inl hat
                · exact .inr (fun g9 hg9 => by rw [hat] at hg9; have h9 := Option.some.inj hg9; first | omega | (simp at h9 ⊢; omega)))
              have e2 : (⟨v5, (vRow kKids u3 gs).e, (vRow kKids u3 gs).size, gs.length + 1, gs ++ [Value.slice (some ⟨g7, 0, none⟩) (m + 60) c7]⟩ : Row) = vRow kKids v5 (gs ++ [Value.slice (some ⟨g7, 0, none⟩) (m + 60) c7]) := by unfold vRow; simp
              rw [e2] at hq
              simpa [restR] using hq)
            have HD1 := Lib.hid hD1
            have HD2 := Lib.hid hD2
            clear hown5 hown5' hgrow5 hz5 hat hout hone hD1 hD2 hgl hw3 HG3 HG4
            go_wp2
            go_roundw
            case rel => exact ⟨i + 1, _, D', by omega, by go_num, HD1, HD2⟩
            case measure => simp [RowKit.intOf]; omega
    · have b1 : decide ((i : Int) < (us.length : Int)) = false := decide_eq_false (by omega)
      have b1' : decide (i < us.length) = false := decide_eq_false (by omega)
      obtain rfl : i = ns.length := by omega
      clear H0
      go_wp2
      go_ret
      exact ⟨_, gs, D, rfl, HR.out, HG.out⟩

end Go.Proofs.YthihjkdankbnjaaGreat.PK
