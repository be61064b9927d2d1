/- The program's starred: the term behind a star. -/
import Derived.Test.YtfajodndpoepcaaRc
import Derived.Test.YtfajodndpoepcaaVb
namespace Go.Proofs.Ytfajodndpoepcaa
open Go.RowKit TmM

theorem dn_varN (c : Fo) {k2 : Int} {t2 : ByteArray} (c2 r2 : Fo) (h : ¬ (k2 = 1 ∧ t2 = str 86)) (h4 : k2 ≠ 4) (hz : ¬ (k2 = 1 ∧ kindOf t2 ≠ 0)) : dn (.cons 1 (str 42) c (.cons k2 t2 c2 r2)) = none := by
  cases r2 with
  | nil => exact dn_var0 c c2 h h4
  | cons k4 t4 c4 r4 => rw [dn_var c c2 k4 t4 c4 r4 h h4, if_neg (fun hh => hz ⟨hh.1, hh.2.1⟩)]

theorem ofKind_kindOf' {t : ByteArray} (h : kindOf t ≠ 0) : t = ⟨#[83]⟩ ∨ t = ⟨#[84]⟩ ∨ t = ⟨#[69]⟩ := by
  unfold kindOf at h
  by_cases h5 : t = str 83
  · exact .inl h5
  · by_cases h6 : t = str 84
    · exact .inr (.inl h6)
    · by_cases h7 : t = str 69
      · exact .inr (.inr h7)
      · rw [if_neg h5, if_neg h6, if_neg h7] at h; exact absurd rfl h

theorem st_none {g n : Nat} {w w' : World} {r : Fo} (h : ∀ c0, dn (.cons 1 (str 42) c0 r) = none) (ho : Only g w w') : OutSt g n w r (.panicked wrongP) w' := .inr ⟨rfl, Lib.hid h, Lib.hid ho⟩
/-- the result, behind its last stores. -/
theorem st_end {g n m cap : Nat} {w w2 : World} {r r' c : Fo} {k : Int} {t : ByteArray} {a : Option Addr} {u1 u2 u3 : Value} (hd : ∀ c0, dn (.cons 1 (str 42) c0 r) = (dn r').map (Fo.cons k t c)) (hl : r'.len < r.len ∧ r'.count < r.count) (hm : m = c.len)
    (hs : SlS (fun b => w.heap.size < b ∧ b < w2.heap.size) w2 a cap c) (hr : Rd g n w2 r') (hg : g < w.heap.size) (hn : n ≤ g) (ho : Only g w w2) :
    OutSt g n w r (.returned (.agg #[.int .i64 k, .string t, .slice a m cap])) (((w2.setCell ⟨w.heap.size, 0, none⟩ u1).setCell ⟨w.heap.size, 1, none⟩ u2).setCell ⟨w.heap.size, 2, none⟩ u3) := by
  subst hm
  have hz : (((w2.setCell ⟨w.heap.size, 0, none⟩ u1).setCell ⟨w.heap.size, 1, none⟩ u2).setCell ⟨w.heap.size, 2, none⟩ u3).heap.size = w2.heap.size := by simp [World.setCell]
  have hh : ∀ b, b ≠ w.heap.size → (((w2.setCell ⟨w.heap.size, 0, none⟩ u1).setCell ⟨w.heap.size, 1, none⟩ u2).setCell ⟨w.heap.size, 2, none⟩ u3).heap[b]? = w2.heap[b]? := fun b hb => by
    rw [Below.heap_setCell _ _ _ _ hb, Below.heap_setCell _ _ _ _ hb, Below.heap_setCell _ _ _ _ hb]
  have ho' := ((ho.set (b := w.heap.size) (j := 0) (.inr (Nat.le_refl _)) (by omega) u1).set (b := w.heap.size) (j := 1) (.inr (Nat.le_refl _)) (by omega) u2).set (b := w.heap.size) (j := 2) (.inr (Nat.le_refl _)) (by omega) u3
  obtain ⟨ar, capr, h1, h2⟩ := hr
  have hb2 : Below n w2 (((w2.setCell ⟨w.heap.size, 0, none⟩ u1).setCell ⟨w.heap.size, 1, none⟩ u2).setCell ⟨w.heap.size, 2, none⟩ u3) :=
    (((Below.refl _ _).setCell (p := ⟨w.heap.size, 0, none⟩) (by simp; omega) _).setCell (p := ⟨w.heap.size, 1, none⟩) (by simp; omega) _).setCell (p := ⟨w.heap.size, 2, none⟩) (by simp; omega) _
  exact .inl ⟨k, t, c, a, cap, r', rfl, Lib.hid hd, Lib.hid hl, Lib.hid (hs.mono (fun b hb => ⟨Nat.le_of_lt hb.1, by rw [hz]; exact hb.2⟩) (fun b hb => hh b (by have := hb.1; omega))),
    Lib.hid ⟨ar, capr, (hh g (by omega)).trans h1, h2.below hb2 (Nat.le_refl _)⟩, Lib.hid ho'⟩

set_option maxHeartbeats 12800000 in
set_option maxRecDepth 100000 in
theorem starred_any (g n : Nat) (w : World) (r : Fo) (hR : Rd g n w r) (hn : n ≤ g)
    (hcall : ∀ c2, c2.count < r.count → ∀ (a : Option Addr) (cap : Nat) (w' : World), Sl w'.heap.size w' a cap c2 → Calls Try.prog 67 #[.slice a c2.len cap] w' (OutCl w' c2)) :
    Calls Try.prog 50 #[.func (.func 64) #[] #[.pointer (some ⟨g, 0, none⟩)]] w (OutSt g n w r) := by
  have hg := hR.lt
  obtain ⟨W0, hW0⟩ : ∃ W0, W0 = w.alloc (.cells #[.int .i64 0, .string ⟨#[]⟩, .slice none 0 0] 35) := ⟨_, rfl⟩
  have k0 : Blk3 W0 w.heap.size (.int .i64 0) (.string ⟨#[]⟩) (.slice none 0 0) := by rw [hW0]; exact Blk3.new _ _ _ _
  have hb0 : Below w.heap.size w W0 := by rw [hW0]; exact (Below.refl _ _).alloc (Nat.le_refl _) _
  have ho0 := Lib.hid (Only.of_below hb0 (Nat.le_of_lt hg))
  have HR := Lib.hid (hR.later hb0 (by omega))
  have K0 := Lib.hid k0
  have HCALL := Lib.hid hcall
  have hng : ¬ w.heap.size = g := by omega
  have hz0 := k0.lt
  clear hR hcall k0
  cases r with
  | nil =>
    go_enter Try.func50, Try.ntmps50
    go_wp2_with fail
    rw [← hW0]
    clear hW0
    refine (rnext_none _ _ W0 HR.out).mono ?_
    rintro e w1 ⟨rfl, ho1⟩
    exact ⟨rfl, st_none dn_end (ho0.out.trans ho1.out)⟩
  | cons k2 t2 c2 r2 =>
    have HX := Lib.hid (fun (w1 : World) (h : Only g W0 w1) => show Only g w w1 ∧ Blk3 w1 w.heap.size (.int .i64 0) (.string ⟨#[]⟩) (.slice none 0 0) ∧ w.heap.size < w1.heap.size from
      ⟨ho0.out.trans h, (h.block _ hz0 hng).trans K0.out, Nat.lt_of_lt_of_le hz0 h.below.size⟩)
    go_enter Try.func50, Try.ntmps50
    go_wp2_with fail
    rw [← hW0]
    clear hW0
    refine (rnext_some _ _ W0 _ _ _ _ HR.out hn).mono ?_
    rintro e w1 ⟨a2, cap2, rfl, hs1, hr1, ho1⟩
    obtain ⟨ho01, hk1, hz1⟩ := HX.out w1 ho1.out
    obtain ⟨m2, hm2⟩ : ∃ m, m = c2.len := ⟨_, rfl⟩
    have HM2 := Lib.hid hm2
    rw [← hm2]
    clear hm2
    obtain ⟨W1, hW1⟩ : ∃ W1, W1 = w1.alloc (.cells #[.int .i64 k2, .string t2, .slice a2 m2 cap2] 35) := ⟨_, rfl⟩
    have hb1 : Below w1.heap.size w1 W1 := by rw [hW1]; exact (Below.refl _ _).alloc (Nat.le_refl _) _
    have hbox : Box W1 w1.heap.size k2 t2 a2 m2 cap2 := by rw [hW1]; exact Box.new _ _ _ _ _ _
    have HB := Lib.hid hbox
    have hgw1 : g ≤ w1.heap.size := by omega
    have HO1 := Lib.hid (ho01.trans (Only.of_below hb1 hgw1))
    have HK1 := Lib.hid (hk1.later hb1 hz1)
    have HR1 := Lib.hid (hr1.out.later hb1 (by omega))
    have HS1 := Lib.hid (hs1.out.below (hb1.mono (by omega)) (show n ≤ W1.heap.size by have := hb1.size; omega))
    -- all that a later world keeps
    have HL := Lib.hid (fun (w' : World) (h : Below W1.heap.size W1 w') => show Only g w w' ∧ Blk3 w' w.heap.size (.int .i64 0) (.string ⟨#[]⟩) (.slice none 0 0) ∧ w.heap.size < w'.heap.size ∧ Rd g n w' r2 ∧ Box w' w1.heap.size k2 t2 a2 m2 cap2 from by
      have hsz := hb1.size
      exact ⟨HO1.out.trans (Only.of_below h (by omega)), HK1.out.later h (by omega), by have := h.size; omega, HR1.out.later h (by omega), HB.out.later h⟩)
    obtain ⟨x3, x0, x1, x2⟩ := hbox
    clear hk1 hs1 hr1 ho1 ho01 hb1
    by_cases h4 : k2 = 4
    · subst h4
      have S := Lib.hid (HCALL.out c2 (by simp [Fo.count]; omega) a2 cap2 W1 HS1.out)
      rw [← HM2.out] at S
      go_wp2_with fail
      rw [← hW1]
      clear hW1
      refine S.out.mono ?_
      rintro e w2 (⟨t, l, al, capl, rfl, hc, hs2, hb2⟩ | ⟨rfl, hc, hb2⟩)
      · obtain ⟨ho2, hk2, hz2, hr2, _⟩ := HL.out w2 hb2.out
        obtain ⟨y0, y1, y2, y3, y4, y5⟩ := hk2.cells
        obtain ⟨ml, hml⟩ : ∃ m, m = l.len := ⟨_, rfl⟩
        rw [← hml]
        have HML := Lib.hid hml
        have HO2 := Lib.hid ho2
        have HR2 := Lib.hid hr2
        clear hml x0 x1 x2 ho2 hr2 hk2
        go_wp2
        refine bodyPost_ret (v := .agg #[.int .i64 8, .string t, .slice al ml capl]) (by simp [results, Try.results50, go_sem, y0, y1, y2]) rfl ?_
        exact st_end (fun c0 => by rw [dn_callX, hc.out]; rfl) ⟨by simp, by simp [Fo.count]; omega⟩ HML.out (hs2.out.mono (fun b hb => ⟨by have := hb.1; omega, hb.2⟩) (fun _ _ => rfl)) HR2.out hg hn HO2.out
      · obtain ⟨ho2, _⟩ := HL.out w2 hb2.out
        exact ⟨rfl, st_none (fun c0 => by rw [dn_callX, hc.out]; rfl) ho2⟩
    have q4 : (k2 == 4) = false := by simpa using h4
    have Q4 := Lib.hid h4
    clear h4
    by_cases hV : k2 = 1 ∧ t2 = ⟨#[86]⟩
    · obtain ⟨rfl, rfl⟩ := hV
      go_wp2_with fail
      rw [← hW1]
      clear hW1
      refine (isChar_yes ⟨#[86]⟩ a2 m2 cap2 W1).mono ?_
      rintro e v2 ⟨rfl, hbv2⟩
      have hcv2 := hbv2
      obtain ⟨hov2, hkv2, hzv2, hrv2, z3, z0, z1, z2⟩ := HL.out v2 hcv2
      clear x3 x0 x1 x2
      obtain ⟨x3, x0, x1, x2⟩ : _ ∧ _ ∧ _ ∧ _ := ⟨z3, z0, z1, z2⟩
      clear z3 z0 z1 z2
      go_wp2_with fail
      refine (mchar_42 v2).mono ?_
      rintro e u2 ⟨rfl, hbu⟩
      have hcu := hcv2.trans (hbu.mono hcv2.size)
      obtain ⟨hou, hku, hzu, hru, _⟩ := HL.out u2 hcu
      obtain ⟨y0, y1, y2, y3, y4, y5⟩ := hku.cells
      have HOU := Lib.hid hou
      have HRU := Lib.hid hru
      clear hou hru hku hov2 hkv2 hrv2
      go_wp2
      refine bodyPost_ret (v := .agg #[.int .i64 1, .string ⟨#[42]⟩, .slice none 0 0]) (by simp [results, Try.results50, go_sem, y0, y1, y2]) rfl ?_
      exact st_end (fun c0 => dn_star c0 c2 r2) ⟨by simp, by simp [Fo.count]; omega⟩ rfl SlS.nil HRU.out hg hn HOU.out
    by_cases hS : k2 = 1 ∧ t2 = ⟨#[83]⟩
    · obtain ⟨rfl, rfl⟩ := hS
      go_wp2_with fail
      rw [← hW1]
      clear hW1
      refine (isChar_no 1 ⟨#[83]⟩ ⟨#[86]⟩ (by decide) a2 m2 cap2 W1).mono ?_
      rintro e v2 ⟨rfl, hbv2⟩
      have hcv2 := hbv2
      obtain ⟨hov2, hkv2, hzv2, hrv2, z3, z0, z1, z2⟩ := HL.out v2 hcv2
      clear x3 x0 x1 x2
      obtain ⟨x3, x0, x1, x2⟩ : _ ∧ _ ∧ _ ∧ _ := ⟨z3, z0, z1, z2⟩
      clear z3 z0 z1 z2
      go_wp2_with fail
      refine (isChar_yes ⟨#[83]⟩ a2 m2 cap2 v2).mono ?_
      rintro e v3 ⟨rfl, hbv3⟩
      have hcv3 := hcv2.trans (hbv3.mono hcv2.size)
      obtain ⟨hov3, hkv3, hzv3, hrv3, z3, z0, z1, z2⟩ := HL.out v3 hcv3
      clear x3 x0 x1 x2
      obtain ⟨x3, x0, x1, x2⟩ : _ ∧ _ ∧ _ ∧ _ := ⟨z3, z0, z1, z2⟩
      clear z3 z0 z1 z2
      have hko : kindOf ⟨#[83]⟩ = 5 := by decide
      have HKO := Lib.hid hko
      have HR2 := Lib.hid hrv3
      have HO2 := Lib.hid hov3
      have HK2 := Lib.hid hkv3
      clear hko hrv3 hov3 hkv3
      have hgz : g < v3.heap.size := by omega
      have HNX := Lib.hid (fun (u : World) (h : Only g v3 u) => show Only g w u ∧ Blk3 u w.heap.size (.int .i64 0) (.string ⟨#[]⟩) (.slice none 0 0) ∧ w.heap.size < u.heap.size from
        ⟨HO2.out.trans h, (h.block _ hzv3 hng).trans HK2.out, Nat.lt_of_lt_of_le hzv3 h.below.size⟩)
      cases r2 with
      | nil =>
        go_wp2_with fail
        refine (rnext_none _ _ v3 HR2.out).mono ?_
        rintro e u2 ⟨rfl, hou⟩
        exact ⟨rfl, st_none (fun c0 => dn_var0 (k2 := 1) (t2 := ⟨#[83]⟩) c0 c2 (by decide) (by decide)) (HNX.out u2 hou.out).1⟩
      | cons k4 t4 c4 r4 =>
        go_wp2_with fail
        refine (rnext_some _ _ v3 _ _ _ _ HR2.out hn).mono ?_
        rintro e u2 ⟨a4, cap4, rfl, hs4, hr4, hou⟩
        obtain ⟨ho2, hk2, hz2⟩ := HNX.out u2 hou.out
        by_cases h2 : k4 = 2
        · subst h2
          go_wp2_with fail
          refine (named_ok 5 t4 a4 c4.len cap4 u2).mono ?_
          rintro e u3 ⟨rfl, hb3⟩
          obtain ⟨y0, y1, y2, y3, y4, y5⟩ := (hk2.later hb3 hz2).cells
          have HO3 := Lib.hid (ho2.trans (Only.of_below hb3 (by omega)))
          have HR3 := Lib.hid (hr4.out.later hb3 (by omega))
          clear ho2 hk2
          go_wp2
          refine bodyPost_ret (v := .agg #[.int .i64 5, .string t4, .slice none 0 0]) (by simp [results, Try.results50, go_sem, y0, y1, y2]) rfl ?_
          exact st_end (fun c0 => by rw [dn_var (k2 := 1) (t2 := ⟨#[83]⟩) c0 c2 2 t4 c4 r4 (by decide) (by decide), if_pos ⟨rfl, by rw [HKO.out]; decide, rfl⟩, HKO.out]) ⟨by simp; omega, by simp [Fo.count]; omega⟩ rfl SlS.nil HR3.out hg hn HO3.out
        · have H2 := Lib.hid h2
          go_wp2_with fail
          refine (named_bad 5 k4 t4 a4 c4.len cap4 u2 h2).mono ?_
          rintro e u3 ⟨rfl, hb3⟩
          exact ⟨rfl, st_none (fun c0 => by rw [dn_var (k2 := 1) (t2 := ⟨#[83]⟩) c0 c2 k4 t4 c4 r4 (by decide) (by decide), if_neg (fun h => H2.out h.2.2)]) (ho2.trans (Only.of_below hb3.out (by omega)))⟩
    by_cases hT : k2 = 1 ∧ t2 = ⟨#[84]⟩
    · obtain ⟨rfl, rfl⟩ := hT
      go_wp2_with fail
      rw [← hW1]
      clear hW1
      refine (isChar_no 1 ⟨#[84]⟩ ⟨#[86]⟩ (by decide) a2 m2 cap2 W1).mono ?_
      rintro e v2 ⟨rfl, hbv2⟩
      have hcv2 := hbv2
      obtain ⟨hov2, hkv2, hzv2, hrv2, z3, z0, z1, z2⟩ := HL.out v2 hcv2
      clear x3 x0 x1 x2
      obtain ⟨x3, x0, x1, x2⟩ : _ ∧ _ ∧ _ ∧ _ := ⟨z3, z0, z1, z2⟩
      clear z3 z0 z1 z2
      go_wp2_with fail
      refine (isChar_no 1 ⟨#[84]⟩ ⟨#[83]⟩ (by decide) a2 m2 cap2 v2).mono ?_
      rintro e v3 ⟨rfl, hbv3⟩
      have hcv3 := hcv2.trans (hbv3.mono hcv2.size)
      obtain ⟨hov3, hkv3, hzv3, hrv3, z3, z0, z1, z2⟩ := HL.out v3 hcv3
      clear x3 x0 x1 x2
      obtain ⟨x3, x0, x1, x2⟩ : _ ∧ _ ∧ _ ∧ _ := ⟨z3, z0, z1, z2⟩
      clear z3 z0 z1 z2
      go_wp2_with fail
      refine (isChar_yes ⟨#[84]⟩ a2 m2 cap2 v3).mono ?_
      rintro e v4 ⟨rfl, hbv4⟩
      have hcv4 := hcv3.trans (hbv4.mono hcv3.size)
      obtain ⟨hov4, hkv4, hzv4, hrv4, z3, z0, z1, z2⟩ := HL.out v4 hcv4
      clear x3 x0 x1 x2
      obtain ⟨x3, x0, x1, x2⟩ : _ ∧ _ ∧ _ ∧ _ := ⟨z3, z0, z1, z2⟩
      clear z3 z0 z1 z2
      have hko : kindOf ⟨#[84]⟩ = 6 := by decide
      have HKO := Lib.hid hko
      have HR2 := Lib.hid hrv4
      have HO2 := Lib.hid hov4
      have HK2 := Lib.hid hkv4
      clear hko hrv4 hov4 hkv4
      have hgz : g < v4.heap.size := by omega
      have HNX := Lib.hid (fun (u : World) (h : Only g v4 u) => show Only g w u ∧ Blk3 u w.heap.size (.int .i64 0) (.string ⟨#[]⟩) (.slice none 0 0) ∧ w.heap.size < u.heap.size from
        ⟨HO2.out.trans h, (h.block _ hzv4 hng).trans HK2.out, Nat.lt_of_lt_of_le hzv4 h.below.size⟩)
      cases r2 with
      | nil =>
        go_wp2_with fail
        refine (rnext_none _ _ v4 HR2.out).mono ?_
        rintro e u2 ⟨rfl, hou⟩
        exact ⟨rfl, st_none (fun c0 => dn_var0 (k2 := 1) (t2 := ⟨#[84]⟩) c0 c2 (by decide) (by decide)) (HNX.out u2 hou.out).1⟩
      | cons k4 t4 c4 r4 =>
        go_wp2_with fail
        refine (rnext_some _ _ v4 _ _ _ _ HR2.out hn).mono ?_
        rintro e u2 ⟨a4, cap4, rfl, hs4, hr4, hou⟩
        obtain ⟨ho2, hk2, hz2⟩ := HNX.out u2 hou.out
        by_cases h2 : k4 = 2
        · subst h2
          go_wp2_with fail
          refine (named_ok 6 t4 a4 c4.len cap4 u2).mono ?_
          rintro e u3 ⟨rfl, hb3⟩
          obtain ⟨y0, y1, y2, y3, y4, y5⟩ := (hk2.later hb3 hz2).cells
          have HO3 := Lib.hid (ho2.trans (Only.of_below hb3 (by omega)))
          have HR3 := Lib.hid (hr4.out.later hb3 (by omega))
          clear ho2 hk2
          go_wp2
          refine bodyPost_ret (v := .agg #[.int .i64 6, .string t4, .slice none 0 0]) (by simp [results, Try.results50, go_sem, y0, y1, y2]) rfl ?_
          exact st_end (fun c0 => by rw [dn_var (k2 := 1) (t2 := ⟨#[84]⟩) c0 c2 2 t4 c4 r4 (by decide) (by decide), if_pos ⟨rfl, by rw [HKO.out]; decide, rfl⟩, HKO.out]) ⟨by simp; omega, by simp [Fo.count]; omega⟩ rfl SlS.nil HR3.out hg hn HO3.out
        · have H2 := Lib.hid h2
          go_wp2_with fail
          refine (named_bad 6 k4 t4 a4 c4.len cap4 u2 h2).mono ?_
          rintro e u3 ⟨rfl, hb3⟩
          exact ⟨rfl, st_none (fun c0 => by rw [dn_var (k2 := 1) (t2 := ⟨#[84]⟩) c0 c2 k4 t4 c4 r4 (by decide) (by decide), if_neg (fun h => H2.out h.2.2)]) (ho2.trans (Only.of_below hb3.out (by omega)))⟩
    by_cases hE : k2 = 1 ∧ t2 = ⟨#[69]⟩
    · obtain ⟨rfl, rfl⟩ := hE
      go_wp2_with fail
      rw [← hW1]
      clear hW1
      refine (isChar_no 1 ⟨#[69]⟩ ⟨#[86]⟩ (by decide) a2 m2 cap2 W1).mono ?_
      rintro e v2 ⟨rfl, hbv2⟩
      have hcv2 := hbv2
      obtain ⟨hov2, hkv2, hzv2, hrv2, z3, z0, z1, z2⟩ := HL.out v2 hcv2
      clear x3 x0 x1 x2
      obtain ⟨x3, x0, x1, x2⟩ : _ ∧ _ ∧ _ ∧ _ := ⟨z3, z0, z1, z2⟩
      clear z3 z0 z1 z2
      go_wp2_with fail
      refine (isChar_no 1 ⟨#[69]⟩ ⟨#[83]⟩ (by decide) a2 m2 cap2 v2).mono ?_
      rintro e v3 ⟨rfl, hbv3⟩
      have hcv3 := hcv2.trans (hbv3.mono hcv2.size)
      obtain ⟨hov3, hkv3, hzv3, hrv3, z3, z0, z1, z2⟩ := HL.out v3 hcv3
      clear x3 x0 x1 x2
      obtain ⟨x3, x0, x1, x2⟩ : _ ∧ _ ∧ _ ∧ _ := ⟨z3, z0, z1, z2⟩
      clear z3 z0 z1 z2
      go_wp2_with fail
      refine (isChar_no 1 ⟨#[69]⟩ ⟨#[84]⟩ (by decide) a2 m2 cap2 v3).mono ?_
      rintro e v4 ⟨rfl, hbv4⟩
      have hcv4 := hcv3.trans (hbv4.mono hcv3.size)
      obtain ⟨hov4, hkv4, hzv4, hrv4, z3, z0, z1, z2⟩ := HL.out v4 hcv4
      clear x3 x0 x1 x2
      obtain ⟨x3, x0, x1, x2⟩ : _ ∧ _ ∧ _ ∧ _ := ⟨z3, z0, z1, z2⟩
      clear z3 z0 z1 z2
      go_wp2_with fail
      refine (isChar_yes ⟨#[69]⟩ a2 m2 cap2 v4).mono ?_
      rintro e v5 ⟨rfl, hbv5⟩
      have hcv5 := hcv4.trans (hbv5.mono hcv4.size)
      obtain ⟨hov5, hkv5, hzv5, hrv5, z3, z0, z1, z2⟩ := HL.out v5 hcv5
      clear x3 x0 x1 x2
      obtain ⟨x3, x0, x1, x2⟩ : _ ∧ _ ∧ _ ∧ _ := ⟨z3, z0, z1, z2⟩
      clear z3 z0 z1 z2
      have hko : kindOf ⟨#[69]⟩ = 7 := by decide
      have HKO := Lib.hid hko
      have HR2 := Lib.hid hrv5
      have HO2 := Lib.hid hov5
      have HK2 := Lib.hid hkv5
      clear hko hrv5 hov5 hkv5
      have hgz : g < v5.heap.size := by omega
      have HNX := Lib.hid (fun (u : World) (h : Only g v5 u) => show Only g w u ∧ Blk3 u w.heap.size (.int .i64 0) (.string ⟨#[]⟩) (.slice none 0 0) ∧ w.heap.size < u.heap.size from
        ⟨HO2.out.trans h, (h.block _ hzv5 hng).trans HK2.out, Nat.lt_of_lt_of_le hzv5 h.below.size⟩)
      cases r2 with
      | nil =>
        go_wp2_with fail
        refine (rnext_none _ _ v5 HR2.out).mono ?_
        rintro e u2 ⟨rfl, hou⟩
        exact ⟨rfl, st_none (fun c0 => dn_var0 (k2 := 1) (t2 := ⟨#[69]⟩) c0 c2 (by decide) (by decide)) (HNX.out u2 hou.out).1⟩
      | cons k4 t4 c4 r4 =>
        go_wp2_with fail
        refine (rnext_some _ _ v5 _ _ _ _ HR2.out hn).mono ?_
        rintro e u2 ⟨a4, cap4, rfl, hs4, hr4, hou⟩
        obtain ⟨ho2, hk2, hz2⟩ := HNX.out u2 hou.out
        by_cases h2 : k4 = 2
        · subst h2
          go_wp2_with fail
          refine (named_ok 7 t4 a4 c4.len cap4 u2).mono ?_
          rintro e u3 ⟨rfl, hb3⟩
          obtain ⟨y0, y1, y2, y3, y4, y5⟩ := (hk2.later hb3 hz2).cells
          have HO3 := Lib.hid (ho2.trans (Only.of_below hb3 (by omega)))
          have HR3 := Lib.hid (hr4.out.later hb3 (by omega))
          clear ho2 hk2
          go_wp2
          refine bodyPost_ret (v := .agg #[.int .i64 7, .string t4, .slice none 0 0]) (by simp [results, Try.results50, go_sem, y0, y1, y2]) rfl ?_
          exact st_end (fun c0 => by rw [dn_var (k2 := 1) (t2 := ⟨#[69]⟩) c0 c2 2 t4 c4 r4 (by decide) (by decide), if_pos ⟨rfl, by rw [HKO.out]; decide, rfl⟩, HKO.out]) ⟨by simp; omega, by simp [Fo.count]; omega⟩ rfl SlS.nil HR3.out hg hn HO3.out
        · have H2 := Lib.hid h2
          go_wp2_with fail
          refine (named_bad 7 k4 t4 a4 c4.len cap4 u2 h2).mono ?_
          rintro e u3 ⟨rfl, hb3⟩
          exact ⟨rfl, st_none (fun c0 => by rw [dn_var (k2 := 1) (t2 := ⟨#[69]⟩) c0 c2 k4 t4 c4 r4 (by decide) (by decide), if_neg (fun h => H2.out h.2.2)]) (ho2.trans (Only.of_below hb3.out (by omega)))⟩
    have HN := Lib.hid (show ¬ (k2 = 1 ∧ kindOf t2 ≠ 0) from fun h => by
      have := (ofKind_kindOf' h.2)
      rcases this with e | e | e
      · exact hS ⟨h.1, e⟩
      · exact hT ⟨h.1, e⟩
      · exact hE ⟨h.1, e⟩)
    have HVV := Lib.hid hV
    have HVS := Lib.hid hS
    have HVT := Lib.hid hT
    have HVE := Lib.hid hE
    clear hV hS hT hE
    go_wp2_with fail
    rw [← hW1]
    clear hW1
    refine (isChar_no k2 t2 ⟨#[86]⟩ HVV.out a2 m2 cap2 W1).mono ?_
    rintro e v2 ⟨rfl, hbv2⟩
    have hcv2 := hbv2
    obtain ⟨hov2, hkv2, hzv2, hrv2, z3, z0, z1, z2⟩ := HL.out v2 hcv2
    clear x3 x0 x1 x2
    obtain ⟨x3, x0, x1, x2⟩ : _ ∧ _ ∧ _ ∧ _ := ⟨z3, z0, z1, z2⟩
    clear z3 z0 z1 z2
    go_wp2_with fail
    refine (isChar_no k2 t2 ⟨#[83]⟩ HVS.out a2 m2 cap2 v2).mono ?_
    rintro e v3 ⟨rfl, hbv3⟩
    have hcv3 := hcv2.trans (hbv3.mono hcv2.size)
    obtain ⟨hov3, hkv3, hzv3, hrv3, z3, z0, z1, z2⟩ := HL.out v3 hcv3
    clear x3 x0 x1 x2
    obtain ⟨x3, x0, x1, x2⟩ : _ ∧ _ ∧ _ ∧ _ := ⟨z3, z0, z1, z2⟩
    clear z3 z0 z1 z2
    go_wp2_with fail
    refine (isChar_no k2 t2 ⟨#[84]⟩ HVT.out a2 m2 cap2 v3).mono ?_
    rintro e v4 ⟨rfl, hbv4⟩
    have hcv4 := hcv3.trans (hbv4.mono hcv3.size)
    obtain ⟨hov4, hkv4, hzv4, hrv4, z3, z0, z1, z2⟩ := HL.out v4 hcv4
    clear x3 x0 x1 x2
    obtain ⟨x3, x0, x1, x2⟩ : _ ∧ _ ∧ _ ∧ _ := ⟨z3, z0, z1, z2⟩
    clear z3 z0 z1 z2
    go_wp2_with fail
    refine (isChar_no k2 t2 ⟨#[69]⟩ HVE.out a2 m2 cap2 v4).mono ?_
    rintro e v5 ⟨rfl, hbv5⟩
    have hcv5 := hcv4.trans (hbv5.mono hcv4.size)
    obtain ⟨hov5, hkv5, hzv5, hrv5, z3, z0, z1, z2⟩ := HL.out v5 hcv5
    clear x3 x0 x1 x2
    obtain ⟨x3, x0, x1, x2⟩ : _ ∧ _ ∧ _ ∧ _ := ⟨z3, z0, z1, z2⟩
    clear z3 z0 z1 z2
    have HOF := Lib.hid hov5
    go_wp2
    exact ⟨rfl, st_none (fun c0 => dn_varN c0 c2 r2 HVV.out Q4.out HN.out) HOF.out⟩
end Go.Proofs.Ytfajodndpoepcaa
