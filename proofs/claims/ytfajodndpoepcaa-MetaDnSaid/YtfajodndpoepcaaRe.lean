/- The program's expression: what has a list of terms as its metacode. -/
import Derived.Test.YtfajodndpoepcaaRs
namespace Go.Proofs.Ytfajodndpoepcaa
open Go.RowKit TmM

/-- how many terms a reader has left. -/
def leftAt (g : Nat) (w : World) : Nat := match w.cell? ⟨g, 0, none⟩ with
  | some (.slice _ m _) => m
  | _ => 0
theorem leftAt_eq {g n : Nat} {w : World} {r : Fo} (h : Rd g n w r) : leftAt g w = r.len := by
  obtain ⟨a, cap, h1, _⟩ := h
  unfold leftAt
  rw [h1.cell]

theorem ex_none {w w' : World} {f : Fo} (h : dn f = none) (hb : Below w.heap.size w w') : OutEx w f (.panicked wrongP) w' := .inr ⟨rfl, Lib.hid h, Lib.hid hb⟩
theorem ex_some {w w' : World} {f g : Fo} {v : Value} {base : Nat} (h : dn f = some g) (hB : Built base w' v g) (hbase : w.heap.size ≤ base) (hb : Below w.heap.size w w') : OutEx w f (.returned v) w' := by
  obtain ⟨a, cap, rfl, hs⟩ := hB.sls
  exact .inl ⟨g, a, cap, rfl, Lib.hid h, Lib.hid (hs.mono (fun b hb => ⟨by omega, hb.2⟩) (fun _ _ => rfl)), Lib.hid hb⟩

theorem go_step' {f r r' : Fo} {P : Fo} {k : Int} {t : ByteArray} {c : Fo} (h : dn f = (dn r).map (P.app ·)) (hs : dn r = (dn r').map (Fo.cons k t c)) : dn f = (dn r').map ((P.app (.cons k t c .nil)).app ·) := by
  rw [h, hs, Option.map_map]
  congr 1
  funext l
  simp [Function.comp, Fo.app_assoc, Fo.app]

theorem rmore_nil (g n : Nat) (w : World) (hR : Rd g n w .nil) : Calls Try.prog 66 #[.pointer (some ⟨g, 0, none⟩)] w fun e w' => e = .returned (.bool false) ∧ w = w' := rmore_any g n w .nil hR
theorem rmore_cons (g n : Nat) (w : World) (k : Int) (t : ByteArray) (c r : Fo) (hR : Rd g n w (.cons k t c r)) : Calls Try.prog 66 #[.pointer (some ⟨g, 0, none⟩)] w fun e w' => e = .returned (.bool true) ∧ w = w' := by
  have h := rmore_any g n w (.cons k t c r) hR
  rwa [decide_eq_true (by simp)] at h

theorem Built.only {base g : Nat} {w w' : World} {v : Value} {G : Fo} (h : Built base w v G) (ho : Only g w w') (hg : g < base) : Built base w' v G :=
  h.under (fun b h1 h2 => ho.block b h2 (by omega)) ho.below.size

/-- what stands at the head of a round. -/
def ExRel (g base : Nat) (w : World) (f : Fo) (v : Value) (wr : World) : Prop :=
  ∃ (P r : Fo), Hid (Built base wr v P) ∧ Hid (dn f = (dn r).map (P.app ·)) ∧ Hid (P.len + r.len ≤ f.len ∧ r.count ≤ f.count) ∧ Hid (Rd g g wr r) ∧ Hid (Below w.heap.size w wr ∧ base ≤ wr.heap.size)

theorem rd_pushed {g base n : Nat} {w5 w6 : World} {o : Obj} {P r : Fo} {v : Value} (hB5 : Built base w5 v P) (hgrow : (w5.alloc o).grownBy w6 v.ownBlock) (hR : Rd g n w5 r) (hg : g < base) (hn : n ≤ g) : Rd g n w6 r := by
  have hlt := hR.lt
  obtain ⟨a, cap, h1, h2⟩ := hR
  have hne : some g ≠ v.ownBlock := fun e => by have := hB5.own_ge e.symm; omega
  have hb : Below n w5 w6 := ((Below.refl n w5).alloc (by omega) o).grown hgrow (by simp; omega) (fun k hk => by have := hB5.own_ge hk; omega)
  exact ⟨a, cap, (h1.alloc o).kept hgrow hne, h2.below hb (Nat.le_refl _)⟩
theorem rel_next {g base : Nat} {w w5 w6 : World} {o : Obj} {f P r H : Fo} {v v6 : Value} (hB5 : Built base w5 v P) (hB6 : Built base w6 v6 (P.app H)) (hgrow : (w5.alloc o).grownBy w6 v.ownBlock) (hg : g < base) (hwg : w.heap.size ≤ g) (hbw : Below w.heap.size w w5) (hbase : base ≤ w5.heap.size)
    (hR : Rd g g w6 r) (hd : dn f = (dn r).map ((P.app H).app ·)) (hH : H.len = 1) (hl : P.len + 1 + r.len ≤ f.len ∧ r.count ≤ f.count) : ExRel g base w f v6 w6 := by
  refine ⟨P.app H, r, Lib.hid hB6, Lib.hid hd, Lib.hid ⟨by rw [Fo.len_app]; omega, hl.2⟩, Lib.hid hR, Lib.hid ⟨(hbw.alloc hbw.size o).grown hgrow (by have := hbw.size; simp; omega) (fun k hk => by have := hB5.own_ge hk; omega), ?_⟩⟩
  have := hgrow.size
  simp at this
  omega

set_option maxHeartbeats 12800000 in
set_option maxRecDepth 100000 in
theorem expression_n (N : Nat) (hN : N ≤ 1000001) : ∀ (f : Fo) (a : Option Addr) (cap : Nat) (w : World), f.count < N → Sl w.heap.size w a cap f →
    Calls Try.prog 33 #[.slice a f.len cap] w (OutEx w f) := by
  induction N with
  | zero =>
    intro f a cap w hc hs
    exact absurd hc (Nat.not_lt_zero _)
  | succ N ih =>
    intro f a cap w hc hs
    have hlen := Fo.len_le_count f
    obtain ⟨m, hm⟩ : ∃ m, m = f.len := ⟨_, rfl⟩
    obtain ⟨W1, hW1⟩ : ∃ W1, W1 = w.alloc (.cells #[.slice a m cap] 22) := ⟨_, rfl⟩
    have hb1 : Below w.heap.size w W1 := by rw [hW1]; exact (Below.refl _ _).alloc (Nat.le_refl _) _
    have hR : Rd w.heap.size w.heap.size W1 f := ⟨a, cap, by rw [hW1, hm]; exact Boxed.new _ _ _, hs.below hb1 (Nat.le_refl _)⟩
    have hg1 : w.heap.size < W1.heap.size := hR.lt
    have HR := Lib.hid hR
    have HIH := Lib.hid (ih (by omega))
    have HCL := Lib.hid (fun (c2 : Fo) (h : c2.count ≤ N) (a : Option Addr) (cap : Nat) (w' : World) (hs : Sl w'.heap.size w' a cap c2) =>
      call_any c2 a cap w' hs (fun k t c r hr a' cap' w'' hs'' => ih (by omega) r a' cap' w'' (by rw [hr] at h; simp only [Fo.count] at h; omega) hs''))
    have HC := Lib.hid hc
    have HLN := Lib.hid (show f.len ≤ 1000001 by omega)
    have HW1 := Lib.hid hW1
    rw [← hm]
    clear ih hs hR hm hW1
    go_enter Try.func33, Try.ntmps33
    go_wp2_with fail
    refine (reader_any _ _ _ w).mono ?_
    rintro e w1 ⟨rfl, hw1⟩
    rw [← HW1.out] at hw1
    subst hw1
    clear HW1
    go_wp2_with fail
    go_loopw [3] (fun u wr => ExRel w.heap.size w1.heap.size w f u wr) (fun _ wr => leftAt w.heap.size wr)
    case atStart => exact ⟨.nil, f, Lib.hid (Built.nil (Nat.le_refl _)), Lib.hid (by cases dn f <;> rfl), Lib.hid ⟨by simp, Nat.le_refl _⟩, HR, Lib.hid ⟨hb1, Nat.le_refl _⟩⟩
    case round =>
      obtain ⟨P, r, hB, hD, hL, hRd, hb⟩ := hrel
      have HLA := Lib.hid (leftAt_eq hRd.out)
      cases r with
      | nil =>
        have HF := Lib.hid (show dn f = some P from by rw [hD.out, dn_nil]; simp)
        go_wp2_with fail
        refine (rmore_nil _ _ wr hRd.out).mono ?_
        rintro e w2 ⟨rfl, rfl⟩
        go_wp2
        go_ret
        exact ex_some HF.out hB.out hb1.size hb.out.1
      | cons k t c r' =>
        go_wp2_with fail
        refine (rmore_cons _ _ wr _ _ _ _ hRd.out).mono ?_
        rintro e w2 ⟨rfl, rfl⟩
        go_wp2_with fail
        refine (rnext_some _ _ wr _ _ _ _ hRd.out (Nat.le_refl _)).mono ?_
        rintro e w2 ⟨a2, cap2, rfl, hs2, hr2, ho2⟩
        obtain ⟨m2, hm2⟩ : ∃ m, m = c.len := ⟨_, rfl⟩
        have HM2 := Lib.hid hm2
        rw [← hm2]
        clear hm2
        obtain ⟨W3, hW3⟩ : ∃ W3, W3 = w2.alloc (.cells #[.int .i64 k, .string t, .slice a2 m2 cap2] 35) := ⟨_, rfl⟩
        have hb3 : Below w2.heap.size w2 W3 := by rw [hW3]; exact (Below.refl _ _).alloc (Nat.le_refl _) _
        have hbox : Box W3 w2.heap.size k t a2 m2 cap2 := by rw [hW3]; exact Box.new _ _ _ _ _ _
        have hbw2 := hb.out.1.trans (ho2.out.later (Nat.le_refl _))
        have hbw3 := hbw2.trans (hb3.mono hbw2.size)
        have hz2 : w1.heap.size ≤ w2.heap.size := Nat.le_trans hb.out.2 ho2.out.below.size
        have HB3 := Lib.hid ((hB.out.only ho2.out hg1).later hb3)
        have HR3 := Lib.hid (hr2.out.later hb3 (by omega))
        have HS3 := Lib.hid (hs2.out.below (hb3.mono (by omega)) (show w.heap.size ≤ W3.heap.size by have := hb3.size; omega))
        have HBX := Lib.hid hbox
        have HZ3 := Lib.hid hb3.size
        have HL := Lib.hid (show P.len + 1 + r'.len ≤ f.len ∧ c.count + r'.count + 1 ≤ f.count by have := hL.out; simp only [Fo.len_cons, Fo.count] at this; omega)
        have HPL := Lib.hid (show P.len ≤ 1000001 by have := HL.out; have := HLN.out; omega)
        obtain ⟨x3, x0, x1, x2⟩ := hbox
        clear hB hL hRd hb hs2 hr2 ho2 hb3
        by_cases h4 : k = 4
        · subst h4
          have S := Lib.hid (HIH.out c a2 cap2 W3 (by have := HL.out; have := HC.out; omega) HS3.out)
          rw [← HM2.out] at S
          go_wp2_with fail
          rw [← hW3]
          clear hW3
          refine S.out.mono ?_
          rintro e w4 (⟨l, a4, cap4, rfl, hd, hs4, hb4⟩ | ⟨rfl, hd, hb4⟩)
          · obtain ⟨ml, hml⟩ : ∃ m, m = l.len := ⟨_, rfl⟩
            rw [← hml]
            have HML := Lib.hid hml
            clear hml
            go_wp2_with fail
            refine (mgroup_any a4 ml cap4 w4).mono ?_
            rintro e w5 ⟨rfl, hb5⟩
            have hbw4 := hbw3.trans (hb4.out.mono hbw3.size)
            have hbw5 := hbw4.trans (hb5.mono hbw4.size)
            have hb35 := hb4.out.trans (hb5.mono hb4.out.size)
            have hB5 := HB3.out.later hb35
            have hR5 := HR3.out.later hb35 (by have := hbw3.size; omega)
            have hk5 : RepsS (fun b => w1.heap.size ≤ b ∧ b < w5.heap.size ∧ u3.ownBlock ≠ some b) w5 [.int .i64 4, .string ⟨#[]⟩, .slice a4 ml cap4] (.cons 4 ⟨#[]⟩ l .nil) := by rw [HML.out]; exact RepsS.one (k := 4) (t := ⟨#[]⟩) ((outF_kids HB3.out (Below.refl _ _) hs4.out).on3 hb5)
            go_wp2_with (first | (at_builtin; refine wpList_append_built rfl (.tmp 28) (.tmp 33) rfl (hB5.push _) rfl rfl rfl (Put.push hk5 (by simp)) (by have := HPL.out; simp only [Fo.len_cons, Fo.len_nil]; omega) ?_; intro v6 w6 hB6 hgrow6 hat6) | fail)
            have hR6 := rd_pushed hB5 hgrow6 hR5 hg1 (Nat.le_refl _)
            have HX := Lib.hid (rel_next hB5 hB6 hgrow6 hg1 (Nat.le_refl _) hbw5 (by have := hb35.size; have := HZ3.out; omega) hR6 (go_step' hD.out (by rw [dn_group, hd.out]; rfl)) rfl (by have := HL.out; exact ⟨this.1, by omega⟩))
            have HM := Lib.hid (show leftAt w.heap.size w6 < leftAt w.heap.size wr from by rw [leftAt_eq hR6, HLA.out, Fo.len_cons]; omega)
            go_roundw
            case rel => exact HX.out
            case measure => exact HM.out
          · exact ⟨rfl, ex_none (by rw [hD.out, dn_group, hd.out]; rfl) (hbw3.trans (hb4.out.mono hbw3.size))⟩
        by_cases hst : k = 1 ∧ t = ⟨#[42]⟩
        · obtain ⟨rfl, rfl⟩ := hst
          go_wp2_with fail
          rw [← hW3]
          clear hW3
          refine (isChar_yes ⟨#[42]⟩ a2 m2 cap2 W3).mono ?_
          rintro e w4 ⟨rfl, hb4⟩
          have hbw4 := hbw3.trans (hb4.mono hbw3.size)
          have HB4 := Lib.hid (HB3.out.later hb4)
          have hR4 := Lib.hid (HR3.out.later hb4 (by have := hbw3.size; omega))
          have S := Lib.hid (starred_any w.heap.size w.heap.size w4 r' hR4.out (Nat.le_refl _) (fun c2 h a cap w' hs => HCL.out c2 (by have := HL.out; omega) a cap w' hs))
          clear x0 x1 x2
          go_wp2_with fail
          refine S.out.mono ?_
          rintro e w5 (⟨k5, t5, c5, a5, cap5, r5, rfl, hd, hlt, hs5, hr5, ho5⟩ | ⟨rfl, hd, ho5⟩)
          · obtain ⟨ml, hml⟩ : ∃ m, m = c5.len := ⟨_, rfl⟩
            rw [← hml]
            have HML := Lib.hid hml
            clear hml
            have hbw5 := hbw4.trans (ho5.out.later (Nat.le_refl _))
            have hB5 := HB4.out.only ho5.out hg1
            have hk5 : RepsS (fun b => w1.heap.size ≤ b ∧ b < w5.heap.size ∧ u3.ownBlock ≠ some b) w5 [.int .i64 k5, .string t5, .slice a5 ml cap5] (.cons k5 t5 c5 .nil) := by rw [HML.out]; exact RepsS.one (k := k5) (t := t5) (outF_kids HB4.out (Below.refl _ _) hs5.out)
            go_wp2_with (first | (at_builtin; refine wpList_append_built rfl (.tmp 38) (.tmp 41) rfl (hB5.push _) rfl rfl rfl (Put.push hk5 (by simp)) (by have := HPL.out; simp only [Fo.len_cons, Fo.len_nil]; omega) ?_; intro v6 w6 hB6 hgrow6 hat6) | fail)
            have hR6 := rd_pushed hB5 hgrow6 hr5.out hg1 (Nat.le_refl _)
            have HX := Lib.hid (rel_next hB5 hB6 hgrow6 hg1 (Nat.le_refl _) hbw5 (by have := hb4.size; have := ho5.out.below.size; have := HZ3.out; omega) hR6 (go_step' hD.out (hd.out c)) rfl (by have := HL.out; have := hlt.out; exact ⟨by omega, by omega⟩))
            have HM := Lib.hid (show leftAt w.heap.size w6 < leftAt w.heap.size wr from by rw [leftAt_eq hR6, HLA.out, Fo.len_cons]; have := hlt.out; omega)
            go_roundw
            case rel => exact HX.out
            case measure => exact HM.out
          · exact ⟨rfl, ex_none (by rw [hD.out]; exact (congrArg _ (hd.out c)).trans rfl) (hbw4.trans (ho5.out.later (Nat.le_refl _)))⟩
        · have q4 : (k == 4) = false := by simpa using h4
          have HDP := Lib.hid (dn_plain (t := t) c r' h4 hst)
          have HST := Lib.hid hst
          clear hst
          go_wp2_with fail
          rw [← hW3]
          clear hW3
          refine (isChar_no k t ⟨#[42]⟩ HST.out a2 m2 cap2 W3).mono ?_
          rintro e w5 ⟨rfl, hb5⟩
          have hbw5 := hbw3.trans (hb5.mono hbw3.size)
          have hB5 := HB3.out.later hb5
          have hR5 := HR3.out.later hb5 (by have := hbw3.size; omega)
          obtain ⟨z3, z0, z1, z2⟩ := HBX.out.later hb5
          clear x3 x0 x1 x2
          go_wp2_with (first | (at_builtin; refine wpList_append_built rfl (.tmp 16) (.tmp 22) rfl (hB5.push _) rfl rfl rfl (Put.push (news := [.int .i64 k, .string t, .slice none 0 0]) (RepsS.one SlS.nil) (by simp)) (by have := HPL.out; simp only [Fo.len_cons, Fo.len_nil]; omega) ?_; intro v6 w6 hB6 hgrow6 hat6) | fail)
          have hR6 := rd_pushed hB5 hgrow6 hR5 hg1 (Nat.le_refl _)
          have HX := Lib.hid (rel_next hB5 hB6 hgrow6 hg1 (Nat.le_refl _) hbw5 (by have := hb5.size; have := HZ3.out; omega) hR6 (go_step' hD.out HDP.out) rfl (by have := HL.out; exact ⟨this.1, by omega⟩))
          have HM := Lib.hid (show leftAt w.heap.size w6 < leftAt w.heap.size wr from by rw [leftAt_eq hR6, HLA.out, Fo.len_cons]; omega)
          go_roundw
          case rel => exact HX.out
          case measure => exact HM.out

theorem expression_any (f : Fo) (a : Option Addr) (cap : Nat) (w : World) (hc : f.count ≤ 1000000) (hs : Sl w.heap.size w a cap f) :
    Calls Try.prog 33 #[.slice a f.len cap] w (OutEx w f) := expression_n 1000001 (Nat.le_refl _) f a cap w (by omega) hs
end Go.Proofs.Ytfajodndpoepcaa
