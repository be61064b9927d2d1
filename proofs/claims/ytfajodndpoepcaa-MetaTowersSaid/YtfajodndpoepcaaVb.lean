/- The writer's methods. -/
import Derived.Test.YtfajodndpoepcaaVa
namespace Go.Proofs.Ytfajodndpoepcaa
open Go.RowKit TmM

theorem SlS.on3 {base : Nat} {w w' : World} {v : Value} {a : Option Addr} {c : Nat} {H : Fo} (h : SlS (fun b => base ≤ b ∧ b < w.heap.size ∧ v.ownBlock ≠ some b) w a c H) (hb : Below w.heap.size w w') : SlS (fun b => base ≤ b ∧ b < w'.heap.size ∧ v.ownBlock ≠ some b) w' a c H :=
  h.mono (fun _ hb' => ⟨hb'.1, Nat.lt_of_lt_of_le hb'.2.1 hb.size, hb'.2.2⟩) (fun b hb' => hb.block b hb'.2.1)
theorem Wr.own_ne {g : Nat} {w : World} {v : Value} {G : Fo} (h : Wr g w v G) : v.ownBlock ≠ some w.heap.size := fun e => absurd (h.2.own_lt e) (Nat.lt_irrefl _)
theorem Box.keptW {g n : Nat} {v v' : Value} {w w' : World} {k : Int} {t : ByteArray} {a : Option Addr} {l cap : Nat} (h : Box w n k t a l cap) (hK : Kept g v v' w w') (hn : n ≠ g) (hv : v.ownBlock ≠ some n) : Box w' n k t a l cap := by
  have hb := hK.block n h.1 hn hv
  exact ⟨Nat.lt_of_lt_of_le h.1 hK.below.size, (World.cell?_of_block (a := ⟨n, 0, none⟩) hb).trans h.2.1, (World.cell?_of_block (a := ⟨n, 1, none⟩) hb).trans h.2.2.1, (World.cell?_of_block (a := ⟨n, 2, none⟩) hb).trans h.2.2.2⟩

set_option maxHeartbeats 3200000 in
theorem wsymbol_any (g : Nat) (w : World) (v : Value) (G : Fo) (k : Int) (t : ByteArray) (a : Option Addr) (l c : Nat) (hw : Wr g w v G) (hl : G.len ≤ 5000000) :
    Calls Try.prog 57 #[.pointer (some ⟨g, 0, none⟩), .agg #[.int .i64 k, .string t, .slice a l c]] w (OutW g w v (G.app (.cons k t .nil .nil))) := by
  have HW := Lib.hid hw
  have HL := Lib.hid hl
  clear hw hl
  go_enter Try.func57, Try.ntmps57
  go_wp2_with (go_at_call 75; refine (put_any g _ v G (.cons k t .nil .nil) _ _ _ (HW.out.later (((Below.refl _ w).alloc (Nat.le_refl _) _).alloc (by simp) _)) rfl (Put.push (news := [.int .i64 k, .string t, .slice none 0 0]) (RepsS.one SlS.nil) (by simp)) (by have := HL.out; simp only [Fo.len_cons, Fo.len_nil]; omega)).mono ?_; rintro e w2 ⟨rfl, v2, hW2, hK2⟩)
  go_end0
  exact ⟨rfl, v2, hW2, hK2.ahead (((Below.refl _ w).alloc (Nat.le_refl _) _).alloc (by simp) _) HW.out.1.lt⟩

set_option maxHeartbeats 3200000 in
theorem wchar_any (g : Nat) (w : World) (v : Value) (G : Fo) (t : ByteArray) (a : Option Addr) (l c : Nat) (kc : Fo) (hw : Wr g w v G) (hl : G.len ≤ 5000000) :
    Calls Try.prog 56 #[.pointer (some ⟨g, 0, none⟩), .agg #[.int .i64 1, .string t, .slice a l c]] w (OutW g w v (G.app (up1 1 t kc))) := by
  have HW := Lib.hid hw
  have HL := Lib.hid hl
  obtain ⟨X, hX⟩ : ∃ X, X = w.alloc (.cells #[.int .i64 1, .string t, .slice a l c] 35) := ⟨_, rfl⟩
  have hbX : Below w.heap.size w X := by rw [hX]; exact (Below.refl _ _).alloc (Nat.le_refl _) _
  have hbox : Box X w.heap.size 1 t a l c := by rw [hX]; exact Box.new _ _ _ _ _ _
  have HWX := Lib.hid (hw.later hbX)
  have hne : v.ownBlock ≠ some w.heap.size := hw.own_ne
  have HNE := Lib.hid hne
  have hgn : w.heap.size ≠ g := by have := hw.1.lt; omega
  clear hw hl hne
  by_cases ht : t = ⟨#[42]⟩
  · subst ht
    go_enter Try.func56, Try.ntmps56
    go_wp2_with fail
    rw [← hX]
    refine (wsymbol_any g X v G 1 _ a l c HWX.out HL.out).mono ?_
    rintro e w2 ⟨rfl, v2, hW2, hK2⟩
    obtain ⟨b0, b1, b2, b3⟩ := hbox.keptW hK2 hgn HNE.out
    go_wp2_with fail
    refine (mchar_86 w2).mono ?_
    rintro e w3 ⟨rfl, hb3⟩
    clear hX
    have hW3 := hW2.out.later hb3
    go_wp2_with (go_at_call 75; refine (put_any g _ v2 (G.app (.cons 1 ⟨#[42]⟩ .nil .nil)) (.cons 1 ⟨#[86]⟩ .nil .nil) _ _ _ (hW3.later ((Below.refl _ w3).alloc (Nat.le_refl _) _)) rfl (Put.push (news := [.int .i64 1, .string ⟨#[86]⟩, .slice none 0 0]) (RepsS.one SlS.nil) (by simp)) (by have := HL.out; simp only [Fo.len_app, Fo.len_cons, Fo.len_nil]; omega)).mono ?_; rintro e w4 ⟨rfl, v4, hW4, hK4⟩)
    go_end0
    have hz := HW.out.1.lt
    have hz2 : g < w2.heap.size := hW2.out.1.lt
    refine ⟨rfl, v4, ?_, (hK2.trans (hK4.ahead (hb3.trans ((Below.refl _ w3).alloc (Nat.le_refl _) _ |>.mono hb3.size)) hz2)).ahead hbX hz⟩
    rw [up1_star]
    have h := hW4.out
    rw [Fo.app_assoc] at h
    exact Lib.hid h
  · have hq := star_ne ht
    have HU := Lib.hid (up1_other (k := 1) (t := t) kc (by simp) (by simp) (by simp) (by simp) (by simp) (by simp [ht]))
    clear ht
    go_enter Try.func56, Try.ntmps56
    go_wp2_with fail
    rw [← hX]
    refine (wsymbol_any g X v G 1 _ a l c HWX.out HL.out).mono ?_
    rintro e w2 ⟨rfl, v2, hW2, hK2⟩
    obtain ⟨b0, b1, b2, b3⟩ := hbox.keptW hK2 hgn HNE.out
    clear hX
    go_wp2
    go_end0
    rw [HU.out]
    exact ⟨rfl, v2, hW2, hK2.ahead hbX HW.out.1.lt⟩
end Go.Proofs.Ytfajodndpoepcaa
