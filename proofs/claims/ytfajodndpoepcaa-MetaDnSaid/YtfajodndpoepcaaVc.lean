/- The writer's methods for groups, variables, calls. -/
import Derived.Test.YtfajodndpoepcaaVb
namespace Go.Proofs.Ytfajodndpoepcaa
open Go.RowKit TmM

set_option maxHeartbeats 3200000 in
theorem wgroup_any (g : Nat) (w : World) (v : Value) (G : Fo) (t : ByteArray) (a : Option Addr) (c : Nat) (kc : Fo) (hw : Wr g w v G) (hl : G.len ≤ 5000000)
    (hmc : ∀ w', Below w.heap.size w w' → Calls Try.prog 25 #[.slice a kc.len c] w' (OutF w' (up kc))) :
    Calls Try.prog 58 #[.pointer (some ⟨g, 0, none⟩), .agg #[.int .i64 4, .string t, .slice a kc.len c]] w (OutW g w v (G.app (up1 4 t kc))) := by
  have HW := Lib.hid hw
  have HL := Lib.hid hl
  obtain ⟨X, hX⟩ : ∃ X, X = w.alloc (.cells #[.int .i64 4, .string t, .slice a kc.len c] 35) := ⟨_, rfl⟩
  have hbX : Below w.heap.size w X := by rw [hX]; exact (Below.refl _ _).alloc (Nat.le_refl _) _
  have hbox : Box X w.heap.size 4 t a kc.len c := by rw [hX]; exact Box.new _ _ _ _ _ _
  have M := Lib.hid (hmc X hbX)
  have hBw := Lib.hid hw.2
  clear hw hl hmc
  obtain ⟨b0, b1, b2, b3⟩ := hbox
  go_enter Try.func58, Try.ntmps58
  go_wp2_with fail
  rw [← hX]
  refine M.out.mono ?_
  rintro e w2 ⟨a2, c2, rfl, hs2, hb2⟩
  have hb02 := hbX.trans (hb2.mono hbX.size)
  obtain ⟨m2, hm2⟩ : ∃ m, m = (up kc).len := ⟨_, rfl⟩
  have HM := Lib.hid hm2
  rw [← hm2]
  clear hm2 hX
  go_wp2_with fail
  refine (mgroup_any a2 m2 c2 w2).mono ?_
  rintro e w3 ⟨rfl, hb3⟩
  have hb03 := hb02.trans (hb3.mono hb02.size)
  have hs3 := (outF_kids hBw.out hbX hs2.out).on3 hb3
  have hk3 : RepsS (fun b => g + 1 ≤ b ∧ b < w3.heap.size ∧ v.ownBlock ≠ some b) w3 [.int .i64 4, .string ⟨#[]⟩, .slice a2 m2 c2] (.cons 4 ⟨#[]⟩ (up kc) .nil) := by rw [HM.out]; exact RepsS.one hs3
  go_wp2_with (go_at_call 75; refine (put_any g _ v G (.cons 4 ⟨#[]⟩ (up kc) .nil) _ _ _ ((HW.out.later hb03).later ((Below.refl _ w3).alloc (Nat.le_refl _) _)) rfl (Put.push hk3 (by simp)) (by have := HL.out; simp only [Fo.len_cons, Fo.len_nil]; omega)).mono ?_; rintro e w4 ⟨rfl, v4, hW4, hK4⟩)
  go_end0
  rw [up1_group]
  exact ⟨rfl, v4, hW4, hK4.ahead (hb03.alloc hb03.size _) HW.out.1.lt⟩

set_option maxHeartbeats 6400000 in
set_option maxRecDepth 100000 in
theorem wvar_s (g : Nat) (w : World) (v : Value) (G : Fo) (t : ByteArray) (a : Option Addr) (l c : Nat) (kc : Fo) (hw : Wr g w v G) (hl : G.len ≤ 5000000) :
    Calls Try.prog 59 #[.pointer (some ⟨g, 0, none⟩), .agg #[.int .i64 5, .string t, .slice a l c]] w (OutW g w v (G.app (up1 5 t kc))) := by
  have HW := Lib.hid hw
  have HL := Lib.hid hl
  obtain ⟨X, hX⟩ : ∃ X, X = w.alloc (.cells #[.int .i64 5, .string t, .slice a l c] 35) := ⟨_, rfl⟩
  have hbX : Below w.heap.size w X := by rw [hX]; exact (Below.refl _ _).alloc (Nat.le_refl _) _
  have hbox : Box X w.heap.size 5 t a l c := by rw [hX]; exact Box.new _ _ _ _ _ _
  have HBX := Lib.hid hbox
  clear hw hl
  obtain ⟨b0, b1, b2, b3⟩ := hbox
  go_enter Try.func59, Try.ntmps59
  go_wp2_with fail
  have hbd : Below X.heap.size X X.drew := (Below.refl _ _).drew
  obtain ⟨gd, kx0, kx1, kx2⟩ := HBX.out.later hbd
  rw [← hX]
  clear hX
  go_region_held3 (fun w' => w'.cell? ⟨w.heap.size, 1, none⟩ = some (.string t))
    (first | exact kx1 | exact K5.out | exact K6.out | exact K7.out | exact K8.out | go_keep)
    (first
      | (go_at_call 75; refine (put_any g _ v G (.cons 1 ⟨#[42]⟩ .nil (.cons 1 ⟨#[83]⟩ .nil (.cons 2 t .nil .nil))) _ _ _ (HW7.out.later ((Below.refl _ w7).alloc (Nat.le_refl _) _)) rfl (Put.push hk7 (by simp)) (by have := HL.out; simp only [Fo.len_cons, Fo.len_nil]; omega)).mono ?_; rintro e w8 ⟨rfl, v8, hW8, hK8⟩; have K8 : Hid (w8.cell? ⟨w.heap.size, 1, none⟩ = some (.string t)) := Lib.hid (((HBX.out.later Q7.out).later ((Below.refl _ w7).alloc (Nat.le_refl _) _)).keptW hK8 (by have := HW.out.1.lt; omega) HW.out.own_ne).2.2.1)
      | (go_at_call 76; refine (mword_any t w6).mono ?_; rintro e w7 ⟨rfl, hb7⟩; have Q7 := Lib.hid (Q6.out.trans (hb7.mono Q6.out.size)); have K7 := Lib.hid (HBX.out.later Q7.out).2.2.1; have HW7 := Lib.hid (HW.out.later (hbX.trans (Q7.out.mono hbX.size))); have hk7 := RepsS.cons_mk (k := 1) (t := ⟨#[42]⟩) SlS.nil (RepsS.cons_mk (k := 1) (t := ⟨#[83]⟩) SlS.nil (RepsS.one (w := w7) (S := fun b => g + 1 ≤ b ∧ b < w7.heap.size ∧ v.ownBlock ≠ some b) (k := 2) (t := t) SlS.nil)))
      | (go_at_call 68; refine (mchar_83 w5).mono ?_; rintro e w6 ⟨rfl, hb6⟩; have Q6 := Lib.hid (Q5.out.trans (hb6.mono Q5.out.size)); have K6 := Lib.hid (HBX.out.later Q6.out).2.2.1)
      | (go_at_call 68; refine (mchar_42 _).mono ?_; rintro e w5 ⟨rfl, hb5⟩; have Q5 := Lib.hid (hbd.trans (hb5.mono hbd.size)); have K5 := Lib.hid (HBX.out.later Q5.out).2.2.1)
      | fail)
  go_wp2
  go_end0
  rw [up1_s]
  have hbn := hbX.trans (Q7.out.mono hbX.size)
  exact ⟨rfl, v8, hW8, hK8.ahead (hbn.alloc hbn.size _) HW.out.1.lt⟩

set_option maxHeartbeats 6400000 in
set_option maxRecDepth 100000 in
theorem wvar_t (g : Nat) (w : World) (v : Value) (G : Fo) (t : ByteArray) (a : Option Addr) (l c : Nat) (kc : Fo) (hw : Wr g w v G) (hl : G.len ≤ 5000000) :
    Calls Try.prog 59 #[.pointer (some ⟨g, 0, none⟩), .agg #[.int .i64 6, .string t, .slice a l c]] w (OutW g w v (G.app (up1 6 t kc))) := by
  have HW := Lib.hid hw
  have HL := Lib.hid hl
  obtain ⟨X, hX⟩ : ∃ X, X = w.alloc (.cells #[.int .i64 6, .string t, .slice a l c] 35) := ⟨_, rfl⟩
  have hbX : Below w.heap.size w X := by rw [hX]; exact (Below.refl _ _).alloc (Nat.le_refl _) _
  have hbox : Box X w.heap.size 6 t a l c := by rw [hX]; exact Box.new _ _ _ _ _ _
  have HBX := Lib.hid hbox
  clear hw hl
  obtain ⟨b0, b1, b2, b3⟩ := hbox
  go_enter Try.func59, Try.ntmps59
  go_wp2_with fail
  have hbd : Below X.heap.size X X.drew := (Below.refl _ _).drew
  obtain ⟨gd, kx0, kx1, kx2⟩ := HBX.out.later hbd
  rw [← hX]
  clear hX
  go_region_held3 (fun w' => w'.cell? ⟨w.heap.size, 1, none⟩ = some (.string t))
    (first | exact kx1 | exact K5.out | exact K6.out | exact K7.out | exact K8.out | go_keep)
    (first
      | (go_at_call 75; refine (put_any g _ v G (.cons 1 ⟨#[42]⟩ .nil (.cons 1 ⟨#[84]⟩ .nil (.cons 2 t .nil .nil))) _ _ _ (HW7.out.later ((Below.refl _ w7).alloc (Nat.le_refl _) _)) rfl (Put.push hk7 (by simp)) (by have := HL.out; simp only [Fo.len_cons, Fo.len_nil]; omega)).mono ?_; rintro e w8 ⟨rfl, v8, hW8, hK8⟩; have K8 : Hid (w8.cell? ⟨w.heap.size, 1, none⟩ = some (.string t)) := Lib.hid (((HBX.out.later Q7.out).later ((Below.refl _ w7).alloc (Nat.le_refl _) _)).keptW hK8 (by have := HW.out.1.lt; omega) HW.out.own_ne).2.2.1)
      | (go_at_call 76; refine (mword_any t w6).mono ?_; rintro e w7 ⟨rfl, hb7⟩; have Q7 := Lib.hid (Q6.out.trans (hb7.mono Q6.out.size)); have K7 := Lib.hid (HBX.out.later Q7.out).2.2.1; have HW7 := Lib.hid (HW.out.later (hbX.trans (Q7.out.mono hbX.size))); have hk7 := RepsS.cons_mk (k := 1) (t := ⟨#[42]⟩) SlS.nil (RepsS.cons_mk (k := 1) (t := ⟨#[84]⟩) SlS.nil (RepsS.one (w := w7) (S := fun b => g + 1 ≤ b ∧ b < w7.heap.size ∧ v.ownBlock ≠ some b) (k := 2) (t := t) SlS.nil)))
      | (go_at_call 68; refine (mchar_84 w5).mono ?_; rintro e w6 ⟨rfl, hb6⟩; have Q6 := Lib.hid (Q5.out.trans (hb6.mono Q5.out.size)); have K6 := Lib.hid (HBX.out.later Q6.out).2.2.1)
      | (go_at_call 68; refine (mchar_42 _).mono ?_; rintro e w5 ⟨rfl, hb5⟩; have Q5 := Lib.hid (hbd.trans (hb5.mono hbd.size)); have K5 := Lib.hid (HBX.out.later Q5.out).2.2.1)
      | fail)
  go_wp2
  go_end0
  rw [up1_t]
  have hbn := hbX.trans (Q7.out.mono hbX.size)
  exact ⟨rfl, v8, hW8, hK8.ahead (hbn.alloc hbn.size _) HW.out.1.lt⟩

set_option maxHeartbeats 6400000 in
set_option maxRecDepth 100000 in
theorem wvar_e (g : Nat) (w : World) (v : Value) (G : Fo) (t : ByteArray) (a : Option Addr) (l c : Nat) (kc : Fo) (hw : Wr g w v G) (hl : G.len ≤ 5000000) :
    Calls Try.prog 59 #[.pointer (some ⟨g, 0, none⟩), .agg #[.int .i64 7, .string t, .slice a l c]] w (OutW g w v (G.app (up1 7 t kc))) := by
  have HW := Lib.hid hw
  have HL := Lib.hid hl
  obtain ⟨X, hX⟩ : ∃ X, X = w.alloc (.cells #[.int .i64 7, .string t, .slice a l c] 35) := ⟨_, rfl⟩
  have hbX : Below w.heap.size w X := by rw [hX]; exact (Below.refl _ _).alloc (Nat.le_refl _) _
  have hbox : Box X w.heap.size 7 t a l c := by rw [hX]; exact Box.new _ _ _ _ _ _
  have HBX := Lib.hid hbox
  clear hw hl
  obtain ⟨b0, b1, b2, b3⟩ := hbox
  go_enter Try.func59, Try.ntmps59
  go_wp2_with fail
  have hbd : Below X.heap.size X X.drew := (Below.refl _ _).drew
  obtain ⟨gd, kx0, kx1, kx2⟩ := HBX.out.later hbd
  rw [← hX]
  clear hX
  go_region_held3 (fun w' => w'.cell? ⟨w.heap.size, 1, none⟩ = some (.string t))
    (first | exact kx1 | exact K5.out | exact K6.out | exact K7.out | exact K8.out | go_keep)
    (first
      | (go_at_call 75; refine (put_any g _ v G (.cons 1 ⟨#[42]⟩ .nil (.cons 1 ⟨#[69]⟩ .nil (.cons 2 t .nil .nil))) _ _ _ (HW7.out.later ((Below.refl _ w7).alloc (Nat.le_refl _) _)) rfl (Put.push hk7 (by simp)) (by have := HL.out; simp only [Fo.len_cons, Fo.len_nil]; omega)).mono ?_; rintro e w8 ⟨rfl, v8, hW8, hK8⟩; have K8 : Hid (w8.cell? ⟨w.heap.size, 1, none⟩ = some (.string t)) := Lib.hid (((HBX.out.later Q7.out).later ((Below.refl _ w7).alloc (Nat.le_refl _) _)).keptW hK8 (by have := HW.out.1.lt; omega) HW.out.own_ne).2.2.1)
      | (go_at_call 76; refine (mword_any t w6).mono ?_; rintro e w7 ⟨rfl, hb7⟩; have Q7 := Lib.hid (Q6.out.trans (hb7.mono Q6.out.size)); have K7 := Lib.hid (HBX.out.later Q7.out).2.2.1; have HW7 := Lib.hid (HW.out.later (hbX.trans (Q7.out.mono hbX.size))); have hk7 := RepsS.cons_mk (k := 1) (t := ⟨#[42]⟩) SlS.nil (RepsS.cons_mk (k := 1) (t := ⟨#[69]⟩) SlS.nil (RepsS.one (w := w7) (S := fun b => g + 1 ≤ b ∧ b < w7.heap.size ∧ v.ownBlock ≠ some b) (k := 2) (t := t) SlS.nil)))
      | (go_at_call 68; refine (mchar_69 w5).mono ?_; rintro e w6 ⟨rfl, hb6⟩; have Q6 := Lib.hid (Q5.out.trans (hb6.mono Q5.out.size)); have K6 := Lib.hid (HBX.out.later Q6.out).2.2.1)
      | (go_at_call 68; refine (mchar_42 _).mono ?_; rintro e w5 ⟨rfl, hb5⟩; have Q5 := Lib.hid (hbd.trans (hb5.mono hbd.size)); have K5 := Lib.hid (HBX.out.later Q5.out).2.2.1)
      | fail)
  go_wp2
  go_end0
  rw [up1_e]
  have hbn := hbX.trans (Q7.out.mono hbX.size)
  exact ⟨rfl, v8, hW8, hK8.ahead (hbn.alloc hbn.size _) HW.out.1.lt⟩

set_option maxHeartbeats 6400000 in
set_option maxRecDepth 100000 in
theorem wcall_any (g : Nat) (w : World) (v : Value) (G : Fo) (t : ByteArray) (a : Option Addr) (c : Nat) (kc : Fo) (hw : Wr g w v G) (hl : G.len ≤ 5000000) (hul : (up kc).len ≤ 5000000)
    (hmc : ∀ w', Below w.heap.size w w' → Calls Try.prog 25 #[.slice a kc.len c] w' (OutF w' (up kc))) :
    Calls Try.prog 60 #[.pointer (some ⟨g, 0, none⟩), .agg #[.int .i64 8, .string t, .slice a kc.len c]] w (OutW g w v (G.app (up1 8 t kc))) := by
  have HW := Lib.hid hw
  have HL := Lib.hid hl
  have HUL := Lib.hid hul
  have HMC := Lib.hid hmc
  obtain ⟨X, hX⟩ : ∃ X, X = w.alloc (.cells #[.int .i64 8, .string t, .slice a kc.len c] 35) := ⟨_, rfl⟩
  have hbX : Below w.heap.size w X := by rw [hX]; exact (Below.refl _ _).alloc (Nat.le_refl _) _
  have hbox : Box X w.heap.size 8 t a kc.len c := by rw [hX]; exact Box.new _ _ _ _ _ _
  have HBX := Lib.hid (fun Y (h : Below X.heap.size X Y) => (hbox.later h).2.2)
  have HBB := Lib.hid hbox
  have HXX := Lib.hid (fun Y (h : Below X.heap.size X Y) => hbX.trans (h.mono hbX.size))
  clear hw hl hul hmc
  obtain ⟨b0, b1, b2, b3⟩ := hbox
  go_enter Try.func60, Try.ntmps60
  go_wp2_with fail
  have hbd : Below X.heap.size X X.drew := (Below.refl _ _).drew
  obtain ⟨kx1, kx2⟩ := HBX.out _ hbd
  rw [← hX]
  clear hX
  go_region_held3 (fun w' => w'.cell? ⟨w.heap.size, 1, none⟩ = some (.string t) ∧ w'.cell? ⟨w.heap.size, 2, none⟩ = some (.slice a kc.len c))
    (first | exact ⟨kx1, kx2⟩ | exact K10.out | exact K9.out | exact K8.out | exact K7.out | exact K6.out | exact K5.out | go_keep)
    (first
      | (go_at_call 75; refine (put_any g _ v G (.cons 1 ⟨#[42]⟩ .nil (.cons 4 ⟨#[]⟩ ((Fo.cons 2 t .nil .nil).app (up kc)) .nil)) _ _ _ ((HW.out.later (HXX.out _ Q9.out)).later ((Below.refl _ w9).alloc (Nat.le_refl _) _)) rfl (Put.push hk9.out (by simp)) (by have := HL.out; simp only [Fo.len_cons, Fo.len_nil]; omega)).mono ?_; rintro e w10 ⟨rfl, v10, hW10, hK10⟩; have K10 := Lib.hid (((HBB.out.later Q9.out).later ((Below.refl _ w9).alloc (Nat.le_refl _) _)).keptW hK10 (by have := HW.out.1.lt; omega) HW.out.own_ne).2.2)
      | (go_at_call 48; refine (mgroup_any a8 m8 c8 w8).mono ?_; rintro e w9 ⟨rfl, hb9⟩; have Q9 := Lib.hid (Q8.out.trans (hb9.mono Q8.out.size)); have K9 := Lib.hid (HBX.out _ Q9.out); have hk9 : Hid (RepsS (fun b => g + 1 ≤ b ∧ b < w9.heap.size ∧ v.ownBlock ≠ some b) w9 [.int .i64 1, .string ⟨#[42]⟩, .slice none 0 0, .int .i64 4, .string ⟨#[]⟩, .slice a8 m8 c8] (.cons 1 ⟨#[42]⟩ .nil (.cons 4 ⟨#[]⟩ ((Fo.cons 2 t .nil .nil).app (up kc)) .nil))) := Lib.hid (by rw [HM8.out]; exact RepsS.cons_mk (k := 1) (t := ⟨#[42]⟩) SlS.nil (RepsS.one (k := 4) (t := ⟨#[]⟩) ((outF_kids HW.out.2 hbX hs8).on3 hb9))))
      | (refine step_append_built (by rfl) (.tmp 9) (.tmp 12) (by rfl) LB7.out (by rfl) (by rfl) rfl HP7.out (by have := HUL.out; simp only [Fo.len_cons, Fo.len_nil]; omega) ?_; intro v8 w8 hB8 hgrow8 hat8; have Q8 := Lib.hid (Q7.out.grown hgrow8 Q7.out.size (fun k hk => LB7.out.own_ge hk)); have K8 := Lib.hid (HBX.out _ Q8.out); obtain ⟨a8, m8, c8, rfl, hm8, hs8⟩ := hB8.slm; have HM8 := Lib.hid hm8; clear hm8)
      | (go_at_call 25; refine (HMC.out _ ((HXX.out _ Q6.out).alloc (HXX.out _ Q6.out).size _)).mono ?_; rintro e w7 ⟨a7, c7, rfl, hs7, hb7⟩; have Q7 := Lib.hid ((Q6.out.alloc Q6.out.size _).trans (hb7.mono (Q6.out.alloc Q6.out.size _).size)); have K7 := Lib.hid (HBX.out _ Q7.out); have LB7 := Lib.hid (LB6.out.later hb7); have HP7 := Lib.hid (Put.kids LB7.out hs7.out LB6.out.ge (fun k hk => LB6.out.own_lt hk)))
      | (go_at_call 25; refine (HMC.out _ (HXX.out _ Q6.out)).mono ?_; rintro e w7 ⟨a7, c7, rfl, hs7, hb7⟩; have Q7' := Lib.hid (Q6.out.trans (hb7.mono Q6.out.size)); have K7 := Lib.hid (HBX.out _ Q7'.out); have LB7 := Lib.hid (Built.lit (base := X.heap.size) (n := w7.heap.size) (w := w7) (xs := [.int .i64 2, .string t, .slice none 0 0]) (G := .cons 2 t .nil .nil) (S := fun _ => False) (RepsS.one SlS.nil) rfl rfl (fun _ h => h.elim) (by simp only [Fo.len_cons, Fo.len_nil]; omega) Q7'.out.size); have HP7 := Lib.hid (Put.after (base := X.heap.size) (m := (Fo.cons 2 t .nil .nil).len) (m' := (Fo.cons 2 t .nil .nil).len) (o := (.cells #[.int .i64 2, .string t, .slice none 0 0] 35)) hs7.out Q6.out.size); have Q7 := Lib.hid (Q7'.out.alloc Q7'.out.size (.cells #[.int .i64 2, .string t, .slice none 0 0] 35)))
      | (go_at_call 76; refine (mword_any t w5).mono ?_; rintro e w6 ⟨rfl, hb6⟩; have Q6 := Lib.hid (Q5.out.trans (hb6.mono Q5.out.size)); have K6 := Lib.hid (HBX.out _ Q6.out); have LB6 := Lib.hid (Built.lit (base := X.heap.size) (n := w6.heap.size) (w := w6) (xs := [.int .i64 2, .string t, .slice none 0 0]) (G := .cons 2 t .nil .nil) (S := fun _ => False) (RepsS.one SlS.nil) rfl rfl (fun _ h => h.elim) (by simp only [Fo.len_cons, Fo.len_nil]; omega) Q6.out.size))
      | (go_at_call 68; refine (mchar_42 _).mono ?_; rintro e w5 ⟨rfl, hb5⟩; have Q5 := Lib.hid (hbd.trans (hb5.mono hbd.size)); have K5 := Lib.hid (HBX.out _ Q5.out))
      | fail)
  all_goals
    go_wp2
    go_end0
    rw [up1_call]
    have hbn := HXX.out _ Q9.out
    exact ⟨rfl, v10, hW10, hK10.ahead (hbn.alloc hbn.size _) HW.out.1.lt⟩
end Go.Proofs.Ytfajodndpoepcaa
