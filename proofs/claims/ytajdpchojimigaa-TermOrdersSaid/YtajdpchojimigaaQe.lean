/- The parser's methods: close, pass, item. -/
import Derived.Test.YtajdpchojimigaaQd
namespace Go.Proofs.Ytajdpchojimigaa
open Go.RowKit TmM

section
variable {n p : Nat} {T : ByteArray} {bad : Int} {vo : Value} {E : List En}

/-- where an item may not end. -/
def joinN (n : Nat) : Bool := isN 7 n || n == 46
def badAt (T : ByteArray) (e : Nat) (bad : Int) : Int := if h : e < T.size then (if joinN T[e].toNat then (e : Int) else bad) else bad

set_option maxHeartbeats 3200000 in
theorem ppass_any (w : World) (i : Int) (e : Nat) (h : PSt n w p T i vo bad E) (he : e ≤ T.size) (_hT : T.size ≤ 40000) :
    Calls Try.prog 135 #[.pointer (some ⟨p, 0, none⟩), .int .i64 e] w (fun r w' => r = .returned (.tuple #[]) ∧ Hid (PSt n w' p T e vo (badAt T e bad) E) ∧ Hid (Below n w w')) := by
  have c0 := h.c0
  have c1 := h.c1
  have f1 := h.fz 1
  have HS := Lib.hid (h.setAt (e : Int))
  have HBS := Lib.hid ((Below.refl n w).setCell (p := ⟨p, 1, none⟩) h.le (.int .i64 (e : Int)))
  have d0 := HS.out.c0
  clear h
  by_cases hlt : e < T.size
  · have hlt' : (e : Int) < (T.size : Int) := by omega
    have I0 := fun w => is_any T[e].toNat 7 w T[e].toNat_lt (by simp)
    obtain ⟨b, hb⟩ : ∃ b, b = isN 7 T[e].toNat := ⟨_, rfl⟩
    have HJ := Lib.hid (show badAt T e bad = if b || T[e].toNat == 46 then (e : Int) else bad from by rw [badAt, dif_pos hlt, joinN, ← hb])
    rw [← hb] at I0
    have I := Lib.hid I0
    clear I0 hb
    cases b
    · by_cases hd : T[e].toNat = 46
      · have e46 : ((T[e].toNat : Int) == 46) = true := by rw [hd]; rfl
        have HF := Lib.hid (show badAt T e bad = (e : Int) from by rw [HJ.out, hd]; rfl)
        clear hd
        go_enter Try.func135, Try.ntmps135
        go_wp2_with (first
          | (go_at_call 107; refine (I.out _).mono ?_; rintro e w' ⟨rfl, rfl⟩)
          | (go_at_call 113; refine (pfail_any _ _ HS.out).mono ?_; rintro e w2 ⟨rfl, hP, hB⟩))
        go_end0
        exact ⟨rfl, by rw [HF.out]; exact hP, Lib.hid (HBS.out.trans hB.out)⟩
      · have e46 : ((T[e].toNat : Int) == 46) = false := by rw [beq_eq_false_iff_ne]; omega
        have HF := Lib.hid (show badAt T e bad = bad from by rw [HJ.out, show (T[e].toNat == 46) = false by simpa using hd]; rfl)
        clear hd
        go_enter Try.func135, Try.ntmps135
        go_wp2_with (go_at_call 107; refine (I.out _).mono ?_; rintro e w' ⟨rfl, rfl⟩)
        go_end0
        exact ⟨rfl, by rw [HF.out]; exact HS, HBS⟩
    · have HF := Lib.hid (show badAt T e bad = (e : Int) from by rw [HJ.out]; rfl)
      go_enter Try.func135, Try.ntmps135
      go_wp2_with (first
        | (go_at_call 107; refine (I.out _).mono ?_; rintro e w' ⟨rfl, rfl⟩)
        | (go_at_call 113; refine (pfail_any _ _ HS.out).mono ?_; rintro e w2 ⟨rfl, hP, hB⟩))
      go_end0
      exact ⟨rfl, by rw [HF.out]; exact hP, Lib.hid (HBS.out.trans hB.out)⟩
  · have hlt' : ¬ (e : Int) < (T.size : Int) := by omega
    have HF := Lib.hid (show badAt T e bad = bad from by rw [badAt, dif_neg hlt])
    clear hlt
    go_enter Try.func135, Try.ntmps135
    go_wp2_with fail
    go_end0
    exact ⟨rfl, by rw [HF.out]; exact HS, HBS⟩

set_option maxHeartbeats 3200000 in
theorem pitem_any (w : World) (i : Int) (en : En) (e : Nat) (k : Int) (t : ByteArray) (h : PSt n w p T i vo bad (E ++ [en])) (hE : E.length ≤ 1000000) (hl : en.g.len ≤ 5000000) (he : e ≤ T.size) (hT : T.size ≤ 40000) :
    Calls Try.prog 133 #[.pointer (some ⟨p, 0, none⟩), .agg #[.int .i64 k, .string t, .slice none 0 0], .int .i64 e] w
      (fun r w' => r = .returned (.tuple #[]) ∧ ∃ kv', Hid (PSt n w' p T e vo (badAt T e bad) (E ++ [⟨en.k, en.t, kv', en.g.app (.cons k t .nil .nil)⟩])) ∧ Hid (Below n w w')) := by
  have hbA : Below w.heap.size w ((w.alloc (.cells #[.int .i64 k, .string t, .slice none 0 0] 35)).alloc (.cells #[.int .i64 k, .string t, .slice none 0 0] 35)) := ((Below.refl _ w).alloc (Nat.le_refl _) _).alloc (by simp) _
  have HA := Lib.hid (h.later hbA)
  have HBA := Lib.hid (hbA.mono h.size)
  have HP := Lib.hid (Put.new (S := fun _ => False) (S' := Free n ((w.alloc (.cells #[.int .i64 k, .string t, .slice none 0 0] 35)).alloc (.cells #[.int .i64 k, .string t, .slice none 0 0] 35)) p vo (E ++ [en])) (w := w.alloc (.cells #[.int .i64 k, .string t, .slice none 0 0] 35)) (news := [.int .i64 k, .string t, .slice none 0 0]) (H := .cons k t .nil .nil) (n := w.heap.size + 1) (c := 1) (t := 35) (RepsS.one SlS.nil) (by simp) (fun _ h => h.elim) (fun _ h => h.elim))
  have HL := Lib.hid hl
  clear h hl hbA
  go_enter Try.func133, Try.ntmps133
  go_wp2_with (first
    | (go_at_call 132; refine (padd_any _ en (.cons k t .nil .nil) _ _ _ HA.out hE rfl HP.out (by have := HL.out; simp only [Fo.len_cons, Fo.len_nil]; omega)).mono ?_; rintro r w2 ⟨rfl, kv2, hP, hB⟩)
    | (go_at_call 135; refine (ppass_any _ _ e hP.out he hT).mono ?_; rintro r w3 ⟨rfl, hP3, hB3⟩))
  go_end0
  exact ⟨rfl, _, hP3, Lib.hid ((HBA.out.trans hB.out).trans hB3.out)⟩

set_option maxHeartbeats 3200000 in
theorem pclose_any (w : World) (i : Int) (en top : En) (h : PSt n w p T i vo bad (E ++ [en] ++ [top])) (hE : E.length ≤ 1000000) (hl : en.g.len ≤ 5000000) :
    Calls Try.prog 112 #[.pointer (some ⟨p, 0, none⟩)] w
      (fun r w' => r = .returned (.tuple #[]) ∧ ∃ vo' kv', Hid (PSt n w' p T i vo' bad (E ++ [⟨en.k, en.t, kv', en.g.app (.cons top.k top.t top.g .nil)⟩])) ∧ Hid (Below n w w')) := by
  have hplt := h.lt
  have hpn : ¬ w.heap.size = p := by omega
  obtain ⟨g, cap, hv, hcap, hcm, hng, c4, c5, c6, _⟩ := h.top
  unfold maxLen at hcm
  obtain ⟨hQ, a, c, hkv, hS⟩ := h.pop hv
  have c2 := h.c2
  have f2 := h.fz 2
  rw [hv] at c2
  rw [hkv] at c6
  simp only [List.length_append, List.length_cons, List.length_nil, Nat.zero_add] at c2 c4 c5 c6 hcap hQ hS
  have hB2 : Below n w (w.setCell ⟨p, 2, none⟩ (.slice (some ⟨g, 0, none⟩) (E.length + 1) cap)) := (Below.refl n w).setCell (p := ⟨p, 2, none⟩) h.le _
  obtain ⟨W, hW⟩ : ∃ W, W = w.setCell ⟨p, 2, none⟩ (.slice (some ⟨g, 0, none⟩) (E.length + 1) cap) := ⟨_, rfl⟩
  have hWs : W.heap.size = w.heap.size := by rw [hW]; simp [World.setCell]
  have HW := Lib.hid hW
  rw [← hW] at hQ hS hB2
  have hbA : Below W.heap.size W ((W.alloc (.cells #[.int .i64 top.k, .string top.t, .slice a top.g.len c] 35)).alloc (.cells #[.int .i64 top.k, .string top.t, .slice a top.g.len c] 35)) := ((Below.refl _ W).alloc (Nat.le_refl _) _).alloc (by simp) _
  have HA := Lib.hid (hQ.later hbA)
  have HBA := Lib.hid (hB2.trans (hbA.mono hQ.size))
  have HP := Lib.hid (Put.new (S := Free n W p (.slice (some ⟨g, 0, none⟩) (E.length + 1) cap) (E ++ [en])) (S' := Free n ((W.alloc (.cells #[.int .i64 top.k, .string top.t, .slice a top.g.len c] 35)).alloc (.cells #[.int .i64 top.k, .string top.t, .slice a top.g.len c] 35)) p (.slice (some ⟨g, 0, none⟩) (E.length + 1) cap) (E ++ [en]))
    (w := W.alloc (.cells #[.int .i64 top.k, .string top.t, .slice a top.g.len c] 35)) (news := [.int .i64 top.k, .string top.t, .slice a top.g.len c]) (H := .cons top.k top.t top.g .nil) (n := W.heap.size + 1) (c := 1) (t := 35)
    (RepsS.one (hS.mono (fun _ h => h) (fun b hb => heap_alloc_old W _ hb.2.1))) (by simp) (fun b hb => by have := hb.2.1; simp; omega) (fun b hb => hb.mono (by simp; omega)))
  have HL := Lib.hid hl
  clear h hl hv hQ hS hkv hng hbA hW hB2
  go_enter Try.func112, Try.ntmps112
  go_wp2_with (go_at_call 132; rw [← HW.out, ← hWs]; refine (padd_any _ en (.cons top.k top.t top.g .nil) _ _ _ HA.out hE rfl HP.out (by have := HL.out; simp only [Fo.len_cons, Fo.len_nil]; omega)).mono ?_; rintro r w2 ⟨rfl, kv2, hP, hB⟩)
  go_end0
  exact ⟨rfl, _, _, hP, Lib.hid (HBA.out.trans hB.out)⟩
end
end Go.Proofs.Ytajdpchojimigaa
