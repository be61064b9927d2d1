/- The parser's method read. -/
import Derived.Test.YtajdpchojimigaaQl
namespace Go.Proofs.Ytajdpchojimigaa
open Go.RowKit TmM

abbrev It := Int × ByteArray × Fo
def En.abs (e : En) : It := (e.k, e.t, e.g)

/-- one round of reading at offset j: the brackets before, the offset behind, the brackets behind. -/
inductive St (T : ByteArray) (j : Nat) : List It → Nat → List It → Prop
  | chars (S : List It) (k : Int) (t : ByteArray) (g : Fo) (L : Nat) (hj : j < T.size) (h0 : T[j].toNat = 39) (hL : 0 < L) (hend : j + 1 + L < T.size) (hplain : ∀ i (hi : i < T.size), j + 1 ≤ i → i < j + 1 + L → T[i] ≠ T[j] ∧ T[i] ≠ 92 ∧ isN 16 T[i].toNat = true) (hclose : T[j + 1 + L] = T[j]) :
      St T j (S ++ [(k, t, g)]) (j + L + 2) (S ++ [(k, t, g.app (foC (T.extract (j + 1) (j + 1 + L)).data.toList))])
  | var (S : List It) (k : Int) (t : ByteArray) (g : Fo) (n : Nat) (hj : j < T.size) (h0 : T[j].toNat = n) (h39 : n ≠ 39) (h34 : n ≠ 34) (hm : j + 2 ≤ T.size) (hv : vkN (rest T j) ≠ 0) (hok : okV (T.extract j (varEnd T j)) = true) (hb : badAt T (varEnd T j) (-1) = -1) :
      St T j (S ++ [(k, t, g)]) (varEnd T j) (S ++ [(k, t, g.app (.cons (vkN (T.extract j (varEnd T j))) ((T.extract j (varEnd T j)).extract 2 (T.extract j (varEnd T j)).size) .nil .nil))])
  | opn (S : List It) (hj : j < T.size) (h0 : T[j].toNat = 40) (hv : vkN (rest T j) = 0) : St T j S (j + 1) (S ++ [(4, ⟨#[]⟩, .nil)])
  | call (S : List It) (hj : j < T.size) (h0 : T[j].toNat = 60) (hv : vkN (rest T j) = 0) (hok : nameB 40 (T.extract (nameAt T j) (nameEnd T j)).data.toList = true) (hb : badAt T (nameEnd T j) (-1) = -1) : St T j S (nameEnd T j) (S ++ [(8, T.extract (nameAt T j) (nameEnd T j), .nil)])
  | shut4 (S : List It) (k : Int) (t : ByteArray) (g : Fo) (t' : ByteArray) (g' : Fo) (hj : j < T.size) (h0 : T[j].toNat = 41) (hv : vkN (rest T j) = 0) : St T j (S ++ [(k, t, g)] ++ [(4, t', g')]) (j + 1) (S ++ [(k, t, g.app (.cons 4 t' g' .nil))])
  | shut8 (S : List It) (k : Int) (t : ByteArray) (g : Fo) (t' : ByteArray) (g' : Fo) (hj : j < T.size) (h0 : T[j].toNat = 62) (hv : vkN (rest T j) = 0) : St T j (S ++ [(k, t, g)] ++ [(8, t', g')]) (j + 1) (S ++ [(k, t, g.app (.cons 8 t' g' .nil))])

inductive Rd (T : ByteArray) : Nat → List It → List It → Prop
  | stop (i : Nat) (S : List It) (hi : i ≤ T.size) (hs : skipAt T i = T.size) (hl : S.length ≤ 1) : Rd T i S S
  | step (i i2 : Nat) (S S2 S' : List It) (hi : i ≤ T.size) (hs : skipAt T i < T.size) (h : St T (skipAt T i) S i2 S2) (hlt : i < i2) (hle : i2 ≤ T.size) (hl : S.length ≤ 1000000) (hg : ∀ x ∈ S, x.2.2.len ≤ 5000000) (hr : Rd T i2 S2 S') : Rd T i S S'

/-- where the parser in block p is. -/
def atOf (p : Nat) (w : World) : Nat := match w.cell? ⟨p, 1, none⟩ with
  | some v => (intOf v).toNat
  | none => 0

theorem atOf_of {n p i : Nat} {w : World} {T : ByteArray} {vo : Value} {bad : Int} {E : List En} (h : PSt n w p T i vo bad E) : atOf p w = i := by
  unfold atOf
  rw [h.c1]
  simp [intOf]

theorem snoc_of {E : List En} {S : List It} {k : Int} {t : ByteArray} {g : Fo} (h : E.map En.abs = S ++ [(k, t, g)]) : ∃ E0 kv, E = E0 ++ [⟨k, t, kv, g⟩] ∧ E0.map En.abs = S := by
  rw [List.map_eq_append_iff] at h
  obtain ⟨E0, l2, rfl, h1, h2⟩ := h
  match l2, h2 with
  | [⟨k', t', kv, g'⟩], h2 =>
    simp only [List.map_cons, List.map_nil, En.abs, List.cons.injEq, Prod.mk.injEq, and_true] at h2
    obtain ⟨rfl, rfl, rfl⟩ := h2
    exact ⟨E0, kv, rfl, h1⟩

theorem run_slice_rest (T : ByteArray) (j : Nat) (h : j ≤ T.size) (w : World) : (Instr.slice 9 (.string T) (some (.int .i64 (j : Int))) none none).run Try.prog w = .ok (.string (rest T j)) w := by
  unfold rest
  simp [Instr.slice, Instr.sliceBounds, Instr.sliceBound, asIntOf, go_sem, h]

theorem rest_get {T : ByteArray} {j : Nat} (h : j < T.size) : ∃ h' : 0 < (rest T j).size, (rest T j)[0] = T[j] := by
  refine ⟨by rw [rest_size]; omega, ?_⟩
  simp [rest, ByteArray.getElem_extract]

section
variable {n p : Nat} {T : ByteArray} {vo : Value} {E : List En}

set_option maxHeartbeats 6400000 in
set_option maxRecDepth 100000 in
theorem pread_any (w : World) (i0 : Nat) (S S' : List It) (h : PSt n w p T i0 vo (-1) E) (hS : E.map En.abs = S) (hr : Rd T i0 S S') (hT : T.size ≤ 40000) :
    Calls Try.prog 81 #[.pointer (some ⟨p, 0, none⟩)] w (fun r w' => r = .returned (.tuple #[]) ∧ ∃ vo' E', Hid (PSt n w' p T T.size vo' (-1) E') ∧ E'.map En.abs = S' ∧ Hid (Below n w w')) := by
  have H0 := Lib.hid h
  have HR0 := Lib.hid hr
  have HS0 := Lib.hid hS
  clear h hr hS
  go_enter Try.func81, Try.ntmps81
  go_wp2
  go_step3
  go_wp2
  go_step3
  go_wp2
  go_loopw [] (fun wr => ∃ i S vo E, Hid (PSt n wr p T (i : Nat) vo (-1) E) ∧ Hid (E.map En.abs = S) ∧ Hid (Rd T i S S') ∧ Hid (Below n w wr)) (fun wr => T.size - atOf p wr)
  case atStart => exact ⟨i0, S, vo, E, H0, HS0, HR0, Lib.hid (Below.refl _ _)⟩
  case round =>
    obtain ⟨i, S, vo, E, h, hS, hr, hb⟩ := hrel
    have c3 := h.out.c3
    have hr1 := hr.out
    clear hr
    cases hr1 with
    | stop _ _ hi hs hl =>
      have SK0 := pskip_any _ i h.out hi hT
      rw [hs] at SK0
      have SK := Lib.hid SK0
      have hsr := run_slice_rest T T.size (Nat.le_refl _)
      have hne : (rest T T.size).toList.isEmpty = true := by
        rw [ByteArray.toList_eq, List.isEmpty_iff]
        have h0 : (rest T T.size).data.size = 0 := (rest_size T T.size).trans (Nat.sub_self _)
        have h1 : rest T T.size = ByteArray.empty := by simpa using h0
        rw [h1]
        rfl
      obtain ⟨R, hR⟩ : ∃ R, R = rest T T.size := ⟨_, rfl⟩
      rw [← hR] at hsr hne
      have hE1 : E.length ≤ 1 := by have := congrArg List.length hS.out; simp at this; omega
      have hE2 : ¬ (1 : Int) < (E.length : Int) := by omega
      have hE3 : decide ((1 : Int) < (E.length : Int)) = false := by simp; omega
      have hTT : ((T.size : Nat) : Int) ≤ (T.size : Int) := Int.le_refl _
      clear hR SK0 hs hi
      go_wp2_with (go_at_call 103; refine SK.out.mono ?_; rintro r w2 ⟨rfl, h2, hb2⟩; have d0 := h2.out.c0; have d1 := h2.out.c1; have d2 := h2.out.c2; have d3 := h2.out.c3; obtain ⟨av, cv, hvo, hfl⟩ := row_shape h2.out.row; rw [hvo] at d2; clear hfl; have HVO := Lib.hid hvo; clear hvo)
      go_quiet (fail)
      go_wp2
      rw [Exit.noGoto_normal]
      go_end0
      exact ⟨rfl, vo, E, Lib.hid (h2.out.keep (Nat.le_refl _) (fun _ _ _ => rfl)), hS.out, Lib.hid (hb.out.trans ⟨hb2.out.os, hb2.out.tape, hb2.out.output, hb2.out.size, hb2.out.block⟩)⟩
    | step _ i2 _ S2 _ hi hs hst hlt hle hl hg hr =>
      have hjle := skipAt_le hi
      obtain ⟨j, hj⟩ : ∃ j, j = skipAt T i := ⟨_, rfl⟩
      rw [← hj] at hst hs hjle
      have SK0 := pskip_any _ i h.out hi hT
      rw [← hj] at SK0
      have SK := Lib.hid SK0
      have hsr := run_slice_rest T j hjle
      obtain ⟨hR0, hR1⟩ := rest_get hs
      obtain ⟨R, hR⟩ : ∃ R, R = rest T j := ⟨_, rfl⟩
      have hRs : R.size = T.size - j := by rw [hR, rest_size]
      have VK0 := fun w => vk_any R w (by omega)
      rw [← hR] at hsr
      have hR1' : ∃ h', R[0]'h' = T[j] := by subst hR; exact ⟨hR0, hR1⟩
      obtain ⟨hR0, hR1⟩ := hR1'
      have VK := Lib.hid VK0
      have HRT := Lib.hid hR
      have HI := Lib.hid hi
      have HJ := Lib.hid hj
      have HLT := Lib.hid hlt
      have HLE := Lib.hid hle
      have HG := Lib.hid hg
      clear hR SK0 VK0 hi hj hlt hle hg
      have AT := Lib.hid (atOf_of h.out)
      have HR := Lib.hid hr
      clear hr
      have hne : R.toList.isEmpty = false := by
        rw [ByteArray.toList_eq]
        cases h : R.data.toList with
        | nil => exact absurd (show R.size = 0 by show R.data.size = 0; simpa using congrArg List.length h) (by omega)
        | cons _ _ => rfl
      cases hst with
      | chars S k t g L hj' h0 hL hend hplain hclose =>
        obtain ⟨E0, kv, rfl, hS0⟩ := snoc_of hS.out
        have hE0 : E0.length ≤ 1000000 := by have := congrArg List.length hS0; simp at this hl; omega
        have hgl := HG.out (k, t, g) (by simp)
        have PC := Lib.hid (fun w (h : PSt n w p T j vo (-1) (E0 ++ [⟨k, t, kv, g⟩])) => pmchars_any w j L ⟨k, t, kv, g⟩ h hE0 hgl hT hL hend hplain hclose)
        have HS1 := Lib.hid hS0
        have hc : ((R[0]'hR0).toNat : Int) = 39 := (congrArg (fun x : UInt8 => (x.toNat : Int)) hR1).trans (congrArg (fun x : Nat => (x : Int)) h0)
        clear h0 hR1
        clear hplain hclose hS0 hgl VK
        go_wp2_with (go_at_call 103; refine SK.out.mono ?_; rintro r w2 ⟨rfl, h2, hb2⟩; have d0 := h2.out.c0; have d1 := h2.out.c1)
        go_quiet (fail)
        go_wp2_with (go_at_call 104; refine (PC.out _ (by exact h2.out.keep (Nat.le_refl _) (fun _ _ _ => rfl))).mono ?_; rintro r w3 ⟨rfl, kv3, h3, hb3⟩)
        go_roundw
        case rel => exact ⟨_, _, _, _, h3, Lib.hid (by rw [List.map_append, HS1.out]; rfl), HR, Lib.hid (hb.out.trans (hb2.out.trans ⟨hb3.out.os, hb3.out.tape, hb3.out.output, hb3.out.size, hb3.out.block⟩))⟩
        case measure => rw [AT.out, atOf_of h3.out]; have := HLT.out; have := HLE.out; omega
      | var S k t g c hj' h0 h39 h34 hm hv hok hbad =>
        obtain ⟨E0, kv, rfl, hS0⟩ := snoc_of hS.out
        have hE0 : E0.length ≤ 1000000 := by have := congrArg List.length hS0; simp at this hl; omega
        have hgl := HG.out (k, t, g) (by simp)
        have PC := Lib.hid (fun w (h : PSt n w p T j vo (-1) (E0 ++ [⟨k, t, kv, g⟩])) => pmvariable_any w j ⟨k, t, kv, g⟩ h hE0 hgl hT hm hok)
        rw [hbad] at PC
        have HS1 := Lib.hid hS0
        have hc : ((R[0]'hR0).toNat : Int) = (c : Int) := by rw [hR1, h0]
        have q39 : ((c : Int) == 39) = false := by rw [beq_eq_false_iff_ne]; omega
        have q34 : ((c : Int) == 34) = false := by rw [beq_eq_false_iff_ne]; omega
        obtain ⟨v, hv1⟩ : ∃ v, v = vkN R := ⟨_, rfl⟩
        rw [← hv1] at VK
        rw [← HRT.out, ← hv1] at hv
        have qv : ((v : Int) == 0) = false := by rw [beq_eq_false_iff_ne]; omega
        have VQ := VK
        obtain ⟨e, he⟩ : ∃ e, e = varEnd T j := ⟨_, rfl⟩
        rw [← he] at PC HLT HLE HR
        clear h0 hR1 hok hbad hS0 hgl VK hv hv1 he h39 h34
        go_wp2_with (go_at_call 103; refine SK.out.mono ?_; rintro r w2 ⟨rfl, h2, hb2⟩; have d0 := h2.out.c0; have d1 := h2.out.c1)
        go_quiet (fail)
        go_wp2_with (first
          | (go_at_call 69; refine (VQ.out _).mono ?_; rintro r w3 ⟨rfl, hb3⟩; have h3 := Lib.hid (h2.out.keep (w1 := w3) hb3.size (fun b _ hl => hb3.block b hl)); have d0 := h3.out.c0; have d1 := h3.out.c1; have d2 := h3.out.c2; have g1 := h3.out.fz 1)
          | (go_at_call 106; refine (PC.out _ h3.out).mono ?_; rintro r w4 ⟨rfl, kv4, h4, hb4⟩)
          | fail)
        go_roundw
        case rel => exact ⟨_, _, _, _, h4, Lib.hid (by rw [List.map_append, HS1.out]; rfl), HR, Lib.hid (hb.out.trans (hb2.out.trans ((show Below n w2 w3 from ⟨hb3.os, hb3.tape, hb3.output, hb3.size, fun b hl => hb3.block b (Nat.lt_of_lt_of_le hl h2.out.size)⟩).trans hb4.out)))⟩
        case measure => rw [AT.out, atOf_of h4.out]; have := HLT.out; have := HLE.out; omega
      | shut4 S k t g t' g' hj' h0 hv =>
        obtain ⟨E1, kv', rfl, hS1⟩ := snoc_of hS.out
        obtain ⟨E0, kv, rfl, hS0⟩ := snoc_of hS1
        have hE0 : E0.length ≤ 1000000 := by have := congrArg List.length hS0; simp at this hl; omega
        have hEE : (E0 ++ [⟨k, t, kv, g⟩] : List En).length ≤ 1000000 := by have := congrArg List.length hS0; simp at this hl ⊢; omega
        have hgl := HG.out (k, t, g) (by simp)
        have PC := Lib.hid (fun w (h : PSt n w p T (j + 1 : Nat) vo (-1) (E0 ++ [⟨k, t, kv, g⟩] ++ [⟨4, t', kv', g'⟩])) => pclose_any w ((j + 1 : Nat) : Int) ⟨k, t, kv, g⟩ ⟨4, t', kv', g'⟩ h hE0 hgl)
        have HS1 := Lib.hid hS0
        have VQ := Lib.hid (fun w => (VK.out w).mono (fun r w' h => (⟨by rw [← HRT.out] at hv; rw [h.1, hv]; rfl, h.2⟩ : r = .returned (.int .i64 0) ∧ Below w.heap.size w w')))
        have hc : ((R[0]'hR0).toNat : Int) = 41 := (congrArg (fun x : UInt8 => (x.toNat : Int)) hR1).trans (congrArg (fun x : Nat => (x : Int)) h0)
        clear h0 hR1
        have I1 := Lib.hid (fun w => is_any 41 1 w (by decide) (by decide))
        have I2 := Lib.hid (fun w => is_any 41 2 w (by decide) (by decide))
        have HJ1 := Lib.hid (show (j : Int) + 1 = ((j + 1 : Nat) : Int) from by omega)
        have hwr : IntKind.i64.wrap ((j : Int) + 1) = (j : Int) + 1 := IntWalk.i64_in _ (by omega)
        clear hS0 hS1 hgl VK hv
        go_wp2_with (go_at_call 103; refine SK.out.mono ?_; rintro r w2 ⟨rfl, h2, hb2⟩; have d0 := h2.out.c0; have d1 := h2.out.c1)
        go_quiet (fail)
        go_wp2_with (first
          | (go_at_call 69; refine (VQ.out _).mono ?_; rintro r w3 ⟨rfl, hb3⟩; have h3 := Lib.hid (h2.out.keep (w1 := w3) hb3.size (fun b _ hl => hb3.block b hl)); have d0 := h3.out.c0; have d1 := h3.out.c1; have d2 := h3.out.c2; have g1 := h3.out.fz 1)
          | (go_at_call 107; first | (refine (I1.out _).mono ?_; rintro r w9 ⟨rfl, rfl⟩) | (refine (I2.out _).mono ?_; rintro r w9 ⟨rfl, rfl⟩))
          | (go_at_call 111; refine (pinner_any _ ⟨4, t', kv', g'⟩ h3.out hEE).mono ?_; rintro r w4 ⟨rfl, hb4⟩; have h4 := Lib.hid (h3.out.later hb4); have b1 := h4.out.c1; have y1 := h4.out.fz 1; have HX := Lib.hid (h4.out.setAt ((j : Int) + 1)))
          | (go_at_call 112; refine (PC.out _ (by rw [← HJ1.out]; exact HX.out)).mono ?_; rintro r w5 ⟨rfl, vo5, kv5, h5, hb5⟩)
          | fail)
        go_roundw
        case rel => exact ⟨_, _, _, _, h5, Lib.hid (by rw [List.map_append, HS1.out]; rfl), HR, Lib.hid (hb.out.trans (hb2.out.trans ((show Below n w2 w3 from ⟨hb3.os, hb3.tape, hb3.output, hb3.size, fun b hl => hb3.block b (Nat.lt_of_lt_of_le hl h2.out.size)⟩).trans ((hb4.mono h3.out.size).trans (((Below.refl n w4).setCell (p := ⟨p, 1, none⟩) h4.out.le _).trans hb5.out)))))⟩
        case measure => rw [AT.out, atOf_of h5.out]; have := HLT.out; have := HLE.out; omega
      | shut8 S k t g t' g' hj' h0 hv =>
        obtain ⟨E1, kv', rfl, hS1⟩ := snoc_of hS.out
        obtain ⟨E0, kv, rfl, hS0⟩ := snoc_of hS1
        have hE0 : E0.length ≤ 1000000 := by have := congrArg List.length hS0; simp at this hl; omega
        have hEE : (E0 ++ [⟨k, t, kv, g⟩] : List En).length ≤ 1000000 := by have := congrArg List.length hS0; simp at this hl ⊢; omega
        have hgl := HG.out (k, t, g) (by simp)
        have PC := Lib.hid (fun w (h : PSt n w p T (j + 1 : Nat) vo (-1) (E0 ++ [⟨k, t, kv, g⟩] ++ [⟨8, t', kv', g'⟩])) => pclose_any w ((j + 1 : Nat) : Int) ⟨k, t, kv, g⟩ ⟨8, t', kv', g'⟩ h hE0 hgl)
        have HS1 := Lib.hid hS0
        have VQ := Lib.hid (fun w => (VK.out w).mono (fun r w' h => (⟨by rw [← HRT.out] at hv; rw [h.1, hv]; rfl, h.2⟩ : r = .returned (.int .i64 0) ∧ Below w.heap.size w w')))
        have hc : ((R[0]'hR0).toNat : Int) = 62 := (congrArg (fun x : UInt8 => (x.toNat : Int)) hR1).trans (congrArg (fun x : Nat => (x : Int)) h0)
        clear h0 hR1
        have I1 := Lib.hid (fun w => is_any 62 1 w (by decide) (by decide))
        have I2 := Lib.hid (fun w => is_any 62 2 w (by decide) (by decide))
        have HJ1 := Lib.hid (show (j : Int) + 1 = ((j + 1 : Nat) : Int) from by omega)
        have hwr : IntKind.i64.wrap ((j : Int) + 1) = (j : Int) + 1 := IntWalk.i64_in _ (by omega)
        clear hS0 hS1 hgl VK hv
        go_wp2_with (go_at_call 103; refine SK.out.mono ?_; rintro r w2 ⟨rfl, h2, hb2⟩; have d0 := h2.out.c0; have d1 := h2.out.c1)
        go_quiet (fail)
        go_wp2_with (first
          | (go_at_call 69; refine (VQ.out _).mono ?_; rintro r w3 ⟨rfl, hb3⟩; have h3 := Lib.hid (h2.out.keep (w1 := w3) hb3.size (fun b _ hl => hb3.block b hl)); have d0 := h3.out.c0; have d1 := h3.out.c1; have d2 := h3.out.c2; have g1 := h3.out.fz 1)
          | (go_at_call 107; first | (refine (I1.out _).mono ?_; rintro r w9 ⟨rfl, rfl⟩) | (refine (I2.out _).mono ?_; rintro r w9 ⟨rfl, rfl⟩))
          | (go_at_call 111; refine (pinner_any _ ⟨8, t', kv', g'⟩ h3.out hEE).mono ?_; rintro r w4 ⟨rfl, hb4⟩; have h4 := Lib.hid (h3.out.later hb4); have b1 := h4.out.c1; have y1 := h4.out.fz 1; have HX := Lib.hid (h4.out.setAt ((j : Int) + 1)))
          | (go_at_call 112; refine (PC.out _ (by rw [← HJ1.out]; exact HX.out)).mono ?_; rintro r w5 ⟨rfl, vo5, kv5, h5, hb5⟩)
          | fail)
        go_roundw
        case rel => exact ⟨_, _, _, _, h5, Lib.hid (by rw [List.map_append, HS1.out]; rfl), HR, Lib.hid (hb.out.trans (hb2.out.trans ((show Below n w2 w3 from ⟨hb3.os, hb3.tape, hb3.output, hb3.size, fun b hl => hb3.block b (Nat.lt_of_lt_of_le hl h2.out.size)⟩).trans ((hb4.mono h3.out.size).trans (((Below.refl n w4).setCell (p := ⟨p, 1, none⟩) h4.out.le _).trans hb5.out)))))⟩
        case measure => rw [AT.out, atOf_of h5.out]; have := HLT.out; have := HLE.out; omega
      | call S hj' h0 hv hok hbad =>
        have hE0 : E.length ≤ 1000000 := by have := congrArg List.length hS.out; simp at this; omega
        have PC := Lib.hid (fun w (h : PSt n w p T j vo (-1) E) => pmcall_any w j h hE0 hT (by omega) hok)
        rw [hbad] at PC
        have VQ := Lib.hid (fun w => (VK.out w).mono (fun r w' h => (⟨by rw [← HRT.out] at hv; rw [h.1, hv]; rfl, h.2⟩ : r = .returned (.int .i64 0) ∧ Below w.heap.size w w')))
        have hc : ((R[0]'hR0).toNat : Int) = 60 := (congrArg (fun x : UInt8 => (x.toNat : Int)) hR1).trans (congrArg (fun x : Nat => (x : Int)) h0)
        clear h0 hR1
        have I1 := Lib.hid (fun w => is_any 60 1 w (by decide) (by decide))
        have I2 := Lib.hid (fun w => is_any 60 2 w (by decide) (by decide))
        obtain ⟨e, he⟩ : ∃ e, e = nameEnd T j := ⟨_, rfl⟩
        rw [← he] at PC HLT HLE HR
        clear hok hbad VK hv he
        go_wp2_with (go_at_call 103; refine SK.out.mono ?_; rintro r w2 ⟨rfl, h2, hb2⟩; have d0 := h2.out.c0; have d1 := h2.out.c1)
        go_quiet (fail)
        go_wp2_with (first
          | (go_at_call 69; refine (VQ.out _).mono ?_; rintro r w3 ⟨rfl, hb3⟩; have h3 := Lib.hid (h2.out.keep (w1 := w3) hb3.size (fun b _ hl => hb3.block b hl)); have d0 := h3.out.c0; have d1 := h3.out.c1; have d2 := h3.out.c2; have g1 := h3.out.fz 1)
          | (go_at_call 107; first | (refine (I1.out _).mono ?_; rintro r w9 ⟨rfl, rfl⟩) | (refine (I2.out _).mono ?_; rintro r w9 ⟨rfl, rfl⟩))
          | (go_at_call 110; refine (PC.out _ h3.out).mono ?_; rintro r w4 ⟨rfl, vo4, h4, hb4⟩)
          | fail)
        go_roundw
        case rel => exact ⟨_, _, _, _, h4, Lib.hid (by rw [List.map_append, hS.out]; rfl), HR, Lib.hid (hb.out.trans (hb2.out.trans ((show Below n w2 w3 from ⟨hb3.os, hb3.tape, hb3.output, hb3.size, fun b hl => hb3.block b (Nat.lt_of_lt_of_le hl h2.out.size)⟩).trans hb4.out)))⟩
        case measure => rw [AT.out, atOf_of h4.out]; have := HLT.out; have := HLE.out; omega
      | opn S hj' h0 hv =>
        have hE0 : E.length ≤ 1000000 := by have := congrArg List.length hS.out; simp at this; omega
        have VQ := Lib.hid (fun w => (VK.out w).mono (fun r w' h => (⟨by rw [← HRT.out] at hv; rw [h.1, hv]; rfl, h.2⟩ : r = .returned (.int .i64 0) ∧ Below w.heap.size w w')))
        have hc : ((R[0]'hR0).toNat : Int) = 40 := (congrArg (fun x : UInt8 => (x.toNat : Int)) hR1).trans (congrArg (fun x : Nat => (x : Int)) h0)
        clear h0 hR1
        have I1 := Lib.hid (fun w => is_any 40 1 w (by decide) (by decide))
        have I2 := Lib.hid (fun w => is_any 40 2 w (by decide) (by decide))
        have HJ1 := Lib.hid (show (j : Int) + 1 = ((j + 1 : Nat) : Int) from by omega)
        have hwr : IntKind.i64.wrap ((j : Int) + 1) = (j : Int) + 1 := IntWalk.i64_in _ (by omega)
        clear VK hv
        go_wp2_with (go_at_call 103; refine SK.out.mono ?_; rintro r w2 ⟨rfl, h2, hb2⟩; have d0 := h2.out.c0; have d1 := h2.out.c1)
        go_quiet (fail)
        go_wp2_with (first
          | (go_at_call 69; refine (VQ.out _).mono ?_; rintro r w3 ⟨rfl, hb3⟩; have h3 := Lib.hid (h2.out.keep (w1 := w3) hb3.size (fun b _ hl => hb3.block b hl)); have d0 := h3.out.c0; have d1 := h3.out.c1; have d2 := h3.out.c2; have g1 := h3.out.fz 1)
          | (go_at_call 107; first | (refine (I1.out _).mono ?_; rintro r w9 ⟨rfl, rfl⟩) | (refine (I2.out _).mono ?_; rintro r w9 ⟨rfl, rfl⟩))
          | fail)
        obtain ⟨W, hW⟩ : ∃ W, W = w3.setCell ⟨p, 1, none⟩ (.int .i64 ((j : Int) + 1)) := ⟨_, rfl⟩
        have h4 : Hid (PSt n W p T (j + 1 : Nat) vo (-1) E) := Lib.hid (by rw [hW, ← HJ1.out]; exact h3.out.setAt ((j : Int) + 1))
        have hb4 : Hid (Below n w3 W) := Lib.hid (by rw [hW]; exact (Below.refl n w3).setCell (p := ⟨p, 1, none⟩) h3.out.le _)
        rw [← hW]
        clear hW d0 d1 d2 g1 hwr hsr hc hne
        have hplt := h4.out.lt
        have d2 := h4.out.c2
        have g2 := h4.out.fz 2
        obtain ⟨av, cv, hvo, hfl⟩ := row_shape h4.out.row
        rw [hvo] at d2
        have HVO := Lib.hid hvo
        have HFL := Lib.hid hfl
        have hEL := flatE_len E
        have HEL := Lib.hid hEL
        clear hvo hfl hEL
        have ZP : Hid (Put (fun _ => False) (W.alloc (.cells #[.int .i64 0, .string ⟨#[]⟩, .slice none 0 0] 35)) (some ⟨W.heap.size, 0, none⟩) 1 (.cons 0 ⟨#[]⟩ .nil .nil)) := Lib.hid (Put.new (S := fun _ => False) (news := [.int .i64 0, .string ⟨#[]⟩, .slice none 0 0]) (RepsS.one SlS.nil) rfl (fun _ h => h.elim) (fun _ h => h.elim))
        have ZB : Hid (Below W.heap.size W (W.alloc (.cells #[.int .i64 0, .string ⟨#[]⟩, .slice none 0 0] 35))) := Lib.hid ((Below.refl _ _).alloc (Nat.le_refl _) _)
        have HRW : Hid ((W.alloc (.cells #[.int .i64 0, .string ⟨#[]⟩, .slice none 0 0] 35)).ownsRow n 35 3 (.slice av E.length cv) E.length (flatE E)) := Lib.hid (by rw [← HVO.out]; exact (h4.out.later ZB.out).row)
        have HPN : Hid ((Value.slice av E.length cv).ownBlock ≠ some p) := Lib.hid (by rw [← HVO.out]; exact row_ne h4.out.row h4.out.cell)
        have NS : Hid (p < (W.alloc (.cells #[.int .i64 0, .string ⟨#[]⟩, .slice none 0 0] 35)).heap.size) := Lib.hid (by simp; omega)
        have hEi : (E.length : Int) < (E.length : Int) + 1 := by omega
        have hEp : (0 : Int) ≤ (E.length : Int) := by omega
        have o2 : ∀ q o, ((W.drewN q).alloc o).cell? ⟨p, 2, none⟩ = some (.slice av E.length cv) := fun q o => (World.cell?_of_block (heap_old (W.drewN q) o p hplt)).trans d2
        go_region_law
          (first
            | (refine step_append_kids (by rfl) (.tmp 75) (.tmp 78) (by rfl) (by rfl) (by rfl) (G := foC (List.replicate E.length 0)) (H := .cons 0 ⟨#[]⟩ .nil .nil) (xs := flatE E) (base := n) (v := .slice av E.length cv) (S := fun _ => False) (c := 1) (ad := some ⟨W.heap.size, 0, none⟩) (by rw [HFL.out]; exact HRW.out) ZP.out (by rw [HFL.out]; simp only [Fo.len_cons, Fo.len_nil]; omega) rfl (h4.out.later ZB.out).size ?_; intro v6 w6 news hn6 ho6 hg6 hat6; have ho7 : w6.ownsRow n 35 3 v6 (E.length + 1) (flatE E ++ news) := (by have h := ho6; rw [HFL.out] at h; exact h); obtain ⟨g, cap6, u0, u1, u2, rfl, hc61, hc62, hbg, hnl, e0, e1, e2, ef⟩ := row_last ho7 HEL.out; have f0 := ef (E.length * 3); have f1 := ef (E.length * 3 + 1); have f2 := ef (E.length * 3 + 2); have bp := (hg6.block p (NS.out) (fun c => HPN.out c.symm)).trans (heap_old W (.cells #[.int .i64 0, .string ⟨#[]⟩, .slice none 0 0] 35) p hplt); have x2 := (World.cell?_of_block (a := ⟨p, 2, none⟩) bp).trans d2; have y2 := (World.frozen?_of_block (a := ⟨p, 2, none⟩) bp).trans g2; have hpg : ¬ p = g := (fun c => row_ne ho7 (bp.trans h4.out.cell) (by rw [c]; rfl)); have hgp : ¬ g = p := (fun c => hpg c.symm); have HO7 := Lib.hid ho7; have HG6 := Lib.hid hg6; have HA6 := Lib.hid hat6; have HNL := Lib.hid hnl; have HBG := Lib.hid hbg; clear hn6 ho6 ho7 hg6 hat6 ef bp hnl hbg)
            | fail)
        all_goals
          have HG7 := Lib.hid (show (W.alloc (.cells #[.int .i64 0, .string ⟨#[]⟩, .slice none 0 0] 35)).grownBy w6 (Value.slice av E.length cv).ownBlock from ⟨HG6.out.os, HG6.out.tape, HG6.out.output, HG6.out.size, HG6.out.block⟩)
          have HPU := Lib.hid ((h4.out.later ZB.out).push (w1 := w6) (k := 4) (t := ⟨#[]⟩) rfl HNL.out HO7.out (by rw [HVO.out]; exact HG7.out) (by rw [HVO.out]; exact HA6.out))
          have HPB := Lib.hid ((((((ZB.out.mono h4.out.size).grown HG7.out (h4.out.later ZB.out).size (fun b hb => (HRW.out.lt b hb).1)).setCell (p := ⟨g, E.length * 3, none⟩) HBG.out (.int .i64 4)).setCell (p := ⟨g, E.length * 3 + 1, none⟩) HBG.out (.string ⟨#[]⟩)).setCell (p := ⟨g, E.length * 3 + 2, none⟩) HBG.out (.slice none 0 0)).setCell (p := ⟨p, 2, none⟩) h4.out.le (.slice (some ⟨g, 0, none⟩) (E.length + 1) cap6))
          have HPB2 := Lib.hid ((((((ZB.out.mono h4.out.size).grown HG7.out (h4.out.later ZB.out).size (fun b hb => (HRW.out.lt b hb).1)).setCell (p := ⟨p, 2, none⟩) h4.out.le (.slice (some ⟨g, 0, none⟩) (E.length + 1) cap6)).setCell (p := ⟨g, E.length * 3, none⟩) HBG.out (.int .i64 4)).setCell (p := ⟨g, E.length * 3 + 1, none⟩) HBG.out (.string ⟨#[]⟩)).setCell (p := ⟨g, E.length * 3 + 2, none⟩) HBG.out (.slice none 0 0))
          have HB := Lib.hid (hb.out.trans (hb2.out.trans ((show Below n w2 w3 from ⟨hb3.os, hb3.tape, hb3.output, hb3.size, fun b hl => hb3.block b (Nat.lt_of_lt_of_le hl h2.out.size)⟩).trans hb4.out)))
          go_wp2
          go_roundw
          case rel =>
            first
              | exact ⟨_, _, _, _, Lib.hid (HPU.out.keep (Nat.le_refl _) (fun _ _ _ => rfl)), Lib.hid (by rw [List.map_append, hS.out]; rfl), HR, Lib.hid (HB.out.trans ⟨HPB.out.os, HPB.out.tape, HPB.out.output, HPB.out.size, HPB.out.block⟩)⟩
              | exact ⟨_, _, _, _, Lib.hid (HPU.out.keep (by simp [World.setCell]) (fun b _ _ => set_swap hpg b)), Lib.hid (by rw [List.map_append, hS.out]; rfl), HR, Lib.hid (HB.out.trans ⟨HPB2.out.os, HPB2.out.tape, HPB2.out.output, HPB2.out.size, HPB2.out.block⟩)⟩
          case measure =>
            have hat := atOf_of HPU.out
            first
              | (rw [AT.out, show atOf p _ = j + 1 from hat]; have := HLT.out; have := HLE.out; omega)
              | (rw [AT.out, atOf_of (HPU.out.keep (by simp [World.setCell]) (fun b _ _ => set_swap hpg b))]; have := HLT.out; have := HLE.out; omega)
end
end Go.Proofs.Ytajdpchojimigaa
