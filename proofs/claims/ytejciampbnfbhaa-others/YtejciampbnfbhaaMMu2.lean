import Derived.Test.YtejciampbnfbhaaMMu
set_option linter.unusedVariables false
set_option linter.unusedSimpArgs false
set_option maxRecDepth 100000
set_option maxHeartbeats 2000000
namespace Go.Proofs.Ytejciampbnfbhaa
namespace Sy
open Lx
variable (z : Env) (N : Nat)
theorem mu_params {E : RS → Tr × RS} (hE : Down E) (x : List UInt8) : ∀ n first s, mu (paramsA z E x n first s).2 ≤ mu s := by
 intro n
 induction n with
 | zero => intro _ s; exact mu_stuck s
 | succ n ih =>
  intro first s
  have h1 := mu_name z s
  rw [paramsA]
  split
  ·split
   ·exact Nat.le_trans (ih false _) h1
   ·exact h1
  ·exact Nat.le_trans (hE _) (mu_must z x s)
theorem mu_squares {E : RS → Tr × RS} (hE : Down E) : ∀ n l s, mu (squaresA z E n l s).2 ≤ mu s := by
 intro n
 induction n with
 | zero => intro _ s; exact mu_stuck s
 | succ n ih =>
  intro l s
  rw [squaresA]
  have h1 := hE s
  split
  ·rename_i h
   exact Nat.le_trans (ih _ _) (Nat.le_trans (Nat.le_of_lt (mu_is z h)) h1)
  ·exact h1
theorem mu_square {E : RS → Tr × RS} (hE : Down E) (p : Nat) (s : RS) : mu (squareA z N E p s).2 ≤ mu s := by
 unfold squareA
 split
 ·rename_i h; exact Nat.le_of_lt (mu_is z h)
 ·exact Nat.le_trans (mu_must z _ _) (mu_squares z hE N [] s)
theorem mu_round {E : RS → Tr × RS} (hE : Down E) (p : Nat) (s : RS) : mu (roundA z E p s).2 ≤ mu s := by
 unfold roundA
 split
 ·rename_i h; exact Nat.le_of_lt (mu_is z h)
 ·simp only []
  have h1 := hE s
  split
  ·rename_i h
   exact Nat.le_trans (mu_must z _ _) (Nat.le_trans (hE _) (Nat.le_trans (Nat.le_of_lt (mu_is z h)) h1))
  ·exact Nat.le_trans (mu_must z _ _) h1
theorem mu_atom {E : RS → Tr × RS} (hE : Down E) (s : RS) : mu (atomA z N E s).2 ≤ mu s ∧ (beginsA s = true → mu (atomA z N E s).2 < mu s) := by
 unfold atomA
 split
 ·rename_i ho
  split
  ·rename_i h
   have := mu_next_lt z ho (s := s) (by omega); exact ⟨Nat.le_of_lt this, fun _ => this⟩
  ·rename_i hk2
   split
   ·rename_i h
    have := mu_next_lt z ho (s := s) (by omega); exact ⟨Nat.le_of_lt this, fun _ => this⟩
   ·rename_i hk1
    split
    ·rename_i h
     have h1 := mu_is z h
     have h2 : mu (nextA z (if okA (nextA z s) && (nextA z s).t.kind != 1 then noA (nextA z s) else nextA z s)) ≤ mu (nextA z s) := by
      split
      ·rename_i h3
       have h4 := mu_no (nextA z s); refine Nat.le_trans (mu_next z _ ?_) h4
       right
       simp only [Bool.and_eq_true] at h3; simp only [noA, h3.1, if_true]
       simp [okA]
      ·rename_i h3
       refine mu_next z _ ?_
       cases h5 : okA (nextA z s) with
       | false => exact .inr rfl
       | true =>
        left
        simp [h5] at h3
        omega
     simp only []; exact ⟨by omega, fun _ => by omega⟩
    ·rename_i h3
     split
     ·rename_i h
      have := mu_is z h; exact ⟨Nat.le_of_lt this, fun _ => this⟩
     ·rename_i h4
      split
      ·rename_i h
       have := mu_is z h; exact ⟨Nat.le_of_lt this, fun _ => this⟩
      ·rename_i h5
       split
       ·rename_i h
        have h1 := mu_is z h; have h2 := mu_round z hE s.t.pos (nextA z s); exact ⟨by omega, fun _ => by omega⟩
       ·rename_i h6
        split
        ·rename_i h
         have h1 := mu_is z h; have h2 := mu_square z N hE s.t.pos (nextA z s); exact ⟨by omega, fun _ => by omega⟩
        ·rename_i h7
         refine ⟨mu_no s, fun hb => ?_⟩
         simp [beginsA, ho, hk2, hk1, h3, h4, h5, h6, h7] at hb
 ·rename_i ho
  refine ⟨Nat.le_refl _, fun hb => ?_⟩
  simp [beginsA, ho] at hb
theorem mu_apps {E : RS → Tr × RS} (hE : Down E) : ∀ n a s, mu (appsA z N E n a s).2 ≤ mu s := by
 intro n
 induction n with
 | zero => intro _ s; exact mu_stuck s
 | succ n ih =>
  intro a s
  rw [appsA]
  split
  ·exact Nat.le_trans (ih _ _) (mu_atom z N hE s).1
  ·exact Nat.le_refl _
theorem mu_app {E : RS → Tr × RS} (hE : Down E) (s : RS) : mu (appA z N E s).2 ≤ mu s := by
 unfold appA
 split
 ·rename_i h
  exact Nat.le_trans (mu_atom z N hE _).1 (Nat.le_trans (mu_name z _) (Nat.le_of_lt (mu_is z h)))
 ·split
  ·rename_i h
   exact Nat.le_trans (mu_atom z N hE _).1 (Nat.le_of_lt (mu_is z h))
  ·split
   ·rename_i h
    exact Nat.le_trans (mu_atom z N hE _).1 (Nat.le_of_lt (mu_is z h))
   ·exact Nat.le_trans (mu_apps z N hE N _ _) (mu_atom z N hE s).1
theorem mu_muls {E : RS → Tr × RS} (hE : Down E) : ∀ n a s, mu (mulsA z N E n a s).2 ≤ mu s := by
 intro n
 induction n with
 | zero => intro _ s; exact mu_stuck s
 | succ n ih =>
  intro a s
  rw [mulsA]
  split
  ·rename_i h
   exact Nat.le_trans (ih _ _) (Nat.le_trans (mu_app z N hE _) (Nat.le_of_lt (mu_is z h)))
  ·exact Nat.le_refl _
theorem mu_mul {E : RS → Tr × RS} (hE : Down E) (s : RS) : mu (mulA z N E s).2 ≤ mu s := Nat.le_trans (mu_muls z N hE N _ _) (mu_app z N hE s)
theorem mu_sums {E : RS → Tr × RS} (hE : Down E) : ∀ n a s, mu (sumsA z N E n a s).2 ≤ mu s := by
 intro n
 induction n with
 | zero => intro _ s; exact mu_stuck s
 | succ n ih =>
  intro a s
  rw [sumsA]
  split
  ·rename_i h
   exact Nat.le_trans (ih _ _) (Nat.le_trans (mu_mul z N hE _) (Nat.le_of_lt (mu_is z h)))
  ·split
   ·rename_i h
    exact Nat.le_trans (ih _ _) (Nat.le_trans (mu_mul z N hE _) (Nat.le_of_lt (mu_is z h)))
   ·exact Nat.le_refl _
theorem mu_sum {E : RS → Tr × RS} (hE : Down E) (s : RS) : mu (sumA z N E s).2 ≤ mu s := Nat.le_trans (mu_sums z N hE N _ _) (mu_mul z N hE s)
theorem mu_cons {E : RS → Tr × RS} (hE : Down E) : ∀ n s, mu (consA z N E n s).2 ≤ mu s := by
 intro n
 induction n with
 | zero => intro s; exact mu_stuck s
 | succ n ih =>
  intro s
  rw [consA]
  simp only []
  split
  ·rename_i h
   exact Nat.le_trans (ih _) (Nat.le_trans (Nat.le_of_lt (mu_is z h)) (mu_sum z N hE s))
  ·exact mu_sum z N hE s
theorem mu_comp {E : RS → Tr × RS} (hE : Down E) (s : RS) : mu (compA z N E s).2 ≤ mu s := by
 unfold compA
 simp only []
 split
 ·rename_i h
  exact Nat.le_trans (mu_cons z N hE N _) (Nat.le_trans (Nat.le_of_lt (mu_is z h)) (mu_cons z N hE N s))
 ·split
  ·rename_i h
   exact Nat.le_trans (mu_cons z N hE N _) (Nat.le_trans (Nat.le_of_lt (mu_is z h)) (mu_cons z N hE N s))
  ·exact mu_cons z N hE N s
theorem mu_let {E : RS → Tr × RS} (hE : Down E) (p : Nat) (s : RS) : mu (letA z N E p s).2 ≤ mu s :=
 Nat.le_trans (hE _) (Nat.le_trans (mu_must z _ _) (Nat.le_trans (mu_params z hE _ N _ _) (Nat.le_trans (mu_name z _) (mu_has z _ s))))
theorem mu_cases {E : RS → Tr × RS} (hE : Down E) (p : Nat) (s : RS) : mu (casesA z E p s).2 ≤ mu s :=
 Nat.le_trans (mu_must z _ _) (Nat.le_trans (hE _) (Nat.le_trans (mu_must z _ _) (Nat.le_trans (mu_name z _) (Nat.le_trans (mu_must z _ _) (Nat.le_trans (mu_name z _) (Nat.le_trans (mu_must z _ _)
  (Nat.le_trans (hE _) (Nat.le_trans (mu_must z _ _) (Nat.le_trans (mu_must z _ _) (Nat.le_trans (mu_must z _ _) (Nat.le_trans (mu_must z _ _) (hE s))))))))))))
theorem mu_clauses {E : RS → Tr × RS} (hE : Down E) : ∀ n l s, mu (clausesA z E n l s).2 ≤ mu s := by
 intro n
 induction n with
 | zero => intro _ s; exact mu_stuck s
 | succ n ih =>
  intro l s
  rw [clausesA]
  split
  ·rename_i h
   exact Nat.le_trans (ih _ _) (Nat.le_trans (hE _) (Nat.le_trans (mu_must z _ _) (Nat.le_trans (mu_name z _) (Nat.le_trans (mu_name z _) (Nat.le_trans (mu_name z _) (Nat.le_of_lt (mu_is z h)))))))
  ·exact Nat.le_refl _
theorem mu_handle {E : RS → Tr × RS} (hE : Down E) (p : Nat) (s : RS) (hs : s.t.kind ≠ 0 ∨ okA s = false) : mu (handleA z N E p s).2 ≤ mu s :=
 Nat.le_trans (mu_must z _ _) (Nat.le_trans (mu_clauses z hE N _ _) (Nat.le_trans (hE _) (Nat.le_trans (mu_must z _ _) (Nat.le_trans (mu_name z _) (Nat.le_trans (mu_must z _ _) (Nat.le_trans (mu_must z _ _)
  (Nat.le_trans (mu_must z _ _) (Nat.le_trans (hE _) (mu_next z s hs)))))))))
theorem mu_any {E : RS → Tr × RS} (hE : Down E) (s : RS) : mu (anyA z N E s).2 ≤ mu s := by
 unfold anyA
 split
 ·rename_i h
  exact Nat.le_trans (mu_let z N hE _ _) (Nat.le_of_lt (mu_is z h))
 ·split
  ·rename_i h
   exact Nat.le_trans (mu_params z hE _ N _ _) (Nat.le_of_lt (mu_is z h))
  ·split
   ·rename_i h
    exact Nat.le_trans (hE _) (Nat.le_trans (mu_must z _ _) (Nat.le_trans (hE _) (Nat.le_trans (mu_must z _ _) (Nat.le_trans (hE _) (Nat.le_of_lt (mu_is z h))))))
   ·split
    ·rename_i h
     exact Nat.le_trans (mu_cases z hE _ _) (Nat.le_of_lt (mu_is z h))
    ·split
     ·rename_i h
      simp only [Bool.or_eq_true] at h; refine mu_handle z N hE _ _ (.inl ?_)
      rcases h with h | h
      ·exact (is_kind' h).1
      ·exact (is_kind' h).1
     ·simp only []
      split
      ·rename_i h
       exact Nat.le_trans (hE _) (Nat.le_trans (Nat.le_of_lt (mu_is z h)) (mu_comp z N hE s))
      ·exact mu_comp z N hE s
theorem mu_expr : ∀ k, Down (exprA z N k) := by
 intro k
 induction k with
 | zero =>
  intro s
  rw [exprA]
  split
  ·exact mu_deep s
  ·exact Nat.le_refl _
 | succ k ih =>
  intro s
  rw [exprA]
  split
  ·exact mu_any z N ih s
  ·exact Nat.le_refl _
end Sy
end Go.Proofs.Ytejciampbnfbhaa

namespace Go.Proofs.Ytejciampbnfbhaa
open Go.RowKit
def ExprOK (N k : Nat) : Prop := ∀ (w : World) (b : Nat) (s : ByteArray) (z : Sy.Env) (S : Sy.RS) (d : Nat), Rd w b s z S (200 - k) d → Sy.mu S < N →
 Calls Try.prog 23 #[.pointer (some ⟨b, 0, none⟩)] w fun en w' => NRes w b s z (Sy.exprA z N k S) (200 - k) d en w'
theorem ok_q (w : World) (b : Nat) (s : ByteArray) (z : Sy.Env) (S : Sy.RS) (e d : Nat) (h : Rd w b s z S e d) :
  Calls Try.prog 11 #[.pointer (some ⟨b, 0, none⟩)] w fun en w' => en = .returned (.bool (Sy.okA S)) ∧ w = w' := (ok_any w b s z S e d h).mono fun _ _ h => ⟨h.1, h.2.symm⟩
theorem isName_q (w : World) (b : Nat) (s : ByteArray) (z : Sy.Env) (S : Sy.RS) (e d : Nat) (h : Rd w b s z S e d) :
  Calls Try.prog 44 #[.pointer (some ⟨b, 0, none⟩)] w fun en w' => en = .returned (.bool (Sy.isNameA S)) ∧ w = w' := (isName_m w b s z S e d h).mono fun _ _ h => ⟨h.1, h.2.symm⟩
theorem is_q (w : World) (b : Nat) (s : ByteArray) (z : Sy.Env) (S : Sy.RS) (e d : Nat) (x : List UInt8) (h : Rd w b s z S e d) :
  Calls Try.prog 16 #[.pointer (some ⟨b, 0, none⟩), .string ⟨x.toArray⟩] w fun en w' => en = .returned (.bool (Sy.isA x S)) ∧ w = w' := (is_m w b s z S e d x h).mono fun _ _ h => ⟨h.1, h.2.symm⟩
theorem params_m (N k : Nat) (hE : ExprOK N k) (x : List UInt8) : ∀ (n : Nat) (w : World) (b : Nat) (s : ByteArray) (z : Sy.Env) (first : Bool) (S : Sy.RS) (d : Nat), Rd w b s z S (200 - k) d → Sy.mu S < N → Sy.mu S < n →
  Calls Try.prog 22 #[.pointer (some ⟨b, 0, none⟩), .string ⟨x.toArray⟩, .bool first] w fun en w' => NRes w b s z (Sy.paramsA z (Sy.exprA z N k) x n first S) (200 - k) d en w' := by
 intro n
 induction n with
 | zero => intro w b s z first S d _ _ h; omega
 | succ n ih =>
  intro w b s z first S d h hm hn
  have IH := hid ih
  have H := hid h
  have HM := hid hm
  have HN := hid hn
  have hlt := h.lt
  clear h hm hn ih
  cases first with
  | true =>
   go_enter Try.func22, Try.ntmps22
   go_wp2_with fail
   obtain ⟨W0, hW0, HI⟩ := in1 H.out 35; rw [hW0]; have HW0 := hid hW0; clear hW0; have hz0 := HI.out.size; refine (name_m _ b s z S (200 - k) d HI.out.rd).mono ?_; rintro en w1 ⟨rfl, hr1, hk1⟩; have HR1 := hid hr1; have HK1 := hid hk1; clear hr1 hk1; have HRS1 := hid (HI.out.one.kp HK1.out (by omega)); have HKA1 := hid (HI.out.kp.trans HK1.out); have ht1 := HK1.out.size; have HMN := hid (Sy.mu_name z S); have HNL := hid (fun h h2 => Sy.mu_name_lt z (s := S) h h2); generalize hq : Sy.nameA z S = q at *; have HQ := hid hq; clear hq
   go_wp2_with fail
   refine (ok_q _ b s z q.2 (200 - k) d HR1.out).mono ?_; rintro en w' ⟨rfl, rfl⟩
   cases hok : Sy.okA q.2 with
   | false =>
    have HX : Hid (Sy.paramsA z (Sy.exprA z N k) x (n + 1) true S = (Sy.zT, q.2)) := by rw [Hid, Sy.paramsA, HQ.out]; simp [hok]
    obtain ⟨⟨u0, u1, u2, u3, u4⟩, u5, u6, u7, u8, u9⟩ := blk5 HRS1.out
    go_wp2_with fail
    refine bodyPost_ret (v := .agg #[.int .i64 0, .int .i64 0, .string ⟨#[]⟩, .int .i64 0, .slice none 0 0]) (by simp [results, Try.results22, go_sem, u0, u1, u2, u3, u4]) rfl ?_; exact nres_fin (lo := W0.heap.size) Sy.zT q.2 .nil HR1.out HKA1.out HX.out (by omega) (by omega) (by omega) _ _ _ _ rfl rfl rfl rfl _ _ _ _ _
   | true =>
    have HX : Hid (Sy.paramsA z (Sy.exprA z N k) x (n + 1) true S = (Sy.nm 7 q.1.2 q.1.1 [(Sy.paramsA z (Sy.exprA z N k) x n false q.2).1], (Sy.paramsA z (Sy.exprA z N k) x n false q.2).2)) := by rw [Hid, Sy.paramsA, HQ.out]; simp [hok]
    have HSO : Hid (Sy.okA S = true) := by
     cases ho : Sy.okA S with
     | true => exact rfl
     | false =>
      have h1 := HQ.out; rw [Sy.name_bad ho] at h1; rw [← h1] at hok; simp only [] at hok; rw [ho] at hok; cases hok
    have HMA : Hid (Sy.mu q.2 < N) := Nat.lt_of_le_of_lt HMN.out HM.out; have HMB : Hid (Sy.mu q.2 < n) := by have h1 := HNL.out hok HSO.out; have h2 := HN.out; simp only [Hid]; omega
    go_wp2_with fail
    refine (IH.out w1 b s z false q.2 d HR1.out HMA.out HMB.out).mono ?_; rintro en w2 ⟨a2, l2, c2, rfl, HKd2, HR2, HK2⟩; generalize hy2 : Sy.paramsA z (Sy.exprA z N k) x n false q.2 = y2 at *; have HY2 := hid hy2; clear hy2; obtain ⟨W2, hW2, HV2, HRd2, HKp2, hs2, ht2⟩ := var_new HKd2.out HR2.out HK2.out 35; have HRS2 := hid (HRS1.out.kp HKp2.out (by omega)); have HKA2 := hid (HKA1.out.trans HKp2.out); obtain ⟨⟨q2_0, q2_1, q2_2, q2_3, q2_4⟩, q2_5, q2_6, q2_7, q2_8, q2_9⟩ := blk5 HV2.out.cells
    go_wp2_with fail
    try rw [hW2]
    clear hW2; refine (named_m _ _ _ _ _ _ _).mono ?_; rintro en w3 ⟨rfl, HB3⟩; have HKN3 := hid (kids_new (F := (fun g => W0.heap.size ≤ g)) [(y2.1, .slice a2 l2 c2)] (by simp) (by show W0.heap.size ≤ _; omega) (by intro p hp; simp only [List.mem_cons, or_false, List.not_mem_nil] at hp; rcases hp with rfl <;> first | exact HV2.out.kids.free (by omega)) _ rfl 1 rfl HB3.out); have HV2x3 := hid (HV2.out.past (Below.trans ((Below.refl _ _).alloc (Nat.le_refl _) _) (HB3.out.mono (by simp)))); have HRS3 := hid (HRS2.out.past (Below.trans ((Below.refl _ _).alloc (Nat.le_refl _) _) (HB3.out.mono (by simp)))); have HKA3 := hid (HKA2.out.below (Below.trans ((Below.refl _ _).alloc (Nat.le_refl _) _) (HB3.out.mono (by simp)))); have HR3 := hid ((HRd2.out.alloc _).below HB3.out ((HRd2.out.alloc _).lt)); obtain ⟨⟨u0, u1, u2, u3, u4⟩, u5, u6, u7, u8, u9⟩ := blk5 HRS3.out
    go_wp2_with fail
    refine bodyPost_ret (v := .agg #[.int .i64 7, .int .i64 q.1.2, .string ⟨q.1.1.toArray⟩, .int .i64 0, .slice (some ⟨W2.heap.size, 0, none⟩) 1 1]) (by simp [results, Try.results22, go_sem, u0, u1, u2, u3, u4]) rfl ?_; exact nres_fin (lo := W0.heap.size) (Sy.nm 7 q.1.2 q.1.1 [y2.1]) y2.2 HKN3.out HR3.out HKA3.out HX.out (by omega) (by omega) (by omega) _ _ _ _ rfl rfl rfl rfl _ _ _ _ _
  | false =>
   cases hn : Sy.isNameA S with
   | true =>
    go_enter Try.func22, Try.ntmps22
    go_wp2_with fail
    obtain ⟨W0, hW0, HI⟩ := in1 H.out 35; rw [hW0]; have HW0 := hid hW0; clear hW0; have hz0 := HI.out.size; refine (isName_q _ b s z S (200 - k) d HI.out.rd).mono ?_; rintro en w' ⟨rfl, rfl⟩
    go_wp2_with fail
    refine (name_m _ b s z S (200 - k) d HI.out.rd).mono ?_; rintro en w1 ⟨rfl, hr1, hk1⟩; have HR1 := hid hr1; have HK1 := hid hk1; clear hr1 hk1; have HRS1 := hid (HI.out.one.kp HK1.out (by omega)); have HKA1 := hid (HI.out.kp.trans HK1.out); have ht1 := HK1.out.size; have HMN := hid (Sy.mu_name z S); have HNL := hid (fun h h2 => Sy.mu_name_lt z (s := S) h h2); generalize hq : Sy.nameA z S = q at *; have HQ := hid hq; clear hq
    go_wp2_with fail
    refine (ok_q _ b s z q.2 (200 - k) d HR1.out).mono ?_; rintro en w' ⟨rfl, rfl⟩
    cases hok : Sy.okA q.2 with
    | false =>
     have HX : Hid (Sy.paramsA z (Sy.exprA z N k) x (n + 1) false S = (Sy.zT, q.2)) := by rw [Hid, Sy.paramsA, HQ.out]; simp [hok, hn]
     obtain ⟨⟨u0, u1, u2, u3, u4⟩, u5, u6, u7, u8, u9⟩ := blk5 HRS1.out
     go_wp2_with fail
     refine bodyPost_ret (v := .agg #[.int .i64 0, .int .i64 0, .string ⟨#[]⟩, .int .i64 0, .slice none 0 0]) (by simp [results, Try.results22, go_sem, u0, u1, u2, u3, u4]) rfl ?_; exact nres_fin (lo := W0.heap.size) Sy.zT q.2 .nil HR1.out HKA1.out HX.out (by omega) (by omega) (by omega) _ _ _ _ rfl rfl rfl rfl _ _ _ _ _
    | true =>
     have HX : Hid (Sy.paramsA z (Sy.exprA z N k) x (n + 1) false S = (Sy.nm 7 q.1.2 q.1.1 [(Sy.paramsA z (Sy.exprA z N k) x n false q.2).1], (Sy.paramsA z (Sy.exprA z N k) x n false q.2).2)) := by rw [Hid, Sy.paramsA, HQ.out]; simp [hok, hn]
     have HSO : Hid (Sy.okA S = true) := by
      cases ho : Sy.okA S with
      | true => exact rfl
      | false =>
       have h1 := HQ.out; rw [Sy.name_bad ho] at h1; rw [← h1] at hok; simp only [] at hok; rw [ho] at hok; cases hok
     have HMA : Hid (Sy.mu q.2 < N) := Nat.lt_of_le_of_lt HMN.out HM.out; have HMB : Hid (Sy.mu q.2 < n) := by have h1 := HNL.out hok HSO.out; have h2 := HN.out; simp only [Hid]; omega
     go_wp2_with fail
     refine (IH.out w1 b s z false q.2 d HR1.out HMA.out HMB.out).mono ?_; rintro en w2 ⟨a2, l2, c2, rfl, HKd2, HR2, HK2⟩; generalize hy2 : Sy.paramsA z (Sy.exprA z N k) x n false q.2 = y2 at *; have HY2 := hid hy2; clear hy2; obtain ⟨W2, hW2, HV2, HRd2, HKp2, hs2, ht2⟩ := var_new HKd2.out HR2.out HK2.out 35; have HRS2 := hid (HRS1.out.kp HKp2.out (by omega)); have HKA2 := hid (HKA1.out.trans HKp2.out); obtain ⟨⟨q2_0, q2_1, q2_2, q2_3, q2_4⟩, q2_5, q2_6, q2_7, q2_8, q2_9⟩ := blk5 HV2.out.cells
     go_wp2_with fail
     try rw [hW2]
     clear hW2; refine (named_m _ _ _ _ _ _ _).mono ?_; rintro en w3 ⟨rfl, HB3⟩; have HKN3 := hid (kids_new (F := (fun g => W0.heap.size ≤ g)) [(y2.1, .slice a2 l2 c2)] (by simp) (by show W0.heap.size ≤ _; omega) (by intro p hp; simp only [List.mem_cons, or_false, List.not_mem_nil] at hp; rcases hp with rfl <;> first | exact HV2.out.kids.free (by omega)) _ rfl 1 rfl HB3.out); have HV2x3 := hid (HV2.out.past (Below.trans ((Below.refl _ _).alloc (Nat.le_refl _) _) (HB3.out.mono (by simp)))); have HRS3 := hid (HRS2.out.past (Below.trans ((Below.refl _ _).alloc (Nat.le_refl _) _) (HB3.out.mono (by simp)))); have HKA3 := hid (HKA2.out.below (Below.trans ((Below.refl _ _).alloc (Nat.le_refl _) _) (HB3.out.mono (by simp)))); have HR3 := hid ((HRd2.out.alloc _).below HB3.out ((HRd2.out.alloc _).lt)); obtain ⟨⟨u0, u1, u2, u3, u4⟩, u5, u6, u7, u8, u9⟩ := blk5 HRS3.out
     go_wp2_with fail
     refine bodyPost_ret (v := .agg #[.int .i64 7, .int .i64 q.1.2, .string ⟨q.1.1.toArray⟩, .int .i64 0, .slice (some ⟨W2.heap.size, 0, none⟩) 1 1]) (by simp [results, Try.results22, go_sem, u0, u1, u2, u3, u4]) rfl ?_; exact nres_fin (lo := W0.heap.size) (Sy.nm 7 q.1.2 q.1.1 [y2.1]) y2.2 HKN3.out HR3.out HKA3.out HX.out (by omega) (by omega) (by omega) _ _ _ _ rfl rfl rfl rfl _ _ _ _ _
   | false =>
    go_enter Try.func22, Try.ntmps22
    go_wp2_with fail
    obtain ⟨W0, hW0, HI⟩ := in1 H.out 35; rw [hW0]; have HW0 := hid hW0; clear hW0; have hz0 := HI.out.size; refine (isName_q _ b s z S (200 - k) d HI.out.rd).mono ?_; rintro en w' ⟨rfl, rfl⟩
    go_wp2_with fail
    have HX : Hid (Sy.paramsA z (Sy.exprA z N k) x (n + 1) false S = ((Sy.exprA z N k (Sy.mustA z x S)).1, (Sy.exprA z N k (Sy.mustA z x S)).2)) := by rw [Hid, Sy.paramsA]; simp [hn]
    have HMA : Hid (Sy.mu (Sy.mustA z x S) < N) := Nat.lt_of_le_of_lt (Sy.mu_must z x S) HM.out; refine (must_m _ b s z S (200 - k) d x HI.out.rd).mono ?_; rintro en w1 ⟨rfl, hr1, hk1⟩; have HR1 := hid hr1; have HK1 := hid hk1; clear hr1 hk1; have HRS1 := hid (HI.out.one.kp HK1.out (by omega)); have HKA1 := hid (HI.out.kp.trans HK1.out); have ht1 := HK1.out.size
    go_wp2_with fail
    refine (hE w1 b s z (Sy.mustA z x S) d HR1.out HMA.out).mono ?_; rintro en w2 ⟨a2, l2, c2, rfl, HKd2, HR2, HK2⟩; generalize hy2 : Sy.exprA z N k (Sy.mustA z x S) = y2 at *; have HY2 := hid hy2; clear hy2; have HRS2 := hid (HRS1.out.kp HK2.out (by omega)); have HKA2 := hid (HKA1.out.trans HK2.out); have ht2 := HK2.out.size; obtain ⟨⟨u0, u1, u2, u3, u4⟩, u5, u6, u7, u8, u9⟩ := blk5 HRS2.out
    go_wp2_with fail
    refine bodyPost_ret (v := .agg #[.int .i64 y2.1.kind, .int .i64 y2.1.pos, .string ⟨y2.1.name.toArray⟩, .int .i64 y2.1.num, .slice a2 l2 c2]) (by simp [results, Try.results22, go_sem, u0, u1, u2, u3, u4]) rfl ?_; exact nres_fin (lo := W0.heap.size) y2.1 y2.2 (HKd2.out.weak (fun g hg _ => Nat.le_trans (by omega) hg)) HR2.out HKA2.out HX.out (by omega) (by omega) (by omega) _ _ _ _ rfl rfl rfl rfl _ _ _ _ _
end Go.Proofs.Ytejciampbnfbhaa

namespace Go.Proofs.Ytejciampbnfbhaa
open Go.RowKit
theorem round_m (N k : Nat) (hE : ExprOK N k) (w : World) (b : Nat) (s : ByteArray) (z : Sy.Env) (p : Nat) (S : Sy.RS) (d : Nat) (h : Rd w b s z S (200 - k) d) (hm : Sy.mu S < N) :
  Calls Try.prog 99 #[.pointer (some ⟨b, 0, none⟩), .int .i64 p] w fun en w' => NRes w b s z (Sy.roundA z (Sy.exprA z N k) p S) (200 - k) d en w' := by
 have H := hid h
 have HM := hid hm
 have hlt := h.lt
 clear h hm
 cases h1 : Sy.isA Sy.s_rp S with
 | true =>
  go_enter Try.func99, Try.ntmps99
  go_wp2_with fail
  obtain ⟨W0, hW0, HI⟩ := in1 H.out 35
  rw [hW0]
  have HW0 := hid hW0
  clear hW0
  have hz0 := HI.out.size
  have HX : Hid (Sy.roundA z (Sy.exprA z N k) p S = (Sy.nd 5 p [], Sy.nextA z S)) := by simp [Hid, Sy.roundA, h1]
  refine (has_yes _ b s z S (200 - k) d Sy.s_rp HI.out.rd h1).mono ?_
  rintro en w1 ⟨rfl, hr1, hk1⟩
  have HR1 := hid hr1
  have HK1 := hid hk1
  clear hr1 hk1
  have HRS1 := hid (HI.out.one.kp HK1.out (by omega))
  have HKA1 := hid (HI.out.kp.trans HK1.out)
  have ht1 := HK1.out.size
  go_wp2_with fail
  refine (node_m _ _ _ _ _ _).mono ?_
  rintro en w2 ⟨rfl, HB2⟩
  have HRS2 := hid (HRS1.out.past HB2.out)
  have HKA2 := hid (HKA1.out.below HB2.out)
  have HR2 := hid (HR1.out.below HB2.out HR1.out.lt)
  have ht2 := HB2.out.size
  obtain ⟨⟨u0, u1, u2, u3, u4⟩, u5, u6, u7, u8, u9⟩ := blk5 HRS2.out
  go_wp2_with fail
  refine bodyPost_ret (v := .agg #[.int .i64 5, .int .i64 p, .string ⟨#[]⟩, .int .i64 0, .slice none 0 0]) (by simp [results, Try.results99, go_sem, u0, u1, u2, u3, u4]) rfl ?_
  exact nres_fin (lo := W0.heap.size) (Sy.nd 5 p []) (Sy.nextA z S) .nil HR2.out HKA2.out HX.out (by omega) (by omega) (by omega) _ _ _ _ rfl rfl rfl rfl _ _ _ _ _
 | false =>
  go_enter Try.func99, Try.ntmps99
  go_wp2_with fail
  obtain ⟨W0, hW0, HI⟩ := in1 H.out 35
  rw [hW0]
  have HW0 := hid hW0
  clear hW0
  have hz0 := HI.out.size
  refine (has_no _ b s z S (200 - k) d Sy.s_rp HI.out.rd h1).mono ?_
  rintro en w' ⟨rfl, rfl⟩
  go_wp2_with fail
  refine (hE W0 b s z S d HI.out.rd HM.out).mono ?_
  rintro en w1 ⟨a1, l1, c1, rfl, HKd1, HR1, HK1⟩
  generalize hy1 : Sy.exprA z N k S = y1 at *
  have HY1 := hid hy1
  clear hy1
  obtain ⟨W1, hW1, HV1, HRd1, HKp1, hs1, ht1⟩ := var_new HKd1.out HR1.out HK1.out 35
  have HRS1 := hid (HI.out.one.kp HKp1.out (by omega))
  have HKA1 := hid (HI.out.kp.trans HKp1.out)
  have HMU := hid (Sy.mu_expr z N k S)
  rw [HY1.out] at HMU
  cases h2 : Sy.isA Sy.s_comma y1.2 with
  | false =>
   have HX : Hid (Sy.roundA z (Sy.exprA z N k) p S = (y1.1, Sy.mustA z Sy.s_rp y1.2)) := by simp [Hid, Sy.roundA, h1, HY1.out, h2]
   go_wp2_with fail
   try rw [hW1]
   clear hW1; refine (has_no _ b s z y1.2 (200 - k) d Sy.s_comma HRd1.out h2).mono ?_; rintro en w' ⟨rfl, rfl⟩
   go_wp2_with fail
   refine (must_m _ b s z y1.2 (200 - k) d Sy.s_rp HRd1.out).mono ?_; rintro en w2 ⟨rfl, hr2, hk2⟩; have HR2 := hid hr2; have HK2 := hid hk2; clear hr2 hk2; have HV1x2 := hid (HV1.out.kp HK2.out (by omega) (by omega)); have HRS2 := hid (HRS1.out.kp HK2.out (by omega)); have HKA2 := hid (HKA1.out.trans HK2.out); have ht2 := HK2.out.size; obtain ⟨⟨q1_0, q1_1, q1_2, q1_3, q1_4⟩, q1_5, q1_6, q1_7, q1_8, q1_9⟩ := blk5 HV1x2.out.cells; obtain ⟨⟨u0, u1, u2, u3, u4⟩, u5, u6, u7, u8, u9⟩ := blk5 HRS2.out
   go_wp2_with fail
   refine bodyPost_ret (v := .agg #[.int .i64 y1.1.kind, .int .i64 y1.1.pos, .string ⟨y1.1.name.toArray⟩, .int .i64 y1.1.num, .slice a1 l1 c1]) (by simp [results, Try.results99, go_sem, u0, u1, u2, u3, u4]) rfl ?_; exact nres_fin (lo := W0.heap.size) y1.1 (Sy.mustA z Sy.s_rp y1.2) (HV1x2.out.kids.free (by omega)) HR2.out HKA2.out HX.out (by omega) (by omega) (by omega) _ _ _ _ rfl rfl rfl rfl _ _ _ _ _
  | true =>
   have HX : Hid (Sy.roundA z (Sy.exprA z N k) p S = (Sy.nd 12 p [y1.1, (Sy.exprA z N k (Sy.nextA z y1.2)).1], Sy.mustA z Sy.s_rp (Sy.exprA z N k (Sy.nextA z y1.2)).2)) := by simp [Hid, Sy.roundA, h1, HY1.out, h2]
   have HMA : Hid (Sy.mu (Sy.nextA z y1.2) < N) := by have h1 := Sy.mu_is z h2; have h3 := HMU.out; have h4 := HM.out; simp only [Hid]; omega
   go_wp2_with fail
   try rw [hW1]
   clear hW1; refine (has_yes _ b s z y1.2 (200 - k) d Sy.s_comma HRd1.out h2).mono ?_; rintro en w2 ⟨rfl, hr2, hk2⟩; have HR2 := hid hr2; have HK2 := hid hk2; clear hr2 hk2; have HV1x2 := hid (HV1.out.kp HK2.out (by omega) (by omega)); have HRS2 := hid (HRS1.out.kp HK2.out (by omega)); have HKA2 := hid (HKA1.out.trans HK2.out); have ht2 := HK2.out.size
   go_wp2_with fail
   refine (hE w2 b s z (Sy.nextA z y1.2) d HR2.out HMA.out).mono ?_; rintro en w3 ⟨a3, l3, c3, rfl, HKd3, HR3, HK3⟩; generalize hy3 : Sy.exprA z N k (Sy.nextA z y1.2) = y3 at *; have HY3 := hid hy3; clear hy3; obtain ⟨W3, hW3, HV3, HRd3, HKp3, hs3, ht3⟩ := var_new HKd3.out HR3.out HK3.out 35; have HV1x3 := hid (HV1x2.out.kp HKp3.out (by omega) (by omega)); have HRS3 := hid (HRS2.out.kp HKp3.out (by omega)); have HKA3 := hid (HKA2.out.trans HKp3.out)
   go_wp2_with fail
   try rw [hW3]
   clear hW3; refine (must_m _ b s z y3.2 (200 - k) d Sy.s_rp HRd3.out).mono ?_; rintro en w4 ⟨rfl, hr4, hk4⟩; have HR4 := hid hr4; have HK4 := hid hk4; clear hr4 hk4; have HV1x4 := hid (HV1x3.out.kp HK4.out (by omega) (by omega)); have HV3x4 := hid (HV3.out.kp HK4.out (by omega) (by omega)); have HRS4 := hid (HRS3.out.kp HK4.out (by omega)); have HKA4 := hid (HKA3.out.trans HK4.out); have ht4 := HK4.out.size; obtain ⟨⟨q1_0, q1_1, q1_2, q1_3, q1_4⟩, q1_5, q1_6, q1_7, q1_8, q1_9⟩ := blk5 HV1x4.out.cells; obtain ⟨⟨q3_0, q3_1, q3_2, q3_3, q3_4⟩, q3_5, q3_6, q3_7, q3_8, q3_9⟩ := blk5 HV3x4.out.cells
   go_wp2_with fail
   refine (node_m _ _ _ _ _ _).mono ?_; rintro en w5 ⟨rfl, HB5⟩; have HKN5 := hid (kids_new (F := (fun g => W0.heap.size ≤ g)) [(y1.1, .slice a1 l1 c1), (y3.1, .slice a3 l3 c3)] (by simp) (by show W0.heap.size ≤ _; omega) (by intro p hp; simp only [List.mem_cons, or_false, List.not_mem_nil] at hp; rcases hp with rfl | rfl <;> first | exact HV1x4.out.kids.free (by omega) | exact HV3x4.out.kids.free (by omega)) _ rfl 2 rfl HB5.out); have HV1x5 := hid (HV1x4.out.past (Below.trans ((Below.refl _ _).alloc (Nat.le_refl _) _) (HB5.out.mono (by simp)))); have HV3x5 := hid (HV3x4.out.past (Below.trans ((Below.refl _ _).alloc (Nat.le_refl _) _) (HB5.out.mono (by simp)))); have HRS5 := hid (HRS4.out.past (Below.trans ((Below.refl _ _).alloc (Nat.le_refl _) _) (HB5.out.mono (by simp)))); have HKA5 := hid (HKA4.out.below (Below.trans ((Below.refl _ _).alloc (Nat.le_refl _) _) (HB5.out.mono (by simp)))); have HR5 := hid ((HR4.out.alloc _).below HB5.out ((HR4.out.alloc _).lt)); obtain ⟨⟨u0, u1, u2, u3, u4⟩, u5, u6, u7, u8, u9⟩ := blk5 HRS5.out
   go_wp2_with fail
   refine bodyPost_ret (v := .agg #[.int .i64 12, .int .i64 p, .string ⟨#[]⟩, .int .i64 0, .slice (some ⟨w4.heap.size, 0, none⟩) 2 2]) (by simp [results, Try.results99, go_sem, u0, u1, u2, u3, u4]) rfl ?_; exact nres_fin (lo := W0.heap.size) (Sy.nd 12 p [y1.1, y3.1]) (Sy.mustA z Sy.s_rp y3.2) HKN5.out HR5.out HKA5.out HX.out (by omega) (by omega) (by omega) _ _ _ _ rfl rfl rfl rfl _ _ _ _ _
end Go.Proofs.Ytejciampbnfbhaa
