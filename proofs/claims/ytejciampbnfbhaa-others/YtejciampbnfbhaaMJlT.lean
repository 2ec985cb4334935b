import Derived.Test.YtejciampbnfbhaaHw
import Derived.Test.YtejciampbnfbhaaMJf
import Derived.Test.YtejciampbnfbhaaMJm
import Derived.Deep.CutBlock
set_option linter.unusedVariables false
set_option linter.unusedSimpArgs false
set_option maxRecDepth 100000
set_option maxHeartbeats 16000000
namespace Go.Proofs.Ytejciampbnfbhaa
open Go.RowKit Ie
def ownC (G : Gg) (b D R : Nat) (k : Nat) : Prop := G.own b k ∨ k = D ∨ k = R
structure CP (w : World) (c b : Nat) (G : Gg) (e : E) (x : En) (mt mr D R : Nat) (s : Mps) : Prop where
 vn : VN w c b G e
 md : MI w D s.1
 mq : MI w R s.2
 st : SM w mt x.tv
 sr : SM w mr x.rv
 ne : D ≠ R
 oD : ¬ G.own b D
 oR : ¬ G.own b R
 ot : ¬ ownC G b D R mt
 oq : ¬ ownC G b D R mr
theorem sv_notmap {w : World} {u : Value} {l : List (List UInt8)} (h : SV w u l) {k : Nat} (hk : ∃ (es : Array MapEntry) (c : Nat), w.heap[k]? = some (Obj.map es c)) : u.ownBlock ≠ some k := fun e => by
 obtain ⟨a, c, rfl, ⟨rfl, _⟩ | ⟨g, q, rfl, _, ⟨cs, fz, hg⟩, _⟩⟩ := h
 ·cases e
 ·have : g = k := Option.some.inj e
  subst this
  obtain ⟨es, c, hk⟩ := hk
  rw [hg] at hk
  cases hk
def CT (w : World) (c b : Nat) (G : Gg) (x : En) (mt mr D R : Nat) (w' : World) (e' : E) (s' : Mps) : Prop := ∃ G', CP w' c b G' e' x mt mr D R s' ∧ Ch (ownC G b D R) w w' ∧ More w (ownC G b D R) (ownC G' b D R)
section
variable {w w' : World} {c b : Nat} {G : Gg} {e e' : E} {x : En} {mt mr D R : Nat} {s : Mps}
theorem CP.quiet (h : CP w c b G e x mt mr D R s) (hc : Ch (fun _ => False) w w') : CP w' c b G e x mt mr D R s :=
 ⟨h.vn.quiet hc, h.md.keep (hc.same _ h.md.lt (fun h => h)), h.mq.keep (hc.same _ h.mq.lt (fun h => h)), h.st.quiet hc, h.sr.quiet hc, h.ne, h.oD, h.oR, h.ot, h.oq⟩
theorem CP.lt (h : CP w c b G e x mt mr D R s) {k : Nat} (hk : ownC G b D R k) : k < w.heap.size := by
 rcases hk with hk | rfl | rfl
 ·obtain ⟨d, _, h2⟩ := h.vn.vm.ge; exact h2.gm.lt hk
 ·exact h.md.lt
 ·exact h.mq.lt
theorem CP.gat (h : CP w c b G e x mt mr D R s) {G' : Gg} (g1 : GE w' b G' e') (h2 : Ch (G.own b) w w') (h3 : More w (G.own b) (G'.own b)) : CP w' c b G' e' x mt mr D R s ∧ Ch (ownC G b D R) w w' ∧ More w (ownC G b D R) (ownC G' b D R) := by
 obtain ⟨cs, fz, h4, h5⟩ := h.vn.vm.c0
 have h1 : VN w' c b G' e' := ⟨⟨g1, cs, fz, (h2.same c h.vn.lt h.vn.nc).trans h4, (h2.cell (p := ⟨c, 0, none⟩) h.vn.lt h.vn.nc).trans h5⟩, h3.not h.vn.nc h.vn.lt⟩
 have hm : More w (ownC G b D R) (ownC G' b D R) := fun k hk => by
  rcases hk with hk | hk
  ·exact (h3 k hk).imp .inl id
  ·exact .inl (.inr hk)
 exact ⟨⟨h1, h.md.keep (h2.same _ h.md.lt h.oD), h.mq.keep (h2.same _ h.mq.lt h.oR), h.st.ch h2 (fun q => h.ot (.inl q)), h.sr.ch h2 (fun q => h.oq (.inl q)), h.ne, h3.not h.oD h.md.lt, h3.not h.oR h.mq.lt, hm.not h.ot h.st.lt, hm.not h.oq h.sr.lt⟩, h2.mono (fun _ h => .inl h), hm⟩
theorem CP.graph (h : CP w c b G e x mt mr D R s) (g : GT w b G w' e') : CT w c b G x mt mr D R w' e' s := by
 obtain ⟨G', h1, h2, h3⟩ := g
 exact ⟨G', h.gat h1 h2 h3⟩
theorem MI.map {w : World} {k : Nat} {l : List (Int × Int)} (h : MI w k l) : ∃ es c, w.heap[k]? = some (.map es c) := by
 obtain ⟨es, c, h1, _⟩ := h
 exact ⟨es, c, h1⟩
theorem CP.done (h : CP w c b G e x mt mr D R s) {l : List (Int × Int)} (hd : MI w' D l) (hc : Ch (fun j => j = D) w w') : CP w' c b G e x mt mr D R (l, s.2) :=
 ⟨⟨h.vn.vm.step (fun k hk => ⟨by subst hk; exact h.oD, by subst hk; exact h.md.map⟩) hc, h.vn.nc⟩, hd, h.mq.keep (hc.same _ h.mq.lt (fun e => h.ne e.symm)), h.st.ch hc (fun e => h.ot (.inr (.inl e))), h.sr.ch hc (fun e => h.oq (.inr (.inl e))), h.ne, h.oD, h.oR, h.ot, h.oq⟩
theorem CP.rows (h : CP w c b G e x mt mr D R s) {l : List (Int × Int)} (hd : MI w' R l) (hc : Ch (fun j => j = R) w w') : CP w' c b G e x mt mr D R (s.1, l) :=
 ⟨⟨h.vn.vm.step (fun k hk => ⟨by subst hk; exact h.oR, by subst hk; exact h.mq.map⟩) hc, h.vn.nc⟩, h.md.keep (hc.same _ h.md.lt h.ne), hd, h.st.ch hc (fun e => h.ot (.inr (.inr e))), h.sr.ch hc (fun e => h.oq (.inr (.inr e))), h.ne, h.oD, h.oR, h.ot, h.oq⟩
end
def CR (w0 : World) (c b : Nat) (G0 : Gg) (x : En) (mt mr D R B : Nat) (w : World) (e : E) (s : Mps) : Prop := ∃ G, CP w c b G e x mt mr D R s ∧ Ch (ownC G0 b D R) w0 w ∧ More w0 (ownC G0 b D R) (ownC G b D R) ∧ w.heap[B]? = some (xnB (x, .map (some mt), .map (some mr)))
theorem CR.next {w0 w w' : World} {c b : Nat} {G0 G : Gg} {x : En} {mt mr D R B : Nat} {e' : E} {s' : Mps} (hc : Ch (ownC G0 b D R) w0 w) (hm : More w0 (ownC G0 b D R) (ownC G b D R)) (hb : w.heap[B]? = some (xnB (x, .map (some mt), .map (some mr)))) (hB : ¬ ownC G0 b D R B) (hl : B < w0.heap.size)
  (ht : CT w c b G x mt mr D R w' e' s') : CR w0 c b G0 x mt mr D R B w' e' s' := by
 obtain ⟨G', h1, h2, h3⟩ := ht
 exact ⟨G', h1, hc.two h2 hm, hm.two h3 hc.size, (h2.same B (Nat.lt_of_lt_of_le hl hc.size) (hm.not hB hl)).trans hb⟩
theorem CT.pre {w w1 w2 : World} {c b : Nat} {G : Gg} {x : En} {mt mr D R : Nat} {e : E} {s : Mps} (hc : Ch (fun _ => False) w w1) (h : CT w1 c b G x mt mr D R w2 e s) : CT w c b G x mt mr D R w2 e s := by
 obtain ⟨G', h1, h2, h3⟩ := h
 exact ⟨G', h1, (hc.mono (fun _ h => h.elim)).trans h2 (fun _ h => .inl h), fun k hk => (h3 k hk).imp id (fun h => Nat.le_trans hc.size h)⟩
def CopiedOK (c b f k : Nat) : Prop := ∀ {w : World} {G : Gg} {e e' : E} {x : En} {n m : Int} {mt mr D R : Nat} {s s' : Mps}, CP w c b G e x mt mr D R s → Ie.copied f k e x n s = some (m, e', s') →
 Calls Try.prog 83 #[.pointer (some ⟨c, 0, none⟩), .int .i64 n, nmV (x, .map (some mt), .map (some mr)), .map (some D), .map (some R)] w fun en w' => en = .returned (.int .i64 m) ∧ CT w c b G x mt mr D R w' e' s'
def cB : Code → Code
 | .seq _ b => b
 | c => c
def cA : Code → Code
 | .seq a _ => a
 | c => c
def cIn : Code → Code
 | .block _ c => c
 | .cond _ _ c => c
 | c => c
def tailC : Option Code → Code
 | some c => cB (cB (cB (cB (cB (cIn (cB (cIn (cB (cIn (cA (cB (cB (cB (cB c))))))))))))))
 | none => .skip
theorem Copied_tail {c b f ni B : Nat} {w1 w3 : World} {G : Gg} {x : En} {mt mr D R : Nat} {p1 q1 : Int} {q r : Int × E × Mps} {mm : Int × E} {y3 y4 : Nd} {K : Act → World → Prop} {Q' : Exit → Act → World → Prop} {C : Code} (hC : tailC Try.f83.body = C) (hcr : CR w1 c b G x mt mr D R B w3 q.2.1 q.2.2) (hBo : Hid (¬ ownC G b D R B)) (hBl : B < w1.heap.size) (hy3 : q.2.1.at (ni : Int) = some y3) (hrr : Hid ((if y3.k = 6 then
    (Ie.whole f q.2.1 y3.r []).bind fun w =>
    (if 0 < w.2 ∧ w.2 ∈ x.rv then (match q.2.2.2.lookup w.2 with
     | some v => some (v, q.2)
     | none => (q.2.1.opn).map fun u => (u.1, u.2, (q.2.2.1, Dg.mput w.2 u.1 q.2.2.2))) else some (w.2, q.2)).bind fun u =>
    (u.2.1.putRow w.1 u.1).map fun r => (r.1, r.2, u.2.2)
    else some (0, q.2)) = some r)) (hy4 : r.2.1.at (ni : Int) = some y4) (hP : r.2.1.put y4.k p1 q1 r.1 = some mm)
  (hQ : ∀ {c : List PanicEntry} {a a' : Act} {w : World}, a'.defers = a.defers → Q' (.panic c) a w → Q' (.panic c) a' w) (f2 f5 f6 f8 f9 f10 f11 f12 f16 f17 f18 f19 f20 f21 f22 f23 f24 f25 f26 f27 f28 f29 f30 f31 f32 f33 f34 f35 f36 f37 f38 f39 f40 f41 f42 f43 f44 f45 f46 f47 f48 f49 f50 f51 f52 f53 f54 f55 f56 f57 f58 f59 f60 f61 f62 f63 f64 f65 f66 f67 f68 f69 f70 f71 f72 f73 f74 f75 f76 f77 f78 f79 f80 f81 f82 f83 f84 f85 f86 f87 f88 f89 f90 f91 f92 f93 f94 f95 f96 f97 f98 f99 f100 f101 f102 f103 f104 f105 f106 f107 f108 f109 f110 f111 f112 f113 f114 f115 f116 f117 f118 f119 f120 f121 f122 f123 f124 f125 f126 f127 f128 f129 f130 f131 f132 f133 f134 f135 f136 f137 f138 f139 f140 f141 f142 f143 f144 f145 f146 f147 f148 f149 f150 f151 f152 f153 f154 f155 f156 f157 f158 f159 f160 f161 f162 f163 f164 f165 f166 f167 f168 f169 f170 f171 f172 f173 f174 f175 f176 f177 f178 f179 f180 f181 f182 f183 f184 f185 f186 f187 f188 f189 f190 f191 f192 f193 f194 f195 f196 f197 f198 f199 f200 f201 f202 f203 f204 : Value) (hKK : ∀ (e15 e16 e17 e18 e19 e20 e21 e22 e23 e24 e25 e26 e27 e28 e29 e30 e31 e32 e33 e34 e35 e36 e37 e38 e39 e40 e41 e42 e43 e44 e45 e46 e47 e48 e49 e50 e51 e52 e53 e54 e55 e56 e57 e58 e59 e60 e61 e62 e63 e64 e65 e66 e67 e68 e69 e70 e71 e72 e73 e74 e75 e76 e77 e78 e79 e80 e81 e82 e83 e84 e85 e86 e87 e88 e89 e90 e91 e92 e93 e94 e95 e96 e97 e98 e99 e100 e101 e102 e103 e104 e105 e106 e107 e108 e109 e110 e111 e112 e113 e114 e115 e116 e117 e118 e119 e120 e121 e122 e123 e124 e125 e126 e127 e128 e129 e130 e131 e132 e133 e134 e135 e136 e137 e138 e139 e140 e141 e142 e143 e144 e145 e146 e147 e148 e149 e150 e151 e152 e153 e154 e155 e156 e157 e158 e159 e160 e161 e162 e163 e164 e165 e166 e167 e168 e169 e170 e171 e172 e173 e174 e175 e176 e177 e178 e179 e180 e181 e182 e183 e184 e185 e186 e187 e188 e189 e190 e191 e192 e193 e194 e195 e196 e197 e198 e199 e200 e201 e202 e203 e204 : Value) (w' : World), CR w1 c b G x mt mr D R B w' mm.2 r.2.2 → K ⟨#[.pointer (some ⟨c, 0, none⟩), .int .i64 ni, f2, .map (some D), .map (some R), f5, f6, .pointer (some ⟨B, 0, none⟩), f8, f9, f10, .int .i64 mm.1, f12, .int .i64 p1, .int .i64 q1, e15, e16, e17, e18, e19, e20, e21, e22, e23, e24, e25, e26, e27, e28, e29, e30, e31, e32, e33, e34, e35, e36, e37, e38, e39, e40, e41, e42, e43, e44, e45, e46, e47, e48, e49, e50, e51, e52, e53, e54, e55, e56, e57, e58, e59, e60, e61, e62, e63, e64, e65, e66, e67, e68, e69, e70, e71, e72, e73, e74, e75, e76, e77, e78, e79, e80, e81, e82, e83, e84, e85, e86, e87, e88, e89, e90, e91, e92, e93, e94, e95, e96, e97, e98, e99, e100, e101, e102, e103, e104, e105, e106, e107, e108, e109, e110, e111, e112, e113, e114, e115, e116, e117, e118, e119, e120, e121, e122, e123, e124, e125, e126, e127, e128, e129, e130, e131, e132, e133, e134, e135, e136, e137, e138, e139, e140, e141, e142, e143, e144, e145, e146, e147, e148, e149, e150, e151, e152, e153, e154, e155, e156, e157, e158, e159, e160, e161, e162, e163, e164, e165, e166, e167, e168, e169, e170, e171, e172, e173, e174, e175, e176, e177, e178, e179, e180, e181, e182, e183, e184, e185, e186, e187, e188, e189, e190, e191, e192, e193, e194, e195, e196, e197, e198, e199, e200, e201, e202, e203, e204], []⟩ w') :
  C.wp Try.prog (Exit.then K Q') ⟨#[.pointer (some ⟨c, 0, none⟩), .int .i64 ni, f2, .map (some D), .map (some R), f5, f6, .pointer (some ⟨B, 0, none⟩), f8, f9, f10, f11, f12, .int .i64 p1, .int .i64 q1, .int .i64 0, f16, f17, f18, f19, f20, f21, f22, f23, f24, f25, f26, f27, f28, f29, f30, f31, f32, f33, f34, f35, f36, f37, f38, f39, f40, f41, f42, f43, f44, f45, f46, f47, f48, f49, f50, f51, f52, f53, f54, f55, f56, f57, f58, f59, f60, f61, f62, f63, f64, f65, f66, f67, f68, f69, f70, f71, f72, f73, f74, f75, f76, f77, f78, f79, f80, f81, f82, f83, f84, f85, f86, f87, f88, f89, f90, f91, f92, f93, f94, f95, f96, f97, f98, f99, f100, f101, f102, f103, f104, f105, f106, f107, f108, f109, f110, f111, f112, f113, f114, f115, f116, f117, f118, f119, f120, f121, f122, f123, f124, f125, f126, f127, f128, f129, f130, f131, f132, f133, f134, f135, f136, f137, f138, f139, f140, f141, f142, f143, f144, f145, f146, f147, f148, f149, f150, f151, f152, f153, f154, f155, f156, f157, f158, f159, f160, f161, f162, f163, f164, f165, f166, f167, f168, f169, f170, f171, f172, f173, f174, f175, f176, f177, f178, f179, f180, f181, f182, f183, f184, f185, f186, f187, f188, f189, f190, f191, f192, f193, f194, f195, f196, f197, f198, f199, f200, f201, f202, f203, f204], []⟩ w3 := by
 subst hC
 have hcut2 := hid hcr
 dsimp only [tailC, cA, cB, cIn, Try.f83]
 obtain ⟨G3, hcp3, hc3, hm3, hb3⟩ := hcut2.out
 replace hcp3 := hid hcp3
 replace hc3 := hid hc3
 replace hm3 := hid hm3
 replace hb3 := hid hb3
 obtain ⟨-, -, -, c0⟩ := hcp3.out.vn.vm.c0
 obtain ⟨q0, q1, q2, q3, q4, q5⟩ := box_cells hb3.out
 obtain ⟨nj, e1, hnj3, ⟨kg, kc, k1, k2⟩, -, -, rg, rc, r1, r2⟩ := hcp3.out.vn.vm.ge.at hy3
 obtain rfl : ni = nj := by omega
 obtain ⟨g0, -, -, g3⟩ := hcp3.out.vn.vm.ge.gcells
 rw [k1] at g0
 rw [r1] at g3
 clear k1 r1 e1
 have hni4 : (ni : Int) < (q.2.1.n : Int) := by omega
 go_upto_if 96 with (fail)
 go_cut [15] from 16 (fun s15 wr => s15 = .int .i64 r.1 ∧ Hid (CR w1 c b G x mt mr D R B wr r.2.1 r.2.2))
 case first =>
  by_cases h6 : y3.k = 6
  ·have hr2 := hrr.out
   rw [if_pos h6] at hr2; obtain ⟨W, hW, hr3⟩ := Option.bind_eq_some_iff.1 hr2; obtain ⟨u, hu, hr4⟩ := Option.bind_eq_some_iff.1 hr3; obtain ⟨z, hz, hre⟩ := Option.map_eq_some_iff.1 hr4; subst hre; clear hr2 hr3 hr4 hrr; rw [h6] at k2; replace hu := hid hu; replace hz := hid hz
   go_upto_region 13 with (fail)
   have hS0 : (fun w' => w'.cell? ⟨c, 0, none⟩ = some (.pointer (some ⟨b, 0, none⟩)) ∧ w'.cell? ⟨b, 3, none⟩ = some (.slice (some ⟨rg, 0, none⟩) q.2.1.n rc) ∧ w'.cell? ⟨rg, ni, none⟩ = some (.int .i64 y3.r)) w3.drew := ⟨cell_keeps (Ch.drew (fun _ => False) w3) c0, cell_keeps (Ch.drew (fun _ => False) w3) g3, cell_keeps (Ch.drew (fun _ => False) w3) r2⟩; refine wp_region_held_drew (S := (fun w' => w'.cell? ⟨c, 0, none⟩ = some (.pointer (some ⟨b, 0, none⟩)) ∧ w'.cell? ⟨b, 3, none⟩ = some (.slice (some ⟨rg, 0, none⟩) q.2.1.n rc) ∧ w'.cell? ⟨rg, ni, none⟩ = some (.int .i64 y3.r))) (by kernel_rfl) (by first | trivial | ((try dsimp only); go_keep)) (fun hHeld => ?_); refine tk 0 rfl ?_ (hQ := by intro _ _ _ h; simp only [Exit.then] at h ⊢; exact hQ (by rfl) h); refine tk 1 rfl ?_ (hQ := by intro _ _ _ h; simp only [Exit.then] at h ⊢; exact hQ (by rfl) h); refine tk 2 rfl ?_ (hQ := by intro _ _ _ h; simp only [Exit.then] at h ⊢; exact hQ (by rfl) h); refine tk 3 rfl ?_ (hQ := by intro _ _ _ h; simp only [Exit.then] at h ⊢; exact hQ (by rfl) h); refine tk 4 rfl ?_ (hQ := by intro _ _ _ h; simp only [Exit.then] at h ⊢; exact hQ (by rfl) h); refine tk 5 rfl ?_ (hQ := by intro _ _ _ h; simp only [Exit.then] at h ⊢; exact hQ (by rfl) h); refine tk 6 rfl ?_ (hQ := by intro _ _ _ h; simp only [Exit.then] at h ⊢; exact hQ (by rfl) h); refine tk 7 rfl ?_ (hQ := by intro _ _ _ h; simp only [Exit.then] at h ⊢; exact hQ (by rfl) h); refine tk 8 rfl ?_ (hQ := by intro _ _ _ h; simp only [Exit.then] at h ⊢; exact hQ (by rfl) h); refine tk 9 rfl ?_ (hQ := by intro _ _ _ h; simp only [Exit.then] at h ⊢; exact hQ (by rfl) h); refine tk 10 rfl ?_ (hQ := by intro _ _ _ h; simp only [Exit.then] at h ⊢; exact hQ (by rfl) h); refine tk 11 rfl ?_ (hQ := by intro _ _ _ h; simp only [Exit.then] at h ⊢; exact hQ (by rfl) h); refine tk 12 rfl ?_ (hQ := by intro _ _ _ h; simp only [Exit.then] at h ⊢; exact hQ (by rfl) h); refine tk 13 rfl ?_ (hQ := by intro _ _ _ h; simp only [Exit.then] at h ⊢; exact hQ (by rfl) h); refine rd1 14 rfl (fun K hK => ?_)
   go_simp
   refine ((hcp3.out.vn.vm.ge.quiet (Ch.refl _ _).dr).Whole hW).mono ?_; rintro e' w4 ⟨u, rfl, hF⟩; have hS5 : (fun w' => w'.cell? ⟨c, 0, none⟩ = some (.pointer (some ⟨b, 0, none⟩)) ∧ w'.cell? ⟨b, 3, none⟩ = some (.slice (some ⟨rg, 0, none⟩) q.2.1.n rc) ∧ w'.cell? ⟨rg, ni, none⟩ = some (.int .i64 y3.r)) w4 := ⟨cell_keeps hF.2.1 hS0.1, cell_keeps hF.2.1 hS0.2.1, cell_keeps hF.2.1 hS0.2.2⟩; obtain ⟨ua, un, uc, rfl⟩ := fresh_slice hF; replace hF := hid hF
   dsimp only
   clear hHeld; refine gn hK (fun hHeld => ?_); clear hK K; refine tk 15 rfl ?_ (hQ := by intro _ _ _ h; simp only [Exit.then] at h ⊢; exact hQ (by rfl) h); refine tk 16 rfl ?_ (hQ := by intro _ _ _ h; simp only [Exit.then] at h ⊢; exact hQ (by rfl) h); refine tk 17 rfl ?_ (hQ := by intro _ _ _ h; simp only [Exit.then] at h ⊢; exact hQ (by rfl) h); refine tk 18 rfl ?_ (hQ := by intro _ _ _ h; simp only [Exit.then] at h ⊢; exact hQ (by rfl) h); refine tk 19 rfl ?_ (hQ := by intro _ _ _ h; simp only [Exit.then] at h ⊢; exact hQ (by rfl) h); refine wpAnyH_done (by kernel_rfl) ?_ _; clear hHeld; have hq4 := hid ((Ch.refl (fun _ => False) w3).dr.trans hF.out.2.1 (fun _ h => h.elim)); have hcr4 := hid (CR.next hc3.out hm3.out hb3.out hBo.out hBl ⟨G3, hcp3.out.quiet hq4.out, hq4.out.mono (fun _ h => h.elim), fun _ h => .inl h⟩); have hcp4 := hid (hcp3.out.quiet hq4.out); have hFs := hid hF.out.sv
   have hfo : Hid (∀ q, (Value.slice ua un uc).ownBlock = some q → ¬ G3.own b q) := hid fun q hq ho => by
    have h1 := hF.out.2.2 q hq; have h3 := hcp3.out.lt (.inl ho); have h4 := (Ch.refl (fun _ => False) w3).dr.size; omega
   have hb4 : Hid (w4.heap[B]? = some (xnB (x, .map (some mt), .map (some mr)))) := hid ((hq4.out.same _ (Nat.lt_of_lt_of_le hBl hc3.out.size) (fun h => h)).trans hb3.out); have hc4 := hid (hc3.out.trans hq4.out (fun _ h => h.elim)); clear c0 q0 q1 q2 q3 q4 q5 g0 g3 k2 r2 hS0 hS5 hF; obtain ⟨-, -, -, c0⟩ := hcp4.out.vn.vm.c0; obtain ⟨q0, q1, q2, q3, q4, q5⟩ := box_cells hb4.out
   by_cases h0 : 0 < W.2
   ·by_cases hrv : W.2 ∈ x.rv
    ·have hu2 := hu.out
     rw [if_pos ⟨h0, hrv⟩] at hu2; have hlk := run_has1 hcp4.out.sr hrv; have hlo := run_lookOk hcp4.out.mq W.2; replace hrv := hid hrv
     cases hlr : q.2.2.2.lookup W.2 with
     | some v0 =>
      rw [hlr] at hu2 hlo; simp only [Option.getD_some, Option.isSome_some] at hlo; obtain rfl := Option.some.inj hu2; replace hlr := hid hlr; clear hu2; have HR := hcp4.out.vn.vm.ge.PutRow hFs.out hfo.out hz.out
      go_wp2_with (go_at_call 35; refine HR.mono ?_; clear HR; rintro en w7 ⟨rfl, g7⟩)
      go_meet
      case rel => exact ⟨rfl, CR.next hc4.out hm3.out hb4.out hBo.out hBl (hcp4.out.graph g7)⟩
     | none =>
      rw [hlr] at hu2 hlo; simp only [Option.getD_none, Option.isSome_none] at hlo; obtain ⟨v0, hv0, hue⟩ := Option.map_eq_some_iff.1 hu2; subst hue; replace hlr := hid hlr; clear hu2; have HO := hcp4.out.vn.vm.ge.Open hv0
      go_upto_region 18 with (go_at_call 50; refine HO.mono ?_; clear HO; rintro en w5 ⟨rfl, g5⟩)
      obtain ⟨G5, ge5, ch5, mo5⟩ := g5; obtain ⟨hcp5, hc5, hm5⟩ := hcp4.out.gat ge5 ch5 mo5; have hFs5 := hFs.out.keep ch5 hfo.out; have hfo5 := hid (apart_more mo5 hFs.out hfo.out); have hb5 : w5.heap[B]? = some (xnB (x, .map (some mt), .map (some mr))) := (hc5.same _ (Nat.lt_of_lt_of_le hBl hc4.out.size) (hm3.out.not hBo.out hBl)).trans hb4.out; obtain ⟨w6, hu6, s6, c6⟩ := run_upd hcp5.mq W.2 v0.1; have hcp6 := hid (hcp5.rows s6 c6); have hFs6 := hid (hFs5.keep c6 (fun k hk e => sv_notmap hFs5 hcp5.mq.map (e ▸ hk))); have hb6 : Hid (w6.heap[B]? = some (xnB (x, .map (some mt), .map (some mr)))) := hid ((c6.same _ (Array.getElem?_eq_some_iff.1 hb5).1 (fun e => (hm5.not (hm3.out.not hBo.out hBl) (Nat.lt_of_lt_of_le hBl hc4.out.size)) (.inr (.inr e)))).trans hb5); have hc6 := hid ((hc4.out.two hc5 hm3.out).trans c6 (fun j e => .inl (.inr (.inr e)))); have hm6 := hid (hm3.out.two hm5 hc4.out.size); clear c0 q0 q1 q2 q3 q4 q5 hlk hlo hcp5 hc5 hm5 hFs5 hb5 s6 c6 ge5 ch5 mo5; obtain ⟨-, -, -, c0⟩ := hcp6.out.vn.vm.c0; have HR := hcp6.out.vn.vm.ge.PutRow hFs6.out hfo5.out hz.out
      go_wp2_with (go_at_call 35; refine HR.mono ?_; clear HR; rintro en w7 ⟨rfl, g7⟩)
      go_meet
      case rel => exact ⟨rfl, CR.next hc6.out hm6.out hb6.out hBo.out hBl (hcp6.out.graph g7)⟩
    ·have hu2 := hu.out
     rw [if_neg (fun q => hrv q.2)] at hu2; obtain rfl := Option.some.inj hu2; have hlk := run_has0 hcp4.out.sr hrv; replace hrv := hid hrv; clear hu2; have HR := hcp4.out.vn.vm.ge.PutRow hFs.out hfo.out hz.out
     go_wp2_with (go_at_call 35; refine HR.mono ?_; clear HR; rintro en w7 ⟨rfl, g7⟩)
     go_meet
     case rel => exact ⟨rfl, CR.next hc4.out hm3.out hb4.out hBo.out hBl (hcp4.out.graph g7)⟩
   ·have hu2 := hu.out
    rw [if_neg (fun q => h0 q.1)] at hu2; obtain rfl := Option.some.inj hu2; clear hu2; have HR := hcp4.out.vn.vm.ge.PutRow hFs.out hfo.out hz.out
    go_wp2_with (go_at_call 35; refine HR.mono ?_; clear HR; rintro en w7 ⟨rfl, g7⟩)
    go_meet
    case rel => exact ⟨rfl, CR.next hc4.out hm3.out hb4.out hBo.out hBl (hcp4.out.graph g7)⟩
  ·have hr2 := hrr.out
   rw [if_neg h6] at hr2; obtain rfl := Option.some.inj hr2; clear hr2
   go_wp2_with fail
   go_meet
   case rel => exact ⟨rfl, hcut2.out⟩
 case rest =>
  obtain ⟨rfl, hcut3⟩ := hcut
  clear c0 q0 q1 q2 q3 q4 q5 g0 g3 k2 r2
  obtain ⟨G4, hcp4, hc4, hm4, hb4⟩ := hcut3.out
  clear hcp3 hc3 hm3 hb3
  replace hcp4 := hid hcp4
  replace hc4 := hid hc4
  replace hm4 := hid hm4
  replace hb4 := hid hb4
  obtain ⟨-, -, -, c0⟩ := hcp4.out.vn.vm.c0
  obtain ⟨nj, e1, hnj4, ⟨kg, kc, k1, k2⟩, -, -, -⟩ := hcp4.out.vn.vm.ge.at hy4
  obtain rfl : ni = nj := by omega
  obtain ⟨g0, -, -, -⟩ := hcp4.out.vn.vm.ge.gcells
  rw [k1] at g0
  clear k1 e1
  have hni5 : (ni : Int) < (r.2.1.n : Int) := by omega
  generalize wc = w4 at *
  have HP := hid (fun q => (hcp4.out.quiet ((Ch.refl (fun _ => False) w4).dn q)).vn.vm.ge.Put hP)
  go_upto_region 21 with (fail)
  refine wp_region_split 17 2 (by kernel_rfl) rfl (by kernel_rfl) (by kernel_rfl) (by kernel_rfl) ?_
  simp only [List.take_succ_cons, List.take_zero]
  repeat (gi_big_quiet_step (fail))
  refine wpQuietIn_nil ?_
  intro _ hw'
  obtain ⟨nq1, hw''⟩ := hw'
  subst hw''
  refine wpAnyIn_ready (rs := [17]) (by kernel_rfl) (by simp) (AllReadyIn.cons rfl (fun K hK => ?_) AllReadyIn.nil)
  go_simp
  refine ⟨by first | trivial | rfl, rfl, callsIn_wide.2 ((HP.out _).mono ?_)⟩
  rintro en w5 ⟨rfl, g5⟩
  dsimp only
  refine hK _ _ ?_
  clear hK K
  refine wpAnyIn_ready (rs := [18]) (by kernel_rfl) (by simp) (AllReadyIn.cons rfl (fun K hK => ?_) AllReadyIn.nil)
  go_simp
  refine hK _ _ ?_
  clear hK K
  refine wpAnyIn_done (by kernel_rfl) ?_ _
  go_wp2_with fail
  exact CR.next hc4.out hm4.out hb4.out hBo.out hBl (CT.pre ((Ch.refl _ _).dn _) ((hcp4.out.quiet ((Ch.refl (fun _ => False) w4).dn _)).graph g5))
theorem Copied_tail2 {c b f ni B : Nat} {w1 w3 : World} {G : Gg} {x : En} {mt mr D R : Nat} {p1 q1 : Int} {q r : Int × E × Mps} {mm : Int × E} {y3 y4 : Nd} {Q' : Exit → Act → World → Prop} {C : Code} (hC : tailC Try.f83.body = C) (hcr : CR w1 c b G x mt mr D R B w3 q.2.1 q.2.2) (hBo : Hid (¬ ownC G b D R B)) (hBl : B < w1.heap.size) (hy3 : q.2.1.at (ni : Int) = some y3) (hrr : Hid ((if y3.k = 6 then
    (Ie.whole f q.2.1 y3.r []).bind fun w =>
    (if 0 < w.2 ∧ w.2 ∈ x.rv then (match q.2.2.2.lookup w.2 with
     | some v => some (v, q.2)
     | none => (q.2.1.opn).map fun u => (u.1, u.2, (q.2.2.1, Dg.mput w.2 u.1 q.2.2.2))) else some (w.2, q.2)).bind fun u =>
    (u.2.1.putRow w.1 u.1).map fun r => (r.1, r.2, u.2.2)
    else some (0, q.2)) = some r)) (hy4 : r.2.1.at (ni : Int) = some y4) (hP : r.2.1.put y4.k p1 q1 r.1 = some mm)
  (hQ : ∀ {c : List PanicEntry} {a a' : Act} {w : World}, a'.defers = a.defers → Q' (.panic c) a w → Q' (.panic c) a' w) (f2 f5 f6 f8 f9 f10 f11 f12 f16 f17 f18 f19 f20 f21 f22 f23 f24 f25 f26 f27 f28 f29 f30 f31 f32 f33 f34 f35 f36 f37 f38 f39 f40 f41 f42 f43 f44 f45 f46 f47 f48 f49 f50 f51 f52 f53 f54 f55 f56 f57 f58 f59 f60 f61 f62 f63 f64 f65 f66 f67 f68 f69 f70 f71 f72 f73 f74 f75 f76 f77 f78 f79 f80 f81 f82 f83 f84 f85 f86 f87 f88 f89 f90 f91 f92 f93 f94 f95 f96 f97 f98 f99 f100 f101 f102 f103 f104 f105 f106 f107 f108 f109 f110 f111 f112 f113 f114 f115 f116 f117 f118 f119 f120 f121 f122 f123 f124 f125 f126 f127 f128 f129 f130 f131 f132 f133 f134 f135 f136 f137 f138 f139 f140 f141 f142 f143 f144 f145 f146 f147 f148 f149 f150 f151 f152 f153 f154 f155 f156 f157 f158 f159 f160 f161 f162 f163 f164 f165 f166 f167 f168 f169 f170 f171 f172 f173 f174 f175 f176 f177 f178 f179 f180 f181 f182 f183 f184 f185 f186 f187 f188 f189 f190 f191 f192 f193 f194 f195 f196 f197 f198 f199 f200 f201 f202 f203 f204 : Value) (hKK : ∀ (e15 e16 e17 e18 e19 e20 e21 e22 e23 e24 e25 e26 e27 e28 e29 e30 e31 e32 e33 e34 e35 e36 e37 e38 e39 e40 e41 e42 e43 e44 e45 e46 e47 e48 e49 e50 e51 e52 e53 e54 e55 e56 e57 e58 e59 e60 e61 e62 e63 e64 e65 e66 e67 e68 e69 e70 e71 e72 e73 e74 e75 e76 e77 e78 e79 e80 e81 e82 e83 e84 e85 e86 e87 e88 e89 e90 e91 e92 e93 e94 e95 e96 e97 e98 e99 e100 e101 e102 e103 e104 e105 e106 e107 e108 e109 e110 e111 e112 e113 e114 e115 e116 e117 e118 e119 e120 e121 e122 e123 e124 e125 e126 e127 e128 e129 e130 e131 e132 e133 e134 e135 e136 e137 e138 e139 e140 e141 e142 e143 e144 e145 e146 e147 e148 e149 e150 e151 e152 e153 e154 e155 e156 e157 e158 e159 e160 e161 e162 e163 e164 e165 e166 e167 e168 e169 e170 e171 e172 e173 e174 e175 e176 e177 e178 e179 e180 e181 e182 e183 e184 e185 e186 e187 e188 e189 e190 e191 e192 e193 e194 e195 e196 e197 e198 e199 e200 e201 e202 e203 e204 : Value) (w' : World), CR w1 c b G x mt mr D R B w' mm.2 r.2.2 → Q' .normal ⟨#[.pointer (some ⟨c, 0, none⟩), .int .i64 ni, f2, .map (some D), .map (some R), f5, f6, .pointer (some ⟨B, 0, none⟩), f8, f9, f10, .int .i64 mm.1, f12, .int .i64 p1, .int .i64 q1, e15, e16, e17, e18, e19, e20, e21, e22, e23, e24, e25, e26, e27, e28, e29, e30, e31, e32, e33, e34, e35, e36, e37, e38, e39, e40, e41, e42, e43, e44, e45, e46, e47, e48, e49, e50, e51, e52, e53, e54, e55, e56, e57, e58, e59, e60, e61, e62, e63, e64, e65, e66, e67, e68, e69, e70, e71, e72, e73, e74, e75, e76, e77, e78, e79, e80, e81, e82, e83, e84, e85, e86, e87, e88, e89, e90, e91, e92, e93, e94, e95, e96, e97, e98, e99, e100, e101, e102, e103, e104, e105, e106, e107, e108, e109, e110, e111, e112, e113, e114, e115, e116, e117, e118, e119, e120, e121, e122, e123, e124, e125, e126, e127, e128, e129, e130, e131, e132, e133, e134, e135, e136, e137, e138, e139, e140, e141, e142, e143, e144, e145, e146, e147, e148, e149, e150, e151, e152, e153, e154, e155, e156, e157, e158, e159, e160, e161, e162, e163, e164, e165, e166, e167, e168, e169, e170, e171, e172, e173, e174, e175, e176, e177, e178, e179, e180, e181, e182, e183, e184, e185, e186, e187, e188, e189, e190, e191, e192, e193, e194, e195, e196, e197, e198, e199, e200, e201, e202, e203, e204], []⟩ w') :
  C.wp Try.prog Q' ⟨#[.pointer (some ⟨c, 0, none⟩), .int .i64 ni, f2, .map (some D), .map (some R), f5, f6, .pointer (some ⟨B, 0, none⟩), f8, f9, f10, f11, f12, .int .i64 p1, .int .i64 q1, .int .i64 0, f16, f17, f18, f19, f20, f21, f22, f23, f24, f25, f26, f27, f28, f29, f30, f31, f32, f33, f34, f35, f36, f37, f38, f39, f40, f41, f42, f43, f44, f45, f46, f47, f48, f49, f50, f51, f52, f53, f54, f55, f56, f57, f58, f59, f60, f61, f62, f63, f64, f65, f66, f67, f68, f69, f70, f71, f72, f73, f74, f75, f76, f77, f78, f79, f80, f81, f82, f83, f84, f85, f86, f87, f88, f89, f90, f91, f92, f93, f94, f95, f96, f97, f98, f99, f100, f101, f102, f103, f104, f105, f106, f107, f108, f109, f110, f111, f112, f113, f114, f115, f116, f117, f118, f119, f120, f121, f122, f123, f124, f125, f126, f127, f128, f129, f130, f131, f132, f133, f134, f135, f136, f137, f138, f139, f140, f141, f142, f143, f144, f145, f146, f147, f148, f149, f150, f151, f152, f153, f154, f155, f156, f157, f158, f159, f160, f161, f162, f163, f164, f165, f166, f167, f168, f169, f170, f171, f172, f173, f174, f175, f176, f177, f178, f179, f180, f181, f182, f183, f184, f185, f186, f187, f188, f189, f190, f191, f192, f193, f194, f195, f196, f197, f198, f199, f200, f201, f202, f203, f204], []⟩ w3 :=
 wp_mono (Copied_tail (K := Q' .normal) (Q' := Q') hC hcr hBo hBl hy3 hrr hy4 hP hQ f2 f5 f6 f8 f9 f10 f11 f12 f16 f17 f18 f19 f20 f21 f22 f23 f24 f25 f26 f27 f28 f29 f30 f31 f32 f33 f34 f35 f36 f37 f38 f39 f40 f41 f42 f43 f44 f45 f46 f47 f48 f49 f50 f51 f52 f53 f54 f55 f56 f57 f58 f59 f60 f61 f62 f63 f64 f65 f66 f67 f68 f69 f70 f71 f72 f73 f74 f75 f76 f77 f78 f79 f80 f81 f82 f83 f84 f85 f86 f87 f88 f89 f90 f91 f92 f93 f94 f95 f96 f97 f98 f99 f100 f101 f102 f103 f104 f105 f106 f107 f108 f109 f110 f111 f112 f113 f114 f115 f116 f117 f118 f119 f120 f121 f122 f123 f124 f125 f126 f127 f128 f129 f130 f131 f132 f133 f134 f135 f136 f137 f138 f139 f140 f141 f142 f143 f144 f145 f146 f147 f148 f149 f150 f151 f152 f153 f154 f155 f156 f157 f158 f159 f160 f161 f162 f163 f164 f165 f166 f167 f168 f169 f170 f171 f172 f173 f174 f175 f176 f177 f178 f179 f180 f181 f182 f183 f184 f185 f186 f187 f188 f189 f190 f191 f192 f193 f194 f195 f196 f197 f198 f199 f200 f201 f202 f203 f204 hKK) (by intro e a w h; cases e <;> exact h)
end Go.Proofs.Ytejciampbnfbhaa

namespace Go.Proofs.Ytejciampbnfbhaa
open Go.RowKit Ie
theorem Copied_found {c b f : Nat} {w : World} {G : Gg} {e : E} {x : En} {n n' m : Int} {mt mr D R : Nat} {s : Mps} (h : CP w c b G e x mt mr D R s) (fn : Ie.find f e n = some n') (hl : s.1.lookup n' = some m) :
  Calls Try.prog 83 #[.pointer (some ⟨c, 0, none⟩), .int .i64 n, nmV (x, .map (some mt), .map (some mr)), .map (some D), .map (some R)] w fun en w' => en = .returned (.int .i64 m) ∧ CT w c b G x mt mr D R w' e s := by
 have hq1 := hid (al_ch w (xnB (x, .map (some mt), .map (some mr))))
 have h1 := hid (h.quiet hq1.out)
 have H1 := h1.out.vn.vm.ge.Find fn
 clear fn
 obtain ⟨-, -, -, c0⟩ := h1.out.vn.vm.c0
 have hlk := run_lookOk h1.out.md n'
 rw [hl] at hlk
 simp only [Option.getD_some, Option.isSome_some] at hlk
 replace hl := hid hl
 replace h := hid h
 go_enter Try.func83, Try.ntmps83
 go_wp2_with (go_at_call 57; refine H1.mono ?_; clear H1; rintro en w1 ⟨rfl, hw1⟩; obtain rfl := hw1.symm)
 go_ret
 exact ⟨rfl, G, h1.out, hq1.out.mono (fun _ h => h.elim), fun _ h => .inl h⟩
theorem Copied_var {k : Nat} {c b f : Nat} {w : World} {G : Gg} {e e' : E} {x : En} {n n' m : Int} {mt mr D R : Nat} {s s' : Mps} (h : CP w c b G e x mt mr D R s) (fn : Ie.find f e n = some n') (hl : s.1.lookup n' = none) {y : Nd} (hy : e.at n' = some y) (hk : y.k = 0) (hr2 : (if y.k = 0 then (if n' ∈ x.tv then (e.var).map fun p => (p.1, p.2, (Dg.mput n' p.1 s.1, s.2)) else some (n', e, (Dg.mput n' n' s.1, s.2))) else
   (bif isNat y.a then Ie.copied f k e x y.a s else some (-1, e, s)).bind fun p => (p.2.1.at n').bind fun y =>
   (bif isNat y.b then Ie.copied f k p.2.1 x y.b p.2.2 else some (-1, p.2)).bind fun q => (q.2.1.at n').bind fun y =>
   (if y.k = 6 then
    (Ie.whole f q.2.1 y.r []).bind fun w =>
    (if 0 < w.2 ∧ w.2 ∈ x.rv then (match q.2.2.2.lookup w.2 with
     | some v => some (v, q.2)
     | none => (q.2.1.opn).map fun u => (u.1, u.2, (q.2.2.1, Dg.mput w.2 u.1 q.2.2.2))) else some (w.2, q.2)).bind fun u =>
    (u.2.1.putRow w.1 u.1).map fun r => (r.1, r.2, u.2.2)
    else some (0, q.2)).bind fun r => (r.2.1.at n').bind fun y =>
   (r.2.1.put y.k p.1 q.1 r.1).map fun m => (m.1, m.2, (Dg.mput n' m.1 r.2.2.1, r.2.2.2))) = some (m, e', s')) :
  Calls Try.prog 83 #[.pointer (some ⟨c, 0, none⟩), .int .i64 n, nmV (x, .map (some mt), .map (some mr)), .map (some D), .map (some R)] w fun en w' => en = .returned (.int .i64 m) ∧ CT w c b G x mt mr D R w' e' s' := by
 have hq1 := hid (al_ch w (xnB (x, .map (some mt), .map (some mr))))
 have h1 := hid (h.quiet hq1.out)
 have H1 := h1.out.vn.vm.ge.Find fn
 clear fn
 obtain ⟨-, -, -, c0⟩ := h1.out.vn.vm.c0
 have hlk := run_lookOk h1.out.md n'
 rw [hl] at hlk
 have hb1 := hid (World.alloc_heap_new w (xnB (x, .map (some mt), .map (some mr))))
 have hBo : Hid (¬ ownC G b D R w.heap.size) := hid fun q => by have := h.lt q; omega
 have hBl : w.heap.size < (w.alloc (xnB (x, .map (some mt), .map (some mr)))).heap.size := by simp
 obtain ⟨q0, q1, q2, q3, q4, q5⟩ := box_cells hb1.out
 simp only [Option.getD_none, Option.isSome_none] at hlk
 replace hl := hid hl
 replace h := hid h
 obtain ⟨ni, rfl, hni, ⟨kg, kc, k1, k2⟩, ⟨ag, ac, a1, a2⟩, -, -⟩ := h1.out.vn.vm.ge.at hy
 obtain ⟨g0, g1, -, -⟩ := h1.out.vn.vm.ge.gcells
 rw [k1] at g0
 rw [a1] at g1
 clear k1 a1
 have hni2 : (ni : Int) < (e.n : Int) := by omega
 go_enter Try.func83, Try.ntmps83
 go_upto_block 0 with (go_at_call 57; refine H1.mono ?_; clear H1; rintro en w1 ⟨rfl, hw1⟩; obtain rfl := hw1.symm)
 clear hlk
 generalize w.alloc (xnB (x, .map (some mt), .map (some mr))) = w1 at *
 have hcr1 : Hid (CR w1 c b G x mt mr D R w.heap.size w1 e s) := hid ⟨G, h1.out, Ch.refl _ _, fun _ h => .inl h, hb1.out⟩
 go_cut [11] from 12 (fun s11 wr => s11 = .int .i64 m ∧ ∃ s2, Hid (s' = (Dg.mput (ni : Int) m s2.1, s2.2) ∧ CR w1 c b G x mt mr D R w.heap.size wr e' s2))
 case rest =>
  obtain ⟨rfl, s2, hcut⟩ := hcut
  obtain ⟨G2, hcp, hc2, hm2, -⟩ := hcut.out.2
  obtain ⟨w7, hu, sd, cd⟩ := run_upd hcp.md (ni : Int) m
  have hF := hid (hcp.done sd cd)
  have hC := hid (hc2.trans cd (O1 := fun j => j = D) (fun j e => .inl (.inr (.inl e))))
  replace hm2 := hid hm2
  clear sd cd hcp hc2
  go_wp2_with fail
  go_ret
  rw [hcut.out.1]
  exact ⟨rfl, CT.pre hq1.out ⟨G2, hF.out, hC.out, hm2.out⟩⟩
 case first =>
  rw [if_pos hk] at hr2
  rw [hk] at k2
  by_cases hn : (ni : Int) ∈ x.tv
  ·rw [if_pos hn] at hr2
   obtain ⟨p, hp, he⟩ := Option.map_eq_some_iff.1 hr2; obtain ⟨e1, e2⟩ := Prod.mk.inj he; obtain ⟨e2, e3⟩ := Prod.mk.inj e2; subst e1 e2; have hs' := hid e3.symm; clear he e3 hr2; have hlk := run_has1 h1.out.st hn; replace hn := hid hn; have HV := h1.out.vn.vm.ge.Var hp
   go_wp2_with (go_at_call 51; refine HV.mono ?_; clear HV; rintro en w2 ⟨rfl, g2⟩)
   go_meet
   case rel => exact ⟨rfl, s, hs'.out, CR.next (Ch.refl _ _) (fun _ h => .inl h) hb1.out hBo.out hBl (h1.out.graph g2)⟩
  ·rw [if_neg hn] at hr2
   obtain ⟨e1, e2⟩ := Prod.mk.inj (Option.some.inj hr2); obtain ⟨e2, e3⟩ := Prod.mk.inj e2; subst e1 e2; have hs' := hid e3.symm; clear e3 hr2; have hlk := run_has0 h1.out.st hn; replace hn := hid hn
   go_wp2_with fail
   go_meet
   case rel => exact ⟨rfl, s, hs'.out, hcr1.out⟩
theorem Copied_node {c b f k : Nat} (ih : CopiedOK c b f k) {w : World} {G : Gg} {e e' : E} {x : En} {n n' m : Int} {mt mr D R : Nat} {s s' : Mps} (h : CP w c b G e x mt mr D R s) (fn : Ie.find f e n = some n') (hl : s.1.lookup n' = none) {y : Nd} (hy : e.at n' = some y) (hk : ¬ y.k = 0) (hr2 : (if y.k = 0 then (if n' ∈ x.tv then (e.var).map fun p => (p.1, p.2, (Dg.mput n' p.1 s.1, s.2)) else some (n', e, (Dg.mput n' n' s.1, s.2))) else
   (bif isNat y.a then Ie.copied f k e x y.a s else some (-1, e, s)).bind fun p => (p.2.1.at n').bind fun y =>
   (bif isNat y.b then Ie.copied f k p.2.1 x y.b p.2.2 else some (-1, p.2)).bind fun q => (q.2.1.at n').bind fun y =>
   (if y.k = 6 then
    (Ie.whole f q.2.1 y.r []).bind fun w =>
    (if 0 < w.2 ∧ w.2 ∈ x.rv then (match q.2.2.2.lookup w.2 with
     | some v => some (v, q.2)
     | none => (q.2.1.opn).map fun u => (u.1, u.2, (q.2.2.1, Dg.mput w.2 u.1 q.2.2.2))) else some (w.2, q.2)).bind fun u =>
    (u.2.1.putRow w.1 u.1).map fun r => (r.1, r.2, u.2.2)
    else some (0, q.2)).bind fun r => (r.2.1.at n').bind fun y =>
   (r.2.1.put y.k p.1 q.1 r.1).map fun m => (m.1, m.2, (Dg.mput n' m.1 r.2.2.1, r.2.2.2))) = some (m, e', s')) :
  Calls Try.prog 83 #[.pointer (some ⟨c, 0, none⟩), .int .i64 n, nmV (x, .map (some mt), .map (some mr)), .map (some D), .map (some R)] w fun en w' => en = .returned (.int .i64 m) ∧ CT w c b G x mt mr D R w' e' s' := by
 have hq1 := hid (al_ch w (xnB (x, .map (some mt), .map (some mr))))
 have h1 := hid (h.quiet hq1.out)
 have H1 := h1.out.vn.vm.ge.Find fn
 clear fn
 obtain ⟨-, -, -, c0⟩ := h1.out.vn.vm.c0
 have hlk := run_lookOk h1.out.md n'
 rw [hl] at hlk
 have hb1 := hid (World.alloc_heap_new w (xnB (x, .map (some mt), .map (some mr))))
 have hBo : Hid (¬ ownC G b D R w.heap.size) := hid fun q => by have := h.lt q; omega
 have hBl : w.heap.size < (w.alloc (xnB (x, .map (some mt), .map (some mr)))).heap.size := by simp
 obtain ⟨q0, q1, q2, q3, q4, q5⟩ := box_cells hb1.out
 simp only [Option.getD_none, Option.isSome_none] at hlk
 replace hl := hid hl
 replace h := hid h
 replace ih := @hid _ @ih
 obtain ⟨ni, rfl, hni, ⟨kg, kc, k1, k2⟩, ⟨ag, ac, a1, a2⟩, -, -⟩ := h1.out.vn.vm.ge.at hy
 obtain ⟨g0, g1, -, -⟩ := h1.out.vn.vm.ge.gcells
 rw [k1] at g0
 rw [a1] at g1
 clear k1 a1
 have hni2 : (ni : Int) < (e.n : Int) := by omega
 go_enter Try.func83, Try.ntmps83
 go_upto_block 0 with (go_at_call 57; refine H1.mono ?_; clear H1; rintro en w1 ⟨rfl, hw1⟩; obtain rfl := hw1.symm)
 clear hlk
 generalize w.alloc (xnB (x, .map (some mt), .map (some mr))) = w1 at *
 have hcr1 : Hid (CR w1 c b G x mt mr D R w.heap.size w1 e s) := hid ⟨G, h1.out, Ch.refl _ _, fun _ h => .inl h, hb1.out⟩
 go_cut [11] from 12 (fun s11 wr => s11 = .int .i64 m ∧ ∃ s2, Hid (s' = (Dg.mput (ni : Int) m s2.1, s2.2) ∧ CR w1 c b G x mt mr D R w.heap.size wr e' s2))
 case rest =>
  obtain ⟨rfl, s2, hcut⟩ := hcut
  obtain ⟨G2, hcp, hc2, hm2, -⟩ := hcut.out.2
  obtain ⟨w7, hu, sd, cd⟩ := run_upd hcp.md (ni : Int) m
  have hF := hid (hcp.done sd cd)
  have hC := hid (hc2.trans cd (O1 := fun j => j = D) (fun j e => .inl (.inr (.inl e))))
  replace hm2 := hid hm2
  clear sd cd hcp hc2
  go_wp2_with fail
  go_ret
  rw [hcut.out.1]
  exact ⟨rfl, CT.pre hq1.out ⟨G2, hF.out, hC.out, hm2.out⟩⟩
 case first =>
  rw [if_neg hk] at hr2
  obtain ⟨p, hp, hr3⟩ := Option.bind_eq_some_iff.1 hr2
  obtain ⟨y2, hy2, hr4⟩ := Option.bind_eq_some_iff.1 hr3
  obtain ⟨q, hq, hr5⟩ := Option.bind_eq_some_iff.1 hr4
  obtain ⟨y3, hy3, hr6⟩ := Option.bind_eq_some_iff.1 hr5
  obtain ⟨r, hrr, hr7⟩ := Option.bind_eq_some_iff.1 hr6
  obtain ⟨y4, hy4, hr8⟩ := Option.bind_eq_some_iff.1 hr7
  obtain ⟨mm, hP, he⟩ := Option.map_eq_some_iff.1 hr8
  clear hr2 hr3 hr4 hr5 hr6 hr7 hr8
  obtain ⟨e1, e2⟩ := Prod.mk.inj he
  obtain ⟨e2, e3⟩ := Prod.mk.inj e2
  subst e1 e2
  have hs' := hid e3.symm
  clear he e3
  rw [cond_nat] at hp hq
  replace hp := hid hp
  replace hq := hid hq
  replace hrr := hid hrr
  go_upto_if 44 with (fail)
  go_cut [13] from 20 (fun s13 wr => s13 = .int .i64 p.1 ∧ Hid (CR w1 c b G x mt mr D R w.heap.size wr p.2.1 p.2.2))
  case first =>
   by_cases ha : 0 ≤ y.a
   ·have hp2 := hp.out
    rw [if_pos ha] at hp2; have HC := hid (fun q => ih.out (h1.out.quiet ((Ch.refl (fun _ => False) w1).dn q)) hp2); clear hp2
    go_upto_region 9 with (fail)
    refine wp_region_split 14 2 (by kernel_rfl) rfl (by kernel_rfl) (by kernel_rfl) (by kernel_rfl) ?_; simp only [List.take_succ_cons, List.take_zero]
    repeat (gi_big_quiet_step (fail))
    refine wpQuietIn_nil ?_; intro _ hw'; obtain ⟨nq1, hw''⟩ := hw'; subst hw''; refine wpAnyIn_ready (rs := [14]) (by kernel_rfl) (by simp) (AllReadyIn.cons rfl (fun K hK => ?_) AllReadyIn.nil)
    go_simp
    refine ⟨by first | trivial | rfl, rfl, callsIn_wide.2 ((HC.out _).mono ?_)⟩; rintro en w5 ⟨rfl, hct⟩
    dsimp only
    refine hK _ _ ?_; clear hK K; refine wpAnyIn_ready (rs := [15]) (by kernel_rfl) (by simp) (AllReadyIn.cons rfl (fun K hK => ?_) AllReadyIn.nil)
    go_simp
    refine hK _ _ ?_; clear hK K; refine wpAnyIn_done (by kernel_rfl) ?_ _
    go_wp2_with fail
    go_meet
    case rel => exact ⟨rfl, CR.next (Ch.refl _ _) (fun _ h => .inl h) hb1.out hBo.out hBl (CT.pre ((Ch.refl _ _).dn _) hct)⟩
   ·have hp2 := hp.out
    rw [if_neg ha] at hp2; obtain rfl := Option.some.inj hp2; clear hp2
    go_wp2_with fail
    go_meet
    case rel => exact ⟨rfl, hcr1.out⟩
  case rest =>
   obtain ⟨rfl, hcut⟩ := hcut; clear c0 q0 q1 q2 q3 q4 q5 g0 g1 k2 a2; obtain ⟨G2, hcp, hc2, hm2, hb2⟩ := hcut.out; replace hcp := hid hcp; replace hc2 := hid hc2; replace hm2 := hid hm2; replace hb2 := hid hb2; obtain ⟨-, -, -, c0⟩ := hcp.out.vn.vm.c0; obtain ⟨q0, q1, q2, q3, q4, q5⟩ := box_cells hb2.out; obtain ⟨nj, e1, hnj, -, -, ⟨bg, bc, b1, b2⟩, -⟩ := hcp.out.vn.vm.ge.at hy2; obtain rfl : ni = nj := by omega
   obtain ⟨-, -, g2, -⟩ := hcp.out.vn.vm.ge.gcells; rw [b1] at g2; clear b1 e1; have hni3 : (ni : Int) < (p.2.1.n : Int) := by omega
   generalize wc = w2 at *
   go_upto_if 70 with (fail)
   go_cut [14] from 20 (fun s14 wr => s14 = .int .i64 q.1 ∧ Hid (CR w1 c b G x mt mr D R w.heap.size wr q.2.1 q.2.2))
   case first =>
    by_cases ha : 0 ≤ y2.b
    ·have hp2 := hq.out
     rw [if_pos ha] at hp2; have HC := hid (fun q => ih.out (hcp.out.quiet ((Ch.refl (fun _ => False) w2).dn q)) hp2); clear hp2
     go_upto_region 11 with (fail)
     refine wp_region_split 14 2 (by kernel_rfl) rfl (by kernel_rfl) (by kernel_rfl) (by kernel_rfl) ?_; simp only [List.take_succ_cons, List.take_zero]
     repeat (gi_big_quiet_step (fail))
     refine wpQuietIn_nil ?_; intro _ hw'; obtain ⟨nq1, hw''⟩ := hw'; subst hw''; refine wpAnyIn_ready (rs := [14]) (by kernel_rfl) (by simp) (AllReadyIn.cons rfl (fun K hK => ?_) AllReadyIn.nil)
     go_simp
     refine ⟨by first | trivial | rfl, rfl, callsIn_wide.2 ((HC.out _).mono ?_)⟩; rintro en w5 ⟨rfl, hct⟩
     dsimp only
     refine hK _ _ ?_; clear hK K; refine wpAnyIn_ready (rs := [15]) (by kernel_rfl) (by simp) (AllReadyIn.cons rfl (fun K hK => ?_) AllReadyIn.nil)
     go_simp
     refine hK _ _ ?_; clear hK K; refine wpAnyIn_done (by kernel_rfl) ?_ _
     go_wp2_with fail
     go_meet
     case rel => exact ⟨rfl, CR.next hc2.out hm2.out hb2.out hBo.out hBl (CT.pre ((Ch.refl _ _).dn _) hct)⟩
    ·have hp2 := hq.out
     rw [if_neg ha] at hp2; obtain rfl := Option.some.inj hp2; clear hp2
     go_wp2_with fail
     go_meet
     case rel => exact ⟨rfl, hcut.out⟩
   case rest =>
    replace hcut := hid hcut; obtain ⟨rfl, hcut2⟩ := hcut.out
    apply_assumption
    refine Copied_tail2 (by kernel_rfl) hcut2.out hBo hBl hy3 hrr hy4 hP ?_ _ _ _ _ _ _ _ _ _ _ _ _ _ _ _ _ _ _ _ _ _ _ _ _ _ _ _ _ _ _ _ _ _ _ _ _ _ _ _ _ _ _ _ _ _ _ _ _ _ _ _ _ _ _ _ _ _ _ _ _ _ _ _ _ _ _ _ _ _ _ _ _ _ _ _ _ _ _ _ _ _ _ _ _ _ _ _ _ _ _ _ _ _ _ _ _ _ _ _ _ _ _ _ _ _ _ _ _ _ _ _ _ _ _ _ _ _ _ _ _ _ _ _ _ _ _ _ _ _ _ _ _ _ _ _ _ _ _ _ _ _ _ _ _ _ _ _ _ _ _ _ _ _ _ _ _ _ _ _ _ _ _ _ _ _ _ _ _ _ _ _ _ _ _ _ _ _ _ _ _ _ _ _ _ _ _ _ _ _ _ _ _ _ _ _ _ _ ?_
    ·intro _ _ _ _ hd h
     simp only [Exit.inBlock, Exit.then] at h ⊢; obtain ⟨h1, h2⟩ := h; exact And.intro (hd.trans h1) h2
    ·intro _ _ _ _ _ _ _ _ _ _ _ _ _ _ _ _ _ _ _ _ _ _ _ _ _ _ _ _ _ _ _ _ _ _ _ _ _ _ _ _ _ _ _ _ _ _ _ _ _ _ _ _ _ _ _ _ _ _ _ _ _ _ _ _ _ _ _ _ _ _ _ _ _ _ _ _ _ _ _ _ _ _ _ _ _ _ _ _ _ _ _ _ _ _ _ _ _ _ _ _ _ _ _ _ _ _ _ _ _ _ _ _ _ _ _ _ _ _ _ _ _ _ _ _ _ _ _ _ _ _ _ _ _ _ _ _ _ _ _ _ _ _ _ _ _ _ _ _ _ _ _ _ _ _ _ _ _ _ _ _ _ _ _ _ _ _ _ _ _ _ _ _ _ _ _ _ _ _ _ _ _ _ _ _ _ _ _ _ _ _ w' hcr9
     simp only [Exit.inBlock, Exit.then]
     apply_assumption
     go_meet
     case rel => exact ⟨rfl, _, hs'.out, hcr9⟩
theorem Copied_step {c b f k : Nat} (ih : CopiedOK c b f k) : CopiedOK c b f (k + 1) := by
 intro w G e e' x n m mt mr D R s s' h hr
 unfold Ie.copied at hr
 obtain ⟨n', fn, hr1⟩ := Option.bind_eq_some_iff.1 hr
 cases hl : s.1.lookup n' with
 | some m0 =>
  rw [hl] at hr1
  obtain ⟨e1, e2⟩ := Prod.mk.inj (Option.some.inj hr1)
  obtain ⟨e2, e3⟩ := Prod.mk.inj e2
  subst e1 e2 e3
  exact Copied_found h fn hl
 | none =>
  rw [hl] at hr1
  obtain ⟨y, hy, hr2⟩ := Option.bind_eq_some_iff.1 hr1
  by_cases hk : y.k = 0
  ·exact Copied_var (k := k) h fn hl hy hk hr2
  ·exact Copied_node ih h fn hl hy hk hr2
theorem Copied_any (c b f : Nat) : ∀ k, CopiedOK c b f k
 | 0 => fun _ h => by cases h
 | k + 1 => Copied_step (Copied_any c b f k)
end Go.Proofs.Ytejciampbnfbhaa
