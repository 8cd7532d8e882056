import PyProof.Rows.All
import Wide.All
import OpenK.AllK
import Wide.FinOn
import KE.KStateDown
import Lean
import HandS.ForMost
import HandS.ForExc
import HandS.Deep
import HandS.IsInst
import HandS.TupAny
import HandS.TupLen
import HandS.Conv
import HandS.SortRule
import HandS.ExcIs
import HandS.Style
import HandS.Flow
import HandS.Wide
import HandS.Defaults
import HandS.More
import HandS.Lambda
import PySem.Challenge.RW_sightings_k09_refused_news
import HandS.Head0
import HandS.Head1
import HandS.Head2
import HandS.HeadEnd
import HandS.HeadHook1
import HandS.HeadHook2
import HandS.Ends
import HandS.Words
import HandS.WordsExc
import HandS.HeadHook3
import HandS.HeadHook4
import HandS.HeadWalk
set_option Elab.async false
set_option linter.all false
set_option maxRecDepth 100000
set_option maxHeartbeats 4000000
namespace SG
open PySem PySem.Spec PyProof.Rows L2

/-! ### the settled part of the heap -/
def Mu : Option HO → Prop
  | none => False
  | some (.tup _) => False
  | some _ => True
theorem Mu.same {H H1 : Hp} {x : Addr} (s : Same H H1) (h : Mu (H x)) : Mu (H1 x) := by
  cases e : H x with
  | none => rw [e] at h; exact h.elim
  | some o => rw [s x o e, ← e]; exact h
structure Gr (Hs H Hs2 H2 : Hp) : Prop where
  a : Same Hs Hs2
  b : Same H H2
  c : Same Hs2 H2
  d : ∀ x, Mu (H x) → Hs x = none → Hs2 x = none
theorem same_none {H H' : Hp} {p : Addr} (s : Same H H') (h : H' p = none) : H p = none := s.free h
theorem same_new {H : Hp} {p : Addr} {o : HO} (h : H p = none) : Same H (upd H p o) := fun b x e => by
  rw [upd_ne (ne_of_none e h)]
  exact e
section
variable {Hs H Hs1 H1 Hs2 H2 : Hp} {p : Addr} {o : HO}
theorem Gr.refl (s : Same Hs H) : Gr Hs H Hs H := ⟨Same.refl _, Same.refl _, s, fun _ _ h => h⟩
theorem Gr.trans (g : Gr Hs H Hs1 H1) (k : Gr Hs1 H1 Hs2 H2) : Gr Hs H Hs2 H2 :=
  ⟨g.a.trans k.a, g.b.trans k.b, k.c, fun x h1 h2 => k.d x (h1.same g.b) (g.d x h1 h2)⟩
theorem Gr.new (s : Same Hs H) (hp : H p = none) : Gr Hs H (upd Hs p o) (upd H p o) where
  a := same_new (same_none s hp)
  b := same_new hp
  c := fun b x e => by
    by_cases hb : b = p
    · subst hb
      rw [upd_same] at e ⊢
      exact e
    · rw [upd_ne hb] at e ⊢
      exact s b x e
  d := fun x h1 h2 => by
    have : x ≠ p := fun z => by rw [z, hp] at h1; exact h1
    rw [upd_ne this]
    exact h2
/-- a new object that may still change -/
theorem Gr.fresh (s : Same Hs H) (hp : H p = none) : Gr Hs H Hs (upd H p o) :=
  ⟨Same.refl _, same_new hp, s.trans (same_new hp), fun _ _ h => h⟩
/-- a changing object changes -/
theorem Gr.mut (g : Gr Hs H Hs1 H1) (h0 : H p = none) (hs : Hs1 p = none) : Gr Hs H Hs1 (upd H1 p o) where
  a := g.a
  b := fun b x e => by
    rw [upd_ne (ne_of_none e h0)]
    exact g.b b x e
  c := fun b x e => by
    rw [upd_ne (ne_of_none e hs)]
    exact g.c b x e
  d := g.d
/-- it is settled -/
theorem Gr.settle (g : Gr Hs H Hs1 H1) (h0 : H p = none) (h1 : H1 p = some o) (hs : Hs1 p = none) : Gr Hs H (upd Hs1 p o) H1 where
  a := g.a.trans (same_new hs)
  b := g.b
  c := fun b x e => by
    by_cases hb : b = p
    · subst hb
      rw [upd_same] at e
      rw [h1]
      exact e
    · rw [upd_ne hb] at e
      exact g.c b x e
  d := fun x h2 h3 => by
    have : x ≠ p := fun z => by rw [z, h0] at h2; exact h2
    rw [upd_ne this]
    exact g.d x h2 h3
/-- what was settled for a while is let go again -/
theorem Gr.back (s : Same Hs Hs1) (g : Gr Hs1 H Hs2 H2) : Gr Hs H Hs H2 :=
  ⟨Same.refl _, g.b, s.trans (g.a.trans g.c), fun _ _ h => h⟩
/-- a tuple is settled -/
theorem Gr.tup {xs : List V} (s : Same Hs H) (h : H p = some (.tup xs)) : Gr Hs H (upd Hs p (.tup xs)) H where
  a := fun b x e => by
    by_cases hb : b = p
    · subst hb
      have := s b x e
      rw [h] at this
      rw [upd_same]
      exact this
    · rw [upd_ne hb]
      exact e
  b := Same.refl _
  c := fun b x e => by
    by_cases hb : b = p
    · subst hb
      rw [upd_same] at e
      rw [h]
      exact e
    · rw [upd_ne hb] at e
      exact s b x e
  d := fun x h1 h2 => by
    have : x ≠ p := fun z => by rw [z, h] at h1; exact h1
    rw [upd_ne this]
    exact h2
end

/-! ### data -/
section
variable {K : PySem.W.Frag}
theorem sqL_mono {H H' : Hp} {a : Addr} {xs : List V} (e : Same H H') (h : H a = some (.lst xs)) : SqL K H' a xs := .inl (.inl (e _ _ h))
theorem sqT_mono {H H' : Hp} {a : Addr} {xs : List V} (e : Same H H') (h : H a = some (.tup xs)) : SqT K H' a xs := .inl (.inl (e _ _ h))
mutual
inductive Rp (K : PySem.W.Frag) (H : Hp) : V → PyData → Prop
  | non : Rp K H .non .none
  | bl (b : Bool) : Rp K H (.bl b) (.bool b)
  | int (i : Int) : Rp K H (.int i) (.int i)
  | str (x : Str) : Rp K H (.str x) (.str x)
  | lst {a : Addr} {xs : List V} {ds : List PyData} : H a = some (.lst xs) → RpAll K H xs ds → Rp K H (.ref a) (.list ds)
  | tup {a : Addr} {xs : List V} {ds : List PyData} : H a = some (.tup xs) → RpAll K H xs ds → Rp K H (.ref a) (.tuple ds)
  | dct {a : Addr} : H a = some (.dK []) → Rp K H (.ref a) (.dict [])
inductive RpAll (K : PySem.W.Frag) (H : Hp) : List V → List PyData → Prop
  | nil : RpAll K H [] []
  | cons {v : V} {vs : List V} {d : PyData} {ds : List PyData} : Rp K H v d → RpAll K H vs ds → RpAll K H (v :: vs) (d :: ds)
end
mutual
theorem Rp.mono {H H' : Hp} (e : Same H H') : ∀ {v : V} {d : PyData}, Rp K H v d → Rp K H' v d
  | _, _, .non => .non
  | _, _, .bl b => .bl b
  | _, _, .int b => .int b
  | _, _, .str b => .str b
  | _, _, .lst s a => .lst (e _ _ s) (RpAll.mono e a)
  | _, _, .tup s a => .tup (e _ _ s) (RpAll.mono e a)
  | _, _, .dct h => .dct (e _ _ h)
theorem RpAll.mono {H H' : Hp} (e : Same H H') : ∀ {v : List V} {d : List PyData}, RpAll K H v d → RpAll K H' v d
  | _, _, .nil => .nil
  | _, _, .cons a b => .cons (Rp.mono e a) (RpAll.mono e b)
end
mutual
theorem Rp.dp {H : Hp} : ∀ {v : V} {d : PyData}, d.canLay0 = true → Rp K H v d → Dp K H v d
  | _, _, _, .non => .non
  | _, _, _, .bl b => .bl b
  | _, _, _, .int b => .int b
  | _, _, _, .str b => .str b
  | _, .list ds, c, .lst s a => .lst (.inl (.inl s)) (RpAll.dp (show PyData.canLayAll0 ds = true from c) a)
  | _, .tuple ds, c, .tup s a => .tup (.inl (.inl s)) (RpAll.dp (show PyData.canLayAll0 ds = true from c) a)
  | _, _, c, .dct h => nomatch c
theorem RpAll.dp {H : Hp} : ∀ {v : List V} {d : List PyData}, PyData.canLayAll0 d = true → RpAll K H v d → DpAll K H v d
  | _, _, _, .nil => .nil
  | _, d :: ds, c, .cons a b => .cons (Rp.dp (Bool.and_eq_true_iff.mp (show (d.canLay0 && PyData.canLayAll0 ds) = true from c)).1 a) (RpAll.dp (Bool.and_eq_true_iff.mp (show (d.canLay0 && PyData.canLayAll0 ds) = true from c)).2 b)
end
theorem Rp.shape {H : Hp} {v : V} {d : PyData} (c : SeqAt.shaped d = true) (h : Rp K H v d) : Dp K H v d := h.dp (SeqAt.canLay_of_shaped c)
theorem RpAll.len {H : Hp} : ∀ {v : List V} {d : List PyData}, RpAll K H v d → v.length = d.length
  | _, _, .nil => rfl
  | _, _, .cons _ b => congrArg (· + 1) (RpAll.len b)
theorem RpAll.get {H : Hp} : ∀ {vs : List V} {ds : List PyData} {i : Nat} {v : V}, RpAll K H vs ds → vs[i]? = some v → ∃ d, ds[i]? = some d ∧ Rp K H v d
  | _, _, 0, _, .cons a _, e => by simp at e; subst e; exact ⟨_, rfl, a⟩
  | _, _, i + 1, _, .cons _ b, e => by simpa using RpAll.get (i := i) b (by simpa using e)
theorem RpAll.getD {H : Hp} : ∀ {vs : List V} {ds : List PyData} {i : Nat} {d : PyData}, RpAll K H vs ds → ds[i]? = some d → ∃ v, vs[i]? = some v ∧ Rp K H v d
  | _, _, 0, _, .cons a _, e => by simp at e; subst e; exact ⟨_, rfl, a⟩
  | _, _, i + 1, _, .cons _ b, e => by simpa using RpAll.getD (i := i) b (by simpa using e)
theorem RpAll.append {H : Hp} : ∀ {vs ws : List V} {ds es : List PyData}, RpAll K H vs ds → RpAll K H ws es → RpAll K H (vs ++ ws) (ds ++ es)
  | _, _, _, _, .nil, h => h
  | _, _, _, _, .cons a b, h => .cons a (RpAll.append b h)
theorem RpAll.snoc {H : Hp} {vs : List V} {ds : List PyData} {v : V} {d : PyData} (h : RpAll K H vs ds) (a : Rp K H v d) : RpAll K H (vs ++ [v]) (ds ++ [d]) := h.append (.cons a .nil)
theorem RpAll.drop {H : Hp} : ∀ {vs : List V} {ds : List PyData} (n : Nat), RpAll K H vs ds → RpAll K H (vs.drop n) (ds.drop n)
  | _, _, 0, h => h
  | _, _, _ + 1, .nil => .nil
  | _, _, n + 1, .cons _ b => RpAll.drop n b
theorem RpAll.take {H : Hp} : ∀ {vs : List V} {ds : List PyData} (n : Nat), RpAll K H vs ds → RpAll K H (vs.take n) (ds.take n)
  | _, _, 0, _ => .nil
  | _, _, _ + 1, .nil => .nil
  | _, _, n + 1, .cons a b => .cons a (RpAll.take n b)
theorem RpAll.ints {H : Hp} : ∀ ns : List Int, RpAll K H (ns.map V.int) (ns.map PyData.int)
  | [] => .nil
  | n :: ns => .cons (.int n) (RpAll.ints ns)
theorem RpAll.ints_eq {H : Hp} : ∀ {vs : List V} {ns : List Int}, RpAll K H vs (ns.map PyData.int) → vs = ns.map V.int
  | _, [], .nil => rfl
  | _, n :: ns, .cons (.int _) b => congrArg (V.int n :: ·) (RpAll.ints_eq b)
theorem RpAll.bools_eq {H : Hp} : ∀ {vs : List V} {ns : List Bool}, RpAll K H vs (ns.map PyData.bool) → vs = ns.map V.bl
  | _, [], .nil => rfl
  | _, n :: ns, .cons (.bl _) b => congrArg (V.bl n :: ·) (RpAll.bools_eq b)
/-- scalars stand in every heap -/
def scalD : PyData → Bool
  | .none | .bool _ | .int _ | .str _ => true
  | _ => false
theorem Rp.scal {H H' : Hp} {v : V} {d : PyData} (h : Rp K H v d) (c : scalD d = true) : Rp K H' v d := by
  cases h with
  | non => exact .non
  | bl b => exact .bl b
  | int i => exact .int i
  | str x => exact .str x
  | lst _ _ => cases c
  | tup _ _ => cases c
  | dct _ => cases c
end

/-! ### the slots -/
abbrev Rho := List (Option PyData)
def EnvD (K : PySem.W.Frag) (Hs : Hp) (σ : L2.St) (ρ : Rho) : Prop := σ.length = ρ.length ∧ ∀ (i : Nat) (d : PyData), ρ[i]? = some (some d) → ∃ v, σ[i]? = some (some v) ∧ Rp K Hs v d
section
variable {K : PySem.W.Frag} {Hs Hs2 : Hp} {σ : L2.St} {ρ : Rho}
theorem EnvD.mono (e : Same Hs Hs2) (h : EnvD K Hs σ ρ) : EnvD K Hs2 σ ρ := ⟨h.1, fun i d q => by
  obtain ⟨v, h1, h2⟩ := h.2 i d q
  exact ⟨v, h1, h2.mono e⟩⟩
theorem EnvD.set {v : V} {d : PyData} (i : Nat) (h : EnvD K Hs σ ρ) (r : Rp K Hs v d) : EnvD K Hs (σ.set i (some v)) (ρ.set i (some d)) := by
  refine ⟨by rw [List.length_set, List.length_set]; exact h.1, fun j e q => ?_⟩
  by_cases hj : j = i
  · subst hj
    have hl : j < ρ.length := by
      have := (List.getElem?_eq_some_iff.mp q).1
      rwa [List.length_set] at this
    rw [List.getElem?_set_self hl] at q
    have := Option.some.inj (Option.some.inj q)
    subst this
    exact ⟨v, List.getElem?_set_self (by have := h.1; omega), r⟩
  · rw [List.getElem?_set_ne (Ne.symm hj)] at q
    obtain ⟨w, h1, h2⟩ := h.2 j e q
    exact ⟨w, by rw [List.getElem?_set_ne (Ne.symm hj)]; exact h1, h2⟩
theorem EnvD.del {x : Option V} (i : Nat) (h : EnvD K Hs σ ρ) : EnvD K Hs (σ.set i x) (ρ.set i none) := by
  refine ⟨by rw [List.length_set, List.length_set]; exact h.1, fun j e q => ?_⟩
  by_cases hj : j = i
  · subst hj
    have hl : j < ρ.length := by
      have := (List.getElem?_eq_some_iff.mp q).1
      rwa [List.length_set] at this
    rw [List.getElem?_set_self hl] at q
    cases q
  · rw [List.getElem?_set_ne (Ne.symm hj)] at q
    obtain ⟨w, h1, h2⟩ := h.2 j e q
    exact ⟨w, by rw [List.getElem?_set_ne (Ne.symm hj)]; exact h1, h2⟩
def wipeD (ρ : Rho) : List Nat → Rho
  | [] => ρ
  | v :: vs => (wipeD ρ vs).set v none
theorem EnvD.wipe (h : EnvD K Hs σ ρ) : ∀ vs : List Nat, EnvD K Hs (wipe σ vs) (wipeD ρ vs)
  | [] => h
  | v :: vs => (EnvD.wipe h vs).del v
theorem wipe_get {σ : L2.St} : ∀ {vs : List Nat} {i : Nat}, i ∈ vs → i < σ.length → (wipe σ vs)[i]? = some none
  | v :: vs, i, h, hl => by
    show ((L2.wipe σ vs).set v none)[i]? = some none
    by_cases e : i = v
    · subst e
      exact List.getElem?_set_self (by rw [wipe_length]; exact hl)
    · rw [List.getElem?_set_ne (Ne.symm e)]
      exact wipe_get (by
        rcases List.mem_cons.mp h with z | z
        · exact absurd z e
        · exact z) hl
theorem wipe_ext {σ τ : L2.St} {vs : List Nat} (hl : σ.length = τ.length) (h : ∀ i, i ∉ vs → σ[i]? = τ[i]?) : wipe σ vs = wipe τ vs := by
  apply List.ext_getElem?
  intro i
  by_cases hi : i ∈ vs
  · by_cases hb : i < σ.length
    · rw [wipe_get hi hb, wipe_get hi (by omega)]
    · have e1 : (wipe σ vs)[i]? = none := List.getElem?_eq_none (by rw [wipe_length]; omega)
      have e2 : (wipe τ vs)[i]? = none := List.getElem?_eq_none (by rw [wipe_length]; omega)
      rw [e1, e2]
  · rw [wipe_out hi, wipe_out hi]
    exact h i hi
end
end SG
set_option Elab.async false
set_option linter.all false
set_option maxRecDepth 100000
set_option maxHeartbeats 4000000
namespace SG
open PySem PySem.Spec PyProof.Rows L2

/-! ### what evaluates to what -/
def YD (K : PySem.W.Frag) (te : TE) (ρ : Rho) (d : PyData) : Prop := ∀ (σ : L2.St) (Hs H : Hp), EnvD K Hs σ ρ → Same Hs H → ∀ Q : VK, (∀ v Hs2 H2, Gr Hs H Hs2 H2 → Rp K Hs2 v d → Q v H2) → te σ H Q
def YT (K : PySem.W.Frag) (tt : TT) (ρ : Rho) (b : Bool) : Prop := ∀ (σ : L2.St) (Hs H : Hp), EnvD K Hs σ ρ → Same Hs H → ∀ Q : Bool → Hp → Prop, (∀ Hs2 H2, Gr Hs H Hs2 H2 → Q b H2) → tt σ H Q
def YA (K : PySem.W.Frag) (ta : TA) (ρ : Rho) (ds : List PyData) : Prop := ∀ (σ : L2.St) (Hs H : Hp), EnvD K Hs σ ρ → Same Hs H → ∀ Q : List V → Hp → Prop, (∀ vs Hs2 H2, Gr Hs H Hs2 H2 → RpAll K Hs2 vs ds → Q vs H2) → ta σ H Q
def YO (K : PySem.W.Frag) (to : TO) (ρ : Rho) (o : Option Int) : Prop := ∀ (σ : L2.St) (Hs H : Hp), EnvD K Hs σ ρ → Same Hs H → ∀ Q : Option Int → Hp → Prop, (∀ Hs2 H2, Gr Hs H Hs2 H2 → Q o H2) → to σ H Q
def RD (K : PySem.W.Frag) (r : R2) (x y z : PyData) : Prop := ∀ (v w : V) (Hs H : Hp), Same Hs H → Rp K Hs v x → Rp K Hs w y → ∀ Q : VK, (∀ u Hs2 H2, Gr Hs H Hs2 H2 → Rp K Hs2 u z → Q u H2) → r v w H Q
def RU (K : PySem.W.Frag) (r : V → Hp → VK → Prop) (x z : PyData) : Prop := ∀ (v : V) (Hs H : Hp), Same Hs H → Rp K Hs v x → ∀ Q : VK, (∀ u Hs2 H2, Gr Hs H Hs2 H2 → Rp K Hs2 u z → Q u H2) → r v H Q
def RC (K : PySem.W.Frag) (r : List V → Hp → VK → Prop) (xs : List PyData) (z : PyData) : Prop := ∀ (vs : List V) (Hs H : Hp), Same Hs H → RpAll K Hs vs xs → ∀ Q : VK, (∀ u Hs2 H2, Gr Hs H Hs2 H2 → Rp K Hs2 u z → Q u H2) → r vs H Q
section
variable {K : PySem.W.Frag} {ρ : Rho} {ta tb tc te : TE} {t u : TT} {x y z d : PyData} {r r' : R2} {a b : Bool}
theorem YD.eq {d' : PyData} (h : YD K te ρ d) (e : d = d') : YD K te ρ d' := e ▸ h
theorem YT.eq {b' : Bool} (h : YT K t ρ b) (e : b = b') : YT K t ρ b' := e ▸ h
theorem YA.eq {ta : TA} {ds ds' : List PyData} (h : YA K ta ρ ds) (e : ds = ds') : YA K ta ρ ds' := e ▸ h
theorem yd_var {i : Nat} (h : ρ[i]? = some (some d)) : YD K (tVar i) ρ d := fun σ Hs H e s Q q => by
  obtain ⟨v, h1, h2⟩ := e.2 i d h
  exact ⟨v, h1, q v Hs H (Gr.refl s) h2⟩
theorem yd_int {i : Int} : YD K (tC (.int i)) ρ (.int i) := fun σ Hs H e s Q q => q _ Hs H (Gr.refl s) (.int i)
theorem yd_bl {i : Bool} : YD K (tC (.bl i)) ρ (.bool i) := fun σ Hs H e s Q q => q _ Hs H (Gr.refl s) (.bl i)
theorem yd_non : YD K (tC .non) ρ .none := fun σ Hs H e s Q q => q _ Hs H (Gr.refl s) .non
theorem yd_str {x : Str} : YD K (tC (.str x)) ρ (.str x) := fun σ Hs H e s Q q => q _ Hs H (Gr.refl s) (.str x)
theorem yd_op (ha : YD K ta ρ x) (hb : YD K tb ρ y) (hr : RD K r x y z) : YD K (tOp r ta tb) ρ z := fun σ Hs H e s Q q =>
  ha σ Hs H e s _ fun v Hs1 H1 g1 r1 => hb σ Hs1 H1 (e.mono g1.a) g1.c _ fun w Hs2 H2 g2 r2 => hr v w Hs2 H2 g2.c (r1.mono g2.a) r2 Q fun u Hs3 H3 g3 r3 => q u Hs3 H3 ((g1.trans g2).trans g3) r3
theorem yd_un {r : V → Hp → VK → Prop} (ha : YD K ta ρ x) (hr : RU K r x z) : YD K (tUn r ta) ρ z := fun σ Hs H e s Q q =>
  ha σ Hs H e s _ fun v Hs1 H1 g1 r1 => hr v Hs1 H1 g1.c r1 Q fun u Hs3 H3 g3 r3 => q u Hs3 H3 (g1.trans g3) r3
theorem rd_I0 {f : Int → Int → Int} {i j : Int} : RD K (rI0 fun i j => .int (f i j)) (.int i) (.int j) (.int (f i j)) := fun v w Hs H s h1 h2 Q q => by
  cases h1; cases h2
  exact ⟨i, j, rfl, rfl, q _ Hs H (Gr.refl s) (.int _)⟩
theorem rd_B0 {f : Int → Int → Bool} {i j : Int} : RD K (rI0 fun i j => .bl (f i j)) (.int i) (.int j) (.bool (f i j)) := fun v w Hs H s h1 h2 Q q => by
  cases h1; cases h2
  exact ⟨i, j, rfl, rfl, q _ Hs H (Gr.refl s) (.bl _)⟩
theorem rd_I {C : Int → Int → Prop} {f : Int → Int → Int} {i j : Int} (hc : C i j) : RD K (rI C fun i j => .int (f i j)) (.int i) (.int j) (.int (f i j)) := fun v w Hs H s h1 h2 Q q => by
  cases h1; cases h2
  exact ⟨i, j, rfl, rfl, hc, q _ Hs H (Gr.refl s) (.int _)⟩
theorem ru_neg {i : Int} : RU K (rU fun i => .int (-i)) (.int i) (.int (-i)) := fun v Hs H s h1 Q q => by
  cases h1
  exact ⟨i, rfl, q _ Hs H (Gr.refl s) (.int _)⟩
theorem rd_eqD (h1 : SeqAt.shaped x = true) (h2 : SeqAt.shaped y = true) : RD K (rEqD K) x y (.bool (PyData.eqv x y)) := fun v w Hs H s a b Q q =>
  ⟨x, y, (a.mono s).shape h1, (b.mono s).shape h2, h1, h2, q _ Hs H (Gr.refl s) (.bl _)⟩
theorem rd_neD (h1 : SeqAt.shaped x = true) (h2 : SeqAt.shaped y = true) : RD K (rNeD K) x y (.bool (!PyData.eqv x y)) := fun v w Hs H s a b Q q =>
  ⟨x, y, (a.mono s).shape h1, (b.mono s).shape h2, h1, h2, q _ Hs H (Gr.refl s) (.bl _)⟩
theorem rd_inD {ds : List PyData} (h1 : SeqAt.shaped x = true) (h2 : SeqAt.shaped (.list ds) = true) : RD K (rInD K) x (.list ds) (.bool (ds.any fun z => PyData.eqv z x)) := fun v w Hs H s a b Q q =>
  ⟨x, ds, (a.mono s).shape h1, (b.mono s).shape h2, h1, h2, q _ Hs H (Gr.refl s) (.bl _)⟩
theorem rd_notInD {ds : List PyData} (h1 : SeqAt.shaped x = true) (h2 : SeqAt.shaped (.list ds) = true) : RD K (rNotInD K) x (.list ds) (.bool (!ds.any fun z => PyData.eqv z x)) := fun v w Hs H s a b Q q =>
  ⟨x, ds, (a.mono s).shape h1, (b.mono s).shape h2, h1, h2, q _ Hs H (Gr.refl s) (.bl _)⟩
theorem atI_rp {Hs : Hp} {vs : List V} {ds : List PyData} {i : Int} (h : RpAll K Hs vs ds) (e : atI ds i = some d) : ∃ v, atI vs i = some v ∧ Rp K Hs v d := by
  unfold atI at e ⊢
  rw [h.len]
  cases q : ixN ds.length i with
  | none => rw [q] at e; cases e
  | some j =>
    rw [q] at e
    exact h.getD e
theorem rd_ixL {ds : List PyData} {i : Int} (h : atI ds i = some d) : RD K (rIx K) (.list ds) (.int i) d := fun v w Hs H s h1 h2 Q q => by
  cases h1 with
  | lst hs ha =>
    cases h2
    obtain ⟨u, e, ru⟩ := atI_rp ha h
    exact .inl ⟨_, _, i, u, rfl, rfl, sqL_mono s hs, e, q u Hs H (Gr.refl s) ru⟩
theorem rd_ixT {ds : List PyData} {i : Int} (h : atI ds i = some d) : RD K (rIx K) (.tuple ds) (.int i) d := fun v w Hs H s h1 h2 Q q => by
  cases h1 with
  | tup hs ha =>
    cases h2
    obtain ⟨u, e, ru⟩ := atI_rp ha h
    exact .inr (.inl ⟨_, _, i, u, rfl, rfl, sqT_mono s hs, e, q u Hs H (Gr.refl s) ru⟩)
theorem yd_chain (ha : YD K ta ρ x) (hb : YD K tb ρ y) (hr : RD K r x y (.bool a)) (hc : a = true → YD K tc ρ z) (hr2 : a = true → RD K r' y z (.bool b)) : YD K (tChain r r' ta tb tc) ρ (.bool (a && b)) := fun σ Hs H e s Q q =>
  ha σ Hs H e s _ fun v Hs1 H1 g1 r1 => hb σ Hs1 H1 (e.mono g1.a) g1.c _ fun w Hs2 H2 g2 r2 => hr v w Hs2 H2 g2.c (r1.mono g2.a) r2 _ fun k Hs3 H3 g3 r3 => by
    cases r3
    refine ⟨a, rfl, ?_⟩
    have g := (g1.trans g2).trans g3
    cases a with
    | true => exact hc rfl σ Hs3 H3 (e.mono g.a) g.c _ fun w2 Hs4 H4 g4 r4 => hr2 rfl w w2 Hs4 H4 g4.c (r2.mono (g3.a.trans g4.a)) r4 Q fun u Hs5 H5 g5 r5 => q u Hs5 H5 ((g.trans g4).trans g5) r5
    | false => exact q _ Hs3 H3 g (.bl _)
theorem ya_nil : YA K tNil ρ [] := fun σ Hs H e s Q q => q [] Hs H (Gr.refl s) .nil
theorem ya_cons {tr : TA} {ds : List PyData} (h : YD K ta ρ x) (hr : YA K tr ρ ds) : YA K (tCons ta tr) ρ (x :: ds) := fun σ Hs H e s Q q =>
  h σ Hs H e s _ fun v Hs1 H1 g1 r1 => hr σ Hs1 H1 (e.mono g1.a) g1.c _ fun vs Hs2 H2 g2 r2 => q _ Hs2 H2 (g1.trans g2) (.cons (r1.mono g2.a) r2)
theorem sz_of {n : Nat} (h : n ≤ 100000) : n ≤ sizeLine := Nat.le_trans h (by decide)
theorem sz_lt {n : Nat} (h : n < 100000) : n < sizeLine := Nat.lt_of_lt_of_le h (by decide)
theorem rp_lst {Hs H : Hp} {p : Addr} {vs : List V} {ds : List PyData} (hp : Hs p = none) (h : RpAll K Hs vs ds) : Rp K (upd Hs p (.lst vs)) (.ref p) (.list ds) := .lst upd_same (h.mono (same_new hp))
theorem rp_tup {Hs H : Hp} {p : Addr} {vs : List V} {ds : List PyData} (hp : Hs p = none) (h : RpAll K Hs vs ds) : Rp K (upd Hs p (.tup vs)) (.ref p) (.tuple ds) := .tup upd_same (h.mono (same_new hp))
theorem yd_tup {tr : TA} {ds : List PyData} (h : YA K tr ρ ds) (hl : ds.length ≤ 100000) : YD K (tTup tr) ρ (.tuple ds) := fun σ Hs H e s Q q =>
  h σ Hs H e s _ fun vs Hs1 H1 g1 r1 => ⟨sz_of (by rw [r1.len]; exact hl), fun p hp => q _ _ _ (g1.trans (Gr.new g1.c hp)) (rp_tup (H := H1) (same_none g1.c hp) r1)⟩
theorem yd_lst {tr : TA} {ds : List PyData} (h : YA K tr ρ ds) (hl : ds.length ≤ 100000) : YD K (tLst tr) ρ (.list ds) := fun σ Hs H e s Q q =>
  h σ Hs H e s _ fun vs Hs1 H1 g1 r1 => ⟨sz_of (by rw [r1.len]; exact hl), fun p hp => q _ _ _ (g1.trans (Gr.new g1.c hp)) (rp_lst (H := H1) (same_none g1.c hp) r1)⟩
theorem yt_test (h : YD K te ρ (.bool b)) : YT K (tTest te) ρ b := fun σ Hs H e s Q q => h σ Hs H e s _ fun v Hs1 H1 g1 r1 => by
  cases r1
  exact ⟨b, rfl, q Hs1 H1 g1⟩
theorem yt_B (h : YD K te ρ (.bool b)) : YT K (tB te) ρ b := fun σ Hs H e s Q q => h σ Hs H e s _ fun v Hs1 H1 g1 r1 => by
  cases r1
  exact ⟨b, rfl, q Hs1 H1 g1⟩
theorem yt_and (h1 : YT K t ρ a) (h2 : a = true → YT K u ρ b) : YT K (tAnd t u) ρ (a && b) := fun σ Hs H e s Q q => h1 σ Hs H e s _ fun Hs1 H1 g1 => by
  cases a with
  | true => exact h2 rfl σ Hs1 H1 (e.mono g1.a) g1.c Q fun Hs2 H2 g2 => q Hs2 H2 (g1.trans g2)
  | false => exact q Hs1 H1 g1
theorem yt_or (h1 : YT K t ρ a) (h2 : a = false → YT K u ρ b) : YT K (tOr t u) ρ (a || b) := fun σ Hs H e s Q q => h1 σ Hs H e s _ fun Hs1 H1 g1 => by
  cases a with
  | false => exact h2 rfl σ Hs1 H1 (e.mono g1.a) g1.c Q fun Hs2 H2 g2 => q Hs2 H2 (g1.trans g2)
  | true => exact q Hs1 H1 g1
theorem yt_not (h1 : YT K t ρ a) : YT K (tNot t) ρ (!a) := fun σ Hs H e s Q q => h1 σ Hs H e s _ fun Hs1 H1 g1 => q Hs1 H1 g1
theorem yd_and (h1 : YD K ta ρ (.bool a)) (h2 : a = true → YD K tb ρ (.bool b)) : YD K (tAndV ta tb) ρ (.bool (a && b)) := fun σ Hs H e s Q q => h1 σ Hs H e s _ fun v Hs1 H1 g1 r1 => by
  cases r1
  refine ⟨a, rfl, ?_⟩
  cases a with
  | true => exact h2 rfl σ Hs1 H1 (e.mono g1.a) g1.c Q fun w Hs2 H2 g2 r2 => q w Hs2 H2 (g1.trans g2) r2
  | false => exact q _ Hs1 H1 g1 (.bl _)
theorem yd_or (h1 : YD K ta ρ (.bool a)) (h2 : a = false → YD K tb ρ (.bool b)) : YD K (tOrV ta tb) ρ (.bool (a || b)) := fun σ Hs H e s Q q => h1 σ Hs H e s _ fun v Hs1 H1 g1 r1 => by
  cases r1
  refine ⟨a, rfl, ?_⟩
  cases a with
  | false => exact h2 rfl σ Hs1 H1 (e.mono g1.a) g1.c Q fun w Hs2 H2 g2 r2 => q w Hs2 H2 (g1.trans g2) r2
  | true => exact q _ Hs1 H1 g1 (.bl _)
theorem yd_not (h1 : YD K ta ρ (.bool a)) : YD K (tNotV ta) ρ (.bool (!a)) := fun σ Hs H e s Q q => h1 σ Hs H e s _ fun v Hs1 H1 g1 r1 => by
  cases r1
  exact ⟨a, rfl, q _ Hs1 H1 g1 (.bl _)⟩
theorem yd_if (h : YT K t ρ b) (h1 : b = true → YD K ta ρ d) (h2 : b = false → YD K tb ρ d) : YD K (tIf t ta tb) ρ d := fun σ Hs H e s Q q => h σ Hs H e s _ fun Hs1 H1 g1 => by
  cases b with
  | true => exact h1 rfl σ Hs1 H1 (e.mono g1.a) g1.c Q fun w Hs2 H2 g2 r2 => q w Hs2 H2 (g1.trans g2) r2
  | false => exact h2 rfl σ Hs1 H1 (e.mono g1.a) g1.c Q fun w Hs2 H2 g2 r2 => q w Hs2 H2 (g1.trans g2) r2
theorem yt_yes : YT K tYes ρ true := fun σ Hs H e s Q q => q Hs H (Gr.refl s)
theorem yd_isN (h : YD K ta ρ x) (hb : b = (match x with | .none => true | _ => false)) : YD K (tIsN ta) ρ (.bool b) := fun σ Hs H e s Q q => h σ Hs H e s _ fun v Hs1 H1 g1 r1 => by
  have e : decide (v = V.non) = b := by rw [hb]; cases r1 <;> rfl
  rw [e]
  exact q _ Hs1 H1 g1 (.bl _)
theorem yd_notN (h : YD K ta ρ x) (hb : b = (match x with | .none => false | _ => true)) : YD K (tNotN ta) ρ (.bool b) := fun σ Hs H e s Q q => h σ Hs H e s _ fun v Hs1 H1 g1 r1 => by
  have e : (!decide (v = V.non)) = b := by rw [hb]; cases r1 <;> rfl
  rw [e]
  exact q _ Hs1 H1 g1 (.bl _)
theorem yd_cb {r : List V → Hp → VK → Prop} {tr : TA} {ds : List PyData} (h : YA K tr ρ ds) (hr : RC K r ds z) : YD K (tCB r tr) ρ z := fun σ Hs H e s Q q =>
  h σ Hs H e s _ fun vs Hs1 H1 g1 r1 => hr vs Hs1 H1 g1.c r1 Q fun u Hs2 H2 g2 r2 => q u Hs2 H2 (g1.trans g2) r2
/-! slices -/
theorem yo_none : YO K tNoPart ρ none := fun σ Hs H e s Q q => q Hs H (Gr.refl s)
theorem yo_some {i : Int} (h : YD K te ρ (.int i)) : YO K (tPart te) ρ (some i) := fun σ Hs H e s Q q => h σ Hs H e s _ fun v Hs1 H1 g1 r1 => by
  cases r1
  exact ⟨i, rfl, q Hs1 H1 g1⟩
def cutD (xs : List PyData) (lo hi : Option Int) : List PyData := (xs.drop (HT.sIx xs.length 0 lo)).take (HT.sIx xs.length xs.length hi - HT.sIx xs.length 0 lo)
theorem cut_rp {Hs : Hp} {vs : List V} {ds : List PyData} {lo hi : Option Int} (h : RpAll K Hs vs ds) : RpAll K Hs (cutV vs lo hi) (cutD ds lo hi) := by
  unfold cutV cutD
  rw [h.len]
  exact (h.drop _).take _
theorem yd_slL {to1 to2 : TO} {ds : List PyData} {lo hi : Option Int} (h : YD K te ρ (.list ds)) (h1 : YO K to1 ρ lo) (h2 : YO K to2 ρ hi) : YD K (tSl (rSlL K) te to1 to2) ρ (.list (cutD ds lo hi)) := fun σ Hs H e s Q q =>
  h σ Hs H e s _ fun v Hs1 H1 g1 r1 => h1 σ Hs1 H1 (e.mono g1.a) g1.c _ fun Hs2 H2 g2 => h2 σ Hs2 H2 (e.mono (g1.a.trans g2.a)) g2.c _ fun Hs3 H3 g3 => by
    cases r1 with
    | lst hs ha => exact ⟨_, _, rfl, sqL_mono (g2.a.trans (g3.a.trans g3.c)) hs, fun p hp => q _ _ _ (((g1.trans g2).trans g3).trans (Gr.new g3.c hp)) (rp_lst (H := H3) (same_none g3.c hp) (cut_rp (ha.mono (g2.a.trans g3.a))))⟩
theorem yd_slA {to1 to2 : TO} {ds : List PyData} {lo hi : Option Int} (h : YD K te ρ (.tuple ds)) (h1 : YO K to1 ρ lo) (h2 : YO K to2 ρ hi) : YD K (tSl (rSlA K) te to1 to2) ρ (.tuple (cutD ds lo hi)) := fun σ Hs H e s Q q =>
  h σ Hs H e s _ fun v Hs1 H1 g1 r1 => h1 σ Hs1 H1 (e.mono g1.a) g1.c _ fun Hs2 H2 g2 => h2 σ Hs2 H2 (e.mono (g1.a.trans g2.a)) g2.c _ fun Hs3 H3 g3 => by
    cases r1 with
    | tup hs ha =>
      have G := (g1.trans g2).trans g3
      refine ⟨_, _, rfl, sqT_mono (g2.a.trans (g3.a.trans g3.c)) hs, fun hw => ?_, fun _ p hp => q _ _ _ (G.trans (Gr.new g3.c hp)) (rp_tup (H := H3) (same_none g3.c hp) (cut_rp (ha.mono (g2.a.trans g3.a))))⟩
      have e2 : cutD ds lo hi = ds := by
        unfold cutD
        rw [← ha.len, hw.1, hw.2, List.drop_zero, Nat.sub_zero, ha.len, List.take_length]
      exact q _ Hs3 H3 G (by rw [e2]; exact .tup ((g2.a.trans g3.a) _ _ hs) (ha.mono (g2.a.trans g3.a)))
end

/-! ### statements -/
def YR (K : PySem.W.Frag) (ts : TS) (ρ : Rho) (d : PyData) : Prop := ∀ (σ : L2.St) (Hs H : Hp), EnvD K Hs σ ρ → Same Hs H → ∀ D : Ends, (∀ v Hs2 H2, Gr Hs H Hs2 H2 → Rp K Hs2 v d → D.rt v H2) → ts D σ H
def YN (K : PySem.W.Frag) (ts : TS) (sl : List Nat) (ρ ρ' : Rho) : Prop := ∀ (σ : L2.St) (Hs H : Hp), EnvD K Hs σ ρ → Same Hs H → ∀ D : Ends, (∀ σ' Hs2 H2, Gr Hs H Hs2 H2 → EnvD K Hs2 σ' ρ' → (∀ i, i ∉ sl → σ'[i]? = σ[i]?) → D.nx σ' H2) → ts D σ H
/-- binding a target -/
def YG (K : PySem.W.Frag) (g : TG) (sl : List Nat) (ρ : Rho) (d : PyData) (ρ' : Rho) : Prop := ∀ (σ : L2.St) (Hs H : Hp) (v : V), EnvD K Hs σ ρ → Same Hs H → Rp K Hs v d → ∀ Q : L2.St → Hp → Prop, (∀ σ', EnvD K Hs σ' ρ' → σ'.length = σ.length → (∀ i, i ∉ sl → σ'[i]? = σ[i]?) → Q σ' H) → g v σ H Q
def YGs (K : PySem.W.Frag) (g : TGs) (sl : List Nat) (ρ : Rho) (ds : List PyData) (ρ' : Rho) : Prop := ∀ (σ : L2.St) (Hs H : Hp) (vs : List V), EnvD K Hs σ ρ → Same Hs H → RpAll K Hs vs ds → ∀ Q : L2.St → Hp → Prop, (∀ σ', EnvD K Hs σ' ρ' → σ'.length = σ.length → (∀ i, i ∉ sl → σ'[i]? = σ[i]?) → Q σ' H) → g vs σ H Q
section
variable {K : PySem.W.Frag} {ρ ρ1 ρ2 : Rho} {te : TE} {t u : TS} {c : TT} {d : PyData} {b : Bool} {sl sl2 : List Nat}
theorem YR.eq {d' : PyData} (h : YR K t ρ d) (e : d = d') : YR K t ρ d' := e ▸ h
theorem yr_ret (h : YD K te ρ d) : YR K (tRet te) ρ d := fun σ Hs H e s D q => h σ Hs H e s _ q
theorem yr_seq (h : YN K t sl ρ ρ1) (k : YR K u ρ1 d) : YR K (tSeq t u) ρ d := fun σ Hs H e s D q =>
  h σ Hs H e s _ fun σ1 Hs1 H1 g1 e1 _ => k σ1 Hs1 H1 e1 g1.c D fun v Hs2 H2 g2 r => q v Hs2 H2 (g1.trans g2) r
theorem yr_seqR (h : YR K t ρ d) : YR K (tSeq t u) ρ d := fun σ Hs H e s D q => h σ Hs H e s _ q
theorem yr_next (h : YR K u ρ d) : YR K (tSeq tNext u) ρ d := fun σ Hs H e s D q => h σ Hs H e s D q
theorem yr_if (h : YT K c ρ b) (h1 : b = true → YR K t ρ d) (h2 : b = false → YR K u ρ d) : YR K (tIfS c t u) ρ d := fun σ Hs H e s D q => h σ Hs H e s _ fun Hs1 H1 g1 => by
  cases b with
  | true => exact h1 rfl σ Hs1 H1 (e.mono g1.a) g1.c D fun w Hs2 H2 g2 r2 => q w Hs2 H2 (g1.trans g2) r2
  | false => exact h2 rfl σ Hs1 H1 (e.mono g1.a) g1.c D fun w Hs2 H2 g2 r2 => q w Hs2 H2 (g1.trans g2) r2
theorem yr_ifs {u2 : TS} (h : YT K c ρ b) (h1 : b = true → YR K (tSeq t u2) ρ d) (h2 : b = false → YR K (tSeq u u2) ρ d) : YR K (tSeq (tIfS c t u) u2) ρ d := fun σ Hs H e s D q => h σ Hs H e s _ fun Hs1 H1 g1 => by
  cases b with
  | true => exact h1 rfl σ Hs1 H1 (e.mono g1.a) g1.c D fun w Hs2 H2 g2 r2 => q w Hs2 H2 (g1.trans g2) r2
  | false => exact h2 rfl σ Hs1 H1 (e.mono g1.a) g1.c D fun w Hs2 H2 g2 r2 => q w Hs2 H2 (g1.trans g2) r2
theorem yn_if (h : YT K c ρ b) (h1 : b = true → YN K t sl ρ ρ1) (h2 : b = false → YN K u sl2 ρ ρ1) : YN K (tIfS c t u) (sl ++ sl2) ρ ρ1 := fun σ Hs H e s D q => h σ Hs H e s _ fun Hs1 H1 g1 => by
  cases b with
  | true => exact h1 rfl σ Hs1 H1 (e.mono g1.a) g1.c D fun w Hs2 H2 g2 r2 n2 => q w Hs2 H2 (g1.trans g2) r2 fun i hi => n2 i fun z => hi (List.mem_append_left _ z)
  | false => exact h2 rfl σ Hs1 H1 (e.mono g1.a) g1.c D fun w Hs2 H2 g2 r2 n2 => q w Hs2 H2 (g1.trans g2) r2 fun i hi => n2 i fun z => hi (List.mem_append_right _ z)
theorem yn_ifF (h : YT K c ρ false) (h2 : YN K u sl ρ ρ1) : YN K (tIfS c t u) sl ρ ρ1 := fun σ Hs H e s D q => h σ Hs H e s _ fun Hs1 H1 g1 => h2 σ Hs1 H1 (e.mono g1.a) g1.c D fun w Hs2 H2 g2 r2 n2 => q w Hs2 H2 (g1.trans g2) r2 n2
theorem yn_ifT (h : YT K c ρ true) (h2 : YN K t sl ρ ρ1) : YN K (tIfS c t u) sl ρ ρ1 := fun σ Hs H e s D q => h σ Hs H e s _ fun Hs1 H1 g1 => h2 σ Hs1 H1 (e.mono g1.a) g1.c D fun w Hs2 H2 g2 r2 n2 => q w Hs2 H2 (g1.trans g2) r2 n2
theorem yn_next : YN K tNext [] ρ ρ := fun σ Hs H e s D q => q σ Hs H (Gr.refl s) e fun _ _ => rfl
theorem yn_seq (h : YN K t sl ρ ρ1) (k : YN K u sl2 ρ1 ρ2) : YN K (tSeq t u) (sl ++ sl2) ρ ρ2 := fun σ Hs H e s D q =>
  h σ Hs H e s _ fun σ1 Hs1 H1 g1 e1 n1 => k σ1 Hs1 H1 e1 g1.c D fun v Hs2 H2 g2 r n2 => q v Hs2 H2 (g1.trans g2) r fun i hi => (n2 i fun z => hi (List.mem_append_right _ z)).trans (n1 i fun z => hi (List.mem_append_left _ z))
theorem yn_asg {g : TG} (h : YD K te ρ d) (k : YG K g sl ρ d ρ1) : YN K (tAsg te g) sl ρ ρ1 := fun σ Hs H e s D q =>
  h σ Hs H e s _ fun v Hs1 H1 g1 r1 => k σ Hs1 H1 v (e.mono g1.a) g1.c r1 _ fun σ' e' _ n' => q σ' Hs1 H1 g1 e' n'
theorem yg_name {i : Nat} : YG K (gName i) [i] ρ d (ρ.set i (some d)) := fun σ Hs H v e s r Q q => q _ (e.set i r) (by rw [List.length_set]) fun j hj => by
  rw [List.getElem?_set_ne (fun z => hj (by rw [z]; exact List.mem_singleton.mpr rfl))]
theorem ygs_nil : YGs K gNil [] ρ [] ρ := fun σ Hs H vs e s r Q q => by
  cases r
  exact ⟨rfl, q σ e rfl fun _ _ => rfl⟩
theorem ygs_cons {g : TG} {gs : TGs} {sl sl' : List Nat} {ds : List PyData} (h : YG K g sl ρ d ρ1) (k : YGs K gs sl' ρ1 ds ρ2) : YGs K (gCons g gs) (sl ++ sl') ρ (d :: ds) ρ2 := fun σ Hs H vs e s r Q q => by
  cases r with
  | cons r1 r2 =>
    refine ⟨_, _, rfl, h σ Hs H _ e s r1 _ fun σ1 e1 l1 n1 => k σ1 Hs H _ e1 s r2 _ fun σ2 e2 l2 n2 => q σ2 e2 (l2.trans l1) fun i hi => ?_⟩
    rw [n2 i (fun z => hi (List.mem_append_right _ z)), n1 i (fun z => hi (List.mem_append_left _ z))]
theorem yg_tup {n : Nat} {gs : TGs} {sl : List Nat} {ds : List PyData} (k : YGs K gs sl ρ ds ρ1) (hn : ds.length = n) : YG K (gTup K n gs) sl ρ (.tuple ds) ρ1 := fun σ Hs H v e s r Q q => by
  cases r with
  | tup hs ha => exact ⟨_, _, rfl, sqT_mono s hs, by rw [ha.len]; exact hn, k σ Hs H _ e s ha Q q⟩
/-- a, b = x, y -/
theorem yn_par {i j : Nat} {ta : TA} {d1 d2 : PyData} (h : YA K ta ρ [d1, d2]) : YN K (tPar i j ta) [i, j] ρ ((ρ.set i (some d1)).set j (some d2)) := fun σ Hs H e s D q =>
  h σ Hs H e s _ fun vs Hs1 H1 g1 r1 => by
    cases r1 with
    | cons r1 r2 => cases r2 with
      | cons r2 r3 => cases r3; exact ⟨_, _, rfl, q _ Hs1 H1 g1 (((e.mono g1.a).set i r1).set j r2) fun k hk => by
        rw [List.getElem?_set_ne (fun z => hk (by simp [z])), List.getElem?_set_ne (fun z => hk (by simp [z]))]⟩
end

/-! ### what is walked -/
def WalkD (K : PySem.W.Frag) (J : It) (Hs1 : Hp) (ds : List PyData) : Prop := ∀ (i : Nat) (Hs2 H2 : Hp), Same Hs1 Hs2 → Same Hs2 H2 →
  (∀ d, ds[i]? = some d → J.go i H2 ∧ ∀ x H', J.yld i H2 x H' → ∃ Hs3, Gr Hs2 H2 Hs3 H' ∧ Rp K Hs3 x d) ∧ (ds.length ≤ i → J.stop i H2)
def YI (K : PySem.W.Frag) (wi : TI) (ρ : Rho) (ds : List PyData) : Prop := ∀ (σ : L2.St) (Hs H : Hp), EnvD K Hs σ ρ → Same Hs H → ∀ R : It → Hp → Prop, (∀ J Hs1 H1, Gr Hs H Hs1 H1 → WalkD K J Hs1 ds → R J H1) → wi σ H R
section
variable {K : PySem.W.Frag} {ρ ρ1 ρ2 : Rho} {te : TE} {d : PyData} {ds : List PyData}
theorem walk_lst {a : Addr} {xs : List V} {Hs : Hp} (h : Hs a = some (.lst xs)) (k : RpAll K Hs xs ds) : WalkD K (Itl K a) Hs ds := fun i Hs2 H2 s1 s2 => by
  have h2 : SqL K H2 a xs := sqL_mono (s1.trans s2) h
  refine ⟨fun d e => ?_, fun hl => ⟨xs, h2, by rw [k.len]; exact hl⟩⟩
  obtain ⟨v, e1, r⟩ := k.getD e
  refine ⟨⟨xs, v, h2, e1⟩, fun x H' y => ?_⟩
  obtain ⟨rfl, y⟩ := y
  have : v = x := Option.some.inj (e1.symm.trans (y xs h2))
  subst this
  exact ⟨Hs2, Gr.refl s2, r.mono s1⟩
theorem walk_tup {a : Addr} {xs : List V} {Hs : Hp} (h : Hs a = some (.tup xs)) (k : RpAll K Hs xs ds) : WalkD K (Itt K a) Hs ds := fun i Hs2 H2 s1 s2 => by
  have h2 : SqT K H2 a xs := sqT_mono (s1.trans s2) h
  refine ⟨fun d e => ?_, fun hl => ⟨xs, h2, by rw [k.len]; exact hl⟩⟩
  obtain ⟨v, e1, r⟩ := k.getD e
  refine ⟨⟨xs, v, h2, e1⟩, fun x H' y => ?_⟩
  obtain ⟨rfl, y⟩ := y
  have : v = x := Option.some.inj (e1.symm.trans (y xs h2))
  subst this
  exact ⟨Hs2, Gr.refl s2, r.mono s1⟩
theorem yi_list (h : YD K te ρ (.list ds)) : YI K (iList K te) ρ ds := fun σ Hs H e s R q => h σ Hs H e s _ fun v Hs1 H1 g1 r1 => by
  cases r1 with
  | lst hs ha => exact ⟨_, rfl, ⟨_, sqL_mono g1.c hs⟩, q _ Hs1 H1 g1 (walk_lst hs ha)⟩
theorem yi_tup (h : YD K te ρ (.tuple ds)) : YI K (iTup K te) ρ ds := fun σ Hs H e s R q => h σ Hs H e s _ fun v Hs1 H1 g1 r1 => by
  cases r1 with
  | tup hs ha => exact ⟨_, rfl, ⟨_, sqT_mono g1.c hs⟩, q _ Hs1 H1 g1 (walk_tup hs ha)⟩
def rgD (lo : Int) (n : Nat) : List PyData := (List.range n).map fun (i : Nat) => .int (lo + (i : Int))
theorem rgD_get {lo : Int} {n i : Nat} (h : i < n) : (rgD lo n)[i]? = some (.int (lo + (i : Int))) := by
  unfold rgD
  rw [List.getElem?_map, List.getElem?_range h]
  rfl
theorem rgD_len {lo : Int} {n : Nat} : (rgD lo n).length = n := by
  unfold rgD
  rw [List.length_map, List.length_range]
theorem walk_rng {lo : Int} {n : Nat} {Hs : Hp} : WalkD K (Itr lo n) Hs (rgD lo n) := fun i Hs2 H2 s1 s2 => by
  refine ⟨fun d e => ?_, fun hl => by rw [rgD_len] at hl; exact hl⟩
  have hi : i < n := by
    have := (List.getElem?_eq_some_iff.mp e).1
    rwa [rgD_len] at this
  rw [rgD_get hi] at e
  refine ⟨hi, fun x H' y => ?_⟩
  obtain ⟨rfl, rfl⟩ := y
  cases Option.some.inj e
  exact ⟨Hs2, Gr.refl s2, .int _⟩
theorem yi_rng1 {ta : TA} {n : Int} (h : YA K ta ρ [.int n]) (h1 : n < 2 ^ 62) (h0 : -(2 ^ 62) ≤ n) : YI K (iRng1 ta) ρ (rgD 0 n.toNat) := fun σ Hs H e s R q => h σ Hs H e s _ fun vs Hs1 H1 g1 r1 => by
  cases r1 with
  | cons r1 r2 => cases r2; cases r1; exact ⟨n, rfl, h0, h1, q _ Hs1 H1 g1 walk_rng⟩
theorem yi_rng2 {ta : TA} {m n : Int} (h : YA K ta ρ [.int m, .int n]) (hb : -(2 ^ 62) ≤ m ∧ m < 2 ^ 62 ∧ -(2 ^ 62) ≤ n ∧ n < 2 ^ 62) : YI K (iRng2 ta) ρ (rgD m (n - m).toNat) := fun σ Hs H e s R q => h σ Hs H e s _ fun vs Hs1 H1 g1 r1 => by
  cases r1 with
  | cons r1 r2 => cases r2 with
    | cons r2 r3 => cases r3; cases r1; cases r2; exact ⟨m, n, rfl, hb, q _ Hs1 H1 g1 walk_rng⟩
def enumD (ds : List PyData) : List PyData := (List.range ds.length).zipWith (fun i d => .tuple [.int (i : Nat), d]) ds
theorem enumD_get {i : Nat} {d : PyData} : (enumD ds)[i]? = some d ↔ ∃ e, ds[i]? = some e ∧ d = .tuple [.int (i : Nat), e] := by
  unfold enumD
  rw [List.getElem?_zipWith]
  constructor
  · intro h
    cases e : ds[i]? with
    | none => rw [e] at h; cases h1 : (List.range ds.length)[i]? <;> rw [h1] at h <;> cases h
    | some x =>
      rw [e, List.getElem?_range (List.getElem?_eq_some_iff.mp e).1] at h
      exact ⟨x, rfl, (Option.some.inj h).symm⟩
  · rintro ⟨e, h, rfl⟩
    rw [h, List.getElem?_range (List.getElem?_eq_some_iff.mp h).1]
theorem enumD_len : (enumD ds).length = ds.length := by
  unfold enumD
  rw [List.length_zipWith, List.length_range, Nat.min_self]
theorem yi_enum {ta : TA} (h : YA K ta ρ [.list ds]) : YI K (iEnum K ta) ρ (enumD ds) := fun σ Hs H e s R q => h σ Hs H e s _ fun vs Hs1 H1 g1 r1 => by
  cases r1 with
  | cons r1 r2 =>
    cases r2
    cases r1 with
    | lst hs ha =>
      refine ⟨_, _, rfl, sqL_mono g1.c hs, q _ Hs1 H1 g1 fun i Hs2 H2 s1 s2 => ?_⟩
      have h2 := sqL_mono (K := K) (s1.trans s2) hs
      refine ⟨fun d e => ?_, fun hl => ⟨_, h2, by rw [ha.len]; rwa [enumD_len] at hl⟩⟩
      obtain ⟨x, ex, rfl⟩ := enumD_get.mp e
      obtain ⟨v, e1, r⟩ := ha.getD ex
      refine ⟨⟨_, v, h2, e1⟩, fun y H' yl => ?_⟩
      obtain ⟨T, z, rfl, hT, rfl, fz⟩ := yl
      have : v = z := Option.some.inj (e1.symm.trans (fz _ h2))
      subst this
      exact ⟨_, Gr.new s2 hT, rp_tup (H := H2) (same_none s2 hT) (.cons (.int _) (.cons (r.mono s1) .nil))⟩
def zipD (ds es : List PyData) : List PyData := ds.zipWith (fun d e => .tuple [d, e]) es
theorem yi_zip {ta : TA} {es : List PyData} (h : YA K ta ρ [.list ds, .list es]) : YI K (iZip K ta) ρ (zipD ds es) := fun σ Hs H e s R q => h σ Hs H e s _ fun vs Hs1 H1 g1 r1 => by
  cases r1 with
  | cons r1 r2 =>
    cases r2 with
    | cons r2 r3 =>
      cases r3
      cases r1 with
      | lst hs ha =>
        cases r2 with
        | lst ks ka =>
          refine ⟨_, _, _, _, rfl, sqL_mono g1.c hs, sqL_mono g1.c ks, q _ Hs1 H1 g1 fun i Hs2 H2 s1 s2 => ?_⟩
          have h2 := sqL_mono (K := K) (s1.trans s2) hs
          have k2 := sqL_mono (K := K) (s1.trans s2) ks
          refine ⟨fun d e => ?_, fun hl => ⟨_, _, h2, k2, ?_⟩⟩
          · unfold zipD at e
            rw [List.getElem?_zipWith] at e
            cases e1 : ds[i]? with
            | none => rw [e1] at e; cases e2 : es[i]? <;> rw [e2] at e <;> cases e
            | some x =>
              cases e2 : es[i]? with
              | none => rw [e1, e2] at e; cases e
              | some y =>
                rw [e1, e2] at e
                cases Option.some.inj e
                obtain ⟨v, f1, r⟩ := ha.getD e1
                obtain ⟨w, f2, r'⟩ := ka.getD e2
                refine ⟨⟨_, _, v, w, h2, k2, f1, f2⟩, fun z H' yl => ?_⟩
                obtain ⟨T, z1, z2, rfl, hT, rfl, fz1, fz2⟩ := yl
                have : v = z1 := Option.some.inj (f1.symm.trans (fz1 _ h2))
                subst this
                have : w = z2 := Option.some.inj (f2.symm.trans (fz2 _ k2))
                subst this
                exact ⟨_, Gr.new s2 hT, rp_tup (H := H2) (same_none s2 hT) (.cons (r.mono s1) (.cons (r'.mono s1) .nil))⟩
          · unfold zipD at hl
            rw [List.length_zipWith] at hl
            rw [ha.len, ka.len]
            omega
end

/-! ### comprehensions -/
section
variable {K : PySem.W.Frag} {ρ : Rho}
/-- [e for g in wi if tt]: b and f tell of each one whether it is taken, and what it gives -/
theorem yd_lcM {α : Type} {wi : TI} {g : TG} {tt : TT} {te : TE} {vs sl : List Nat} {xs : List α} (mk : α → PyData) (b : α → Bool) (f : α → PyData) (ρ' : α → Rho) (hi : YI K wi ρ (xs.map mk)) (hl : xs.length ≤ 50000) (hsl : ∀ i ∈ sl, i ∈ vs)
    (hg : ∀ d ∈ xs, YG K g sl (wipeD ρ vs) (mk d) (ρ' d)) (ht : ∀ d ∈ xs, YT K tt (ρ' d) (b d)) (he : ∀ d ∈ xs, b d = true → YD K te (ρ' d) (f d)) : YD K (tLc wi g tt te vs) ρ (.list ((xs.filter b).map f)) := by
  intro σ Hs H e s Q q
  refine hi σ Hs H e s _ fun J Hs1 H1 g1 wk D hD => ?_
  have hD1 : Hs1 D = none := same_none g1.c hD
  have hD0 : H D = none := same_none g1.b hD
  -- after i turns
  refine ⟨fun i m H' => i + m = xs.length ∧ ∃ Hs' acc, Gr Hs H Hs' H' ∧ Same Hs1 Hs' ∧ Hs' D = none ∧ H' D = some (.lst acc) ∧ RpAll K Hs' acc (((xs.take i).filter b).map f), ⟨xs.length, by omega, Hs1, [], (g1.trans (Gr.fresh g1.c hD)), Same.refl _, hD1, upd_same, .nil⟩, ?_⟩
  rintro i m H' ⟨him, Hs', acc, gr, s1, hDs, hDl, ra⟩
  obtain ⟨w1, w2⟩ := wk i Hs' H' s1 gr.c
  by_cases hlt : i < xs.length
  · right
    have hd : xs[i]? = some xs[i] := List.getElem?_eq_getElem hlt
    have hm : xs[i] ∈ xs := List.getElem_mem hlt
    obtain ⟨go, yl⟩ := w1 (mk xs[i]) (by rw [List.getElem?_map, hd]; rfl)
    have et : xs.take (i + 1) = xs.take i ++ [xs[i]] := by rw [List.take_add_one, hd]; rfl
    refine ⟨go, fun H'' => i + 1 + (m - 1) = xs.length ∧ ∃ Hs' acc, Gr Hs H Hs' H'' ∧ Same Hs1 Hs' ∧ Hs' D = none ∧ H'' D = some (.lst acc) ∧ RpAll K Hs' acc (((xs.take (i + 1)).filter b).map f), fun H'' nx => ⟨m - 1, by omega, nx⟩, fun x H2 hy => ?_⟩
    obtain ⟨Hs2, gr2, rx⟩ := yl x H2 hy
    have hDH' : Mu (H' D) := by rw [hDl]; trivial
    have hDs2 : Hs2 D = none := gr2.d D hDH' hDs
    refine hg _ hm (wipe σ vs) Hs2 H2 x ((e.mono (gr.a.trans gr2.a)).wipe vs) gr2.c rx _ fun σ2 e2 l2 n2 => ⟨?_, ?_⟩
    · have : wipe σ2 vs = wipe (wipe σ vs) vs := wipe_ext l2 fun j hj => n2 j fun z => hj (hsl j z)
      rw [this]
      exact wipe_ext (wipe_length _ _) fun j hj => wipe_out hj
    · refine ht _ hm σ2 Hs2 H2 e2 gr2.c _ fun Hs3 H3 gr3 => ?_
      have hDH2 : Mu (H2 D) := hDH'.same gr2.b
      have hDs3 : Hs3 D = none := gr3.d D hDH2 hDs2
      have hl3 : H3 D = some (.lst acc) := gr3.b _ _ (gr2.b _ _ hDl)
      cases hb : b xs[i] with
      | true =>
        rw [if_pos rfl]
        refine he _ hm hb σ2 Hs3 H3 (e2.mono gr3.a) gr3.c _ fun y Hs4 H4 gr4 ry => ?_
        have hDH3 : Mu (H3 D) := by rw [hl3]; trivial
        have hDs4 : Hs4 D = none := gr4.d D hDH3 hDs3
        have hl4 : H4 D = some (.lst acc) := gr4.b _ _ hl3
        have hal : acc.length ≤ xs.length := by
          rw [ra.len, List.length_map]
          exact Nat.le_trans (List.length_filter_le _ _) (by rw [List.length_take]; omega)
        refine ⟨acc, hl4, sz_lt (by omega), by omega, Hs4, acc ++ [y], (((gr.trans gr2).trans gr3).trans gr4).mut hD0 hDs4, (s1.trans (gr2.a.trans (gr3.a.trans gr4.a))), hDs4, upd_same, ?_⟩
        rw [et, List.filter_append, List.map_append]
        have : ([xs[i]].filter b).map f = [f xs[i]] := by simp [hb]
        rw [this]
        exact (ra.mono (gr2.a.trans (gr3.a.trans gr4.a))).snoc ry
      | false =>
        rw [if_neg (by decide)]
        refine ⟨by omega, Hs3, acc, (gr.trans gr2).trans gr3, s1.trans (gr2.a.trans gr3.a), hDs3, hl3, ?_⟩
        rw [et, List.filter_append, List.map_append]
        have : ([xs[i]].filter b).map f = [] := by simp [hb]
        rw [this, List.append_nil]
        exact ra.mono (gr2.a.trans gr3.a)
  · left
    refine ⟨w2 (by rw [List.length_map]; omega), ?_⟩
    have hei : xs.take i = xs := List.take_of_length_le (by omega)
    rw [hei] at ra
    refine q _ (upd Hs' D (.lst acc)) H' (gr.settle hD0 hDl hDs) (rp_lst (H := H') hDs ra)
/-- .. without a test -/
theorem yd_lc0 {α : Type} {wi : TI} {g : TG} {te : TE} {vs sl : List Nat} {xs : List α} (mk : α → PyData) (f : α → PyData) (ρ' : α → Rho) (hi : YI K wi ρ (xs.map mk)) (hl : xs.length ≤ 50000) (hsl : ∀ i ∈ sl, i ∈ vs)
    (hg : ∀ d ∈ xs, YG K g sl (wipeD ρ vs) (mk d) (ρ' d)) (he : ∀ d ∈ xs, YD K te (ρ' d) (f d)) : YD K (tLc wi g tYes te vs) ρ (.list (xs.map f)) :=
  (yd_lcM mk (fun _ => true) f ρ' hi hl hsl hg (fun _ _ => yt_yes) fun d hd _ => he d hd).eq (by rw [List.filter_eq_self.mpr (fun _ _ => rfl)])
theorem YI.eq {wi : TI} {ds ds' : List PyData} (h : YI K wi ρ ds) (e : ds = ds') : YI K wi ρ ds' := e ▸ h
end
end SG
set_option Elab.async false
set_option linter.all false
set_option maxRecDepth 100000
set_option maxHeartbeats 4000000
namespace SG
open PySem PySem.Spec PyProof.Rows L2

/-! ### defs: data in, a datum out, nothing changed -/
def spD (K : PySem.W.Frag) (R : List PyData → PyData → Prop) : Sp := fun vs H Q _ => ∃ ds d Hs, R ds d ∧ Same Hs H ∧ RpAll K Hs vs ds ∧ ∀ v Hs2 H2, Gr Hs H Hs2 H2 → Rp K Hs2 v d → Q v H2
/-- .. or an error of the class X names -/
def spX (K : PySem.W.Frag) (R : List PyData → PyData → Prop) (X : List PyData → Addr → Prop) : Sp := fun vs H Q E => ∃ ds Hs, Same Hs H ∧ RpAll K Hs vs ds ∧
  ((∃ d, R ds d ∧ ∀ v Hs2 H2, Gr Hs H Hs2 H2 → Rp K Hs2 v d → Q v H2) ∨ (∃ C, X ds C ∧ ∀ Hs2 H2, Gr Hs H Hs2 H2 → E (.ref C) none H2))
section
variable {K : PySem.W.Frag} {ρ : Rho} {R : List PyData → PyData → Prop} {ta : TA} {E : XK} {ds : List PyData} {d : PyData}
theorem yd_call (h : YA K ta ρ ds) (hr : R ds d) : YD K (tCall (spD K R) [] E ta) ρ d := fun σ Hs H e s Q q => h σ Hs H e s _ fun vs Hs1 H1 g1 r1 =>
  ⟨ds, d, Hs1, hr, g1.c, by rw [List.append_nil]; exact r1, fun v Hs2 H2 g2 r2 => q v Hs2 H2 (g1.trans g2) r2⟩
def startD (N : List Str) (ds : List PyData) : Rho := ds.map some ++ List.replicate (N.length - ds.length) none
theorem env_start {N : List Str} {Hs : Hp} {vs : List V} (h : RpAll K Hs vs ds) : EnvD K Hs (L2.start N vs) (startD N ds) := by
  unfold L2.start startD
  refine ⟨by simp [h.len], fun i e q => ?_⟩
  by_cases hi : i < ds.length
  · rw [List.getElem?_append_left (by rw [List.length_map]; exact hi), List.getElem?_map] at q
    rw [List.getElem?_append_left (by rw [List.length_map, h.len]; exact hi), List.getElem?_map]
    cases e1 : ds[i]? with
    | none => rw [e1] at q; cases q
    | some y =>
      rw [e1] at q
      have : y = e := Option.some.inj (Option.some.inj q)
      subst this
      obtain ⟨v, e2, r⟩ := h.getD e1
      exact ⟨v, by rw [e2]; rfl, r⟩
  · rw [List.getElem?_append_right (by rw [List.length_map]; omega), List.getElem?_replicate] at q
    split at q <;> cases q
end
/-- a def by its name -/
structure Cal (P : Program) (w : World) (K : PySem.W.Frag) (mg : Str → Option Value) (base : Heap) (CX : CXT) (k : Nat) (x : Str) (sp : Sp) : Prop where
  ex : ∃ (f : Addr) (fd : FuncData) (ps : List Str), FnOk P w K mg base CX k f fd ps sp ∧ mg x = some (.ref f) ∧ PySem.W.keepIn K (.ref f) = true ∧ Binds K fd ps []
theorem pe_d {X : Cx} {k j : Nat} {x : Str} {sp : Sp} {e : Expr} {es : List Expr} {t : TA} {p pos : Pos} (c : Cal X.prog X.w X.K X.mg X.base CX0 k x sp) (hr : Room j X.A) (hk : k ≤ j) (hg : Gl X x) (ha : PA X (e :: es) t)
    (hd : (x == ("__debug__" : Str)) = false := by decide) (he : starEach (e :: es) X.env = (false, eval e X.env) :: starEach es X.env := by rfl) (hpl : ((backTo pos (starEach es X.env)).any fun x => x.fst) = false := by rfl) : PE X (.Call (.Name x p) (e :: es) [] pos) (tCall sp [] E0 t) := by
  obtain ⟨f, fd, ps, F, hm, hkp, hb⟩ := c.ex
  exact pe_call (F.mono hk) hr hg hm hkp hb .nil pass0 ha hd he hpl
theorem pe_gi {X : Cx} {x : Str} {pos : Pos} {i : Int} (hg : Gl X x) (h : ∃ t, X.mg x = some (.int i t)) (hd : (x == ("__debug__" : Str)) = false := by decide) : PE X (.Name x pos) (tC (.int i)) := by
  obtain ⟨t, h⟩ := h
  exact pe_glob hg h ⟨t, rfl⟩ hd
theorem pe_ty {X : Cx} {x : Str} {pos : Pos} {n : String} (hg : Gl X x) (hm : X.mg x = none) (hv : bootBuiltins x = some (.type n)) (hn : x ≠ ("__name__" : Str) := by decide) (hd : (x == ("__debug__" : Str)) = false := by decide) : PE X (.Name x pos) (tC (.ty n)) := pe_bltn hg hm hv rfl hn hd
/-- the rule of a def that lets nothing out -/
theorem okD {P : Program} {w : World} {K : PySem.W.Frag} {mg : Str → Option Value} {base : Heap} {x qual : Str} {params : Arguments} {body : List Stmt} {scope : Scope} {f : Addr} {fd : FuncData} {N ps : List Str} {k : Nat} {R : List PyData → PyData → Prop}
    (F : FunD K x qual params body scope [] [] f fd) (S : FnScope N ps scope) (len : ∀ ds d, R ds d → ds.length = ps.length)
    (hbody : ∀ (cdv : Value) (A : Around) (outer : List Env) (s : Shared) (H : Hp) (E : XK), Room k (A.deeper (envOfC qual scope s.heap.objs.size f cdv)) →
      ∃ t, PSs (cxOf CX0 P w K mg base N qual scope f cdv A outer s H E).nox body t ∧ ∀ ds d, R ds d → YR K t (startD N ds) d) : FnOk P w K mg base CX0 (k + 1) f fd ps (spD K R) := by
  refine F.ok S (fun vs H Q E h => ?_) (fun cdv A outer s H vs Q E hr h => ?_)
  · obtain ⟨ds, d, Hs, hR, _, hp, _⟩ := h
    rw [hp.len]
    exact len ds d hR
  · obtain ⟨ds, d, Hs, hR, hs, hp, q⟩ := h
    obtain ⟨t, h1, h2⟩ := hbody cdv A outer s H E hr
    exact ⟨t, h1.nox, h2 ds d hR _ Hs H (env_start hp) hs _ q⟩
theorem cal_of {P : Program} {w : World} {K : PySem.W.Frag} {mg : Str → Option Value} {base : Heap} {CX : CXT} {x y qual : Str} {params : Arguments} {body : List Stmt} {scope : Scope} {f : Addr} {fd : FuncData} {ps : List Str} {k : Nat} {sp : Sp}
    (F : FunD K y qual params body scope [] [] f fd) (m : mg x = some (.ref f)) (o : FnOk P w K mg base CX k f fd ps sp)
    (h : ∀ (kV doc pm : Value) (an : Option Addr) (cdv ct : Value) (us : List Value), us.length = ps.length → bindArgs (PySem.W.fnOf y qual params body scope .none kV doc pm an cdv ct) ⟨us, []⟩ = pure (ps.zip us)) : Cal P w K mg base CX k x sp :=
  ⟨f, fd, ps, o, m, F.kp, F.bindsN h⟩
/-! ### loops -/
/-- for g in wi: tb, by a word of the turn, the slots, what is settled, the heap -/
theorem y_for {K : PySem.W.Frag} {ρ : Rho} {wi : TI} {g : TG} {tb : TS} {ds : List PyData} {D : Ends} {σ : L2.St} {Hs H : Hp} (hi : YI K wi ρ ds) (e : EnvD K Hs σ ρ) (s : Same Hs H)
    (k : ∀ Hs1 H1, Gr Hs H Hs1 H1 → ∃ Pv : Nat → L2.St → Hp → Hp → Prop, Pv 0 σ Hs1 H1 ∧ (∀ i σ' Hs' H', Pv i σ' Hs' H' → Same Hs1 Hs' ∧ Same Hs' H') ∧
      (∀ i d σ' Hs' H', ds[i]? = some d → Pv i σ' Hs' H' → ∀ x Hs2 H2, Gr Hs' H' Hs2 H2 → Rp K Hs2 x d → g x σ' H2 fun σ2 H3 => tb { D with nx := fun σ3 H4 => ∃ Hs4, Pv (i + 1) σ3 Hs4 H4, ct := fun σ3 H4 => ∃ Hs4, Pv (i + 1) σ3 Hs4 H4, bk := D.nx } σ2 H3) ∧
      ∀ σ' Hs' H', Pv ds.length σ' Hs' H' → D.nx σ' H') : tFor wi g tb D σ H := by
  refine hi σ Hs H e s _ fun J Hs1 H1 g1 wk => ?_
  obtain ⟨Pv, p0, hG, hs, hd⟩ := k Hs1 H1 g1
  refine ⟨fun i m σ' H' => i + m = ds.length ∧ ∃ Hs', Pv i σ' Hs' H', ⟨ds.length, by omega, Hs1, p0⟩, ?_⟩
  rintro i m σ' H' ⟨him, Hs', p⟩
  obtain ⟨s1, sc⟩ := hG i σ' Hs' H' p
  obtain ⟨w1, w2⟩ := wk i Hs' H' s1 sc
  by_cases hlt : i < ds.length
  · right
    have hd1 : ds[i]? = some ds[i] := List.getElem?_eq_getElem hlt
    obtain ⟨go, yl⟩ := w1 _ hd1
    refine ⟨go, fun σ3 H4 => ∃ Hs4, Pv (i + 1) σ3 Hs4 H4, fun σ3 H4 nx => ⟨m - 1, by omega, by omega, nx⟩, fun x H2 hy => ?_⟩
    obtain ⟨Hs2, gr2, rx⟩ := yl x H2 hy
    exact hs i _ σ' Hs' H' hd1 p x Hs2 H2 gr2 rx
  · left
    have : i = ds.length := by omega
    subst this
    exact ⟨w2 (Nat.le_refl _), hd σ' Hs' H' p⟩
/-! loops without a state: each turn goes on or returns -/
theorem EnvD.weak {K : PySem.W.Frag} {Hs : Hp} {σ : L2.St} {ρ ρ' : Rho} (h : EnvD K Hs σ ρ) (hl : ρ'.length = ρ.length) (hw : ∀ (i : Nat) d, ρ'[i]? = some (some d) → ρ[i]? = some (some d)) : EnvD K Hs σ ρ' :=
  ⟨h.1.trans hl.symm, fun i d q => h.2 i d (hw i d q)⟩
/-- below, slot by slot -/
def subR : Rho → Rho → Prop
  | [], [] => True
  | none :: r, _ :: r' => subR r r'
  | some d :: r, some d' :: r' => d = d' ∧ subR r r'
  | _, _ => False
theorem subR_of : ∀ {r r' : Rho}, subR r r' → r.length = r'.length ∧ ∀ (i : Nat) d, r[i]? = some (some d) → r'[i]? = some (some d)
  | [], [], _ => ⟨rfl, fun i d h => by simp at h⟩
  | none :: r, x :: r', h => by
    obtain ⟨a, b⟩ := subR_of (r := r) (r' := r') h
    refine ⟨by simp [a], fun i d q => ?_⟩
    cases i with
    | zero => simp at q
    | succ i => simpa using b i d (by simpa using q)
  | some e :: r, some e' :: r', h => by
    obtain ⟨rfl, h⟩ := h
    obtain ⟨a, b⟩ := subR_of (r := r) (r' := r') h
    refine ⟨by simp [a], fun i d q => ?_⟩
    cases i with
    | zero => simpa using q
    | succ i => simpa using b i d (by simpa using q)
theorem EnvD.sub {K : PySem.W.Frag} {Hs : Hp} {σ : L2.St} {ρ ρ' : Rho} (h : EnvD K Hs σ ρ) (hs : subR ρ' ρ) : EnvD K Hs σ ρ' := by
  obtain ⟨a, b⟩ := subR_of hs
  exact h.weak a b
theorem yn_sub {K : PySem.W.Frag} {t : TS} {sl : List Nat} {ρ ρ1 ρ2 : Rho} (h : YN K t sl ρ ρ1) (hs : subR ρ2 ρ1) : YN K t sl ρ ρ2 := fun σ Hs H e s D q => h σ Hs H e s D fun σ' Hs2 H2 g e' n => q σ' Hs2 H2 g (e'.sub hs) n
theorem yr_for {α : Type} {K : PySem.W.Frag} {ρ ρw : Rho} {wi : TI} {g : TG} {tb u : TS} {xs : List α} {sl sl2 : List Nat} {d : PyData} (mk : α → PyData) (o : α → Option PyData) (ρ' : α → Rho) (hi : YI K wi ρ (xs.map mk)) (hw : subR ρw ρ)
    (hg : ∀ x ∈ xs, YG K g sl ρw (mk x) (ρ' x)) (hn : ∀ x ∈ xs, o x = none → YN K tb sl2 (ρ' x) ρw) (hr : ∀ x ∈ xs, ∀ r, o x = some r → YR K tb (ρ' x) r)
    (h1 : ∀ r, xs.findSome? o = some r → r = d) (h2 : xs.findSome? o = none → YR K u ρw d) : YR K (tSeq (tFor wi g tb) u) ρ d := by
  intro σ Hs H e s D q
  refine y_for (D := { D with nx := u D }) hi e s fun Hs1 H1 g1 => ⟨fun i σ' Hs' H' => Gr Hs H Hs' H' ∧ Same Hs1 Hs' ∧ EnvD K Hs' σ' ρw ∧ ∀ x ∈ xs.take i, o x = none, ⟨g1, Same.refl _, (e.mono g1.a).sub hw, by simp⟩, fun i σ' Hs' H' p => ⟨p.2.1, p.1.c⟩, ?_, ?_⟩
  · rintro i z σ' Hs' H' hz ⟨gr, s1, e1, hno⟩ v Hs2 H2 g2 rv
    rw [List.getElem?_map] at hz
    obtain ⟨x, hx, rfl⟩ := Option.map_eq_some_iff.mp hz
    have hm : x ∈ xs := List.mem_of_getElem? hx
    refine hg x hm σ' Hs2 H2 v (e1.mono g2.a) g2.c rv _ fun σ2 e2 _ _ => ?_
    cases ho : o x with
    | none =>
      refine hn x hm ho σ2 Hs2 H2 e2 g2.c _ fun σ3 Hs3 H3 g3 e3 _ => ⟨Hs3, (gr.trans g2).trans g3, s1.trans (g2.a.trans g3.a), e3, fun y hy => ?_⟩
      rw [List.take_add_one, hx] at hy
      rcases List.mem_append.mp hy with hy | hy
      · exact hno y hy
      · have : y = x := by simpa using hy
        rw [this]
        exact ho
    | some r =>
      have hi2 : i < xs.length := (List.getElem?_eq_some_iff.mp hx).1
      have e0 : xs.findSome? o = some r := by
        have ed : xs = xs.take i ++ x :: xs.drop (i + 1) := by
          have hxe : x = xs[i] := (Option.some.inj ((List.getElem?_eq_getElem hi2).symm.trans hx)).symm
          rw [hxe, List.getElem_cons_drop, List.take_append_drop]
        rw [ed, List.findSome?_append, List.findSome?_eq_none_iff.mpr (by simpa using hno), List.findSome?_cons, ho]
        rfl
      have : r = d := h1 r e0
      subst this
      exact hr x hm r ho σ2 Hs2 H2 e2 g2.c _ fun w Hs3 H3 g3 r3 => q w Hs3 H3 ((gr.trans g2).trans g3) r3
  · rintro σ' Hs' H' ⟨gr, s1, e1, hno⟩
    rw [List.length_map] at hno
    have e0 : xs.findSome? o = none := List.findSome?_eq_none_iff.mpr (by
      rw [List.take_of_length_le (Nat.le_refl _)] at hno
      simpa using hno)
    exact h2 e0 σ' Hs' H' e1 gr.c D fun w Hs3 H3 g3 r3 => q w Hs3 H3 (gr.trans g3) r3
end SG
set_option Elab.async false
set_option linter.all false
set_option maxRecDepth 100000
set_option maxHeartbeats 4000000
namespace SG
open PySem PySem.Spec PyProof.Rows L2

/-! ### built-in functions -/
def rLenS (K : PySem.W.Frag) : List V → Hp → VK → Prop := fun xs H Q => ∃ p ys, xs = [.ref p] ∧ (SqL K H p ys ∨ SqT K H p ys) ∧ Q (.int ys.length) H
theorem call_lenS {X : Cx} : CallR X (.builtin "len") (rLenS X.K) := call_len_seq
def rListS (K : PySem.W.Frag) : List V → Hp → VK → Prop := fun xs H Q => ∃ p ys, xs = [.ref p] ∧ (SqL K H p ys ∨ SqT K H p ys) ∧ ∀ l, H l = none → Q (.ref l) (upd H l (.lst ys))
theorem call_listS {X : Cx} : CallR X (.type "list") (rListS X.K) := call_list_of
def rMin2 : List V → Hp → VK → Prop := fun xs H Q => ∃ i j, xs = [.int i, .int j] ∧ Q (.int (if j < i then j else i)) H
def rMax2 : List V → Hp → VK → Prop := fun xs H Q => ∃ i j, xs = [.int i, .int j] ∧ Q (.int (if j > i then j else i)) H
theorem call_min2' {X : Cx} (hc : X.calm = true) : CallR X (.builtin "min") rMin2 := call_min2 hc
theorem call_max2' {X : Cx} (hc : X.calm = true) : CallR X (.builtin "max") rMax2 := call_max2 hc
def rAbs : List V → Hp → VK → Prop := fun xs H Q => ∃ i, xs = [.int i] ∧ Q (.int (if i < 0 then -i else i)) H
theorem call_abs' {X : Cx} : CallR X (.builtin "abs") rAbs := call_abs
section
variable {K : PySem.W.Frag} {ρ : Rho} {ta : TE}
theorem rc_lenL {ds : List PyData} : RC K (rLenS K) [.list ds] (.int ds.length) := fun vs Hs H s h Q q => by
  cases h with
  | cons h1 h2 => cases h2; cases h1 with
    | lst hs ha => exact ⟨_, _, rfl, .inl (sqL_mono s hs), by rw [ha.len]; exact q _ Hs H (Gr.refl s) (.int _)⟩
theorem rc_lenT {ds : List PyData} : RC K (rLenS K) [.tuple ds] (.int ds.length) := fun vs Hs H s h Q q => by
  cases h with
  | cons h1 h2 => cases h2; cases h1 with
    | tup hs ha => exact ⟨_, _, rfl, .inr (sqT_mono s hs), by rw [ha.len]; exact q _ Hs H (Gr.refl s) (.int _)⟩
theorem rc_listL {ds : List PyData} : RC K (rListS K) [.list ds] (.list ds) := fun vs Hs H s h Q q => by
  cases h with
  | cons h1 h2 => cases h2; cases h1 with
    | lst hs ha => exact ⟨_, _, rfl, .inl (sqL_mono s hs), fun l hl => q _ _ _ (Gr.new s hl) (rp_lst (H := H) (same_none s hl) ha)⟩
theorem rc_min {i j : Int} : RC K rMin2 [.int i, .int j] (.int (min i j)) := fun vs Hs H s h Q q => by
  cases h with
  | cons h1 h2 => cases h2 with
    | cons h2 h3 =>
      cases h3; cases h1; cases h2
      refine ⟨i, j, rfl, ?_⟩
      have : (if j < i then j else i) = min i j := by omega
      rw [this]
      exact q _ Hs H (Gr.refl s) (.int _)
theorem rc_max {i j : Int} : RC K rMax2 [.int i, .int j] (.int (max i j)) := fun vs Hs H s h Q q => by
  cases h with
  | cons h1 h2 => cases h2 with
    | cons h2 h3 =>
      cases h3; cases h1; cases h2
      refine ⟨i, j, rfl, ?_⟩
      have : (if j > i then j else i) = max i j := by omega
      rw [this]
      exact q _ Hs H (Gr.refl s) (.int _)
theorem rc_abs {i : Int} : RC K rAbs [.int i] (.int (i.natAbs : Int)) := fun vs Hs H s h Q q => by
  cases h with
  | cons h1 h2 =>
    cases h2; cases h1
    refine ⟨i, rfl, ?_⟩
    have : (if i < 0 then -i else i) = (i.natAbs : Int) := by omega
    rw [this]
    exact q _ Hs H (Gr.refl s) (.int _)
theorem rc_all {bs : List Bool} : RC K (rAll K) [.list (bs.map PyData.bool)] (.bool (bs.all id)) := fun vs Hs H s h Q q => by
  cases h with
  | cons h1 h2 => cases h2; cases h1 with
    | lst hs ha =>
      have := ha.bools_eq
      subst this
      exact ⟨_, bs, rfl, sqL_mono s hs, q _ Hs H (Gr.refl s) (.bl _)⟩
theorem rc_any {bs : List Bool} : RC K (rAny K) [.list (bs.map PyData.bool)] (.bool (bs.any id)) := fun vs Hs H s h Q q => by
  cases h with
  | cons h1 h2 => cases h2; cases h1 with
    | lst hs ha =>
      have := ha.bools_eq
      subst this
      exact ⟨_, bs, rfl, sqL_mono s hs, q _ Hs H (Gr.refl s) (.bl _)⟩
theorem rc_sum {ns : List Int} : RC K (rSum K) [.list (ns.map PyData.int)] (.int ns.sum) := fun vs Hs H s h Q q => by
  cases h with
  | cons h1 h2 => cases h2; cases h1 with
    | lst hs ha =>
      have := ha.ints_eq
      subst this
      exact ⟨_, ns, rfl, sqL_mono s hs, q _ Hs H (Gr.refl s) (.int _)⟩
theorem yd_all {α : Type} {xs : List α} {p : α → Bool} (h : YD K ta ρ (.list (xs.map fun x => .bool (p x)))) : YD K (tCB (rAll K) (tCons ta tNil)) ρ (.bool (xs.all p)) :=
  (yd_cb (ya_cons (h.eq (show PyData.list (xs.map fun x => .bool (p x)) = .list ((xs.map p).map .bool) by rw [List.map_map]; rfl)) ya_nil) rc_all).eq (by rw [List.all_map]; rfl)
theorem yd_any {α : Type} {xs : List α} {p : α → Bool} (h : YD K ta ρ (.list (xs.map fun x => .bool (p x)))) : YD K (tCB (rAny K) (tCons ta tNil)) ρ (.bool (xs.any p)) :=
  (yd_cb (ya_cons (h.eq (show PyData.list (xs.map fun x => .bool (p x)) = .list ((xs.map p).map .bool) by rw [List.map_map]; rfl)) ya_nil) rc_any).eq (by rw [List.any_map]; rfl)
theorem cutD_from {xs : List PyData} (j : Nat) : cutD xs (some (j : Int)) none = xs.drop j := by
  unfold cutD
  rw [show HT.sIx xs.length 0 (some (j : Int)) = min j xs.length from HT.sIx_nat xs.length 0 j, HT.sIx_none]
  rcases Nat.le_total j xs.length with h | h
  · rw [Nat.min_eq_left h]
    exact List.take_of_length_le (by rw [List.length_drop]; omega)
  · rw [Nat.min_eq_right h, Nat.sub_self, List.take_zero, List.drop_eq_nil_of_le h]
theorem cutD_to {xs : List PyData} (j : Nat) : cutD xs none (some (j : Int)) = xs.take j := by
  unfold cutD
  rw [HT.sIx_none, show HT.sIx xs.length xs.length (some (j : Int)) = min j xs.length from HT.sIx_nat xs.length xs.length j, List.drop_zero, Nat.sub_zero]
  rcases Nat.le_total j xs.length with h | h
  · rw [Nat.min_eq_left h]
  · rw [Nat.min_eq_right h, List.take_of_length_le (Nat.le_refl _), List.take_of_length_le h]
theorem cutD_ft {xs : List PyData} (i j : Nat) : cutD xs (some (i : Int)) (some (j : Int)) = (xs.take j).drop i := by
  unfold cutD
  rw [show HT.sIx xs.length 0 (some (i : Int)) = min i xs.length from HT.sIx_nat xs.length 0 i, show HT.sIx xs.length xs.length (some (j : Int)) = min j xs.length from HT.sIx_nat xs.length xs.length j, List.drop_take]
  rcases Nat.le_total i xs.length with h | h
  · rw [Nat.min_eq_left h]
    rcases Nat.le_total j xs.length with k | k
    · rw [Nat.min_eq_left k]
    · rw [Nat.min_eq_right k, List.take_of_length_le (by rw [List.length_drop]; omega), List.take_of_length_le (by rw [List.length_drop]; omega)]
  · rw [Nat.min_eq_right h, List.drop_eq_nil_of_le (Nat.le_refl _), List.drop_eq_nil_of_le h, List.take_nil, List.take_nil]
/-! isinstance of a built-in type -/
def tyD : PyData → String
  | .none => "NoneType"
  | .bool _ => "bool"
  | .int _ => "int"
  | .str _ => "str"
  | .list _ => "list"
  | .tuple _ => "tuple"
  | .dict _ => "dict"
def isInt : PyData → Bool
  | .bool _ => true
  | .int _ => true
  | _ => false
def isBool : PyData → Bool
  | .bool _ => true
  | _ => false
def isList : PyData → Bool
  | .list _ => true
  | _ => false
def isTup : PyData → Bool
  | .tuple _ => true
  | _ => false
theorem rp_ty {Hs H : Hp} {v : V} {d : PyData} (s : Same Hs H) (h : Rp K Hs v d) : TyX K H v (.type (tyD d)) := by
  cases h with
  | non => exact .base .non
  | bl b => exact .base (.bl b)
  | int i => exact .base (.int i)
  | str x => exact .base (.str x)
  | lst hs _ => exact .base (.lst (s _ _ hs))
  | tup hs _ => exact .base (.tup (s _ _ hs))
  | dct hs => exact .base (.dK (s _ _ hs))
theorem kit_int : ∀ d : PyData, kitB (tyD d) "int" = some (isInt d)
  | .none => (by decide +kernel : kitB "NoneType" "int" = some false)
  | .bool _ => (by decide +kernel : kitB "bool" "int" = some true)
  | .int _ => (by decide +kernel : kitB "int" "int" = some true)
  | .str _ => (by decide +kernel : kitB "str" "int" = some false)
  | .list _ => (by decide +kernel : kitB "list" "int" = some false)
  | .tuple _ => (by decide +kernel : kitB "tuple" "int" = some false)
  | .dict _ => (by decide +kernel : kitB "dict" "int" = some false)
theorem kit_bool : ∀ d : PyData, kitB (tyD d) "bool" = some (isBool d)
  | .none => (by decide +kernel : kitB "NoneType" "bool" = some false)
  | .bool _ => (by decide +kernel : kitB "bool" "bool" = some true)
  | .int _ => (by decide +kernel : kitB "int" "bool" = some false)
  | .str _ => (by decide +kernel : kitB "str" "bool" = some false)
  | .list _ => (by decide +kernel : kitB "list" "bool" = some false)
  | .tuple _ => (by decide +kernel : kitB "tuple" "bool" = some false)
  | .dict _ => (by decide +kernel : kitB "dict" "bool" = some false)
theorem kit_list : ∀ d : PyData, kitB (tyD d) "list" = some (isList d)
  | .none => (by decide +kernel : kitB "NoneType" "list" = some false)
  | .bool _ => (by decide +kernel : kitB "bool" "list" = some false)
  | .int _ => (by decide +kernel : kitB "int" "list" = some false)
  | .str _ => (by decide +kernel : kitB "str" "list" = some false)
  | .list _ => (by decide +kernel : kitB "list" "list" = some true)
  | .tuple _ => (by decide +kernel : kitB "tuple" "list" = some false)
  | .dict _ => (by decide +kernel : kitB "dict" "list" = some false)
theorem kit_tuple : ∀ d : PyData, kitB (tyD d) "tuple" = some (isTup d)
  | .none => (by decide +kernel : kitB "NoneType" "tuple" = some false)
  | .bool _ => (by decide +kernel : kitB "bool" "tuple" = some false)
  | .int _ => (by decide +kernel : kitB "int" "tuple" = some false)
  | .str _ => (by decide +kernel : kitB "str" "tuple" = some false)
  | .list _ => (by decide +kernel : kitB "list" "tuple" = some false)
  | .tuple _ => (by decide +kernel : kitB "tuple" "tuple" = some true)
  | .dict _ => (by decide +kernel : kitB "dict" "tuple" = some false)
theorem yd_isi {x : PyData} {n : String} {b : Bool} (h : YD K ta ρ x) (hk : kitB (tyD x) n = some b) : YD K (tCB (rIsi K) (tCons ta (tCons (tC (.ty n)) tNil))) ρ (.bool b) := fun σ Hs H e s Q q =>
  h σ Hs H e s _ fun v Hs1 H1 g1 r1 => ⟨v, .ty n, _, _, b, rfl, .ty n, rp_ty g1.c r1, kit_ty hk, q _ Hs1 H1 g1 (.bl _)⟩
/-! lists: +, * -/
theorem rd_cat {xs ys : List PyData} (hl : xs.length + ys.length ≤ 100000) : RD K rCat (.list xs) (.list ys) (.list (xs ++ ys)) := fun v w Hs H s h1 h2 Q q => by
  cases h1 with
  | lst hs ha => cases h2 with
    | lst ks ka => exact ⟨_, _, _, _, rfl, rfl, s _ _ hs, s _ _ ks, sz_of (by rw [ha.len, ka.len]; exact hl), fun p hp => q _ _ _ (Gr.new s hp) (rp_lst (H := H) (same_none s hp) (ha.append ka))⟩
theorem rp_rep {Hs : Hp} {vs : List V} {ds : List PyData} (h : RpAll K Hs vs ds) : ∀ n : Nat, RpAll K Hs (List.replicate n vs).flatten (List.replicate n ds).flatten
  | 0 => .nil
  | n + 1 => by
    rw [List.replicate_succ, List.replicate_succ, List.flatten_cons, List.flatten_cons]
    exact h.append (rp_rep h n)
theorem rd_rep {xs : List PyData} {k : Int} (hl : xs.length * k.toNat ≤ 100000) (h1 : -(2 ^ 63) ≤ k) (h2 : k < 2 ^ 63) : RD K rRep (.list xs) (.int k) (.list (List.replicate k.toNat xs).flatten) := fun v w Hs H s r1 r2 Q q => by
  cases r1 with
  | lst hs ha => cases r2; exact ⟨_, k, _, rfl, rfl, s _ _ hs, h1, h2, sz_of (by rw [ha.len]; exact hl), fun p hp => q _ _ _ (Gr.new s hp) (rp_lst (H := H) (same_none s hp) (rp_rep ha _))⟩
/-! pairs of ints -/
def dP (p : Int × Int) : PyData := .tuple [.int p.1, .int p.2]
def ltPr (a b : Int × Int) : Bool := decide (a.1 < b.1) || (decide (a.1 = b.1) && decide (a.2 < b.2))
theorem rd_ltT {a b : Int × Int} : RD K (rLtT K) (dP a) (dP b) (.bool (ltPr a b)) := fun v w Hs H s h1 h2 Q q => by
  cases h1 with
  | tup hs ha => cases h2 with
    | tup ks ka =>
      have e1 := RpAll.ints_eq (ns := [a.1, a.2]) ha
      have e2 := RpAll.ints_eq (ns := [b.1, b.2]) ka
      subst e1 e2
      refine ⟨_, _, [a.1, a.2], [b.1, b.2], rfl, rfl, sqT_mono s hs, sqT_mono s ks, ?_⟩
      have : HT.lexLt [a.1, a.2] [b.1, b.2] = ltPr a b := by
        simp only [HT.lexLt, ltPr]
        by_cases h1 : a.1 < b.1 <;> by_cases h2 : a.1 = b.1 <;> by_cases h3 : a.2 < b.2 <;> by_cases h4 : a.2 = b.2 <;> simp_all
      rw [this]
      exact q _ Hs H (Gr.refl s) (.bl _)
end
end SG
set_option Elab.async false
set_option linter.all false
set_option maxRecDepth 100000
set_option maxHeartbeats 4000000
namespace SG
open PySem PySem.Spec PyProof.Rows L2
/-! ### the rules with the written part named -/
section
variable {X : Cx} {K : PySem.W.Frag}
theorem op_ltTk (hK : X.K = K) (hu : X.A.units < cLine) : OpR X (compareOp .Lt) (rLtT K) := hK ▸ op_ltT hu
theorem op_eqk (hK : X.K = K) (hu : X.A.units + 64 < cLine) : OpR X (compareOp .Eq) (rEqD K) := hK ▸ op_eqD hu
theorem op_nek (hK : X.K = K) (hu : X.A.units + 64 < cLine) : OpR X (compareOp .NotEq) (rNeD K) := hK ▸ op_neD hu
theorem op_ink (hK : X.K = K) (hu : X.A.units + 65 < cLine) : OpR X (compareOp .In) (rInD K) := hK ▸ op_inD hu
theorem op_notInk (hK : X.K = K) (hu : X.A.units + 65 < cLine) : OpR X (compareOp .NotIn) (rNotInD K) := hK ▸ op_notInD hu
theorem ix_k (hK : X.K = K) : IxR X (rIx K) := hK ▸ ix_seq
theorem sl_listk (hK : X.K = K) : SlR X (rSlL K) := hK ▸ sl_list
theorem sl_tupk (hK : X.K = K) : SlR X (rSlA K) := hK ▸ sl_tupA
theorem call_isik (hK : X.K = K) : CallR X (.builtin "isinstance") (rIsi K) := hK ▸ call_isi
theorem call_lenk (hK : X.K = K) : CallR X (.builtin "len") (rLenS K) := hK ▸ call_lenS
theorem call_listk (hK : X.K = K) : CallR X (.type "list") (rListS K) := hK ▸ call_listS
theorem cr_allk (hK : X.K = K) (hc : X.calm = true) : CallR X (.builtin "all") (rAll K) := hK ▸ cr_all hc
theorem cr_anyk (hK : X.K = K) (hc : X.calm = true) : CallR X (.builtin "any") (rAny K) := hK ▸ cr_any hc
theorem cr_sumk (hK : X.K = K) (hc : X.calm = true) : CallR X (.builtin "sum") (rSum K) := hK ▸ cr_sum hc
theorem cr_sortedk (hK : X.K = K) : CallR X (.builtin "sorted") (rSortedPO K) := hK ▸ cr_sortedPO
theorem pg_tupk {pos : Pos} {es : List Expr} {k : Nat} {t : TGs} {n : Nat} (hK : X.K = K) (hc : X.calm = true) (h : PGs X es t) (h1 : (assignEach es X.env).length = n := by rfl) (h2 : (assignEach es X.env).findIdx? (fun x => x.1) = none := by rfl) : PG X (.Tuple es k pos) (gTup K n t) := hK ▸ pg_tup hc h h1 h2
theorem pi_listk {tg l : Expr} {tl : TE} (hK : X.K = K) (h : PE X l tl) : PI X tg l (iList K tl) := hK ▸ pi_list h
theorem pi_tupk {tg l : Expr} {tl : TE} (hK : X.K = K) (h : PE X l tl) : PI X tg l (iTup K tl) := hK ▸ pi_tup h
theorem pi_enumk {e : Expr} {ta : TA} {p pos tpos : Pos} {elts : List Expr} {kk : Nat} (hK : X.K = K) (hg : Gl X "enumerate") (hm : X.mg "enumerate" = none) (h : PA X [e] ta) (he : starEach [e] X.env = [(false, eval e X.env)] := by rfl) : PI X (.Tuple elts kk tpos) (.Call (.Name "enumerate" p) [e] [] pos) (iEnum K ta) := hK ▸ pi_enum hg hm h he
theorem pi_zipk {e e2 : Expr} {ta : TA} {p pos tpos : Pos} {elts : List Expr} {kk : Nat} (hK : X.K = K) (hg : Gl X "zip") (hm : X.mg "zip" = none) (h : PA X [e, e2] ta) (he : starEach [e, e2] X.env = (false, eval e X.env) :: starEach [e2] X.env := by rfl) (hp : ((backTo pos (starEach [e2] X.env)).any fun x => x.1) = false := by rfl) : PI X (.Tuple elts kk tpos) (.Call (.Name "zip" p) [e, e2] [] pos) (iZip K ta) := hK ▸ pi_zip hg hm h he hp
theorem pi_revk {tg e : Expr} {ta : TA} {p pos : Pos} (hK : X.K = K) (hg : Gl X "reversed") (hm : X.mg "reversed" = none) (h : PA X [e] ta) (he : starEach [e] X.env = [(false, eval e X.env)] := by rfl) : PI X tg (.Call (.Name "reversed" p) [e] [] pos) (iRev K ta) := hK ▸ pi_reversed hg hm h he
theorem pe_fldk {e : Expr} {f : Str} {pos : Pos} {ta : TE} (hK : X.K = K) (h : PE X e ta) (hb : attributeBase e f X.env (eval e X.env) = eval e X.env) : PE X (.Attribute e f pos) (tFld K ta f) := hK ▸ pe_fld h hb
end
/-! ### errors -/
/-- what is known of an own class of errors -/
structure Xc (K : PySem.W.Frag) (mg : Str → Option Value) (x : Str) (C : Addr) : Prop where
  mg : mg x = some (.ref C)
  ex : PySem.W.excIn K C [.type "ValueError", .type "Exception", .type "BaseException", .type "object"] "ValueError.__new__" = true
  kp : PySem.W.keepIn K (.ref C) = true
  sub : PySem.W.subIn K (.ref C) (.type "BaseException") = some true
  ty : PySem.W.typeIn K (.ref C) = some (.type "type")
def YE (K : PySem.W.Frag) (E : XK) (ts : TS) (ρ : Rho) (C : Addr) : Prop := ∀ (σ : L2.St) (Hs H : Hp), EnvD K Hs σ ρ → Same Hs H → (∀ Hs2 H2, Gr Hs H Hs2 H2 → E (.ref C) none H2) → ∀ D : Ends, ts D σ H
def YDE (K : PySem.W.Frag) (E : XK) (te : TE) (ρ : Rho) (C : Addr) : Prop := ∀ (σ : L2.St) (Hs H : Hp), EnvD K Hs σ ρ → Same Hs H → (∀ Hs2 H2, Gr Hs H Hs2 H2 → E (.ref C) none H2) → ∀ Q : VK, te σ H Q
section
variable {K : PySem.W.Frag} {E : XK} {ρ ρ1 : Rho} {C : Addr} {t u u2 : TS} {c : TT} {b : Bool} {te : TE} {ta : TA} {ds : List PyData} {d : PyData} {R : List PyData → PyData → Prop} {X : List PyData → Addr → Prop} {sl : List Nat}
theorem ye_raise : YE K E (fun _ _ H => E (.ref C) none H) ρ C := fun σ Hs H e s q D => q Hs H (Gr.refl s)
theorem ye_seqE (h : YE K E t ρ C) : YE K E (tSeq t u) ρ C := fun σ Hs H e s q D => h σ Hs H e s q _
theorem ye_seq (h : YN K t sl ρ ρ1) (k : YE K E u ρ1 C) : YE K E (tSeq t u) ρ C := fun σ Hs H e s q D => h σ Hs H e s _ fun σ1 Hs1 H1 g1 e1 _ => k σ1 Hs1 H1 e1 g1.c (fun Hs2 H2 g2 => q Hs2 H2 (g1.trans g2)) D
theorem ye_next (h : YE K E u ρ C) : YE K E (tSeq tNext u) ρ C := fun σ Hs H e s q D => h σ Hs H e s q D
theorem ye_if (h : YT K c ρ b) (h1 : b = true → YE K E t ρ C) (h2 : b = false → YE K E u ρ C) : YE K E (tIfS c t u) ρ C := fun σ Hs H e s q D => h σ Hs H e s _ fun Hs1 H1 g1 => by
  cases b with
  | true => exact h1 rfl σ Hs1 H1 (e.mono g1.a) g1.c (fun Hs2 H2 g2 => q Hs2 H2 (g1.trans g2)) D
  | false => exact h2 rfl σ Hs1 H1 (e.mono g1.a) g1.c (fun Hs2 H2 g2 => q Hs2 H2 (g1.trans g2)) D
theorem ye_ifs (h : YT K c ρ b) (h1 : b = true → YE K E (tSeq t u2) ρ C) (h2 : b = false → YE K E (tSeq u u2) ρ C) : YE K E (tSeq (tIfS c t u) u2) ρ C := fun σ Hs H e s q D => h σ Hs H e s _ fun Hs1 H1 g1 => by
  cases b with
  | true => exact h1 rfl σ Hs1 H1 (e.mono g1.a) g1.c (fun Hs2 H2 g2 => q Hs2 H2 (g1.trans g2)) D
  | false => exact h2 rfl σ Hs1 H1 (e.mono g1.a) g1.c (fun Hs2 H2 g2 => q Hs2 H2 (g1.trans g2)) D
theorem ye_expr (h : YDE K E te ρ C) : YE K E (tDrop te) ρ C := fun σ Hs H e s q D => h σ Hs H e s q _
theorem ye_ret (h : YDE K E te ρ C) : YE K E (tRet te) ρ C := fun σ Hs H e s q D => h σ Hs H e s q _
theorem ye_asg {g : TG} (h : YDE K E te ρ C) : YE K E (tAsg te g) ρ C := fun σ Hs H e s q D => h σ Hs H e s q _
theorem yn_expr (h : YD K te ρ d) : YN K (tDrop te) [] ρ ρ := fun σ Hs H e s D q => h σ Hs H e s _ fun v Hs1 H1 g1 _ => q σ Hs1 H1 g1 (e.mono g1.a) fun _ _ => rfl
theorem yd_callX (h : YA K ta ρ ds) (hr : R ds d) : YD K (tCall (spX K R X) [] E ta) ρ d := fun σ Hs H e s Q q => h σ Hs H e s _ fun vs Hs1 H1 g1 r1 =>
  ⟨ds, Hs1, g1.c, by rw [List.append_nil]; exact r1, .inl ⟨d, hr, fun v Hs2 H2 g2 r2 => q v Hs2 H2 (g1.trans g2) r2⟩⟩
theorem yde_callX (h : YA K ta ρ ds) (hr : X ds C) : YDE K E (tCall (spX K R X) [] E ta) ρ C := fun σ Hs H e s q Q => h σ Hs H e s _ fun vs Hs1 H1 g1 r1 =>
  ⟨ds, Hs1, g1.c, by rw [List.append_nil]; exact r1, .inr ⟨C, hr, fun Hs2 H2 g2 => q Hs2 H2 (g1.trans g2)⟩⟩
end
theorem pe_dX {X : Cx} {k j : Nat} {x : Str} {sp : Sp} {E : XK} {e : Expr} {es : List Expr} {t : TA} {p pos : Pos} (c : Cal X.prog X.w X.K X.mg X.base (L2.CX X.prog X.w) k x sp) (hr : Room j X.A) (hk : k ≤ j) (tk : Takes X (fun cls d _ H => E cls d H)) (hg : Gl X x) (ha : PA X (e :: es) t)
    (hd : (x == ("__debug__" : Str)) = false := by decide) (he : starEach (e :: es) X.env = (false, eval e X.env) :: starEach es X.env := by rfl) (hpl : ((backTo pos (starEach es X.env)).any fun x => x.fst) = false := by rfl) : PE X (.Call (.Name x p) (e :: es) [] pos) (tCall sp [] E t) := by
  obtain ⟨f, fd, ps, F, hm, hkp, hb⟩ := c.ex
  exact pe_call (F.mono hk) hr hg hm hkp hb .nil (passes_call tk fun _ _ _ _ h => h) ha hd he hpl
/-- the rule of a def that may raise -/
theorem okX {P : Program} {w : World} {K : PySem.W.Frag} {mg : Str → Option Value} {base : Heap} {x qual : Str} {params : Arguments} {body : List Stmt} {scope : Scope} {f : Addr} {fd : FuncData} {N ps : List Str} {k : Nat} {R : List PyData → PyData → Prop} {X : List PyData → Addr → Prop}
    (F : FunD K x qual params body scope [] [] f fd) (S : FnScope N ps scope) (len1 : ∀ ds d, R ds d → ds.length = ps.length) (len2 : ∀ ds C, X ds C → ds.length = ps.length)
    (hbody : ∀ (cdv : Value) (A : Around) (outer : List Env) (s : Shared) (H : Hp) (E : XK), Room k (A.deeper (envOfC qual scope s.heap.objs.size f cdv)) →
      ∃ t, PSs (cxOf (L2.CX P w) P w K mg base N qual scope f cdv A outer s H E) body t ∧ (∀ ds d, R ds d → YR K t (startD N ds) d ∨ (d = .none ∧ ∃ ρ' sl, YN K t sl (startD N ds) ρ')) ∧ (∀ ds C, X ds C → YE K E t (startD N ds) C)) : FnOk P w K mg base (L2.CX P w) (k + 1) f fd ps (spX K R X) := by
  refine F.ok S (fun vs H Q E h => ?_) (fun cdv A outer s H vs Q E hr h => ?_)
  · obtain ⟨ds, Hs, _, hp, ⟨d, hR, _⟩ | ⟨C, hX, _⟩⟩ := h
    · rw [hp.len]
      exact len1 ds d hR
    · rw [hp.len]
      exact len2 ds C hX
  · obtain ⟨ds, Hs, hs, hp, h⟩ := h
    obtain ⟨t, h1, h2, h3⟩ := hbody cdv A outer s H E hr
    refine ⟨t, h1, ?_⟩
    rcases h with ⟨d, hR, q⟩ | ⟨C, hX, q⟩
    · rcases h2 ds d hR with h2 | ⟨rfl, ρ', sl, h2⟩
      · exact h2 _ Hs H (env_start hp) hs _ q
      · exact h2 _ Hs H (env_start hp) hs _ fun σ' Hs2 H2 g e _ => q _ Hs2 H2 g .non
    · exact h3 ds C hX _ Hs H (env_start hp) hs q _
end SG
set_option Elab.async false
set_option linter.all false
set_option maxRecDepth 100000
set_option maxHeartbeats 4000000
namespace SG
open PySem PySem.Spec PyProof.Rows L2
/-! ### sorting pairs -/
theorem ltPr_iff {a b : Int × Int} : ltPr a b = true ↔ a.1 < b.1 ∨ (a.1 = b.1 ∧ a.2 < b.2) := by
  simp [ltPr]
def lePr (a b : Int × Int) : Bool := !ltPr b a
theorem lePr_iff {a b : Int × Int} : lePr a b = true ↔ a.1 < b.1 ∨ (a.1 = b.1 ∧ a.2 ≤ b.2) := by
  unfold lePr
  rw [Bool.not_eq_true', ← Bool.not_eq_true, ltPr_iff]
  omega
def insP (x : Int × Int) : List (Int × Int) → List (Int × Int)
  | [] => [x]
  | y :: r => if lePr x y then x :: y :: r else y :: insP x r
def sortP : List (Int × Int) → List (Int × Int)
  | [] => []
  | x :: r => insP x (sortP r)
theorem insP_perm (x : Int × Int) : ∀ l, (insP x l).Perm (x :: l)
  | [] => List.Perm.refl _
  | y :: r => by
    unfold insP
    split
    · exact List.Perm.refl _
    · exact ((insP_perm x r).cons y).trans (List.Perm.swap x y r)
theorem sortP_perm : ∀ l, (sortP l).Perm l
  | [] => List.Perm.refl _
  | x :: r => (insP_perm x _).trans ((sortP_perm r).cons x)
theorem sortP_len (l : List (Int × Int)) : (sortP l).length = l.length := (sortP_perm l).length_eq
theorem sortP_mem {l : List (Int × Int)} {x : Int × Int} : x ∈ sortP l ↔ x ∈ l := (sortP_perm l).mem_iff
theorem insP_srt (x : Int × Int) : ∀ {l : List (Int × Int)}, l.Pairwise (fun a b => lePr a b = true) → (insP x l).Pairwise (fun a b => lePr a b = true)
  | [], _ => by simp [insP]
  | y :: r, h => by
    obtain ⟨h1, h2⟩ := List.pairwise_cons.mp h
    unfold insP
    split
    · rename_i hx
      refine List.pairwise_cons.mpr ⟨fun z hz => ?_, h⟩
      rcases List.mem_cons.mp hz with rfl | hz
      · exact hx
      · have a := lePr_iff.mp hx
        have b := lePr_iff.mp (h1 z hz)
        exact lePr_iff.mpr (by omega)
    · rename_i hx
      refine List.pairwise_cons.mpr ⟨fun z hz => ?_, insP_srt x h2⟩
      rcases List.mem_cons.mp ((insP_perm x r).mem_iff.mp hz) with rfl | hz
      · have a := mt lePr_iff.mpr hx
        exact lePr_iff.mpr (by omega)
      · exact h1 z hz
theorem sortP_srt : ∀ l, (sortP l).Pairwise (fun a b => lePr a b = true)
  | [] => List.Pairwise.nil
  | x :: r => insP_srt x (sortP_srt r)
theorem srt_uniq : ∀ {l m : List (Int × Int)}, l.Pairwise (fun a b => lePr a b = true) → m.Pairwise (fun a b => lePr a b = true) → l.Perm m → l = m
  | [], m, _, _, h => (List.Perm.eq_nil h.symm).symm
  | x :: l, [], _, _, h => absurd h.length_eq (by simp)
  | x :: l, y :: m, hl, hm, h => by
    obtain ⟨l1, l2⟩ := List.pairwise_cons.mp hl
    obtain ⟨m1, m2⟩ := List.pairwise_cons.mp hm
    have e : x = y := by
      have a : lePr x y = true := by
        rcases List.mem_cons.mp (h.mem_iff.mpr (List.mem_cons_self (a := y) (l := m))) with e | hy
        · rw [e]; exact lePr_iff.mpr (by omega)
        · exact l1 y hy
      have b : lePr y x = true := by
        rcases List.mem_cons.mp (h.mem_iff.mp (List.mem_cons_self (a := x) (l := l))) with e | hy
        · rw [e]; exact lePr_iff.mpr (by omega)
        · exact m1 x hy
      have a := lePr_iff.mp a
      have b := lePr_iff.mp b
      exact Prod.ext (by omega) (by omega)
    subst e
    rw [srt_uniq l2 m2 h.cons_inv]
theorem dP_inj {a b : Int × Int} (h : dP a = dP b) : a = b := by
  simp [dP] at h
  exact Prod.ext h.1 h.2
section
variable {K : PySem.W.Frag}
theorem rp_pair {Hs : Hp} {v : V} {p : Int × Int} (h : Rp K Hs v (dP p)) : ∃ t, v = .ref t ∧ Hs t = some (.tup [.int p.1, .int p.2]) := by
  cases h with
  | tup hs ha =>
    have e := RpAll.ints_eq (ns := [p.1, p.2]) ha
    subst e
    exact ⟨_, rfl, hs⟩
theorem rp_of_pair {Hs : Hp} {t : Addr} {p : Int × Int} (h : Hs t = some (.tup [.int p.1, .int p.2])) : Rp K Hs (.ref t) (dP p) := .tup h (.cons (.int _) (.cons (.int _) .nil))
theorem rp_pair_fn {Hs : Hp} {v : V} {p q : Int × Int} (h : Rp K Hs v (dP p)) (k : Rp K Hs v (dP q)) : p = q := by
  obtain ⟨t, rfl, h1⟩ := rp_pair h
  obtain ⟨u, e, k1⟩ := rp_pair k
  cases e
  rw [h1] at k1
  simp at k1
  exact Prod.ext k1.1 k1.2
open Classical in
noncomputable def keyP (K : PySem.W.Frag) (Hs : Hp) (v : V) : Int × Int := if h : ∃ p, Rp K Hs v (dP p) then h.choose else (0, 0)
theorem keyP_eq {Hs : Hp} {v : V} {p : Int × Int} (h : Rp K Hs v (dP p)) : keyP K Hs v = p := by
  have hx : ∃ p, Rp K Hs v (dP p) := ⟨p, h⟩
  unfold keyP
  rw [dif_pos hx]
  exact rp_pair_fn hx.choose_spec h
theorem keyP_map {Hs : Hp} : ∀ {vs : List V} {ps : List (Int × Int)}, RpAll K Hs vs (ps.map dP) → vs.map (keyP K Hs) = ps
  | _, [], .nil => rfl
  | _, p :: ps, .cons a b => by rw [List.map_cons, keyP_eq a, keyP_map b]
theorem keyP_mem {Hs : Hp} : ∀ {vs : List V} {ps : List (Int × Int)}, RpAll K Hs vs (ps.map dP) → ∀ v ∈ vs, Rp K Hs v (dP (keyP K Hs v))
  | _, [], .nil, v, hv => nomatch hv
  | _, p :: ps, .cons a b, v, hv => by
    rcases List.mem_cons.mp hv with e | hv
    · rw [e, keyP_eq a]; exact a
    · exact keyP_mem b v hv
theorem keyP_all {Hs : Hp} : ∀ {vs : List V}, (∀ v ∈ vs, Rp K Hs v (dP (keyP K Hs v))) → RpAll K Hs vs ((vs.map (keyP K Hs)).map dP)
  | [], _ => .nil
  | v :: vs, h => .cons (h v List.mem_cons_self) (keyP_all fun u hu => h u (List.mem_cons_of_mem _ hu))
theorem lexB_lt {a b : Int × Int} : SrtO.lexB a b = ltPr a b := by
  have h1 := SrtO.lexB_iff (p := a) (q := b)
  have h2 := ltPr_iff (a := a) (b := b)
  have h3 : (SrtO.lexB a b = true) ↔ (ltPr a b = true) := h1.trans h2.symm
  cases e : SrtO.lexB a b <;> cases e' : ltPr a b <;> simp [e, e'] at h3 ⊢
/-- sorted rearrangements of a list of pairs, as data -/
theorem srt_data {Hs : Hp} {xs ys : List V} {ps : List (Int × Int)} (h : RpAll K Hs xs (ps.map dP)) (hs : SrtO.Srtd (ltP (keyP K Hs)) ys) (hp : ys.Perm xs) : RpAll K Hs ys ((sortP ps).map dP) := by
  have h1 := keyP_all (K := K) (Hs := Hs) (vs := ys) fun v hv => keyP_mem h v (hp.mem_iff.mp hv)
  have e : ys.map (keyP K Hs) = sortP ps := by
    refine srt_uniq ?_ (sortP_srt ps) ?_
    · rw [List.pairwise_map]
      refine List.Pairwise.imp (fun {a b} hab => ?_) hs
      unfold lePr
      rw [← lexB_lt]
      have z : SrtO.lexB (keyP K Hs b) (keyP K Hs a) = false := hab
      rw [z]
      rfl
    · have := hp.map (keyP K Hs)
      rw [keyP_map h] at this
      exact this.trans (sortP_perm ps).symm
  rw [e] at h1
  exact h1
theorem rc_sortedP {ps : List (Int × Int)} : RC K (rSortedPO K) [.list (ps.map dP)] (.list ((sortP ps).map dP)) := fun vs Hs H s h Q q => by
  cases h with
  | cons h1 h2 => cases h2; cases h1 with
    | lst hs ha =>
      refine ⟨_, _, keyP K Hs, rfl, sqL_mono s hs, fun x hx => ?_, fun ys p h1 h2 hp => ?_⟩
      · obtain ⟨t, e, ht⟩ := rp_pair (keyP_mem ha x hx)
        exact ⟨t, e, s _ _ ht⟩
      · exact q _ _ _ (Gr.new s hp) (rp_lst (H := H) (same_none s hp) (srt_data ha h1 h2.perm))
/-! ### a list that may still change, read for a moment -/
theorem EnvD.own {Hs : Hp} {σ : L2.St} {ρ : Rho} {j : Nat} {p : Addr} {vs : List V} {ds : List PyData} (h : EnvD K Hs σ ρ) (hσ : σ[j]? = some (some (.ref p))) (hp : Hs p = none) (ha : RpAll K Hs vs ds) : EnvD K (upd Hs p (.lst vs)) σ (ρ.set j (some (.list ds))) := by
  have h2 := (h.mono (same_new (o := .lst vs) hp)).set j (rp_lst (H := Hs) hp ha)
  have e : σ.set j (some (.ref p)) = σ := by
    apply List.ext_getElem?
    intro i
    by_cases hi : i = j
    · subst hi
      have hl := (List.getElem?_eq_some_iff.mp hσ).1
      rw [List.getElem?_set_self hl, hσ]
    · rw [List.getElem?_set_ne (Ne.symm hi)]
  rw [e] at h2
  exact h2
theorem same_own {Hs H : Hp} {p : Addr} {o : HO} (s : Same Hs H) (h : H p = some o) : Same (upd Hs p o) H := fun b x e => by
  by_cases hb : b = p
  · subst hb
    rw [upd_same] at e
    rw [h]
    exact e
  · rw [upd_ne hb] at e
    exact s b x e
/-- l.append(e), l a list that may change -/
theorem s_append {j : Nat} {σ : L2.St} {Hs H : Hp} {p : Addr} {vs : List V} {te : TE} {ρ : Rho} {d : PyData} {D : Ends} (hσ : σ[j]? = some (some (.ref p))) (hp : H p = some (.lst vs)) (h : YD K te ρ d) (e : EnvD K Hs σ ρ) (s : Same Hs H) (hl : vs.length < 50000)
    (k : ∀ v Hs2 H2, Gr Hs H Hs2 H2 → Rp K Hs2 v d → D.nx σ (upd H2 p (.lst (vs ++ [v])))) : tDrop (tBM K "list" rAppend (tVar j) (tCons te tNil)) D σ H :=
  ⟨.ref p, hσ, .inl ⟨rfl, vs, .inl (.inl hp)⟩, h σ Hs H e s _ fun v Hs2 H2 g r => ⟨p, vs, v, rfl, rfl, g.b _ _ hp, sz_lt (by omega), k v Hs2 H2 g r⟩⟩
end
/-! ### shapes and equality -/
theorem shp {d : PyData} (h1 : d.canLay0 = true) (h2 : d.depth ≤ 64) : SeqAt.shaped d = true := by
  unfold SeqAt.shaped
  rw [h1, decide_eq_true h2]
  rfl
theorem lay_pairs : ∀ ps : List (Int × Int), PyData.canLayAll0 (ps.map dP) = true
  | [] => rfl
  | p :: ps => by
    show ((dP p).canLay0 && PyData.canLayAll0 (ps.map dP)) = true
    rw [lay_pairs ps]
    rfl
theorem depth_pairs : ∀ ps : List (Int × Int), PyData.depthAll (ps.map dP) ≤ 1
  | [] => by decide
  | p :: ps => by
    show max (dP p).depth (PyData.depthAll (ps.map dP)) ≤ 1
    have h := depth_pairs ps
    have : (dP p).depth = 1 := rfl
    omega
theorem shp_pair (p : Int × Int) : SeqAt.shaped (dP p) = true := rfl
theorem shp_pairs (ps : List (Int × Int)) : SeqAt.shaped (.list (ps.map dP)) = true := shp (lay_pairs ps) (by
  show PyData.depthAll (ps.map dP) + 1 ≤ 64
  have := depth_pairs ps
  omega)
theorem eqv_pair (a b : Int × Int) : PyData.eqv (dP a) (dP b) = decide (a = b) := by
  show ((a.1 == b.1) && ((a.2 == b.2) && true)) = decide (a = b)
  by_cases h : a = b
  · subst h
    simp
  · rw [decide_eq_false h]
    have : ¬ (a.1 = b.1 ∧ a.2 = b.2) := fun z => h (Prod.ext z.1 z.2)
    by_cases h1 : a.1 = b.1 <;> by_cases h2 : a.2 = b.2 <;> simp_all
theorem any_pairs (q : Int × Int) : ∀ ps : List (Int × Int), (ps.map dP).any (fun z => PyData.eqv z (dP q)) = decide (q ∈ ps)
  | [] => rfl
  | p :: ps => by
    rw [List.map_cons, List.any_cons, any_pairs q ps, eqv_pair]
    by_cases h : p = q
    · subst h
      simp
    · rw [decide_eq_false h, Bool.false_or]
      by_cases h2 : q ∈ ps
      · rw [decide_eq_true h2, decide_eq_true (List.mem_cons_of_mem _ h2)]
      · rw [decide_eq_false h2, decide_eq_false fun z => (List.mem_cons.mp z).elim (fun e => h e.symm) h2]
end SG
set_option Elab.async false
set_option linter.all false
set_option maxRecDepth 100000
set_option maxHeartbeats 4000000
namespace SG
open PySem PySem.Spec PyProof.Rows L2
/-! ### sorted(d), the keys of d pairs of ints -/
def rSortedDT : List V → Hp → VK → Prop := fun xs H Q => ∃ (d : Addr) (kvs : List (List Key × V)) (k : V → Int × Int), xs = [.ref d] ∧ Rd H d (.dT kvs) ∧
  (∀ bs, IsKeys H kvs bs → ∀ b ∈ bs, H b = some (.tup [.int (k (.ref b)).1, .int (k (.ref b)).2])) ∧
  ∀ bs ys p, IsKeys H kvs bs → SrtO.Srtd (ltP k) ys → SrtO.Stb (ltP k) ys (bs.map V.ref) → H p = none → Q (.ref p) (upd H p (.lst ys))
section
variable {X : Cx}
theorem call_sortedDT (hc : X.calm = true) : CallR X (.builtin "sorted") rSortedDT := by
  intro pins s σ H xs us Q I r h
  obtain ⟨d, kvs, k, rfl, hd, hk, q⟩ := h
  obtain ⟨u, rfl, rx⟩ := vals1 r
  cases rx
  obtain ⟨z, hs, ks, pr, o, es, ep, ho, hx, hdt, he, hn⟩ := (show ObjOk X.prog X.w H s.heap d (.dT kvs) from hd.ok I.hok)
  have l1 : es.size = ks.length := size_of_entries he
  have l2 : kvs.length = ks.length := Paired.length pr
  have isk := isKeys_of pr
  have hkb := hk _ isk
  refine Calls.call_function_entry PyProof.Rows.kind_sorted PyProof.Rows.plain_sorted PyProof.Rows.entry_sorted (PyProof.Rows.args_sorted1 _) ?_
  unfold Builtin.«sorted»
  refine wpAny_bind (m := checkCount "sorted" 1 1 _) (wpAny_pure ?_)
  refine wpAny_bind (PySem.W.kdu_collect (A := X.A.in1) (kdl_raw hs hx hdt) (I.ok.hd hc) ho (by omega) fun h' tk acc' kp it => ?_)
  have ea : acc'.toList = ks.map fun x => Value.ref x.2.1 := by
    have hl : acc'.toList.length = ks.length := by rw [Array.length_toList, it.1]; exact l1
    apply List.ext_getElem?
    intro j
    rw [List.getElem?_map]
    cases hj : acc'.toList[j]? with
    | none =>
      have h1 := List.getElem?_eq_none_iff.mp hj
      rw [List.getElem?_eq_none (by omega)]
      all_goals rfl
    | some v =>
      obtain ⟨en, hen, hv⟩ := it.2 j v (by rw [← Array.getElem?_toList]; exact hj)
      have qe := entry_at he j
      rw [hen] at qe
      cases hb : ks[j]? with
      | none =>
        rw [hb] at qe
        exact nomatch (show some en = none from qe)
      | some b =>
        rw [hb] at qe
        have e2 : en = entryOfKey (tupleKind (mixKind X.prog X.w)) b := Option.some.inj qe
        rw [hv, e2]
        all_goals rfl
  have eb : acc'.toList = (ks.map fun x => x.2.1).map Value.ref := by rw [ea, List.map_map]; all_goals rfl
  generalize hbs : (ks.map fun x => x.2.1) = bs at eb isk hkb
  have hbl : bs.length = ks.length := by rw [← hbs, List.length_map]
  have I1 : Inv X pins σ H { s with heap := h', toks := tk } := I.kept kp
  have hz : acc'.toList.length ≤ sizeLine := by rw [eb, List.length_map]; omega
  refine wpAny_bind (wpAny_newList ?_ hz)
  have hoL : (h'.push (seqObj "list" acc'.toList.toArray 0)).get? h'.objs.size = some (seqObj "list" acc'.toList.toArray 0) := Heap.get?_push_size _ rfl
  show wpAny _ _ _ _ _ { s with heap := h'.push (seqObj "list" acc'.toList.toArray 0), toks := tk }
  let kk : Value → Int × Int := fun u => match u with | .ref b => k (.ref b) | _ => (0, 0)
  have hp : ∀ v ∈ acc'.toList, Srt.IsPair (h'.push (seqObj "list" acc'.toList.toArray 0)) v (kk v).1 (kk v).2 := fun v hv => by
    rw [eb] at hv
    obtain ⟨b, hb, rfl⟩ := List.mem_map.mp hv
    obtain ⟨_, its2, r2, o2, ho2, hc2, n2, hd2⟩ := I1.hok _ _ (hkb b hb)
    obtain ⟨u1, u2, rfl, ri, rj⟩ := vals2 r2
    obtain ⟨t1, rfl⟩ := ri
    obtain ⟨t2, rfl⟩ := rj
    exact ⟨b, o2, t1, t2, n2, rfl, Heap.get?_push_of_some _ ho2, hc2, hd2⟩
  refine wpAny_bind (wpAny_holding (wpAny_call_entry PyProof.Rows.slot_list_sort ⟨_, hoL, rfl⟩ PyProof.Rows.entry_list_sort
    (SrtO.list_sort_ord (s := { s with heap := h'.push (seqObj "list" acc'.toList.toArray 0), toks := tk }) (SrtO.swo_lex kk) hoL hz (fun h2 => SrtO.pairs_sortableO (by omega) hp fun o' e => ?_) fun out g1 g2 => ⟨_, rfl, ?_⟩) (PyProof.Rows.args_list_sort _)))
  · have e' : some o' = some (seqObj "list" acc'.toList.toArray 0) := e.symm.trans hoL
    cases e'
    intro c
    exact absurd (Value.type.inj c) (by decide)
  · obtain ⟨e', he'⟩ := PyProof.Rows.sortedHeap_at (vs := acc'.toList) (out := out.toArray) hoL
    have hmem : ∀ u ∈ out, ∃ b ∈ bs, u = Value.ref b := fun u hu => by
      have := g2.perm.mem_iff.mp hu
      rw [eb] at this
      obtain ⟨b, hb, e⟩ := List.mem_map.mp this
      exact ⟨b, hb, e.symm⟩
    let bk : Value → V := fun u => match u with | .ref b => .ref b | _ => .non
    have rv : Vals (out.map bk) out := by
      have : ∀ l : List Value, (∀ u ∈ l, ∃ b ∈ bs, u = Value.ref b) → Vals (l.map bk) l := fun l => by
        induction l with
        | nil => exact fun _ => .nil
        | cons u l ih =>
          intro h
          obtain ⟨b, _, rfl⟩ := h u List.mem_cons_self
          exact .cons rfl (ih fun w hw => h w (List.mem_cons_of_mem _ hw))
      exact this out hmem
    have e3 : acc'.toList.map bk = bs.map V.ref := by rw [eb, List.map_map]; rfl
    have hk2 : ∀ u ∈ out, k (bk u) = kk u := fun u hu => by
      obtain ⟨b, _, rfl⟩ := hmem u hu
      rfl
    have s1 : SrtO.Srtd (ltP k) (out.map bk) := by
      refine List.pairwise_map.mpr ?_
      refine List.Pairwise.imp_of_mem (fun {a b} ha hb hab => ?_) g1
      show SrtO.lexB (k (bk b)) (k (bk a)) = false
      rw [hk2 a ha, hk2 b hb]
      exact hab
    have s2 : SrtO.Stb (ltP k) (out.map bk) (bs.map V.ref) := by
      rw [← e3]
      -- bk is carried over: kk = k after bk on both
      have hk3 : ∀ u ∈ acc'.toList, k (bk u) = kk u := fun u hu => hk2 u (g2.perm.mem_iff.mpr hu)
      refine ⟨g2.perm.map bk, fun x => ?_⟩
      have key : ∀ l : List Value, (∀ u ∈ l, k (bk u) = kk u) → (∀ u ∈ l, ∃ b ∈ bs, u = Value.ref b) → (l.map bk).filter (SrtO.eqv (ltP k) x) = (l.filter fun u => !SrtO.lexB (k x) (kk u) && !SrtO.lexB (kk u) (k x)).map bk := fun l => by
        induction l with
        | nil => exact fun _ _ => rfl
        | cons u l ih =>
          intro h1 h2
          have e1 : SrtO.eqv (ltP k) x (bk u) = (!SrtO.lexB (k x) (kk u) && !SrtO.lexB (kk u) (k x)) := by
            show (!SrtO.lexB (k x) (k (bk u)) && !SrtO.lexB (k (bk u)) (k x)) = _
            rw [h1 u List.mem_cons_self]
          have ih2 := ih (fun w hw => h1 w (List.mem_cons_of_mem _ hw)) fun w hw => h2 w (List.mem_cons_of_mem _ hw)
          rw [List.map_cons, List.filter_cons, List.filter_cons, e1]
          by_cases hh : (!SrtO.lexB (k x) (kk u) && !SrtO.lexB (kk u) (k x)) = true
          · rw [if_pos hh, if_pos hh, List.map_cons, ih2]
          · rw [if_neg hh, if_neg hh, ih2]
      rw [key out hk2 hmem, key acc'.toList hk3 fun u hu => hmem u (g2.perm.mem_iff.mpr hu)]
      by_cases hne : ∃ u ∈ out, (!SrtO.lexB (k x) (kk u) && !SrtO.lexB (kk u) (k x)) = true
      · obtain ⟨u, hu, hh⟩ := hne
        have hx2 : SrtO.lexB (k x) (kk u) = false ∧ SrtO.lexB (kk u) (k x) = false := by simpa using hh
        have exu : k x = kk u := by
          have a := SrtO.lexB_no.mp hx2.1
          have b := SrtO.lexB_no.mp hx2.2
          exact Prod.ext (by omega) (by omega)
        rw [exu]
        exact congrArg (List.map bk) (g2.cls u)
      · have no : ∀ l : List Value, (∀ u ∈ l, u ∈ out) → l.filter (fun u => !SrtO.lexB (k x) (kk u) && !SrtO.lexB (kk u) (k x)) = [] := fun l hl => List.filter_eq_nil_iff.mpr fun u hu q => hne ⟨u, hl u hu, q⟩
        rw [no out fun _ h => h, no acc'.toList fun u hu => g2.perm.mem_iff.mpr hu]
    have hlen : (out.map bk).length ≤ sizeLine := by
      rw [List.length_map, g2.perm.length_eq]
      exact hz
    refine wpAny_pure ⟨_, rfl, .ref h'.objs.size, upd H h'.objs.size (.lst (out.map bk)), I1.laid (t' := tk) (fun b u e => ?_) (Nat.le_refl _)
      (show ObjOk X.prog X.w _ _ _ (.lst (out.map bk)) from ⟨hlen, out, e', rv, he'⟩), rfl, q bs _ _ isk s1 s2 (I1.hok.fresh (Nat.le_refl _))⟩
    have hb : b < h'.objs.size := Heap.lt_size e
    rw [PyProof.Rows.sortedHeap_old (Nat.ne_of_lt hb) (by rw [size_push']; exact Nat.lt_succ_of_lt hb)]
    exact Heap.get?_push_of_some _ e
end
end SG
set_option Elab.async false
set_option linter.all false
set_option maxRecDepth 100000
set_option maxHeartbeats 4000000
namespace SG
open PySem PySem.Spec PyProof.Rows L2
/-! ### growth but for some changing objects -/
structure GrX (ms : List Addr) (Hs H Hs2 H2 : Hp) : Prop where
  a : Same Hs Hs2
  b : ∀ x o, x ∉ ms → H x = some o → H2 x = some o
  c : Same Hs2 H2
  d : ∀ x, Mu (H x) → Hs x = none → Hs2 x = none
  e : ∀ x, H x ≠ none → H2 x ≠ none
  m : ∀ x, Mu (H x) → Mu (H2 x)
section
variable {ms : List Addr} {Hs H Hs1 H1 Hs2 H2 : Hp} {p : Addr} {o : HO}
theorem Gr.x (g : Gr Hs H Hs2 H2) : GrX ms Hs H Hs2 H2 := ⟨g.a, fun x o _ h => g.b x o h, g.c, g.d, fun x h z => h (same_none g.b z), fun x h => h.same g.b⟩
theorem GrX.trans (g : GrX ms Hs H Hs1 H1) (k : GrX ms Hs1 H1 Hs2 H2) : GrX ms Hs H Hs2 H2 :=
  ⟨g.a.trans k.a, fun x o h1 h2 => k.b x o h1 (g.b x o h1 h2), k.c, fun x h1 h2 => k.d x (g.m x h1) (g.d x h1 h2), fun x h => k.e x (g.e x h), fun x h => k.m x (g.m x h)⟩
theorem GrX.mono {ms' : List Addr} (g : GrX ms Hs H Hs1 H1) (h : ∀ x ∈ ms, x ∈ ms') : GrX ms' Hs H Hs1 H1 :=
  ⟨g.a, fun x o h1 h2 => g.b x o (fun z => h1 (h x z)) h2, g.c, g.d, g.e, g.m⟩
/-- an object of ms is changed -/
theorem GrX.put (g : GrX ms Hs H Hs1 H1) (hm : p ∈ ms) (hs : Hs1 p = none) (ho : Mu (some o) := by trivial) : GrX ms Hs H Hs1 (upd H1 p o) where
  a := g.a
  b := fun x u h1 h2 => by
    rw [upd_ne (fun z => h1 (by rw [z]; exact hm))]
    exact g.b x u h1 h2
  c := fun x u e => by
    rw [upd_ne (ne_of_none e hs)]
    exact g.c x u e
  d := g.d
  e := fun x h => by
    by_cases hx : x = p
    · subst hx
      rw [upd_same]
      exact fun z => nomatch z
    · rw [upd_ne hx]
      exact g.e x h
  m := fun x h => by
    by_cases hx : x = p
    · subst hx
      rw [upd_same]
      exact ho
    · rw [upd_ne hx]
      exact g.m x h
theorem GrX.fresh (g : GrX ms Hs H Hs1 H1) (hp : H1 p = none) : GrX ms Hs H Hs1 (upd H1 p o) where
  a := g.a
  b := fun x u h1 h2 => by
    rw [upd_ne (ne_of_none (g.b x u h1 h2) hp)]
    exact g.b x u h1 h2
  c := g.c.trans (same_new hp)
  d := g.d
  e := fun x h => by
    by_cases hx : x = p
    · subst hx
      rw [upd_same]
      exact fun z => nomatch z
    · rw [upd_ne hx]
      exact g.e x h
  m := fun x h => by
    have hx : x ≠ p := fun z => by
      have := g.m x h
      rw [z, hp] at this
      exact this
    rw [upd_ne hx]
    exact g.m x h
theorem GrX.none (g : GrX ms Hs H Hs1 H1) (hp : H1 p = Option.none) : H p = Option.none := by
  cases e : H p with
  | none => rfl
  | some o => exact absurd hp (g.e p (by rw [e]; exact fun z => nomatch z))
/-- pure growth behind -/
theorem GrX.gr (g : GrX ms Hs H Hs1 H1) (k : Gr Hs1 H1 Hs2 H2) : GrX ms Hs H Hs2 H2 := g.trans k.x
end
/-! ### slots written out -/
section
variable {K : PySem.W.Frag} {Hs : Hp} {σ : L2.St} {ρ : Rho}
theorem env_nil : EnvD K Hs [] [] := ⟨rfl, fun i d h => by simp at h⟩
theorem env_some {v : V} {d : PyData} (r : Rp K Hs v d) (h : EnvD K Hs σ ρ) : EnvD K Hs (some v :: σ) (some d :: ρ) := by
  refine ⟨congrArg (· + 1) h.1, fun i e q => ?_⟩
  cases i with
  | zero =>
    have : d = e := by simpa using q
    subst this
    exact ⟨v, rfl, r⟩
  | succ i => simpa using h.2 i e (by simpa using q)
theorem env_none {x : Option V} (h : EnvD K Hs σ ρ) : EnvD K Hs (x :: σ) (none :: ρ) := by
  refine ⟨congrArg (· + 1) h.1, fun i e q => ?_⟩
  cases i with
  | zero => simp at q
  | succ i => simpa using h.2 i e (by simpa using q)
end
/-! ### dicts whose keys are pairs -/
def kp (k : Int × Int) : List Key := [.inl k.1, .inl k.2]
theorem kp_inj {a b : Int × Int} (h : kp a = kp b) : a = b := by
  simp [kp] at h
  exact Prod.ext h.1 h.2
theorem kp_tup (k : Int × Int) : (kp k).map kV = [.int k.1, .int k.2] := rfl
def RpT (K : PySem.W.Frag) (Hs : Hp) : List (List Key × V) → List ((Int × Int) × PyData) → Prop
  | [], [] => True
  | (k, v) :: r, (k', d) :: r' => k = kp k' ∧ Rp K Hs v d ∧ RpT K Hs r r'
  | _, _ => False
def lookT (kt : List ((Int × Int) × PyData)) (k : Int × Int) : Option PyData := (kt.find? fun q => decide (q.1 = k)).map (·.2)
def putT (kt : List ((Int × Int) × PyData)) (k : Int × Int) (d : PyData) : List ((Int × Int) × PyData) :=
  if (kt.any fun q => decide (q.1 = k)) = true then kt.map (fun q => if q.1 = k then (q.1, d) else q) else kt ++ [(k, d)]
section
variable {K : PySem.W.Frag}
theorem RpT.mono {Hs Hs2 : Hp} (e : Same Hs Hs2) : ∀ {kvs : List (List Key × V)} {kt : List ((Int × Int) × PyData)}, RpT K Hs kvs kt → RpT K Hs2 kvs kt
  | [], [], _ => trivial
  | (k, v) :: r, (k', d) :: r', h => ⟨h.1, h.2.1.mono e, RpT.mono e h.2.2⟩
theorem RpT.len {Hs : Hp} : ∀ {kvs : List (List Key × V)} {kt : List ((Int × Int) × PyData)}, RpT K Hs kvs kt → kvs.length = kt.length
  | [], [], _ => rfl
  | (k, v) :: r, (k', d) :: r', h => congrArg (· + 1) (RpT.len h.2.2)
theorem RpT.look {Hs : Hp} (k : Int × Int) : ∀ {kvs : List (List Key × V)} {kt : List ((Int × Int) × PyData)}, RpT K Hs kvs kt → (∀ d, lookT kt k = some d → ∃ v, valV kvs (kp k) = some v ∧ Rp K Hs v d) ∧ (lookT kt k = none → valV kvs (kp k) = none)
  | [], [], _ => ⟨fun d h => (nomatch h), fun _ => rfl⟩
  | (k1, v) :: r, (k', d) :: r', h => by
    obtain ⟨rfl, hv, hr⟩ := h
    obtain ⟨i1, i2⟩ := RpT.look k hr
    by_cases e : k' = k
    · subst e
      rw [valV_pos rfl]
      refine ⟨fun d' hd => ?_, fun hn => ?_⟩
      · simp [lookT] at hd
        subst hd
        exact ⟨v, rfl, hv⟩
      · simp [lookT] at hn
    · have e2 : ¬ kp k' = kp k := fun z => e (kp_inj z)
      rw [valV_neg e2]
      have e3 : lookT ((k', d) :: r') k = lookT r' k := by simp [lookT, List.find?_cons, e]
      rw [e3]
      exact ⟨i1, i2⟩
theorem RpT.any {Hs : Hp} (k : Int × Int) : ∀ {kvs : List (List Key × V)} {kt : List ((Int × Int) × PyData)}, RpT K Hs kvs kt → (kvs.any fun q => decide (q.1 = kp k)) = kt.any fun q => decide (q.1 = k)
  | [], [], _ => rfl
  | (k1, v) :: r, (k', d) :: r', h => by
    obtain ⟨rfl, hv, hr⟩ := h
    rw [List.any_cons, List.any_cons, RpT.any k hr]
    congr 1
    by_cases e : k' = k
    · subst e; simp
    · rw [decide_eq_false e, decide_eq_false fun z => e (kp_inj z)]
theorem RpT.snoc {Hs : Hp} {k : Int × Int} {v : V} {d : PyData} (hv : Rp K Hs v d) : ∀ {kvs : List (List Key × V)} {kt : List ((Int × Int) × PyData)}, RpT K Hs kvs kt → RpT K Hs (kvs ++ [(kp k, v)]) (kt ++ [(k, d)])
  | [], [], _ => ⟨rfl, hv, trivial⟩
  | (k1, v) :: r, (k', d) :: r', h => ⟨h.1, h.2.1, RpT.snoc hv h.2.2⟩
theorem RpT.repl {Hs : Hp} {k : Int × Int} {v : V} {d : PyData} (hv : Rp K Hs v d) : ∀ {kvs : List (List Key × V)} {kt : List ((Int × Int) × PyData)}, RpT K Hs kvs kt → RpT K Hs (kvs.map fun q => if q.1 = kp k then (q.1, v) else q) (kt.map fun q => if q.1 = k then (q.1, d) else q)
  | [], [], _ => trivial
  | (k1, v1) :: r, (k', d1) :: r', h => by
    obtain ⟨rfl, h1, hr⟩ := h
    have ih := RpT.repl (k := k) hv hr
    rw [List.map_cons, List.map_cons]
    by_cases e : k' = k
    · subst e
      rw [if_pos rfl, if_pos rfl]
      exact ⟨rfl, hv, ih⟩
    · rw [if_neg e, if_neg (fun z => e (kp_inj z))]
      exact ⟨rfl, h1, ih⟩
theorem RpT.put {Hs : Hp} {k : Int × Int} {v : V} {d : PyData} {kvs : List (List Key × V)} {kt : List ((Int × Int) × PyData)} (h : RpT K Hs kvs kt) (hv : Rp K Hs v d) : RpT K Hs (putK kvs (kp k) v) (putT kt k d) := by
  unfold putK putT
  rw [h.any k]
  split
  · exact RpT.repl hv h
  · exact RpT.snoc hv h
theorem RpT.isSome {Hs : Hp} {k : Int × Int} {kvs : List (List Key × V)} {kt : List ((Int × Int) × PyData)} (h : RpT K Hs kvs kt) : (valV kvs (kp k)).isSome = (lookT kt k).isSome := by
  obtain ⟨h1, h2⟩ := h.look k
  cases e : lookT kt k with
  | none =>
    rw [h2 e]
    rfl
  | some d =>
    obtain ⟨v, e2, _⟩ := h1 d e
    rw [e2]
    rfl
/-- the keys, sorted: a list of key tuples -/
theorem keys_of {Hs H : Hp} : ∀ {kvs : List (List Key × V)} {kt : List ((Int × Int) × PyData)} {bs : List Addr}, RpT K Hs kvs kt → IsKeys H kvs bs → RpAll K H (bs.map V.ref) ((kt.map (·.1)).map dP)
  | [], [], _, _, .nil => .nil
  | (k, v) :: r, (k', d) :: r', _, h, .cons h1 h2 => by
    obtain ⟨rfl, _, hr⟩ := h
    exact .cons (rp_of_pair h1) (keys_of hr h2)
theorem rp_settle {H : Hp} : ∀ {ps : List (Int × Int)} {ys : List V} {Hs : Hp}, RpAll K H ys (ps.map dP) → Same Hs H → ∃ Hs', Gr Hs H Hs' H ∧ RpAll K Hs' ys (ps.map dP)
  | [], _, Hs, .nil, s => ⟨Hs, Gr.refl s, .nil⟩
  | p :: ps, _, Hs, .cons h1 h2, s => by
    obtain ⟨Hs1, g1, r1⟩ := rp_settle h2 s
    obtain ⟨t, rfl, ht⟩ := rp_pair h1
    have g2 := Gr.tup g1.c ht
    exact ⟨_, g1.trans g2, .cons (rp_of_pair upd_same) (r1.mono g2.a)⟩
theorem rc_sortedDT {H : Hp} {d : Addr} {kvs : List (List Key × V)} {kt : List ((Int × Int) × PyData)} {Hs : Hp} {Q : VK} (hd : H d = some (.dT kvs)) (ht : RpT K Hs kvs kt) (s : Same Hs H)
    (q : ∀ p ys, H p = none → RpAll K H ys ((sortP (kt.map (·.1))).map dP) → Q (.ref p) (upd H p (.lst ys))) : rSortedDT [.ref d] H Q := by
  refine ⟨d, kvs, keyP K H, rfl, .inl hd, fun bs hb b hm => ?_, fun bs ys p hb h1 h2 hp => q p ys hp (srt_data (keys_of ht hb) h1 h2.perm)⟩
  obtain ⟨t, e, ht⟩ := rp_pair (keyP_mem (keys_of ht hb) (.ref b) (List.mem_map.mpr ⟨b, hm, rfl⟩))
  cases e
  exact ht
/-! ### a comprehension at one place -/
theorem lc_atU {α : Type} {ρ : Rho} {wi : TI} {g : TG} {tt : TT} {te : TE} {vs sl : List Nat} {xs : List α} {σ : L2.St} {Hs H : Hp} {Q : VK} (mk : α → PyData) (b : α → Bool) (f : α → PyData) (ρ' : α → Rho) (e : EnvD K Hs σ ρ) (s : Same Hs H)
    (hi : ∀ R : It → Hp → Prop, (∀ J Hs1 H1, Gr Hs H Hs1 H1 → WalkD K J Hs1 (xs.map mk) → R J H1) → wi σ H R) (hl : xs.length ≤ 50000) (hsl : ∀ i ∈ sl, i ∈ vs)
    (hg : ∀ d ∈ xs, YG K g sl (wipeD ρ vs) (mk d) (ρ' d))
    (ht : ∀ d ∈ xs, ∀ σ' Hs' H', Gr Hs H Hs' H' → EnvD K Hs' σ' (ρ' d) → (∀ i, i ∉ vs → σ'[i]? = σ[i]?) → ∀ R : Bool → Hp → Prop, (∀ Hs2 H2, Gr Hs' H' Hs2 H2 → R (b d) H2) → tt σ' H' R)
    (he : ∀ d ∈ xs, b d = true → ∀ σ' Hs' H', Gr Hs H Hs' H' → EnvD K Hs' σ' (ρ' d) → (∀ i, i ∉ vs → σ'[i]? = σ[i]?) → ∀ R : VK, (∀ v Hs2 H2, Gr Hs' H' Hs2 H2 → Rp K Hs2 v (f d) → R v H2) → te σ' H' R)
    (q : ∀ a acc Hs2 H2, Gr Hs H Hs2 H2 → H a = none → Hs2 a = none → H2 a = some (.lst acc) → RpAll K Hs2 acc ((xs.filter b).map f) → Q (.ref a) H2) : tLc wi g tt te vs σ H Q := by
  refine hi _ fun J Hs1 H1 g1 wk D hD => ?_
  have hD1 : Hs1 D = none := same_none g1.c hD
  have hD0 : H D = none := same_none g1.b hD
  refine ⟨fun i m H' => i + m = xs.length ∧ ∃ Hs' acc, Gr Hs H Hs' H' ∧ Same Hs1 Hs' ∧ Hs' D = none ∧ H' D = some (.lst acc) ∧ RpAll K Hs' acc (((xs.take i).filter b).map f), ⟨xs.length, by omega, Hs1, [], (g1.trans (Gr.fresh g1.c hD)), Same.refl _, hD1, upd_same, .nil⟩, ?_⟩
  rintro i m H' ⟨him, Hs', acc, gr, s1, hDs, hDl, ra⟩
  obtain ⟨w1, w2⟩ := wk i Hs' H' s1 gr.c
  by_cases hlt : i < xs.length
  · right
    have hd : xs[i]? = some xs[i] := List.getElem?_eq_getElem hlt
    have hm : xs[i] ∈ xs := List.getElem_mem hlt
    obtain ⟨go, yl⟩ := w1 (mk xs[i]) (by rw [List.getElem?_map, hd]; rfl)
    have et : xs.take (i + 1) = xs.take i ++ [xs[i]] := by rw [List.take_add_one, hd]; rfl
    refine ⟨go, fun H'' => i + 1 + (m - 1) = xs.length ∧ ∃ Hs' acc, Gr Hs H Hs' H'' ∧ Same Hs1 Hs' ∧ Hs' D = none ∧ H'' D = some (.lst acc) ∧ RpAll K Hs' acc (((xs.take (i + 1)).filter b).map f), fun H'' nx => ⟨m - 1, by omega, nx⟩, fun x H2 hy => ?_⟩
    obtain ⟨Hs2, gr2, rx⟩ := yl x H2 hy
    have hDH' : Mu (H' D) := by rw [hDl]; trivial
    have hDs2 : Hs2 D = none := gr2.d D hDH' hDs
    refine hg _ hm (wipe σ vs) Hs2 H2 x ((e.mono (gr.a.trans gr2.a)).wipe vs) gr2.c rx _ fun σ2 e2 l2 n2 => ⟨?_, ?_⟩
    · have : wipe σ2 vs = wipe (wipe σ vs) vs := wipe_ext l2 fun j hj => n2 j fun z => hj (hsl j z)
      rw [this]
      exact wipe_ext (wipe_length _ _) fun j hj => wipe_out hj
    · have n3 : ∀ j, j ∉ vs → σ2[j]? = σ[j]? := fun j hj => (n2 j fun z => hj (hsl j z)).trans (wipe_out hj)
      refine ht _ hm σ2 Hs2 H2 (gr.trans gr2) e2 n3 _ fun Hs3 H3 gr3 => ?_
      have hDH2 : Mu (H2 D) := hDH'.same gr2.b
      have hDs3 : Hs3 D = none := gr3.d D hDH2 hDs2
      have hl3 : H3 D = some (.lst acc) := gr3.b _ _ (gr2.b _ _ hDl)
      cases hb : b xs[i] with
      | true =>
        rw [if_pos rfl]
        refine he _ hm hb σ2 Hs3 H3 ((gr.trans gr2).trans gr3) (e2.mono gr3.a) n3 _ fun y Hs4 H4 gr4 ry => ?_
        have hDH3 : Mu (H3 D) := by rw [hl3]; trivial
        have hDs4 : Hs4 D = none := gr4.d D hDH3 hDs3
        have hl4 : H4 D = some (.lst acc) := gr4.b _ _ hl3
        have hal : acc.length ≤ xs.length := by
          rw [ra.len, List.length_map]
          exact Nat.le_trans (List.length_filter_le _ _) (by rw [List.length_take]; omega)
        refine ⟨acc, hl4, sz_lt (by omega), by omega, Hs4, acc ++ [y], (((gr.trans gr2).trans gr3).trans gr4).mut hD0 hDs4, (s1.trans (gr2.a.trans (gr3.a.trans gr4.a))), hDs4, upd_same, ?_⟩
        rw [et, List.filter_append, List.map_append]
        have : ([xs[i]].filter b).map f = [f xs[i]] := by simp [hb]
        rw [this]
        exact (ra.mono (gr2.a.trans (gr3.a.trans gr4.a))).snoc ry
      | false =>
        rw [if_neg (by decide)]
        refine ⟨by omega, Hs3, acc, (gr.trans gr2).trans gr3, s1.trans (gr2.a.trans gr3.a), hDs3, hl3, ?_⟩
        rw [et, List.filter_append, List.map_append]
        have : ([xs[i]].filter b).map f = [] := by simp [hb]
        rw [this, List.append_nil]
        exact ra.mono (gr2.a.trans gr3.a)
  · left
    refine ⟨w2 (by rw [List.length_map]; omega), ?_⟩
    have hei : xs.take i = xs := List.take_of_length_le (by omega)
    rw [hei] at ra
    exact q D acc Hs' H' gr hD0 hDs hDl ra
end
end SG
set_option Elab.async false
set_option linter.all false
set_option maxRecDepth 100000
set_option maxHeartbeats 4000000
namespace SG
open PySem PySem.Spec PyProof.Rows L2
/-! ### o.m(e, ..) where what is raised is wished for at the caller's slots -/
def tMethE (C : Addr) (m : Str) (sp : Sp) (E : L2.St → XK) (ta : TE) (t : TA) : TE := fun σ H Q => ta σ H fun x H1 => ∃ a dx fs, x = .ref a ∧ H1 a = some (.ins C dx fs) ∧ fs.lookup m = none ∧ t σ H1 fun vs H2 => sp (x :: vs) H2 Q (E σ)
theorem pe_methE {X : Cx} {CX : CXT} {k : Nat} {f C : Addr} {fd : FuncData} {ps : List Str} {sp : Sp} {E : L2.St → XK} {m : Str} {pos apos : Pos} {e o : Expr} {es : List Expr} {ta : TE} {t : TA} {pl : Sem Bool} (he : PE X o ta) (c : Cls X.K C) (hm : Meth X.K C m f) (F : FnOk X.prog X.w X.K X.mg X.base CX k f fd ps sp) (hr : Room k X.A) (hb : Binds X.K fd ps []) (hx : ∀ σ, PassesAt CX X σ (E σ)) (ha : PA X (e :: es) t)
    (hst : starEach (e :: es) X.env = (false, eval e X.env) :: starEach es X.env := by rfl) (hpl : (backTo pos (starEach es X.env)).any (·.1) = false := by rfl)
    (ht : eval (.Call (.Attribute o m apos) (e :: es) [] pos) X.env = (do
      let ov ← eval o X.env
      standAt apos.atName
      let (f, first) ← holding [ov] (getMethod ov m pl)
      callWith pos f first (backTo pos (starEach (e :: es) X.env)) (backToKw pos (keywordEach [] X.env))) := by rfl) :
    PE X (.Call (.Attribute o m apos) (e :: es) [] pos) (tMethE C m sp E ta t) := by
  refine ⟨fun pins s σ H Q I h => ?_⟩
  refine PySem.W.methodCall_KW (pl := pl) (thn (he.run pins s σ H _ I h) fun u s1 ⟨x, H1, I1, rx, a, dx, fs, ex, ea, l, q⟩ => ?_) ht
  subst ex
  obtain rfl : u = Value.ref a := rx
  refine getmeth_ok I1 ea c hm l ?_
  refine PySem.W.callWith_K (first := [.ref a]) (h₀ := X.base) I.ok.mod.kin hm.kp (thn (ha.run pos pins s1 σ H1 _ I1 q) fun us s2 ⟨vs, H2, I2, r, q2⟩ => ⟨I2.kIn, ?_⟩) hst hpl
  exact run_fnS (us := .ref a :: us) (vs := .ref a :: vs) F hr hb (hx σ) I2 (.cons rfl r) q2
/-! ### x is True -/
def rIsX (neg : Bool) : R2 := fun x y H Q => ∃ b : Bool, y = .bl b ∧ ((∃ a, x = .bl a) ∨ (∃ i, x = .int i) ∨ x = .non) ∧ Q (.bl (if neg then !decide (x = y) else decide (x = y))) H
section
variable {X : Cx}
theorem op_isX : OpR X (compareOp .Is) (rIsX false) := by
  intro pins s σ H x y v u Q I rx ry h
  obtain ⟨b, rfl, hx, q⟩ := h
  cases (show u = Value.bool b from ry)
  rcases hx with ⟨a, rfl⟩ | ⟨i, rfl⟩ | rfl
  · cases (show v = Value.bool a from rx)
    by_cases e : a = b
    · subst e
      exact wpAny_is_self rfl ⟨.bl true, H, I, rfl, by simpa using q⟩
    · exact wpAny_is_other rfl (fun z => e (Value.bool.inj z)) ⟨.bl false, H, I, rfl, by simpa [e] using q⟩
  · obtain ⟨t, rfl⟩ := (show ∃ t, v = Value.int i t from rx)
    exact wpAny_is_other rfl (fun z => nomatch z) ⟨.bl false, H, I, rfl, by simpa using q⟩
  · cases (show v = Value.none from rx)
    exact wpAny_is_other rfl (fun z => nomatch z) ⟨.bl false, H, I, rfl, by simpa using q⟩
end
def rListDT : List V → Hp → VK → Prop := fun xs H Q => ∃ d kvs, xs = [V.ref d] ∧ Rd H d (.dT kvs) ∧ ∀ p bs, H p = none → IsKeys H kvs bs → Q (.ref p) (upd H p (.lst (bs.map V.ref)))
theorem call_listDT {X : Cx} (hc : X.calm = true) : CallR X (.type "list") rListDT := call_list_dT hc
def rInsert : V → List V → Hp → VK → Prop := fun x vs H Q => ∃ (l : Addr) (xs : List V) (i : Int) (y : V), x = .ref l ∧ vs = [.int i, y] ∧ H l = some (.lst xs) ∧ xs.length < sizeLine ∧ 0 ≤ i ∧ i < 2 ^ 63 ∧ Q .non (upd H l (.lst (xs.take i.toNat ++ [y] ++ xs.drop i.toNat)))
theorem mt_ins {X : Cx} : MtR X "list.insert" rInsert := mt_insert
end SG
set_option Elab.async false
set_option linter.all false
set_option maxRecDepth 100000
set_option maxHeartbeats 4000000
namespace SG
open PySem PySem.Spec PyProof.Rows L2
/-! ### one list that a def fills: it stands in a slot, in the heap, not in what is settled -/
structure GrO (p : Addr) (Hs H Hs2 H2 : Hp) : Prop where
  a : Same Hs Hs2
  b : ∀ x o, x ≠ p → H x = some o → H2 x = some o
  c : Same Hs2 H2
  d : ∀ x, x ≠ p → Mu (H x) → Hs x = none → Hs2 x = none
section
variable {p : Addr} {Hs0 H0 Hs H Hs1 H1 Hs2 H2 : Hp}
theorem Gr.o (g : Gr Hs H Hs1 H1) : GrO p Hs H Hs1 H1 := ⟨g.a, fun x o _ h => g.b x o h, g.c, fun x _ h1 h2 => g.d x h1 h2⟩
theorem GrO.mu (g : GrO p Hs H Hs1 H1) {x : Addr} (n : x ≠ p) (h : Mu (H x)) : Mu (H1 x) := by
  cases e : H x with
  | none => rw [e] at h; exact h.elim
  | some o => rw [g.b x o n e, ← e]; exact h
theorem GrO.trans (g : GrO p Hs H Hs1 H1) (k : GrO p Hs1 H1 Hs2 H2) : GrO p Hs H Hs2 H2 :=
  ⟨g.a.trans k.a, fun x o n h => k.b x o n (g.b x o n h), k.c, fun x n h1 h2 => k.d x n (g.mu n h1) (g.d x n h1 h2)⟩
theorem Gr.byO (g : Gr Hs0 H0 Hs H) (h0 : H0 p = none) (k : GrO p Hs H Hs2 H2) : Gr Hs0 H0 Hs2 H2 where
  a := g.a.trans k.a
  b := fun x o e => k.b x o (ne_of_none e h0) (g.b x o e)
  c := k.c
  d := fun x h1 h2 => by
    have n : x ≠ p := fun z => by rw [z, h0] at h1; exact h1
    exact k.d x n (h1.same g.b) (g.d x h1 h2)
end
structure Ow (K : PySem.W.Frag) (i : Nat) (σ : L2.St) (Hs H : Hp) (p : Addr) (ds : List PyData) : Prop where
  sl : σ[i]? = some (some (.ref p))
  ns : Hs p = none
  ls : ∃ vs, H p = some (.lst vs) ∧ RpAll K Hs vs ds
/-- t goes on; the list at slot i goes from ds to ds' -/
def YM (K : PySem.W.Frag) (t : TS) (i : Nat) (sl : List Nat) (ρ : Rho) (ds : List PyData) (ρ' : Rho) (ds' : List PyData) : Prop :=
  ∀ (σ : L2.St) (Hs H : Hp) (p : Addr), EnvD K Hs σ ρ → Same Hs H → Ow K i σ Hs H p ds → ∀ D : Ends, (∀ σ' Hs2 H2, GrO p Hs H Hs2 H2 → EnvD K Hs2 σ' ρ' → Ow K i σ' Hs2 H2 p ds' → (∀ j, j ∉ sl → σ'[j]? = σ[j]?) → D.nx σ' H2) → t D σ H
def YMR (K : PySem.W.Frag) (t : TS) (i : Nat) (ρ : Rho) (ds : List PyData) (d : PyData) : Prop :=
  ∀ (σ : L2.St) (Hs H : Hp) (p : Addr), EnvD K Hs σ ρ → Same Hs H → Ow K i σ Hs H p ds → ∀ D : Ends, (∀ v Hs2 H2, GrO p Hs H Hs2 H2 → Rp K Hs2 v d → D.rt v H2) → t D σ H
section
variable {K : PySem.W.Frag} {ρ ρ1 ρ2 : Rho} {te : TE} {t u : TS} {c : TT} {d : PyData} {b : Bool} {i j : Nat} {sl sl2 : List Nat} {ds ds1 ds2 : List PyData}
theorem Ow.gr {σ : L2.St} {Hs H Hs2 H2 : Hp} {p : Addr} (o : Ow K i σ Hs H p ds) (g : Gr Hs H Hs2 H2) : Ow K i σ Hs2 H2 p ds := by
  obtain ⟨h1, h2, vs, h3, h4⟩ := o
  exact ⟨h1, g.d p (by rw [h3]; trivial) h2, vs, g.b _ _ h3, h4.mono g.a⟩
theorem Ow.sig {σ σ' : L2.St} {Hs H : Hp} {p : Addr} (o : Ow K i σ Hs H p ds) (h : σ'[i]? = σ[i]?) : Ow K i σ' Hs H p ds := ⟨h.trans o.sl, o.ns, o.ls⟩
theorem ym_n (h : YN K t sl ρ ρ1) (hi : i ∉ sl) : YM K t i sl ρ ds ρ1 ds := fun σ Hs H p e s o D q => h σ Hs H e s D fun σ' Hs2 H2 g e2 n => q σ' Hs2 H2 g.o e2 ((o.gr g).sig (n i hi)) n
theorem ym_next : YM K tNext i [] ρ ds ρ ds := ym_n yn_next (by simp)
theorem ym_seq (h : YM K t i sl ρ ds ρ1 ds1) (k : YM K u i sl2 ρ1 ds1 ρ2 ds2) : YM K (tSeq t u) i (sl ++ sl2) ρ ds ρ2 ds2 := fun σ Hs H p e s o D q => h σ Hs H p e s o _ fun σ1 Hs1 H1 g1 e1 o1 n1 => k σ1 Hs1 H1 p e1 g1.c o1 D fun σ2 Hs2 H2 g2 e2 o2 n2 => q σ2 Hs2 H2 (g1.trans g2) e2 o2 fun j hj => (n2 j fun z => hj (List.mem_append_right _ z)).trans (n1 j fun z => hj (List.mem_append_left _ z))
theorem ym_sub (h : YM K t i sl ρ ds ρ1 ds1) (hs : subR ρ2 ρ1) : YM K t i sl ρ ds ρ2 ds1 := fun σ Hs H p e s o D q => h σ Hs H p e s o D fun σ' Hs2 H2 g e2 o2 n => q σ' Hs2 H2 g (e2.sub hs) o2 n
theorem ym_eq (h : YM K t i sl ρ ds ρ1 ds1) (e : ds1 = ds2) : YM K t i sl ρ ds ρ1 ds2 := e ▸ h
/-- the list is looked at: nothing is kept of the look but a scalar -/
theorem Ow.look {σ : L2.St} {Hs H : Hp} {p : Addr} (o : Ow K i σ Hs H p ds) (e : EnvD K Hs σ ρ) (s : Same Hs H) : ∃ Hs', Same Hs Hs' ∧ Same Hs' H ∧ EnvD K Hs' σ (ρ.set i (some (.list ds))) := by
  obtain ⟨h1, h2, vs, h3, h4⟩ := o
  exact ⟨upd Hs p (.lst vs), same_new h2, same_own s h3, e.own h1 h2 h4⟩
theorem ym_if (h : YT K c (ρ.set i (some (.list ds))) b) (h1 : b = true → YM K t i sl ρ ds ρ1 ds1) (h2 : b = false → YM K u i sl2 ρ ds ρ1 ds1) : YM K (tIfS c t u) i (sl ++ sl2) ρ ds ρ1 ds1 := by
  intro σ Hs H p e s o D q
  obtain ⟨Hs', s1, s2, e1⟩ := o.look e s
  refine h σ Hs' H e1 s2 _ fun Hsx H1 gx => ?_
  have g1 : Gr Hs H Hs H1 := Gr.back s1 gx
  cases b with
  | true => exact h1 rfl σ Hs H1 p e g1.c (o.gr g1) D fun σ2 Hs2 H2 g2 e2 o2 n2 => q σ2 Hs2 H2 (g1.o.trans g2) e2 o2 fun j hj => n2 j fun z => hj (List.mem_append_left _ z)
  | false => exact h2 rfl σ Hs H1 p e g1.c (o.gr g1) D fun σ2 Hs2 H2 g2 e2 o2 n2 => q σ2 Hs2 H2 (g1.o.trans g2) e2 o2 fun j hj => n2 j fun z => hj (List.mem_append_right _ z)
theorem ym_asgS (h : YD K te (ρ.set i (some (.list ds))) d) (hs : scalD d = true) (hij : i ≠ j) : YM K (tAsg te (gName j)) i [j] ρ ds (ρ.set j (some d)) ds := by
  intro σ Hs H p e s o D q
  obtain ⟨Hs', s1, s2, e1⟩ := o.look e s
  refine h σ Hs' H e1 s2 _ fun v Hsx H1 gx r => ?_
  have g1 : Gr Hs H Hs H1 := Gr.back s1 gx
  exact q _ Hs H1 g1.o (e.set j (r.scal hs)) ((o.gr g1).sig (List.getElem?_set_ne (fun z => hij z.symm))) fun k hk => List.getElem?_set_ne fun z => hk (by rw [z]; exact List.mem_singleton_self _)
theorem ym_app (h : YD K te ρ d) (hl : ds.length < 50000) : YM K (tDrop (tBM K "list" rAppend (tVar i) (tCons te tNil))) i [] ρ ds ρ (ds ++ [d]) := by
  intro σ Hs H p e s o D q
  obtain ⟨h1, h2, vs, h3, h4⟩ := o
  refine s_append (d := d) h1 h3 h e s (by rw [h4.len]; omega) fun u Hs2 H2 g r => ?_
  have n2 : Hs2 p = none := g.d p (by rw [h3]; trivial) h2
  refine q σ Hs2 _ ⟨g.a, fun x o n hx => by rw [upd_ne n]; exact g.b x o hx, fun x o hx => by rw [upd_ne (ne_of_none hx n2)]; exact g.c x o hx, fun x n m hx => g.d x m hx⟩ (e.mono g.a) ⟨h1, n2, vs ++ [u], upd_same, (h4.mono g.a).snoc r⟩ fun _ _ => rfl
theorem ym_for {α : Type} {wi : TI} {g : TG} {tb : TS} {xs : List α} {slg slb : List Nat} {ρw : Rho} (mk : α → PyData) (acc : Nat → List PyData) (ρ' : Nat → α → Rho) (hi : YI K wi ρ (xs.map mk)) (hw : subR ρw ρ) (hn : i ∉ slg)
    (hg : ∀ k x, xs[k]? = some x → YG K g slg ρw (mk x) (ρ' k x)) (hb : ∀ k x, xs[k]? = some x → YM K tb i slb (ρ' k x) (acc k) ρw (acc (k + 1))) : YM K (tFor wi g tb) i (slg ++ slb) ρ (acc 0) ρw (acc xs.length) := by
  intro σ Hs H p e s o D q
  refine y_for hi e s fun Hs1 H1 g1 => ⟨fun k σ' Hs' H' => GrO p Hs H Hs' H' ∧ Same Hs1 Hs' ∧ EnvD K Hs' σ' ρw ∧ Ow K i σ' Hs' H' p (acc k) ∧ ∀ j, j ∉ slg ++ slb → σ'[j]? = σ[j]?, ⟨g1.o, Same.refl _, (e.mono g1.a).sub hw, o.gr g1, fun _ _ => rfl⟩, fun k σ' Hs' H' z => ⟨z.2.1, z.1.c⟩, ?_, ?_⟩
  · rintro k z σ' Hs' H' hz ⟨gr, s1, e1, o1, n1⟩ v Hs2 H2 g2 rv
    rw [List.getElem?_map] at hz
    obtain ⟨x, hx, rfl⟩ := Option.map_eq_some_iff.mp hz
    refine hg k x hx σ' Hs2 H2 v (e1.mono g2.a) g2.c rv _ fun σ2 e2 l2 n2 => ?_
    refine hb k x hx σ2 Hs2 H2 p e2 g2.c ((o1.gr g2).sig (n2 i hn)) _ fun σ3 Hs3 H3 g3 e3 o3 n3 => ⟨Hs3, (gr.trans g2.o).trans g3, s1.trans (g2.a.trans g3.a), e3, o3, fun j hj => ?_⟩
    exact (n3 j fun z => hj (List.mem_append_right _ z)).trans ((n2 j fun z => hj (List.mem_append_left _ z)).trans (n1 j hj))
  · rintro σ' Hs' H' ⟨gr, s1, e1, o1, n1⟩
    rw [List.length_map] at o1
    exact q σ' Hs' H' gr e1 o1 n1
/-- each turn puts one more into the list -/
theorem ym_forA {α : Type} {wi : TI} {g : TG} {tb : TS} {xs : List α} {slg slb : List Nat} {ρw : Rho} (mk f : α → PyData) (ρ' : α → Rho) (hi : YI K wi ρ (xs.map mk)) (hw : subR ρw ρ) (hn : i ∉ slg)
    (hg : ∀ x ∈ xs, YG K g slg ρw (mk x) (ρ' x)) (hb : ∀ x ∈ xs, ∀ acc : List PyData, acc.length ≤ ds.length + xs.length → YM K tb i slb (ρ' x) acc ρw (acc ++ [f x])) : YM K (tFor wi g tb) i (slg ++ slb) ρ ds ρw (ds ++ xs.map f) := by
  have h := ym_for (K := K) (ρ := ρ) (i := i) (tb := tb) (g := g) (slb := slb) mk (fun k => ds ++ (xs.take k).map f) (fun _ x => ρ' x) hi hw hn (fun k x hx => hg x (List.mem_of_getElem? hx)) fun k x hx => by
    have hm := List.mem_of_getElem? hx
    refine ym_eq (hb x hm (ds ++ (xs.take k).map f) ?_) ?_
    · rw [List.length_append, List.length_map, List.length_take]
      omega
    · rw [List.append_assoc, List.take_add_one, hx]
      simp
  have e1 : ds ++ (xs.take 0).map f = ds := by simp
  have e2 : ds ++ (xs.take xs.length).map f = ds ++ xs.map f := by rw [List.take_of_length_le (Nat.le_refl _)]
  rw [e1, e2] at h
  exact h
/-- a loop over values: the slots go from st k to st (k + 1) -/
theorem yn_forV {α : Type} {wi : TI} {g : TG} {tb : TS} {xs : List α} {slg slb : List Nat} (mk : α → PyData) (st : Nat → Rho) (ρ' : Nat → α → Rho) (hi : YI K wi ρ (xs.map mk)) (hw : subR (st 0) ρ)
    (hg : ∀ k x, xs[k]? = some x → YG K g slg (st k) (mk x) (ρ' k x)) (hb : ∀ k x, xs[k]? = some x → YN K tb slb (ρ' k x) (st (k + 1))) : YN K (tFor wi g tb) (slg ++ slb) ρ (st xs.length) := by
  intro σ Hs H e s D q
  refine y_for hi e s fun Hs1 H1 g1 => ⟨fun k σ' Hs' H' => Gr Hs H Hs' H' ∧ Same Hs1 Hs' ∧ EnvD K Hs' σ' (st k) ∧ ∀ j, j ∉ slg ++ slb → σ'[j]? = σ[j]?, ⟨g1, Same.refl _, (e.mono g1.a).sub hw, fun _ _ => rfl⟩, fun k σ' Hs' H' z => ⟨z.2.1, z.1.c⟩, ?_, ?_⟩
  · rintro k z σ' Hs' H' hz ⟨gr, s1, e1, n1⟩ v Hs2 H2 g2 rv
    rw [List.getElem?_map] at hz
    obtain ⟨x, hx, rfl⟩ := Option.map_eq_some_iff.mp hz
    refine hg k x hx σ' Hs2 H2 v (e1.mono g2.a) g2.c rv _ fun σ2 e2 l2 n2 => ?_
    refine hb k x hx σ2 Hs2 H2 e2 g2.c _ fun σ3 Hs3 H3 g3 e3 n3 => ⟨Hs3, (gr.trans g2).trans g3, s1.trans (g2.a.trans g3.a), e3, fun j hj => ?_⟩
    exact (n3 j fun z => hj (List.mem_append_right _ z)).trans ((n2 j fun z => hj (List.mem_append_left _ z)).trans (n1 j hj))
  · rintro σ' Hs' H' ⟨gr, s1, e1, n1⟩
    rw [List.length_map] at e1
    exact q σ' Hs' H' gr e1 n1
theorem ymr_seq (h : YM K t i sl ρ ds ρ1 ds1) (k : YMR K u i ρ1 ds1 d) : YMR K (tSeq t u) i ρ ds d := fun σ Hs H p e s o D q => h σ Hs H p e s o _ fun σ1 Hs1 H1 g1 e1 o1 n1 => k σ1 Hs1 H1 p e1 g1.c o1 D fun v Hs2 H2 g2 r => q v Hs2 H2 (g1.trans g2) r
theorem GrO.settled {Hs H Hs2 H2 : Hp} {p : Addr} {ob : HO} (hn : Hs p = none) (g : Gr (upd Hs p ob) H Hs2 H2) : GrO p Hs H Hs2 H2 :=
  ⟨(same_new hn).trans g.a, fun x o _ h => g.b x o h, g.c, fun x n m h => g.d x m (by rw [upd_ne n]; exact h)⟩
/-- the list is done -/
theorem ymr_settle (h : YR K u (ρ.set i (some (.list ds))) d) : YMR K u i ρ ds d := by
  intro σ Hs H p e s o D q
  obtain ⟨h1, h2, vs, h3, h4⟩ := o
  exact h σ _ H (e.own h1 h2 h4) (same_own s h3) D fun v Hs2 H2 g r => q v Hs2 H2 (GrO.settled h2 g) r
/-- x = [..], x is filled from now on -/
theorem yr_own {ta : TA} (h : YA K ta ρ ds) (hl : ds.length ≤ 100000) (k : YMR K u i (ρ.set i none) ds d) (hi : i < ρ.length) : YR K (tSeq (tAsg (tLst ta) (gName i)) u) ρ d := by
  intro σ Hs H e s D q
  refine h σ Hs H e s _ fun vs Hs1 H1 g1 r => ⟨by rw [r.len]; exact sz_of hl, fun p hp => ?_⟩
  have hp1 : Hs1 p = none := same_none g1.c hp
  have hp0 : H p = none := same_none g1.b hp
  have g2 : Gr Hs H Hs1 (upd H1 p (.lst vs)) := g1.trans (Gr.fresh g1.c hp)
  exact k _ Hs1 _ p ((e.mono g1.a).del (x := some (.ref p)) i) g2.c ⟨List.getElem?_set_self (by rw [e.1]; exact hi), hp1, vs, upd_same, r⟩ D fun v Hs2 H2 go rv => q v Hs2 H2 (g2.byO hp0 go) rv
/-- .. among statements: the list is settled behind t -/
theorem yn_own {ta : TA} (h : YA K ta ρ ds) (hl : ds.length ≤ 100000) (k : YM K t i sl (ρ.set i none) ds ρ1 ds1) (hi : i < ρ.length) : YN K (tSeq (tAsg (tLst ta) (gName i)) t) (i :: sl) ρ (ρ1.set i (some (.list ds1))) := by
  intro σ Hs H e s D q
  refine h σ Hs H e s _ fun vs Hs1 H1 g1 r => ⟨by rw [r.len]; exact sz_of hl, fun p hp => ?_⟩
  have hp1 : Hs1 p = none := same_none g1.c hp
  have hp0 : H p = none := same_none g1.b hp
  have g2 : Gr Hs H Hs1 (upd H1 p (.lst vs)) := g1.trans (Gr.fresh g1.c hp)
  refine k _ Hs1 _ p ((e.mono g1.a).del (x := some (.ref p)) i) g2.c ⟨List.getElem?_set_self (by rw [e.1]; exact hi), hp1, vs, upd_same, r⟩ D fun σ' Hs2 H2 go e2 o2 n2 => ?_
  obtain ⟨h1, h2, vs2, h3, h4⟩ := o2
  refine q σ' (upd Hs2 p (.lst vs2)) H2 ((g2.byO hp0 go).settle hp0 h3 h2) (e2.own h1 h2 h4) fun j hj => ?_
  have hj1 : j ≠ i := fun z => hj (by rw [z]; exact List.mem_cons_self)
  exact (n2 j fun z => hj (List.mem_cons_of_mem _ z)).trans (List.getElem?_set_ne (fun z => hj1 z.symm))
/-! a dict display -/
theorem yd_dnew : YD K tDNewK ρ (.dict []) := fun σ Hs H e s Q q p hp => q _ _ _ (Gr.new s hp) (.dct upd_same)
end
/-! x is not True -/
theorem op_isnotX {X : Cx} : OpR X (compareOp .IsNot) (rIsX true) := by
  intro pins s σ H x y v u Q I rx ry h
  obtain ⟨b, rfl, hx, q⟩ := h
  cases (show u = Value.bool b from ry)
  rcases hx with ⟨a, rfl⟩ | ⟨i, rfl⟩ | rfl
  · cases (show v = Value.bool a from rx)
    by_cases e : a = b
    · subst e
      exact wpAny_isNot_self rfl ⟨.bl false, H, I, rfl, by simpa using q⟩
    · exact wpAny_isNot_other rfl (fun z => e (Value.bool.inj z)) ⟨.bl true, H, I, rfl, by simpa [e] using q⟩
  · obtain ⟨t, rfl⟩ := (show ∃ t, v = Value.int i t from rx)
    exact wpAny_isNot_other rfl (fun z => nomatch z) ⟨.bl true, H, I, rfl, by simpa using q⟩
  · cases (show v = Value.none from rx)
    exact wpAny_isNot_other rfl (fun z => nomatch z) ⟨.bl true, H, I, rfl, by simpa using q⟩
end SG
set_option Elab.async false
set_option linter.all false
set_option maxRecDepth 100000
set_option maxHeartbeats 4000000
namespace SG
open PySem PySem.Spec PyProof.Rows L2
/-! ### tables of code objects stand in the heap and are never settled -/
def nt (Hs : Hp) : Hp := fun b => match Hs b with
  | some (.tbl _) => none
  | o => o
def NoT (Hs : Hp) : Prop := ∀ b ps, Hs b ≠ some (.tbl ps)
section
variable {Hs H Hs1 H1 Hs2 H2 : Hp} {K : PySem.W.Frag}
theorem nt_no : NoT (nt Hs) := fun b ps => by
  unfold nt
  split
  · exact fun z => nomatch z
  · rename_i h
    exact fun z => h ps z
theorem nt_get {b : Addr} {o : HO} (h : nt Hs b = some o) : Hs b = some o := by
  unfold nt at h
  split at h
  · cases h
  · exact h
theorem nt_of {b : Addr} {o : HO} (h : Hs b = some o) (n : ∀ ps, o ≠ .tbl ps) : nt Hs b = some o := by
  unfold nt
  split
  · rename_i ps e
    rw [h] at e
    exact absurd (Option.some.inj e) (n ps)
  · exact h
theorem nt_none {b : Addr} (h : Hs b = none) : nt Hs b = none := by
  cases e : nt Hs b with
  | none => rfl
  | some o => rw [nt_get e] at h; cases h
mutual
theorem Rp.nt : ∀ {v : V} {d : PyData}, Rp K Hs v d → Rp K (nt Hs) v d
  | _, _, .non => .non
  | _, _, .bl b => .bl b
  | _, _, .int b => .int b
  | _, _, .str b => .str b
  | _, _, .lst s a => .lst (nt_of s fun _ z => nomatch z) (RpAll.nt a)
  | _, _, .tup s a => .tup (nt_of s fun _ z => nomatch z) (RpAll.nt a)
  | _, _, .dct h => .dct (nt_of h fun _ z => nomatch z)
theorem RpAll.nt : ∀ {v : List V} {d : List PyData}, RpAll K Hs v d → RpAll K (nt Hs) v d
  | _, _, .nil => .nil
  | _, _, .cons a b => .cons (Rp.nt a) (RpAll.nt b)
end
theorem EnvD.nt {σ : L2.St} {ρ : Rho} (h : EnvD K Hs σ ρ) : EnvD K (nt Hs) σ ρ := ⟨h.1, fun i d q => by
  obtain ⟨v, h1, h2⟩ := h.2 i d q
  exact ⟨v, h1, h2.nt⟩⟩
theorem RpT.nt : ∀ {kvs : List (List Key × V)} {kt : List ((Int × Int) × PyData)}, RpT K Hs kvs kt → RpT K (nt Hs) kvs kt
  | [], [], h => h
  | [], _ :: _, h => h.elim
  | _ :: _, [], h => h.elim
  | (k, v) :: r, (k', d) :: r', h => ⟨h.1, h.2.1.nt, RpT.nt h.2.2⟩
/-- growth where tables may grow -/
structure GrT (Hs H Hs2 H2 : Hp) : Prop where
  a : Same Hs Hs2
  b : LamX.ExtN H H2
  c : Same Hs2 H2
  d : ∀ x, Mu (H x) → (∀ ps, H x ≠ some (.tbl ps)) → Hs x = none → Hs2 x = none
  n : NoT Hs2
theorem Gr.t (n : NoT Hs) (g : Gr Hs H Hs2 H2) : GrT Hs H (nt Hs2) H2 :=
  ⟨fun b o e => nt_of (g.a b o e) fun ps z => n b ps (by rw [e, z]), LamX.ExtN.of g.b, fun b o e => g.c b o (nt_get e), fun x m _ h => nt_none (g.d x m h), nt_no⟩
theorem GrT.trans (g : GrT Hs H Hs1 H1) (k : GrT Hs1 H1 Hs2 H2) : GrT Hs H Hs2 H2 := by
  refine ⟨g.a.trans k.a, g.b.trans k.b, k.c, fun x m n h => ?_, k.n⟩
  cases e : H x with
  | none => rw [e] at m; exact m.elim
  | some o =>
    have e1 : H1 x = some o := g.b x o e fun ps z => n ps (by rw [e, z])
    refine k.d x ?_ ?_ (g.d x m n h)
    · rw [e1, ← e]
      exact m
    · rw [e1, ← e]
      exact n
theorem GrT.refl (n : NoT Hs) (s : Same Hs H) : GrT Hs H Hs H := ⟨Same.refl _, LamX.ExtN.refl _, s, fun _ _ _ h => h, n⟩
theorem GrT.lam (n : NoT Hs) (s : Same Hs H) (e : LamX.ExtN H H1) : GrT Hs H Hs H1 := ⟨Same.refl _, e, fun b o h => e b o (s b o h) fun ps z => n b ps (by rw [h, z]), fun _ _ _ h => h, n⟩
theorem Tabs.gr {T : List (Addr × Str)} (t : LamX.Tabs T H) (g : Gr Hs H Hs2 H2) : LamX.Tabs T H2 := t.ext g.b
/-- what is neither a table nor a code object -/
def NTab (o : Option HO) : Prop := (∀ ps, o ≠ some (.tbl ps)) ∧ ∀ c q, o ≠ some (LamX.CodeO c q)
theorem Tabs.but {T : List (Addr × Str)} {ms : List Addr} (t : LamX.Tabs T H) (g : ∀ x o, x ∉ ms → H x = some o → H2 x = some o) (hm : ∀ b ∈ ms, NTab (H b)) : LamX.Tabs T H2 := by
  intro p hp
  obtain ⟨ps, h1, h2, h3⟩ := t p hp
  refine ⟨ps, g _ _ (fun z => (hm _ z).1 ps h1) h1, h2, fun pos cv hc => ?_⟩
  obtain ⟨c, e1, e2⟩ := h3 pos cv hc
  exact ⟨c, e1, g _ _ (fun z => (hm _ z).2 _ _ e2) e2⟩
theorem ntab_dT {kv : List (List Key × V)} : NTab (some (.dT kv)) := ⟨(fun _ z => nomatch z), fun c q z => by unfold LamX.CodeO at z; cases z⟩
theorem ntab_ins {C dx : Addr} {fs : List (Str × V)} : NTab (some (.ins C dx fs)) := ⟨(fun _ z => nomatch z), fun c q z => by unfold LamX.CodeO at z; cases z⟩
theorem ntab_lst {xs : List V} : NTab (some (.lst xs)) := ⟨(fun _ z => nomatch z), fun c q z => by unfold LamX.CodeO at z; cases z⟩
theorem ntab_none : NTab none := ⟨(fun _ z => nomatch z), fun c q z => nomatch z⟩
theorem Tabs.upd {T : List (Addr × Str)} {p : Addr} {o : HO} (t : LamX.Tabs T H) (hp : NTab (H p)) : LamX.Tabs T (upd H p o) := Tabs.but (ms := [p]) t (fun x o n h => by rw [upd_ne (fun z => n (by rw [z]; exact List.mem_singleton_self _))]; exact h) fun b hb => by rw [List.mem_singleton.mp hb]; exact hp
theorem GrT.mut {p : Addr} {o : HO} (g : GrT Hs H Hs1 H1) (h0 : H p = none) (hs : Hs1 p = none) : GrT Hs H Hs1 (upd H1 p o) where
  a := g.a
  b := fun b x e n => by
    rw [upd_ne (ne_of_none e h0)]
    exact g.b b x e n
  c := fun b x e => by
    rw [upd_ne (ne_of_none e hs)]
    exact g.c b x e
  d := g.d
  n := g.n
theorem GrT.byX {Hs0 H0 : Hp} {ms : List Addr} (g : GrT Hs0 H0 Hs H) (k : GrX ms Hs H Hs2 H2) (h0 : ∀ b ∈ ms, H0 b = none) : GrT Hs0 H0 (nt Hs2) H2 where
  a := fun b o e => nt_of (k.a b o (g.a b o e)) fun ps z => g.n b ps (by rw [g.a b o e, z])
  b := fun b o e n => k.b b o (fun z => ne_of_none e (h0 b z) rfl) (g.b b o e n)
  c := fun b o e => k.c b o (nt_get e)
  d := fun x m n h => by
    cases e : H0 x with
    | none => rw [e] at m; exact m.elim
    | some o =>
      have e1 : H x = some o := g.b x o e fun ps z => n ps (by rw [e, z])
      exact nt_none (k.d x (by rw [e1, ← e]; exact m) (g.d x m n h))
  n := nt_no
end
/-- the slots are as many as the names -/
theorem pss_len {X : Cx} {sts : List Stmt} {t : TS} {n : Nat} (h : PSs X sts t) (hn : X.N.length = n) : PSs X sts (fun D σ H => σ.length = n → t D σ H) := ⟨fun pins s σ H D I q => h.run pins s σ H D I (q (I.len.trans hn))⟩
/-- the rule of a def by its code object -/
theorem ok_code {P : Program} {w : World} {K : PySem.W.Frag} {mg : Str → Option Value} {base : Heap} {CX : CXT} {x qual : Str} {params : Arguments} {body : List Stmt} {scope : Scope} {f : Addr} {fd : FuncData} {N ps : List Str} {k : Nat} {sp : Sp}
    (F : FunD K x qual params body scope [] [] f fd) (S : FnScope N ps scope) (len : ∀ vs H Q E, sp vs H Q E → vs.length = ps.length)
    (hbody : ∀ (c : Addr) (A : Around) (outer : List Env) (s : Shared) (H : Hp) (vs : List V) (Q : VK) (E : XK), fd.code = .ref c → Room k (A.deeper (envOfC qual scope s.heap.objs.size f (.ref c))) → sp vs H Q E →
      ∃ t, PSs (cxOf CX P w K mg base N qual scope f (.ref c) A outer s H E) body t ∧ t { nx := fun _ H' => Q .non H', rt := Q } (L2.start N vs) H) : FnOk P w K mg base CX (k + 1) f fd ps sp := by
  obtain ⟨oc, od, dV, kV, doc, pm, an, cdv, ct, osl, rfl, lk, hcd, _, _⟩ := F.ex
  have hc : ∃ c, cdv = .ref c := by
    cases cdv with
    | ref c => exact ⟨c, rfl⟩
    | _ => cases hcd
  obtain ⟨c, rfl⟩ := hc
  exact fn_of lk hcd S len fun A outer s H vs Q E hr hsp => hbody c A outer s H vs Q E rfl hr hsp
/-- what a def that makes lambdas knows of its table -/
def TabOf (base : Heap) (mg : Str → Option Value) (T : List (Addr × Str)) (fd : FuncData) (q : Str) : Prop := ∀ c, fd.code = .ref c → ∃ P, LamX.TabB base mg c P ∧ (P, q) ∈ T ∧ ∀ p ∈ T, p.1 = P → p.2 = q
end SG
namespace SG
open PySem PySem.Spec PyProof.Rows L2
/-! ### loops where tables may grow -/
def YIT (K : PySem.W.Frag) (wi : TI) (σ : L2.St) (Hs H : Hp) (ds : List PyData) : Prop := ∀ R : It → Hp → Prop, (∀ J Hs1 H1, GrT Hs H Hs1 H1 → Same H H1 → WalkD K J Hs1 ds → R J H1) → wi σ H R
section
variable {K : PySem.W.Frag} {ρ : Rho} {te : TE} {ds : List PyData} {σ : L2.St} {Hs H : Hp}
theorem yit_list (h : YD K te ρ (.list ds)) (e : EnvD K Hs σ ρ) (n : NoT Hs) (s : Same Hs H) : YIT K (iList K te) σ Hs H ds := fun R q => h σ Hs H e s _ fun v Hs1 H1 g1 r1 => by
  have r2 := r1.nt
  have g2 := g1.t n
  cases r2 with
  | lst hs ha => exact ⟨_, rfl, ⟨_, sqL_mono g2.c hs⟩, q _ _ H1 g2 g1.b (walk_lst hs ha)⟩
theorem yit_tup (h : YD K te ρ (.tuple ds)) (e : EnvD K Hs σ ρ) (n : NoT Hs) (s : Same Hs H) : YIT K (iTup K te) σ Hs H ds := fun R q => h σ Hs H e s _ fun v Hs1 H1 g1 r1 => by
  have r2 := r1.nt
  have g2 := g1.t n
  cases r2 with
  | tup hs ha => exact ⟨_, rfl, ⟨_, sqT_mono g2.c hs⟩, q _ _ H1 g2 g1.b (walk_tup hs ha)⟩
theorem yit_rng2 {ta : TA} {m n : Int} (h : YA K ta ρ [.int m, .int n]) (hb : -(2 ^ 62) ≤ m ∧ m < 2 ^ 62 ∧ -(2 ^ 62) ≤ n ∧ n < 2 ^ 62) (e : EnvD K Hs σ ρ) (nn : NoT Hs) (s : Same Hs H) : YIT K (iRng2 ta) σ Hs H (rgD m (n - m).toNat) := fun R q => h σ Hs H e s _ fun vs Hs1 H1 g1 r1 => by
  cases r1 with
  | cons r1 r2 => cases r2 with
    | cons r2 r3 => cases r3; cases r1; cases r2; exact ⟨m, n, rfl, hb, q _ _ H1 (g1.t nn) g1.b walk_rng⟩
theorem y_forT {wi : TI} {g : TG} {tb : TS} {D : Ends} (hi : YIT K wi σ Hs H ds)
    (k : ∀ Hs1 H1, GrT Hs H Hs1 H1 → Same H H1 → ∃ Pv : Nat → L2.St → Hp → Hp → Prop, Pv 0 σ Hs1 H1 ∧ (∀ i σ' Hs' H', Pv i σ' Hs' H' → Same Hs1 Hs' ∧ Same Hs' H' ∧ NoT Hs') ∧
      (∀ (i : Nat) (d : PyData) σ' Hs' H', ds[i]? = some d → Pv i σ' Hs' H' → ∀ x Hs2 H2, GrT Hs' H' Hs2 H2 → Gr Hs' H' Hs' H2 → Rp K Hs2 x d → g x σ' H2 fun σ2 H3 => tb { D with nx := fun σ3 H4 => ∃ Hs4, Pv (i + 1) σ3 Hs4 H4, ct := fun σ3 H4 => ∃ Hs4, Pv (i + 1) σ3 Hs4 H4, bk := D.nx } σ2 H3) ∧
      ∀ σ' Hs' H', Pv ds.length σ' Hs' H' → D.nx σ' H') : tFor wi g tb D σ H := by
  refine hi _ fun J Hs1 H1 g1 sb wk => ?_
  obtain ⟨Pv, p0, hG, hs, hd⟩ := k Hs1 H1 g1 sb
  refine ⟨fun i m σ' H' => i + m = ds.length ∧ ∃ Hs', Pv i σ' Hs' H', ⟨ds.length, by omega, Hs1, p0⟩, ?_⟩
  rintro i m σ' H' ⟨him, Hs', p⟩
  obtain ⟨s1, sc, nn⟩ := hG i σ' Hs' H' p
  obtain ⟨w1, w2⟩ := wk i Hs' H' s1 sc
  by_cases hlt : i < ds.length
  · right
    have hd1 : ds[i]? = some ds[i] := List.getElem?_eq_getElem hlt
    obtain ⟨go, yl⟩ := w1 _ hd1
    refine ⟨go, fun σ3 H4 => ∃ Hs4, Pv (i + 1) σ3 Hs4 H4, fun σ3 H4 nx => ⟨m - 1, by omega, by omega, nx⟩, fun x H2 hy => ?_⟩
    obtain ⟨Hs2, gr2, rx⟩ := yl x H2 hy
    exact hs i _ σ' Hs' H' hd1 p x _ H2 (gr2.t nn) ⟨Same.refl _, gr2.b, sc.trans gr2.b, fun _ _ h => h⟩ rx.nt
  · left
    have : i = ds.length := by omega
    subst this
    exact ⟨w2 (Nat.le_refl _), hd σ' Hs' H' p⟩
/-- a comprehension over one name: each turn gives True -/
theorem lc_T {wi : TI} {te : TE} {T : List (Addr × Str)} {i : Nat} {Q : VK} (hi : YIT K wi σ Hs H ds) (hl : ds.length ≤ 50000) (tH : LamX.Tabs T H)
    (he : ∀ d ∈ ds, ∀ x Hs' H', GrT Hs H Hs' H' → LamX.Tabs T H' → Rp K Hs' x d → ∀ R : VK, (∀ Hs2 H2, GrT Hs' H' Hs2 H2 → LamX.Tabs T H2 → R (.bl true) H2) → te ((wipe σ [i]).set i (some x)) H' R)
    (q : ∀ a Hs2 H2, GrT Hs H Hs2 H2 → LamX.Tabs T H2 → Hs2 a = none → H2 a = some (.lst (List.replicate ds.length (.bl true))) → Q (.ref a) H2) : tLc wi (gName i) tYes te [i] σ H Q := by
  refine hi _ fun J Hs1 H1 g1 sb wk A hA => ?_
  have hA1 : Hs1 A = none := same_none g1.c hA
  have hA0 : H A = none := same_none sb hA
  refine ⟨fun k m H' => k + m = ds.length ∧ ∃ Hs', GrT Hs1 H1 Hs' H' ∧ GrT Hs H Hs' H' ∧ LamX.Tabs T H' ∧ Hs' A = none ∧ H' A = some (.lst (List.replicate k (.bl true))), ⟨ds.length, by omega, Hs1, (GrT.refl g1.n g1.c).mut hA hA1, g1.mut hA0 hA1, Tabs.upd (tH.ext sb) (by rw [hA]; exact ntab_none), hA1, upd_same⟩, ?_⟩
  rintro k m H' ⟨him, Hs', gr, gr0, tb', hDs, hDl⟩
  obtain ⟨w1, w2⟩ := wk k Hs' H' gr.a gr.c
  by_cases hlt : k < ds.length
  · right
    have hd : ds[k]? = some ds[k] := List.getElem?_eq_getElem hlt
    obtain ⟨go, yl⟩ := w1 _ hd
    refine ⟨go, fun H'' => k + 1 + (m - 1) = ds.length ∧ ∃ Hs', GrT Hs1 H1 Hs' H'' ∧ GrT Hs H Hs' H'' ∧ LamX.Tabs T H'' ∧ Hs' A = none ∧ H'' A = some (.lst (List.replicate (k + 1) (.bl true))), fun H'' nx => ⟨m - 1, by omega, nx⟩, fun x H2 hy => ?_⟩
    obtain ⟨Hs2, gr2, rx⟩ := yl x H2 hy
    have g2 := gr2.t gr.n
    have hl2 : H2 A = some (.lst (List.replicate k (.bl true))) := gr2.b _ _ hDl
    have hs2 : nt Hs2 A = none := nt_none (gr2.d A (by rw [hDl]; trivial) hDs)
    refine ⟨?_, ?_⟩
    · have e1 : wipe ((wipe σ [i]).set i (some x)) [i] = wipe (wipe σ [i]) [i] := wipe_ext (List.length_set ..) fun j hj => List.getElem?_set_ne fun z => hj (by rw [z]; exact List.mem_singleton_self _)
      rw [e1]
      exact wipe_ext (wipe_length _ _) fun j hj => wipe_out hj
    · unfold tYes
      dsimp only
      rw [if_pos rfl]
      refine he _ (List.getElem_mem hlt) x _ H2 (gr0.trans g2) (Tabs.gr tb' gr2) rx.nt _ fun Hs3 H3 g3 t3 => ?_
      have hl3 : H3 A = some (.lst (List.replicate k (.bl true))) := g3.b _ _ hl2 fun _ z => nomatch z
      have hs3 : Hs3 A = none := g3.d A (by rw [hl2]; trivial) (by rw [hl2]; exact fun _ z => nomatch z) hs2
      refine ⟨_, hl3, by rw [List.length_replicate]; exact sz_lt (by omega), by omega, Hs3, ((gr.trans g2).trans g3).mut hA hs3, ((gr0.trans g2).trans g3).mut hA0 hs3, Tabs.upd t3 (by rw [hl3]; exact ntab_lst), hs3, ?_⟩
      rw [upd_same, List.replicate_succ']
  · left
    have : k = ds.length := by omega
    subst this
    exact ⟨w2 (Nat.le_refl _), q A Hs' H' gr0 tb' hDs hDl⟩
/-- a loop: I tells of the slots -/
theorem for_T {wi : TI} {g : TG} {tb : TS} {D : Ends} {T : List (Addr × Str)} (hi : YIT K wi σ Hs H ds) (tH : LamX.Tabs T H) (I : L2.St → Prop) (h0 : I σ)
    (hb : ∀ (i : Nat) (d : PyData) (σ' : L2.St) (Hs' H' : Hp), ds[i]? = some d → I σ' → GrT Hs H Hs' H' → LamX.Tabs T H' → ∀ x, Rp K Hs' x d → ∀ D' : Ends, D'.rt = D.rt → (∀ σ3 Hs3 H3, I σ3 → GrT Hs' H' Hs3 H3 → LamX.Tabs T H3 → D'.nx σ3 H3) → g x σ' H' fun σ2 H3 => tb D' σ2 H3)
    (k : ∀ σ' Hs' H', I σ' → GrT Hs H Hs' H' → LamX.Tabs T H' → D.nx σ' H') : tFor wi g tb D σ H := by
  refine hi _ fun J Hs1 H1 g1 sb wk => ?_
  refine ⟨fun i m σ' H' => i + m = ds.length ∧ ∃ Hs', GrT Hs1 H1 Hs' H' ∧ I σ' ∧ LamX.Tabs T H', ⟨ds.length, by omega, Hs1, GrT.refl g1.n g1.c, h0, tH.ext sb⟩, ?_⟩
  rintro i m σ' H' ⟨him, Hs', gr, hI, tb'⟩
  obtain ⟨w1, w2⟩ := wk i Hs' H' gr.a gr.c
  by_cases hlt : i < ds.length
  · right
    have hd1 : ds[i]? = some ds[i] := List.getElem?_eq_getElem hlt
    obtain ⟨go, yl⟩ := w1 _ hd1
    refine ⟨go, fun σ3 H4 => ∃ Hs4, GrT Hs1 H1 Hs4 H4 ∧ I σ3 ∧ LamX.Tabs T H4, fun σ3 H4 nx => ⟨m - 1, by omega, by omega, nx⟩, fun x H2 hy => ?_⟩
    obtain ⟨Hs2, gr2, rx⟩ := yl x H2 hy
    have g2 := gr2.t gr.n
    exact hb i _ σ' _ H2 hd1 hI ((g1.trans gr).trans g2) (Tabs.gr tb' gr2) x rx.nt _ rfl fun σ3 Hs3 H3 i3 g3 t3 => ⟨Hs3, (gr.trans g2).trans g3, i3, t3⟩
  · left
    have : i = ds.length := by omega
    subst this
    exact ⟨w2 (Nat.le_refl _), k σ' Hs' H' hI (g1.trans gr) tb'⟩
end
end SG
set_option Elab.async false
set_option linter.all false
set_option maxRecDepth 100000
set_option maxHeartbeats 4000000
namespace SG
open PySem PySem.Spec PyProof.Rows L2
def top (i : Nat) : Stmt := PySem.Challenge.pw_sightings_k09_refused_news.main.body.getD i (.Pass ⟨0, 0, 0, 0⟩)
abbrev FnP (K : PySem.W.Frag) (x : Str) (st : Stmt) (f : Addr) (fd : FuncData) : Prop := FunD K x x (defArgs st) (defBody st) (defScope st) [] [] f fd
theorem hu65 {k : Nat} {A : Around} (hr : Room k A) : A.units + 65 < cLine := by have := hr.un; omega
structure Gb (mg : Str → Option Value) : Prop where
  b_len : mg "len" = none
  b_isinstance : mg "isinstance" = none
  b_all : mg "all" = none
  b_any : mg "any" = none
  b_min : mg "min" = none
  b_max : mg "max" = none
  b_sorted : mg "sorted" = none
  b_abs : mg "abs" = none
  b_sum : mg "sum" = none
  b_int : mg "int" = none
  b_bool : mg "bool" = none
  b_tuple : mg "tuple" = none
  b_list : mg "list" = none
  b_range : mg "range" = none
  b_zip : mg "zip" = none
  b_enumerate : mg "enumerate" = none
  b_reversed : mg "reversed" = none
  b_set : mg "set" = none
  b_dict : mg "dict" = none
structure Gi (mg : Str → Option Value) : Prop extends Gb mg where
  i_MOST_PLACES : ∃ t, mg "MOST_PLACES" = some (.int 7 t)
  i_MOST_WAYS : ∃ t, mg "MOST_WAYS" = some (.int 10 t)
  i_MOST_LAST : ∃ t, mg "MOST_LAST" = some (.int 10 t)
  i_MOST_SIGHTINGS : ∃ t, mg "MOST_SIGHTINGS" = some (.int 8 t)
  i_LAST_HAND : ∃ t, mg "LAST_HAND" = some (.int 3 t)
  i_LAST_OWN : ∃ t, mg "LAST_OWN" = some (.int 9 t)

/-! ### what lands are -/
def isNum : PyData → Bool
  | .int _ => true
  | _ => false
def numIn (d : PyData) (lo hi : Int) : Bool := match d with
  | .int i => decide (lo ≤ i) && decide (i ≤ hi)
  | _ => false
def isWay (d : PyData) (n : Int) : Bool := match d with
  | .tuple [.int i, b] => decide (0 ≤ i) && decide (i ≤ n - 1) && numIn b (i + 1) (n - 1)
  | _ => false
def ltD : PyData → PyData → Bool
  | .tuple [.int a, .int b], .tuple [.int c, .int d] => ltPr (a, b) (c, d)
  | _, _ => false
def incD : List PyData → Bool
  | a :: b :: r => ltD a b && incD (b :: r)
  | _ => true
def areWays (d : PyData) (n : Int) : Bool := match d with
  | .list ws => decide (ws.length ≤ 10) && (ws.all (fun w => isWay w n) && incD ws)
  | _ => false
def isLand (d : PyData) : Bool := match d with
  | .tuple [.int n, ws, l] => decide (1 ≤ n) && decide (n ≤ 7) && (areWays ws n && numIn l 1 10)
  | _ => false
section
variable {P : Program} {w : World} {K : PySem.W.Frag} {mg : Str → Option Value} {base : Heap} {f : Addr} {fd : FuncData}
abbrev s_is_number : Stmt := (top 19)
theorem sc_is_number : FnScope ["thing"] ["thing"] (defScope s_is_number) := ⟨rfl, rfl, rfl, by decide +kernel, rfl, by decide +kernel, by decide +kernel⟩
def R_is_number (ds : List PyData) (d : PyData) : Prop := ∃ x, ds = [x] ∧ d = .bool (isNum x)
theorem ok_is_number (F : FnP K "is_number" s_is_number f fd) (G : Gi mg) : FnOk P w K mg base CX0 1 f fd ["thing"] (spD K R_is_number) := by
  refine okD F sc_is_number (by rintro _ _ ⟨x, rfl, _⟩; rfl) fun cdv A outer s H E hr => ⟨_, (pss_one (ps_ret (pe_and (pe_callB (call_isik (K := K) rfl) rfl G.b_isinstance boot_isinstance (pa_cons (pv 0) (pa_cons (pe_ty (n := "int") rfl G.b_int (by decide +kernel)) pa_nil))) (pe_one (pe_not (pe_callB (call_isik (K := K) rfl) rfl G.b_isinstance boot_isinstance (pa_cons (pv 0) (pa_cons (pe_ty (n := "bool") rfl G.b_bool (by decide +kernel)) pa_nil)))))))), ?_⟩
  rintro _ _ ⟨x, rfl, rfl⟩
  refine yr_ret (YD.eq (yd_and (yd_isi (yd_var rfl) (kit_int x)) fun _ => yd_not (yd_isi (yd_var rfl) (kit_bool x))) ?_)
  cases x <;> rfl
abbrev s_is_within : Stmt := (top 20)
theorem sc_is_within : FnScope ["thing", "least", "most"] ["thing", "least", "most"] (defScope s_is_within) := ⟨rfl, rfl, rfl, by decide +kernel, rfl, by decide +kernel, by decide +kernel⟩
def R_is_within (ds : List PyData) (d : PyData) : Prop := ∃ x lo hi, ds = [x, .int lo, .int hi] ∧ d = .bool (numIn x lo hi)
theorem ok_is_within (F : FnP K "is_within" s_is_within f fd) (G : Gi mg) (c_is_number : Cal P w K mg base CX0 1 "is_number" (spD K R_is_number)) : FnOk P w K mg base CX0 2 f fd ["thing", "least", "most"] (spD K R_is_within) := by
  refine okD F sc_is_within (by rintro _ _ ⟨x, lo, hi, rfl, _⟩; rfl) fun cdv A outer s H E hr => ⟨_, (pss_one (ps_ret (pe_and (pe_d c_is_number hr (by decide) rfl (pa_cons (pv 0) pa_nil)) (pe_one (pe_chain (op_le) (op_le) (pv 1) (pv 0) (pv 2)))))), ?_⟩
  rintro _ _ ⟨x, lo, hi, rfl, rfl⟩
  refine yr_ret (YD.eq (yd_and (a := isNum x) (b := numIn x lo hi) (yd_call (ya_cons (yd_var rfl) ya_nil) ⟨x, rfl, rfl⟩) fun hx => ?_) ?_)
  · cases x with
    | int i => exact yd_chain (yd_var rfl) (yd_var rfl) rd_B0 (fun _ => yd_var rfl) (fun _ => rd_B0)
    | _ => cases hx
  · cases x <;> rfl
abbrev s_is_way : Stmt := (top 21)
theorem sc_is_way : FnScope ["thing", "places", "one", "other"] ["thing", "places"] (defScope s_is_way) := ⟨rfl, rfl, rfl, by decide +kernel, rfl, by decide +kernel, by decide +kernel⟩
def R_is_way (ds : List PyData) (d : PyData) : Prop := ∃ x n, ds = [x, .int n] ∧ d = .bool (isWay x n)
theorem ok_is_way (F : FnP K "is_way" s_is_way f fd) (G : Gi mg) (c_is_within : Cal P w K mg base CX0 2 "is_within" (spD K R_is_within)) : FnOk P w K mg base CX0 3 f fd ["thing", "places"] (spD K R_is_way) := by
  refine okD F sc_is_way (by rintro _ _ ⟨x, n, rfl, _⟩; rfl) fun cdv A outer s H E hr => ⟨_, (pss_cons (ps_if (PW.pt (pw_or (pt_not (pt_val (pe_callB (call_isik (K := K) rfl) rfl G.b_isinstance boot_isinstance (pa_cons (pv 0) (pa_cons (pe_ty (n := "tuple") rfl G.b_tuple (by decide +kernel)) pa_nil))))) (pw_or1 (pt_cmpR (op_nek (K := K) rfl hr.units) (pe_callB (call_lenk (K := K) rfl) rfl G.b_len boot_len (pa_cons (pv 0) pa_nil)) pe_int (nomark _))))) (pss_one (ps_ret pe_bl)) pss_nil)
      (pss_cons (ps_asg (pv 0) (pg_tupk (K := K) (n := 2) rfl rfl (pgs_cons (pg_name (i := 2) sc_is_way.nd rfl (Or.inl rfl)) (pgs_cons (pg_name (i := 3) sc_is_way.nd rfl (Or.inl rfl)) pgs_nil))))
      (pss_one (ps_ret (pe_and (pe_d c_is_within hr (by decide) rfl (pa_cons (pv 2) (pa_cons pe_int (pa_cons (pe_op op_sub (pv 1) pe_int) pa_nil)))) (pe_one (pe_d c_is_within hr (by decide) rfl (pa_cons (pv 3) (pa_cons (pe_op op_add (pv 2) pe_int) (pa_cons (pe_op op_sub (pv 1) pe_int) pa_nil)))))))))), ?_⟩
  rintro _ _ ⟨x, n, rfl, rfl⟩
  by_cases hx : ∃ ds, x = .tuple ds
  · obtain ⟨ds, rfl⟩ := hx
    refine yr_ifs (yt_or (yt_not (yt_B (yd_isi (yd_var rfl) (kit_tuple _)))) fun _ => yt_test (yd_op (yd_cb (ya_cons (yd_var rfl) ya_nil) rc_lenT) yd_int (rd_neD rfl rfl))) (fun hb => yr_seqR (yr_ret (YD.eq yd_bl ?_))) (fun hb => yr_next ?_)
    · have h2 : (ds.length : Int) ≠ 2 := by simpa [isTup, PyData.eqv] using hb
      have : isWay (.tuple ds) n = false := by
        unfold isWay
        split
        · rename_i z; cases z; exact absurd rfl h2
        · rfl
      rw [this]
    · have h2 : (ds.length : Int) = 2 := by simpa [isTup, PyData.eqv] using hb
      obtain ⟨a, b, rfl⟩ : ∃ a b, ds = [a, b] := by
        match ds, h2 with
        | [a, b], _ => exact ⟨a, b, rfl⟩
        | [], h => simp at h
        | [_], h => simp at h
        | _ :: _ :: _ :: _, h => simp at h; omega
      refine yr_seq (yn_asg (yd_var rfl) (yg_tup (ygs_cons yg_name (ygs_cons yg_name ygs_nil)) rfl)) ?_
      refine yr_ret (YD.eq (yd_and (a := numIn a 0 (n - 1)) (b := isWay (.tuple [a, b]) n) (yd_call (ya_cons (yd_var rfl) (ya_cons yd_int (ya_cons (yd_op (yd_var rfl) yd_int rd_I0) ya_nil))) ⟨_, _, _, rfl, rfl⟩) fun hn => ?_) ?_)
      · cases a with
        | int i =>
          refine YD.eq (yd_call (ya_cons (yd_var rfl) (ya_cons (yd_op (yd_var rfl) yd_int rd_I0) (ya_cons (yd_op (yd_var rfl) yd_int rd_I0) ya_nil))) ⟨_, _, _, rfl, rfl⟩) ?_
          have : (decide (0 ≤ i) && decide (i ≤ n - 1)) = true := hn
          simp only [isWay, this, Bool.true_and]
        | _ => cases hn
      · cases a with
        | int i => simp only [isWay, numIn]; cases (decide (0 ≤ i) && decide (i ≤ n - 1)) <;> rfl
        | _ => rfl
  · have e : isTup x = false := by cases x <;> first | rfl | exact absurd ⟨_, rfl⟩ hx
    refine yr_ifs (b := true) (YT.eq (yt_or (b := true) (yt_not (yt_B (yd_isi (yd_var rfl) (kit_tuple _)))) fun h => ?_) ?_) (fun hb => yr_seqR (yr_ret (YD.eq yd_bl ?_))) (fun hb => nomatch hb)
    · rw [e] at h; cases h
    · rw [e]; rfl
    · cases x <;> first | rfl | exact absurd ⟨_, rfl⟩ hx
abbrev s_are_ways : Stmt := (top 22)
theorem sc_are_ways : FnScope ["thing", "places", "way", "one", "other"] ["thing", "places"] (defScope s_are_ways) := ⟨rfl, rfl, rfl, by decide +kernel, rfl, by decide +kernel, by decide +kernel⟩
def R_are_ways (ds : List PyData) (d : PyData) : Prop := ∃ x n, ds = [x, .int n] ∧ d = .bool (areWays x n)
theorem isWay_pair {d : PyData} {n : Int} (h : isWay d n = true) : ∃ p : Int × Int, d = dP p ∧ 0 ≤ p.1 ∧ p.1 < p.2 ∧ p.2 < n := by
  unfold isWay at h
  split at h
  · rename_i i b
    cases b with
    | int j =>
      simp [numIn] at h
      exact ⟨(i, j), rfl, by omega, by simp; omega, by simp; omega⟩
    | _ => simp [numIn] at h
  · cases h
theorem inc_zip : ∀ ws : List PyData, (ws.zip (ws.drop 1)).all (fun p => ltD p.1 p.2) = incD ws
  | [] => rfl
  | [_] => rfl
  | a :: b :: r => by
    show (ltD a b && ((b :: r).zip ((b :: r).drop 1)).all fun p => ltD p.1 p.2) = (ltD a b && incD (b :: r))
    rw [inc_zip (b :: r)]
theorem zipD_zip (ds es : List PyData) : zipD ds es = (ds.zip es).map fun p => .tuple [p.1, p.2] := by
  unfold zipD
  rw [List.zip, List.map_zipWith]
theorem ok_are_ways (F : FnP K "are_ways" s_are_ways f fd) (G : Gi mg) (c_is_way : Cal P w K mg base CX0 3 "is_way" (spD K R_is_way)) : FnOk P w K mg base CX0 4 f fd ["thing", "places"] (spD K R_are_ways) := by
  refine okD F sc_are_ways (by rintro _ _ ⟨x, n, rfl, _⟩; rfl) fun cdv A outer s H E hr => ⟨_, (pss_cons (ps_if (PW.pt (pw_or (pt_not (pt_val (pe_callB (call_isik (K := K) rfl) rfl G.b_isinstance boot_isinstance (pa_cons (pv 0) (pa_cons (pe_ty (n := "list") rfl G.b_list (by decide +kernel)) pa_nil))))) (pw_or1 (pt_cmpR (op_gt) (pe_callB (call_lenk (K := K) rfl) rfl G.b_len boot_len (pa_cons (pv 0) pa_nil)) (pe_gi rfl G.i_MOST_WAYS) (nomark _))))) (pss_one (ps_ret pe_bl)) pss_nil)
      (pss_cons (ps_if (pt_not (pt_val (pe_callB (cr_allk (K := K) rfl rfl) rfl G.b_all (by decide +kernel) (pa_cons (pe_lc (own := [("way", 2)]) rfl sc_are_ways.nd (pi_listk (K := K) rfl (pv 0)) (blkOk_by (N := ["thing", "places", "way", "one", "other"]) (sc := defScope s_are_ways) (by decide +kernel)) (fun _ _ _ _ _ => (pg_name (i := 2) sc_are_ways.nd rfl (Or.inl rfl))) (fun _ _ _ _ _ => pts_nil) (fun _ _ _ _ _ => (pe_d c_is_way hr (by decide) rfl (pa_cons (pv 2) (pa_cons (pv 1) pa_nil))))) pa_nil)))) (pss_one (ps_ret pe_bl)) pss_nil)
      (pss_one (ps_ret (pe_callB (cr_allk (K := K) rfl rfl) rfl G.b_all (by decide +kernel) (pa_cons (pe_lc (own := [("one", 3), ("other", 4)]) rfl sc_are_ways.nd (pi_zipk (K := K) rfl rfl G.b_zip (pa_cons (pv 0) (pa_cons (pe_slice (sl_listk (K := K) rfl) (pv 0) (po_some pe_int) po_none) pa_nil))) (blkOk_by (N := ["thing", "places", "way", "one", "other"]) (sc := defScope s_are_ways) (by decide +kernel)) (fun _ _ _ _ _ => (pg_tupk (K := K) (n := 2) rfl rfl (pgs_cons (pg_name (i := 3) sc_are_ways.nd rfl (Or.inl rfl)) (pgs_cons (pg_name (i := 4) sc_are_ways.nd rfl (Or.inl rfl)) pgs_nil)))) (fun _ _ _ _ _ => pts_nil) (fun _ _ _ _ _ => (pe_cmpR (op_ltTk (K := K) rfl hr.units0) (pv 3) (pv 4) (nomark _)))) pa_nil)))))), ?_⟩
  rintro _ _ ⟨x, n, rfl, rfl⟩
  by_cases hx : ∃ ds, x = .list ds
  · obtain ⟨ds, rfl⟩ := hx
    refine yr_ifs (b := decide (10 < (ds.length : Int))) (YT.eq (yt_or (yt_not (yt_B (yd_isi (yd_var rfl) (kit_list _)))) fun _ => yt_test (yd_op (yd_cb (ya_cons (yd_var rfl) ya_nil) rc_lenL) yd_int rd_B0)) rfl) (fun hb => yr_seqR (yr_ret (YD.eq yd_bl ?_))) (fun hb => yr_next ?_)
    · have : 10 < ds.length := by have := of_decide_eq_true hb; omega
      simp [areWays]
      omega
    · have hl : ds.length ≤ 10 := by have := of_decide_eq_false hb; omega
      refine yr_ifs (yt_not (yt_B (yd_all (xs := ds) (p := fun w => isWay w n) (yd_lc0 (fun d => d) (fun w => .bool (isWay w n)) (fun d => _) ((yi_list (yd_var rfl)).eq (List.map_id' ds).symm) (by omega) (by decide) (fun d _ => yg_name) fun d _ => yd_call (ya_cons (yd_var rfl) (ya_cons (yd_var rfl) ya_nil)) ⟨_, _, rfl, rfl⟩)))) (fun hb => yr_seqR (yr_ret (YD.eq yd_bl ?_))) (fun hb => yr_next ?_)
      · have : (ds.all fun w => isWay w n) = false := by simpa using hb
        simp only [areWays, this, Bool.false_and, Bool.and_false]
      · have hw : (ds.all fun w => isWay w n) = true := by simpa using hb
        have hw2 : ∀ d ∈ ds, isWay d n = true := by simpa using hw
        have hm : ∀ p ∈ ds.zip (ds.drop 1), p.1 ∈ ds ∧ p.2 ∈ ds := fun p hp => ⟨(List.of_mem_zip hp).1, List.mem_of_mem_drop (List.of_mem_zip hp).2⟩
        refine yr_ret (YD.eq (yd_all (xs := ds.zip (ds.drop 1)) (p := fun p => ltD p.1 p.2) (yd_lc0 (fun p : PyData × PyData => .tuple [p.1, p.2]) (fun p => .bool (ltD p.1 p.2)) (fun p => _) ((yi_zip (ya_cons (yd_var rfl) (ya_cons (yd_slL (yd_var rfl) (yo_some yd_int) yo_none) ya_nil))).eq ?_) ?_ (by decide) (fun p _ => yg_tup (ygs_cons yg_name (ygs_cons yg_name ygs_nil)) rfl) fun p hp => ?_)) ?_)
        · rw [show cutD ds (some 1) none = ds.drop 1 from cutD_from 1, zipD_zip]
        · rw [List.length_zip]
          omega
        · obtain ⟨a, ea, _⟩ := isWay_pair (hw2 _ (hm p hp).1)
          obtain ⟨b, eb, _⟩ := isWay_pair (hw2 _ (hm p hp).2)
          obtain ⟨p1, p2⟩ := p
          dsimp only at ea eb
          subst ea eb
          exact yd_op (yd_var rfl) (yd_var rfl) rd_ltT
        · rw [inc_zip]
          simp only [areWays, hw, Bool.true_and]
          rw [decide_eq_true hl]
          rfl
  · have e : isList x = false := by cases x <;> first | rfl | exact absurd ⟨_, rfl⟩ hx
    refine yr_ifs (b := true) (YT.eq (yt_or (b := true) (yt_not (yt_B (yd_isi (yd_var rfl) (kit_list _)))) fun h => ?_) ?_) (fun hb => yr_seqR (yr_ret (YD.eq yd_bl ?_))) (fun hb => nomatch hb)
    · rw [e] at h; cases h
    · rw [e]; rfl
    · cases x <;> first | rfl | exact absurd ⟨_, rfl⟩ hx
abbrev s_is_land : Stmt := (top 23)
theorem sc_is_land : FnScope ["thing", "places", "ways", "last"] ["thing"] (defScope s_is_land) := ⟨rfl, rfl, rfl, by decide +kernel, rfl, by decide +kernel, by decide +kernel⟩
def R_is_land (ds : List PyData) (d : PyData) : Prop := ∃ x, ds = [x] ∧ d = .bool (isLand x)
theorem ok_is_land (F : FnP K "is_land" s_is_land f fd) (G : Gi mg) (c_is_within : Cal P w K mg base CX0 2 "is_within" (spD K R_is_within)) (c_are_ways : Cal P w K mg base CX0 4 "are_ways" (spD K R_are_ways)) : FnOk P w K mg base CX0 5 f fd ["thing"] (spD K R_is_land) := by
  refine okD F sc_is_land (by rintro _ _ ⟨x, rfl, _⟩; rfl) fun cdv A outer s H E hr => ⟨_, (pss_cons (ps_if (PW.pt (pw_or (pt_not (pt_val (pe_callB (call_isik (K := K) rfl) rfl G.b_isinstance boot_isinstance (pa_cons (pv 0) (pa_cons (pe_ty (n := "tuple") rfl G.b_tuple (by decide +kernel)) pa_nil))))) (pw_or1 (pt_cmpR (op_nek (K := K) rfl hr.units) (pe_callB (call_lenk (K := K) rfl) rfl G.b_len boot_len (pa_cons (pv 0) pa_nil)) pe_int (nomark _))))) (pss_one (ps_ret pe_bl)) pss_nil)
      (pss_cons (ps_asg (pv 0) (pg_tupk (K := K) (n := 3) rfl rfl (pgs_cons (pg_name (i := 1) sc_is_land.nd rfl (Or.inl rfl)) (pgs_cons (pg_name (i := 2) sc_is_land.nd rfl (Or.inl rfl)) (pgs_cons (pg_name (i := 3) sc_is_land.nd rfl (Or.inl rfl)) pgs_nil)))))
      (pss_one (ps_ret (pe_and (pe_d c_is_within hr (by decide) rfl (pa_cons (pv 1) (pa_cons pe_int (pa_cons (pe_gi rfl G.i_MOST_PLACES) pa_nil)))) (pe_and (pe_d c_are_ways hr (by decide) rfl (pa_cons (pv 2) (pa_cons (pv 1) pa_nil))) (pe_one (pe_d c_is_within hr (by decide) rfl (pa_cons (pv 3) (pa_cons pe_int (pa_cons (pe_gi rfl G.i_MOST_LAST) pa_nil))))))))))), ?_⟩
  rintro _ _ ⟨x, rfl, rfl⟩
  by_cases hx : ∃ ds, x = .tuple ds
  · obtain ⟨ds, rfl⟩ := hx
    refine yr_ifs (yt_or (yt_not (yt_B (yd_isi (yd_var rfl) (kit_tuple _)))) fun _ => yt_test (yd_op (yd_cb (ya_cons (yd_var rfl) ya_nil) rc_lenT) yd_int (rd_neD rfl rfl))) (fun hb => yr_seqR (yr_ret (YD.eq yd_bl ?_))) (fun hb => yr_next ?_)
    · have h2 : (ds.length : Int) ≠ 3 := by simpa [isTup, PyData.eqv] using hb
      have : isLand (.tuple ds) = false := by
        unfold isLand
        split
        · rename_i z; cases z; exact absurd rfl h2
        · rfl
      rw [this]
    · have h2 : (ds.length : Int) = 3 := by simpa [isTup, PyData.eqv] using hb
      obtain ⟨a, b, c, rfl⟩ : ∃ a b c, ds = [a, b, c] := by
        match ds, h2 with
        | [a, b, c], _ => exact ⟨a, b, c, rfl⟩
        | [], h => simp at h
        | [_], h => simp at h
        | [_, _], h => simp at h
        | _ :: _ :: _ :: _ :: _, h => simp at h; omega
      refine yr_seq (yn_asg (yd_var rfl) (yg_tup (ygs_cons yg_name (ygs_cons yg_name (ygs_cons yg_name ygs_nil))) rfl)) ?_
      refine yr_ret (YD.eq (yd_and (a := numIn a 1 7) (b := isLand (.tuple [a, b, c])) (yd_call (ya_cons (yd_var rfl) (ya_cons yd_int (ya_cons yd_int ya_nil))) ⟨_, _, _, rfl, rfl⟩) fun hn => ?_) ?_)
      · cases a with
        | int i =>
          refine YD.eq (yd_and (yd_call (ya_cons (yd_var rfl) (ya_cons (yd_var rfl) ya_nil)) ⟨_, _, rfl, rfl⟩) fun _ => yd_call (ya_cons (yd_var rfl) (ya_cons yd_int (ya_cons yd_int ya_nil))) ⟨_, _, _, rfl, rfl⟩) ?_
          have : (decide (1 ≤ i) && decide (i ≤ 7)) = true := hn
          simp only [isLand, this, Bool.true_and]
        | _ => cases hn
      · cases a with
        | int i => simp only [isLand, numIn]; cases (decide (1 ≤ i) && decide (i ≤ 7)) <;> rfl
        | _ => rfl
  · have e : isTup x = false := by cases x <;> first | rfl | exact absurd ⟨_, rfl⟩ hx
    refine yr_ifs (b := true) (YT.eq (yt_or (b := true) (yt_not (yt_B (yd_isi (yd_var rfl) (kit_tuple _)))) fun h => ?_) ?_) (fun hb => yr_seqR (yr_ret (YD.eq yd_bl ?_))) (fun hb => nomatch hb)
    · rw [e] at h; cases h
    · rw [e]; rfl
    · cases x <;> first | rfl | exact absurd ⟨_, rfl⟩ hx
/-! ### what is refused -/
abbrev s_check_land : Stmt := (top 24)
theorem sc_check_land : FnScope ["land"] ["land"] (defScope s_check_land) := ⟨rfl, rfl, rfl, by decide +kernel, rfl, by decide +kernel, by decide +kernel⟩
def R_check_land (ds : List PyData) (d : PyData) : Prop := ∃ x, ds = [x] ∧ isLand x = true ∧ d = .none
def X_check_land (C : Addr) (ds : List PyData) (C' : Addr) : Prop := ∃ x, ds = [x] ∧ isLand x = false ∧ C' = C
theorem ok_check_land {C : Addr} (F : FnP K "check_land" s_check_land f fd) (G : Gi mg) (x_BadLand : Xc K mg "BadLand" C) (c_is_land : Cal P w K mg base CX0 5 "is_land" (spD K R_is_land)) : FnOk P w K mg base (L2.CX P w) 6 f fd ["land"] (spX K R_check_land (X_check_land C)) := by
  refine okX F sc_check_land (by rintro _ _ ⟨x, rfl, _⟩; rfl) (by rintro _ _ ⟨x, rfl, _⟩; rfl) fun cdv A outer s H E hr => ⟨_, (pss_one (ps_if (pt_not (pt_val (pe_d c_is_land hr (by decide) rfl (pa_cons (pv 0) pa_nil)))) (pss_one (ps_raise rfl (takes_of rfl rfl rfl rfl) (pmk_own PySem.F.excBase_ValueError x_BadLand.ex x_BadLand.mg x_BadLand.kp (raises_own x_BadLand.sub x_BadLand.ty) rfl))) pss_nil)), ?_, ?_⟩
  · rintro _ _ ⟨x, rfl, hx, rfl⟩
    exact .inr ⟨rfl, _, _, yn_ifF ((yt_not (yt_B (yd_call (ya_cons (yd_var rfl) ya_nil) ⟨_, rfl, rfl⟩))).eq (by rw [hx]; rfl)) yn_next⟩
  · rintro _ _ ⟨x, rfl, hx, rfl⟩
    exact ye_if (b := true) ((yt_not (yt_B (yd_call (ya_cons (yd_var rfl) ya_nil) ⟨_, rfl, rfl⟩))).eq (by rw [hx]; rfl)) (fun _ => ye_raise) (fun h => nomatch h)
abbrev s_check_place : Stmt := (top 25)
theorem sc_check_place : FnScope ["place", "places"] ["place", "places"] (defScope s_check_place) := ⟨rfl, rfl, rfl, by decide +kernel, rfl, by decide +kernel, by decide +kernel⟩
def R_check_place (ds : List PyData) (d : PyData) : Prop := ∃ x n, ds = [x, .int n] ∧ numIn x 0 (n - 1) = true ∧ d = .none
def X_check_place (C : Addr) (ds : List PyData) (C' : Addr) : Prop := ∃ x n, ds = [x, .int n] ∧ numIn x 0 (n - 1) = false ∧ C' = C
theorem ok_check_place {C : Addr} (F : FnP K "check_place" s_check_place f fd) (G : Gi mg) (x_BadPlace : Xc K mg "BadPlace" C) (c_is_within : Cal P w K mg base CX0 2 "is_within" (spD K R_is_within)) : FnOk P w K mg base (L2.CX P w) 3 f fd ["place", "places"] (spX K R_check_place (X_check_place C)) := by
  refine okX F sc_check_place (by rintro _ _ ⟨x, n, rfl, _⟩; rfl) (by rintro _ _ ⟨x, n, rfl, _⟩; rfl) fun cdv A outer s H E hr => ⟨_, (pss_one (ps_if (pt_not (pt_val (pe_d c_is_within hr (by decide) rfl (pa_cons (pv 0) (pa_cons pe_int (pa_cons (pe_op op_sub (pv 1) pe_int) pa_nil)))))) (pss_one (ps_raise rfl (takes_of rfl rfl rfl rfl) (pmk_own PySem.F.excBase_ValueError x_BadPlace.ex x_BadPlace.mg x_BadPlace.kp (raises_own x_BadPlace.sub x_BadPlace.ty) rfl))) pss_nil)), ?_, ?_⟩
  · rintro _ _ ⟨x, n, rfl, hx, rfl⟩
    exact .inr ⟨rfl, _, _, yn_ifF ((yt_not (yt_B (yd_call (ya_cons (yd_var rfl) (ya_cons yd_int (ya_cons (yd_op (yd_var rfl) yd_int rd_I0) ya_nil))) ⟨_, _, _, rfl, rfl⟩))).eq (by rw [hx]; rfl)) yn_next⟩
  · rintro _ _ ⟨x, n, rfl, hx, rfl⟩
    exact ye_if (b := true) ((yt_not (yt_B (yd_call (ya_cons (yd_var rfl) (ya_cons yd_int (ya_cons (yd_op (yd_var rfl) yd_int rd_I0) ya_nil))) ⟨_, _, _, rfl, rfl⟩))).eq (by rw [hx]; rfl)) (fun _ => ye_raise) (fun h => nomatch h)
abbrev s_check_tick : Stmt := (top 26)
theorem sc_check_tick : FnScope ["tick", "last"] ["tick", "last"] (defScope s_check_tick) := ⟨rfl, rfl, rfl, by decide +kernel, rfl, by decide +kernel, by decide +kernel⟩
def R_check_tick (ds : List PyData) (d : PyData) : Prop := ∃ x n, ds = [x, .int n] ∧ numIn x 0 n = true ∧ d = .none
def X_check_tick (C : Addr) (ds : List PyData) (C' : Addr) : Prop := ∃ x n, ds = [x, .int n] ∧ numIn x 0 n = false ∧ C' = C
theorem ok_check_tick {C : Addr} (F : FnP K "check_tick" s_check_tick f fd) (G : Gi mg) (x_BadTick : Xc K mg "BadTick" C) (c_is_within : Cal P w K mg base CX0 2 "is_within" (spD K R_is_within)) : FnOk P w K mg base (L2.CX P w) 3 f fd ["tick", "last"] (spX K R_check_tick (X_check_tick C)) := by
  refine okX F sc_check_tick (by rintro _ _ ⟨x, n, rfl, _⟩; rfl) (by rintro _ _ ⟨x, n, rfl, _⟩; rfl) fun cdv A outer s H E hr => ⟨_, (pss_one (ps_if (pt_not (pt_val (pe_d c_is_within hr (by decide) rfl (pa_cons (pv 0) (pa_cons pe_int (pa_cons (pv 1) pa_nil)))))) (pss_one (ps_raise rfl (takes_of rfl rfl rfl rfl) (pmk_own PySem.F.excBase_ValueError x_BadTick.ex x_BadTick.mg x_BadTick.kp (raises_own x_BadTick.sub x_BadTick.ty) rfl))) pss_nil)), ?_, ?_⟩
  · rintro _ _ ⟨x, n, rfl, hx, rfl⟩
    exact .inr ⟨rfl, _, _, yn_ifF ((yt_not (yt_B (yd_call (ya_cons (yd_var rfl) (ya_cons yd_int (ya_cons (yd_var rfl) ya_nil))) ⟨_, _, _, rfl, rfl⟩))).eq (by rw [hx]; rfl)) yn_next⟩
  · rintro _ _ ⟨x, n, rfl, hx, rfl⟩
    exact ye_if (b := true) ((yt_not (yt_B (yd_call (ya_cons (yd_var rfl) (ya_cons yd_int (ya_cons (yd_var rfl) ya_nil))) ⟨_, _, _, rfl, rfl⟩))).eq (by rw [hx]; rfl)) (fun _ => ye_raise) (fun h => nomatch h)
end
end SG
set_option Elab.async false
set_option linter.all false
set_option maxRecDepth 100000
set_option maxHeartbeats 4000000
namespace SG
open PySem PySem.Spec PyProof.Rows L2
/-! ### the law's draws -/
def primes : List Int := [1000003, 1000033, 1000037, 1000039, 1000081, 1000099, 1000117, 1000121, 1000133, 1000151, 1000159, 1000171, 1000183, 1000187, 1000193, 1000199]
def primeAt (k : Int) : Int := primes.getD (k % 16).toNat 1
def drawI (c k m : Int) : Int := (c * 48271 + k * 69621) % primeAt k % m
def valueI (c t : Int) : Int := if 10 ^ 18 ≤ c then ((c - 10 ^ 18) % 10 ^ 40) / 2 ^ (3 * t).toNat else
  drawI ((c % 10 ^ 18 + 977 * t) * (c % 10 ^ 18 + 31 * t + 5)) (t % 9 + 1) 999983 * 1000003 + drawI ((c % 10 ^ 18 + 31 * t) * (c % 10 ^ 18 + 7) + 977 * t) (t % 7 + 2) 1000003
theorem prime_at (k : Int) : atI (primes.map PyData.int) (k % 16) = some (.int (primeAt k)) ∧ 0 < primeAt k := by
  have h1 : 0 ≤ k % 16 := Int.emod_nonneg _ (by decide)
  have h2 : k % 16 < 16 := Int.emod_lt_of_pos _ (by decide)
  have e : k % 16 = ((k % 16).toNat : Int) := by omega
  have hn : (k % 16).toNat < 16 := by omega
  unfold primeAt
  generalize (k % 16).toNat = j at *
  rw [e]
  have hj : (primes.map PyData.int)[j]? = some (.int (primes.getD j 1)) := by
    rw [List.getElem?_map, List.getD_eq_getElem?_getD, List.getElem?_eq_getElem (by exact hn)]
    rfl
  refine ⟨atI_nat hj, ?_⟩
  have : ∀ i : Fin 16, 0 < primes.getD i.val 1 := by decide
  exact this ⟨j, hn⟩
theorem draw_pos (c k : Int) {m : Int} (h : 0 < m) : 0 ≤ drawI c k m ∧ drawI c k m < m := ⟨Int.emod_nonneg _ (by omega), Int.emod_lt_of_pos _ h⟩
theorem value_nn (c t : Int) : 0 ≤ valueI c t := by
  unfold valueI
  split
  · exact Int.ediv_nonneg (Int.emod_nonneg _ (by decide)) (Int.le_of_lt (Int.pow_pos (by decide)))
  · have a := draw_pos ((c % 10 ^ 18 + 977 * t) * (c % 10 ^ 18 + 31 * t + 5)) (t % 9 + 1) (m := 999983) (by decide)
    have b := draw_pos ((c % 10 ^ 18 + 31 * t) * (c % 10 ^ 18 + 7) + 977 * t) (t % 7 + 2) (m := 1000003) (by decide)
    omega
section
variable {P : Program} {w : World} {K : PySem.W.Frag} {mg : Str → Option Value} {base : Heap} {f : Addr} {fd : FuncData}
abbrev s__law_cell_at : Stmt := (top 33)
theorem sc__law_cell_at : FnScope ["_law_script", "_law_k"] ["_law_script", "_law_k"] (defScope s__law_cell_at) := ⟨rfl, rfl, rfl, by decide +kernel, rfl, by decide +kernel, by decide +kernel⟩
def R_cell_at (ds : List PyData) (d : PyData) : Prop := ∃ (ns : List Int) (k : Nat), ds = [.list (ns.map .int), .int k] ∧ d = .int (ns.getD k 0)
theorem ok_cell_at (F : FnP K "_law_cell_at" s__law_cell_at f fd) (G : Gi mg) : FnOk P w K mg base CX0 1 f fd ["_law_script", "_law_k"] (spD K R_cell_at) := by
  refine okD F sc__law_cell_at (by rintro _ _ ⟨x, n, rfl, _⟩; rfl) fun cdv A outer s H E hr => ⟨_, (pss_cons (ps_if (pt_cmpR (op_lt) (pv 1) (pe_callB (call_lenk (K := K) rfl) rfl G.b_len boot_len (pa_cons (pv 0) pa_nil)) (nomark _)) (pss_one (ps_ret (pe_ix (ix_k (K := K) rfl) (pv 0) (pv 1) (fun _ _ => rfl)))) pss_nil)
      (pss_one (ps_ret pe_int))), ?_⟩
  rintro _ _ ⟨ns, k, rfl, rfl⟩
  refine yr_ifs (b := decide (k < ns.length)) ((yt_test (yd_op (yd_var rfl) (yd_cb (ya_cons (yd_var rfl) ya_nil) rc_lenL) rd_B0)).eq ?_) (fun hb => yr_seqR (yr_ret (yd_op (yd_var rfl) (yd_var rfl) (rd_ixL ?_)))) (fun hb => yr_next (yr_ret (YD.eq yd_int ?_)))
  · rw [List.length_map]
    by_cases h : k < ns.length
    · rw [decide_eq_true h]; exact decide_eq_true (by omega)
    · rw [decide_eq_false h]; exact decide_eq_false (by omega)
  · have h := of_decide_eq_true hb
    refine atI_nat ?_
    rw [List.getElem?_map, List.getD_eq_getElem?_getD, List.getElem?_eq_getElem h]
    rfl
  · have h := of_decide_eq_false hb
    rw [List.getD_eq_getElem?_getD, List.getElem?_eq_none (by omega)]
    rfl
abbrev s__law_draw : Stmt := (top 34)
theorem sc__law_draw : FnScope ["_law_cell", "_law_k", "_law_many", "_law_primes"] ["_law_cell", "_law_k", "_law_many"] (defScope s__law_draw) := ⟨rfl, rfl, rfl, by decide +kernel, rfl, by decide +kernel, by decide +kernel⟩
def R_draw (ds : List PyData) (d : PyData) : Prop := ∃ (c k m : Int), ds = [.int c, .int k, .int m] ∧ 0 < m ∧ d = .int (drawI c k m)
theorem ok_draw (F : FnP K "_law_draw" s__law_draw f fd) (G : Gi mg) : FnOk P w K mg base CX0 1 f fd ["_law_cell", "_law_k", "_law_many"] (spD K R_draw) := by
  refine okD F sc__law_draw (by rintro _ _ ⟨x, n, m, rfl, _⟩; rfl) fun cdv A outer s H E hr => ⟨_, (pss_cons (ps_set (i := 3) sc__law_draw.nd rfl (Or.inl rfl) (pe_tup (pa_cons pe_int (pa_cons pe_int (pa_cons pe_int (pa_cons pe_int (pa_cons pe_int (pa_cons pe_int (pa_cons pe_int (pa_cons pe_int (pa_cons pe_int (pa_cons pe_int (pa_cons pe_int (pa_cons pe_int (pa_cons pe_int (pa_cons pe_int (pa_cons pe_int (pa_cons pe_int pa_nil))))))))))))))))))
      (pss_one (ps_ret (pe_op op_mod (pe_op op_mod (pe_op op_add (pe_op op_mul (pv 0) pe_int) (pe_op op_mul (pv 1) pe_int)) (pe_ix (ix_k (K := K) rfl) (pv 3) (pe_op op_mod (pv 1) pe_int) (fun _ _ => rfl))) (pv 2))))), ?_⟩
  rintro _ _ ⟨c, k, m, rfl, hm, rfl⟩
  have hsm : ∀ i : Int, CMul i 48271 ∧ CMul i 69621 := fun i => ⟨.inr ⟨by decide, by decide⟩, .inr ⟨by decide, by decide⟩⟩
  obtain ⟨hp, hp0⟩ := prime_at k
  refine yr_seq (yn_asg (yd_tup (ya_cons yd_int (ya_cons yd_int (ya_cons yd_int (ya_cons yd_int (ya_cons yd_int (ya_cons yd_int (ya_cons yd_int (ya_cons yd_int (ya_cons yd_int (ya_cons yd_int (ya_cons yd_int (ya_cons yd_int (ya_cons yd_int (ya_cons yd_int (ya_cons yd_int (ya_cons yd_int ya_nil)))))))))))))))) (by decide)) yg_name) ?_
  exact yr_ret (yd_op (yd_op (yd_op (yd_op (yd_var rfl) yd_int (rd_I (hsm c).1)) (yd_op (yd_var rfl) yd_int (rd_I (hsm k).2)) rd_I0) (yd_op (yd_var rfl) (yd_op (yd_var rfl) yd_int (rd_I (by decide))) (rd_ixT hp)) (rd_I hp0)) (yd_var rfl) (rd_I hm))
abbrev s__law_value : Stmt := (top 35)
theorem sc__law_value : FnScope ["_law_cell", "_law_turn", "_law_rest", "_law_blend"] ["_law_cell", "_law_turn"] (defScope s__law_value) := ⟨rfl, rfl, rfl, by decide +kernel, rfl, by decide +kernel, by decide +kernel⟩
def R_value (ds : List PyData) (d : PyData) : Prop := ∃ (c t : Int), ds = [.int c, .int t] ∧ 0 ≤ t ∧ t ≤ 100 ∧ d = .int (valueI c t)
theorem ok_value (F : FnP K "_law_value" s__law_value f fd) (G : Gi mg) (c__law_draw : Cal P w K mg base CX0 1 "_law_draw" (spD K R_draw)) : FnOk P w K mg base CX0 2 f fd ["_law_cell", "_law_turn"] (spD K R_value) := by
  refine okD F sc__law_value (by rintro _ _ ⟨x, n, rfl, _⟩; rfl) fun cdv A outer s H E hr => ⟨_, (pss_cons (ps_if (pt_cmpR (op_ge) (pv 0) (pe_op op_pow pe_int pe_int) (nomark _)) (pss_one (ps_ret (pe_op op_shr (pe_op op_mod (pe_op op_sub (pv 0) (pe_op op_pow pe_int pe_int)) (pe_op op_pow pe_int pe_int)) (pe_op op_mul pe_int (pv 1))))) pss_nil)
      (pss_cons (ps_set (i := 2) sc__law_value.nd rfl (Or.inl rfl) (pe_op op_mod (pv 0) (pe_op op_pow pe_int pe_int)))
      (pss_cons (ps_set (i := 3) sc__law_value.nd rfl (Or.inl rfl) (pe_d c__law_draw hr (by decide) rfl (pa_cons (pe_op op_mul (pe_op op_add (pv 2) (pe_op op_mul pe_int (pv 1))) (pe_op op_add (pe_op op_add (pv 2) (pe_op op_mul pe_int (pv 1))) pe_int)) (pa_cons (pe_op op_add (pe_op op_mod (pv 1) pe_int) pe_int) (pa_cons pe_int pa_nil)))))
      (pss_one (ps_ret (pe_op op_add (pe_op op_mul (pv 3) pe_int) (pe_d c__law_draw hr (by decide) rfl (pa_cons (pe_op op_add (pe_op op_mul (pe_op op_add (pv 2) (pe_op op_mul pe_int (pv 1))) (pe_op op_add (pv 2) pe_int)) (pe_op op_mul pe_int (pv 1))) (pa_cons (pe_op op_add (pe_op op_mod (pv 1) pe_int) pe_int) (pa_cons pe_int pa_nil)))))))))), ?_⟩
  rintro _ _ ⟨c, t, rfl, h0, h1, rfl⟩
  have hP : CPow 10 18 := ⟨by decide, by decide, by decide⟩
  have hP4 : CPow 10 40 := ⟨by decide, by decide, by decide⟩
  have e18 : (10 : Int) ^ (18 : Int).toNat = 10 ^ 18 := rfl
  refine yr_ifs (b := decide ((10 : Int) ^ 18 ≤ c)) (yt_test (yd_op (yd_var rfl) (yd_op yd_int yd_int (rd_I hP)) rd_B0)) (fun hb => yr_seqR (yr_ret (YD.eq (yd_op (yd_op (yd_op (yd_var rfl) (yd_op yd_int yd_int (rd_I hP)) rd_I0) (yd_op yd_int yd_int (rd_I hP4)) (rd_I ?_)) (yd_op yd_int (yd_var rfl) (rd_I ?_)) (rd_I ?_)) ?_))) (fun hb => yr_next ?_)
  · show (0 : Int) < 10 ^ 40
    decide
  · exact .inl ⟨by decide, by decide⟩
  · show (0 : Int) ≤ 3 * t
    omega
  · have h := of_decide_eq_true hb
    unfold valueI
    rw [if_pos h]
    rfl
  · have h := of_decide_eq_false hb
    have r0 : 0 ≤ c % 10 ^ 18 := Int.emod_nonneg _ (by decide)
    have r1 : c % 10 ^ 18 < 10 ^ 18 := Int.emod_lt_of_pos _ (by decide)
    refine yr_seq (yn_asg (yd_op (yd_var rfl) (yd_op yd_int yd_int (rd_I hP)) (rd_I (show (0 : Int) < 10 ^ 18 by decide))) yg_name) ?_
    have hs : ∀ i : Int, CMul 977 i ∧ CMul 31 i := fun i => ⟨.inl ⟨by decide, by decide⟩, .inl ⟨by decide, by decide⟩⟩
    refine yr_seq (yn_asg (yd_call (ya_cons (yd_op (yd_op (yd_var rfl) (yd_op yd_int (yd_var rfl) (rd_I (hs t).1)) rd_I0) (yd_op (yd_op (yd_var rfl) (yd_op yd_int (yd_var rfl) (rd_I (hs t).2)) rd_I0) yd_int rd_I0) (rd_I ?_)) (ya_cons (yd_op (yd_op (yd_var rfl) yd_int (rd_I (by decide))) yd_int rd_I0) (ya_cons yd_int ya_nil))) ⟨_, _, _, rfl, by decide, rfl⟩) yg_name) ?_
    · left
      show -(2 ^ 64) < c % 10 ^ 18 + 977 * t ∧ c % 10 ^ 18 + 977 * t < 2 ^ 64
      omega
    · refine yr_ret (YD.eq (yd_op (yd_op (yd_var rfl) yd_int (rd_I ?_)) (yd_call (ya_cons (yd_op (yd_op (yd_op (yd_var rfl) (yd_op yd_int (yd_var rfl) (rd_I (hs t).2)) rd_I0) (yd_op (yd_var rfl) yd_int rd_I0) (rd_I ?_)) (yd_op yd_int (yd_var rfl) (rd_I (hs t).1)) rd_I0) (ya_cons (yd_op (yd_op (yd_var rfl) yd_int (rd_I (by decide))) yd_int rd_I0) (ya_cons yd_int ya_nil))) ⟨_, _, _, rfl, by decide, rfl⟩) rd_I0) ?_)
      · exact .inr ⟨by decide, by decide⟩
      · left
        show -(2 ^ 64) < c % 10 ^ 18 + 31 * t ∧ c % 10 ^ 18 + 31 * t < 2 ^ 64
        omega
      · unfold valueI
        rw [if_neg h]
        rfl
end
end SG
set_option Elab.async false
set_option linter.all false
set_option maxRecDepth 100000
set_option maxHeartbeats 4000000
namespace SG
open PySem PySem.Spec PyProof.Rows L2
/-! ### news -/
structure NewsS where
  n : Int
  l : Int
  heard : List ((Int × Int) × (Int × Int))
  struck : List (Int × Int)
def hT (h : List ((Int × Int) × (Int × Int))) : List ((Int × Int) × PyData) := h.map fun q => (q.1, dP q.2)
def sT (h : List (Int × Int)) : List ((Int × Int) × PyData) := h.map fun k => (k, .bool true)
def lookH (h : List ((Int × Int) × (Int × Int))) (k : Int × Int) : Option (Int × Int) := (h.find? fun q => decide (q.1 = k)).map (·.2)
theorem look_hT (k : Int × Int) : ∀ h : List ((Int × Int) × (Int × Int)), lookT (hT h) k = (lookH h k).map dP
  | [] => rfl
  | q :: r => by
    have ih := look_hT k r
    by_cases e : q.1 = k
    · simp [lookT, lookH, hT, List.find?_cons, e]
    · simp only [lookT, lookH, hT, List.map_cons, List.find?_cons, e, decide_false] at ih ⊢
      exact ih
theorem look_sT (k : Int × Int) : ∀ h : List (Int × Int), (lookT (sT h) k).isSome = decide (k ∈ h)
  | [] => rfl
  | q :: r => by
    have ih := look_sT k r
    by_cases e : q = k
    · subst e
      simp [lookT, sT, List.find?_cons]
    · simp only [lookT, sT, List.map_cons, List.find?_cons, e, decide_false] at ih ⊢
      rw [ih]
      have e' : ¬ k = q := fun z => e z.symm
      simp [e']
theorem put_hT {h : List ((Int × Int) × (Int × Int))} {k v : Int × Int} (hn : lookH h k = none) : putT (hT h) k (dP v) = hT (h ++ [(k, v)]) := by
  unfold putT
  rw [if_neg]
  · simp [hT]
  · intro z
    obtain ⟨q, hq, e⟩ := List.any_eq_true.mp z
    obtain ⟨r, hr, rfl⟩ := List.mem_map.mp hq
    have : lookH h k ≠ none := by
      unfold lookH
      rw [Ne, Option.map_eq_none_iff, List.find?_eq_none]
      intro hh
      exact hh r hr e
    exact this hn
def strikeS (s : List (Int × Int)) (k : Int × Int) : List (Int × Int) := if k ∈ s then s else s ++ [k]
theorem put_sT (s : List (Int × Int)) (k : Int × Int) : putT (sT s) k (.bool true) = sT (strikeS s k) := by
  unfold putT strikeS
  have e : ((sT s).any fun q => decide (q.1 = k)) = decide (k ∈ s) := by
    induction s with
    | nil => rfl
    | cons x s ih =>
      have : ((sT (x :: s)).any fun q => decide (q.1 = k)) = (decide (x = k) || (sT s).any fun q => decide (q.1 = k)) := rfl
      rw [this, ih]
      by_cases h : x = k
      · subst h; simp
      · have h' : ¬ k = x := fun z => h z.symm
        simp [h, h']
  rw [e]
  by_cases h : k ∈ s
  · rw [decide_eq_true h, if_pos rfl, if_pos h]
    unfold sT
    rw [List.map_map]
    apply List.map_congr_left
    intro x hx
    by_cases hx2 : x = k
    · simp [hx2]
    · simp [hx2]
  · rw [decide_eq_false h, if_neg (by decide), if_neg h]
    simp [sT]
/-- what stands, by hands and numbers -/
def stand (N : NewsS) : List (Int × Int) := (((sortP (N.heard.map (·.1))).filter fun k => !decide (k ∈ N.struck)).map fun k => (lookH N.heard k).getD (0, 0))
inductive Er where | badLand | badPlace | badTick | badHand | badOwn | unlike | tooMany
  deriving DecidableEq
def intOf : PyData → Int
  | .int i => i
  | _ => 0
theorem numIn_int {d : PyData} {a b : Int} (h : numIn d a b = true) : d = .int (intOf d) ∧ a ≤ intOf d ∧ intOf d ≤ b := by
  cases d with
  | int i => exact ⟨rfl, by simpa [numIn, intOf] using h⟩
  | _ => cases h
def srcF (a b : PyData) : Option Er := if numIn a 0 3 = true then (if numIn b 0 9 = true then none else some .badOwn) else some .badHand
def hearF (N : NewsS) (a b c d : PyData) : Except Er (Bool × NewsS) :=
  match srcF a b with
  | some e => .error e
  | none =>
    if numIn c 0 N.l = true then
      if numIn d 0 (N.n - 1) = true then
        match lookH N.heard (intOf a, intOf b) with
        | some v => if v = (intOf c, intOf d) then .ok (false, N) else .error .unlike
        | none => if 8 ≤ N.heard.length then .error .tooMany else .ok (true, { N with heard := N.heard ++ [((intOf a, intOf b), (intOf c, intOf d))] })
      else .error .badPlace
    else .error .badTick
def strikeF (N : NewsS) (a b : PyData) : Except Er (Bool × NewsS) :=
  match srcF a b with
  | some e => .error e
  | none => .ok (!decide ((intOf a, intOf b) ∈ N.struck), { N with struck := strikeS N.struck (intOf a, intOf b) })
def nfl (n l : Int) (dh dst : Addr) : List (Str × V) := putF "struck" (.ref dst) (putF "heard" (.ref dh) (putF "last" (.int l) (putF "places" (.int n) [])))
theorem n12 : ¬ (("last" : Str) = "places") := by decide +kernel
theorem n13 : ¬ (("heard" : Str) = "places") := by decide +kernel
theorem n14 : ¬ (("struck" : Str) = "places") := by decide +kernel
theorem n23 : ¬ (("heard" : Str) = "last") := by decide +kernel
theorem n24 : ¬ (("struck" : Str) = "last") := by decide +kernel
theorem n34 : ¬ (("struck" : Str) = "heard") := by decide +kernel
theorem nfl_places (n l : Int) (dh dst : Addr) : (nfl n l dh dst).lookup ("places" : Str) = some (.int n) := by
  unfold nfl
  rw [lookup_putF, if_neg (fun z => n14 z.symm), lookup_putF, if_neg (fun z => n13 z.symm), lookup_putF, if_neg (fun z => n12 z.symm), lookup_putF, if_pos rfl]
theorem nfl_last (n l : Int) (dh dst : Addr) : (nfl n l dh dst).lookup ("last" : Str) = some (.int l) := by
  unfold nfl
  rw [lookup_putF, if_neg (fun z => n24 z.symm), lookup_putF, if_neg (fun z => n23 z.symm), lookup_putF, if_pos rfl]
theorem nfl_heard (n l : Int) (dh dst : Addr) : (nfl n l dh dst).lookup ("heard" : Str) = some (.ref dh) := by
  unfold nfl
  rw [lookup_putF, if_neg (fun z => n34 z.symm), lookup_putF, if_pos rfl]
theorem nfl_struck (n l : Int) (dh dst : Addr) : (nfl n l dh dst).lookup ("struck" : Str) = some (.ref dst) := by
  unfold nfl
  rw [lookup_putF, if_pos rfl]
theorem nfl_no (n l : Int) (dh dst : Addr) {m : Str} (h1 : ¬ m = "places") (h2 : ¬ m = "last") (h3 : ¬ m = "heard") (h4 : ¬ m = "struck") : (nfl n l dh dst).lookup m = none := by
  unfold nfl
  rw [lookup_putF, if_neg h4, lookup_putF, if_neg h3, lookup_putF, if_neg h2, lookup_putF, if_neg h1]
  rfl
theorem nfl_len (n l : Int) (dh dst : Addr) : (nfl n l dh dst).length ≤ 4 := by
  have : ∀ (f : Str) (v : V) (fs : List (Str × V)), (putF f v fs).length ≤ fs.length + 1 := fun f v fs => by
    induction fs with
    | nil => exact Nat.le_refl _
    | cons x r ih =>
      obtain ⟨g, y⟩ := x
      show (if g = f then (g, v) :: r else (g, y) :: putF f v r).length ≤ _
      split
      · simp
      · simp only [List.length_cons]
        omega
  unfold nfl
  have h1 := this "places" (.int n) []
  have h2 := this "last" (.int l) (putF "places" (.int n) [])
  have h3 := this "heard" (.ref dh) (putF "last" (.int l) (putF "places" (.int n) []))
  have h4 := this "struck" (.ref dst) (putF "heard" (.ref dh) (putF "last" (.int l) (putF "places" (.int n) [])))
  simp only [List.length_nil] at h1
  omega
/-- what the class's facts are -/
structure NTxt (K : PySem.W.Frag) (C : Addr) : Prop where
  cl : Cls K C
  aP : NoAttr K C "places"
  aL : NoAttr K C "last"
  aH : NoAttr K C "heard"
  aS : NoAttr K C "struck"
structure NewsAt (K : PySem.W.Frag) (C : Addr) (Hs H : Hp) (p dh dst : Addr) (N : NewsS) : Prop where
  ob : ∃ dx, H p = some (.ins C dx (nfl N.n N.l dh dst))
  he : ∃ kvs, H dh = some (.dT kvs) ∧ RpT K Hs kvs (hT N.heard)
  st : ∃ kvs, H dst = some (.dT kvs) ∧ RpT K Hs kvs (sT N.struck)
  np : Hs p = none
  nh : Hs dh = none
  ns : Hs dst = none
  ne : dh ≠ dst
theorem NewsAt.gr {K : PySem.W.Frag} {C : Addr} {Hs H Hs2 H2 : Hp} {p dh dst : Addr} {N : NewsS} (h : NewsAt K C Hs H p dh dst N) (g : Gr Hs H Hs2 H2) : NewsAt K C Hs2 H2 p dh dst N := by
  obtain ⟨⟨dx, o⟩, ⟨k1, h1, r1⟩, ⟨k2, h2, r2⟩, a, b, c, d⟩ := h
  exact ⟨⟨dx, g.b _ _ o⟩, ⟨k1, g.b _ _ h1, r1.mono g.a⟩, ⟨k2, g.b _ _ h2, r2.mono g.a⟩, g.d _ (by rw [o]; trivial) a, g.d _ (by rw [h1]; trivial) b, g.d _ (by rw [h2]; trivial) c, d⟩
theorem NewsAt.grx {K : PySem.W.Frag} {C : Addr} {ms : List Addr} {Hs H Hs2 H2 : Hp} {p dh dst : Addr} {N : NewsS} (h : NewsAt K C Hs H p dh dst N) (g : GrX ms Hs H Hs2 H2) (n1 : p ∉ ms) (n2 : dh ∉ ms) (n3 : dst ∉ ms) : NewsAt K C Hs2 H2 p dh dst N := by
  obtain ⟨⟨dx, o⟩, ⟨k1, h1, r1⟩, ⟨k2, h2, r2⟩, a, b, c, d⟩ := h
  exact ⟨⟨dx, g.b _ _ n1 o⟩, ⟨k1, g.b _ _ n2 h1, r1.mono g.a⟩, ⟨k2, g.b _ _ n3 h2, r2.mono g.a⟩, g.d _ (by rw [o]; trivial) a, g.d _ (by rw [h1]; trivial) b, g.d _ (by rw [h2]; trivial) c, d⟩
def spInit (K : PySem.W.Frag) (C : Addr) (cs : Er → Addr) : Sp := fun vs H Q E => ∃ (Hs : Hp) (p dx : Addr) (v : V) (x : PyData), vs = [.ref p, v] ∧ Same Hs H ∧ Rp K Hs v x ∧ H p = some (.ins C dx []) ∧ Hs p = none ∧
  ((isLand x = false ∧ ∀ Hs2 H2, Gr Hs H Hs2 H2 → E (.ref (cs .badLand)) none H2) ∨ ∃ n ws l, x = .tuple [.int n, ws, .int l] ∧ isLand x = true ∧ ∀ Hs2 H2 dh dst, GrX [p] Hs H Hs2 H2 → H dh = none → H dst = none → NewsAt K C Hs2 H2 p dh dst ⟨n, l, [], []⟩ → Q .non H2)
def spHear (K : PySem.W.Frag) (C : Addr) (cs : Er → Addr) : Sp := fun vs H Q E => ∃ (Hs : Hp) (p dh dst : Addr) (N : NewsS) (ws : List V) (a b c d : PyData), vs = .ref p :: ws ∧ Same Hs H ∧ RpAll K Hs ws [a, b, c, d] ∧ NewsAt K C Hs H p dh dst N ∧ N.heard.length ≤ 100 ∧
  match hearF N a b c d with
  | .ok (r, N') => ∀ Hs2 H2, GrX [dh] Hs H Hs2 H2 → NewsAt K C Hs2 H2 p dh dst N' → Q (.bl r) H2
  | .error x => ∀ Hs2 H2, Gr Hs H Hs2 H2 → E (.ref (cs x)) none H2
def spStrike (K : PySem.W.Frag) (C : Addr) (cs : Er → Addr) : Sp := fun vs H Q E => ∃ (Hs : Hp) (p dh dst : Addr) (N : NewsS) (ws : List V) (a b : PyData), vs = .ref p :: ws ∧ Same Hs H ∧ RpAll K Hs ws [a, b] ∧ NewsAt K C Hs H p dh dst N ∧ N.struck.length ≤ 100 ∧
  match strikeF N a b with
  | .ok (r, N') => ∀ Hs2 H2, GrX [dst] Hs H Hs2 H2 → NewsAt K C Hs2 H2 p dh dst N' → Q (.bl r) H2
  | .error x => ∀ Hs2 H2, Gr Hs H Hs2 H2 → E (.ref (cs x)) none H2
def spStand (K : PySem.W.Frag) (C : Addr) : Sp := fun vs H Q _ => ∃ (Hs : Hp) (p dh dst : Addr) (N : NewsS), vs = [.ref p] ∧ Same Hs H ∧ NewsAt K C Hs H p dh dst N ∧ N.heard.length ≤ 100 ∧ ∀ a acc Hs2 H2, Gr Hs H Hs2 H2 → H a = none → Hs2 a = none → H2 a = some (.lst acc) → RpAll K Hs2 acc ((stand N).map dP) → Q (.ref a) H2
section
variable {P : Program} {w : World} {K : PySem.W.Frag} {mg : Str → Option Value} {base : Heap} {f C : Addr} {fd : FuncData} {cs : Er → Addr}
abbrev s_check_source : Stmt := (top 30)
theorem sc_check_source : FnScope ["hand", "own"] ["hand", "own"] (defScope s_check_source) := ⟨rfl, rfl, rfl, by decide +kernel, rfl, by decide +kernel, by decide +kernel⟩
def R_check_source (ds : List PyData) (d : PyData) : Prop := ∃ a b, ds = [a, b] ∧ srcF a b = none ∧ d = .none
def X_check_source (cs : Er → Addr) (ds : List PyData) (C' : Addr) : Prop := ∃ a b e, ds = [a, b] ∧ srcF a b = some e ∧ C' = cs e
theorem ok_check_source (F : FnP K "check_source" s_check_source f fd) (G : Gi mg) (x_BadHand : Xc K mg "BadHand" (cs .badHand)) (x_BadOwn : Xc K mg "BadOwn" (cs .badOwn)) (c_is_within : Cal P w K mg base CX0 2 "is_within" (spD K R_is_within)) : FnOk P w K mg base (L2.CX P w) 3 f fd ["hand", "own"] (spX K R_check_source (X_check_source cs)) := by
  refine okX F sc_check_source (by rintro _ _ ⟨x, n, rfl, _⟩; rfl) (by rintro _ _ ⟨x, n, e, rfl, _⟩; rfl) fun cdv A outer s H E hr => ⟨_, (pss_cons (ps_if (pt_not (pt_val (pe_d c_is_within hr (by decide) rfl (pa_cons (pv 0) (pa_cons pe_int (pa_cons (pe_gi rfl G.i_LAST_HAND) pa_nil)))))) (pss_one (ps_raise rfl (takes_of rfl rfl rfl rfl) (pmk_own PySem.F.excBase_ValueError x_BadHand.ex x_BadHand.mg x_BadHand.kp (raises_own x_BadHand.sub x_BadHand.ty) rfl))) pss_nil)
      (pss_one (ps_if (pt_not (pt_val (pe_d c_is_within hr (by decide) rfl (pa_cons (pv 1) (pa_cons pe_int (pa_cons (pe_gi rfl G.i_LAST_OWN) pa_nil)))))) (pss_one (ps_raise rfl (takes_of rfl rfl rfl rfl) (pmk_own PySem.F.excBase_ValueError x_BadOwn.ex x_BadOwn.mg x_BadOwn.kp (raises_own x_BadOwn.sub x_BadOwn.ty) rfl))) pss_nil))), ?_, ?_⟩
  · rintro _ _ ⟨a, b, rfl, hx, rfl⟩
    unfold srcF at hx
    split at hx
    · rename_i h1
      split at hx
      · rename_i h2
        exact .inr ⟨rfl, _, _, yn_seq (yn_ifF ((yt_not (yt_B (yd_call (ya_cons (yd_var rfl) (ya_cons yd_int (ya_cons yd_int ya_nil))) ⟨_, _, _, rfl, rfl⟩))).eq (by rw [h1]; rfl)) yn_next) (yn_ifF ((yt_not (yt_B (yd_call (ya_cons (yd_var rfl) (ya_cons yd_int (ya_cons yd_int ya_nil))) ⟨_, _, _, rfl, rfl⟩))).eq (by rw [h2]; rfl)) yn_next)⟩
      · cases hx
    · cases hx
  · rintro _ _ ⟨a, b, e, rfl, hx, rfl⟩
    unfold srcF at hx
    split at hx
    · rename_i h1
      split at hx
      · cases hx
      · rename_i h2
        cases hx
        have h2' : numIn b 0 9 = false := by simpa using h2
        exact ye_seq (yn_ifF ((yt_not (yt_B (yd_call (ya_cons (yd_var rfl) (ya_cons yd_int (ya_cons yd_int ya_nil))) ⟨_, _, _, rfl, rfl⟩))).eq (by rw [h1]; rfl)) yn_next) (ye_if (b := true) ((yt_not (yt_B (yd_call (ya_cons (yd_var rfl) (ya_cons yd_int (ya_cons yd_int ya_nil))) ⟨_, _, _, rfl, rfl⟩))).eq (by rw [h2']; rfl)) (fun _ => ye_raise) (fun h => nomatch h))
    · rename_i h1
      cases hx
      have h1' : numIn a 0 3 = false := by simpa using h1
      exact ye_seqE (ye_if (b := true) ((yt_not (yt_B (yd_call (ya_cons (yd_var rfl) (ya_cons yd_int (ya_cons yd_int ya_nil))) ⟨_, _, _, rfl, rfl⟩))).eq (by rw [h1']; rfl)) (fun _ => ye_raise) (fun h => nomatch h))
end
end SG
set_option Elab.async false
set_option linter.all false
set_option maxRecDepth 100000
set_option maxHeartbeats 4000000
namespace SG
open PySem PySem.Spec PyProof.Rows L2
section
variable {P : Program} {w : World} {K : PySem.W.Frag} {mg : Str → Option Value} {base : Heap} {f C : Addr} {fd : FuncData} {cs : Er → Addr}
abbrev FnM (K : PySem.W.Frag) (x q : Str) (st : Stmt) (f : Addr) (fd : FuncData) : Prop := FunD K x q (defArgs st) (defBody st) (defScope st) [] [] f fd
abbrev s_News___init__ : Stmt := (inClass (top 31) 0)
theorem sc_News___init__ : FnScope ["self", "land", "places", "ways", "last"] ["self", "land"] (defScope s_News___init__) := ⟨rfl, rfl, rfl, by decide +kernel, rfl, by decide +kernel, by decide +kernel⟩
theorem ok_init (F : FnM K "__init__" "News.__init__" s_News___init__ f fd) (G : Gi mg) (T : NTxt K C) (c_check_land : Cal P w K mg base (L2.CX P w) 6 "check_land" (spX K R_check_land (X_check_land (cs .badLand)))) : FnOk P w K mg base (L2.CX P w) 7 f fd ["self", "land"] (spInit K C cs) := by
  refine F.ok sc_News___init__ (fun vs H Q E h => ?_) (fun cdv A outer s H vs Q E hr h => ⟨_, (pss_cons (ps_expr (pe_dX c_check_land hr (by decide) (takes_of rfl rfl rfl rfl) rfl (pa_cons (pv 1) pa_nil)))
      (pss_cons (ps_asg (pv 1) (pg_tupk (K := K) (n := 3) rfl rfl (pgs_cons (pg_name (i := 2) sc_News___init__.nd rfl (Or.inl rfl)) (pgs_cons (pg_name (i := 3) sc_News___init__.nd rfl (Or.inl rfl)) (pgs_cons (pg_name (i := 4) sc_News___init__.nd rfl (Or.inl rfl)) pgs_nil)))))
      (pss_cons (ps_fld (pv 0) (pv 2) rfl)
      (pss_cons (ps_fld (pv 0) (pv 4) rfl)
      (pss_cons (ps_fld (pv 0) pe_dnewT rfl)
      (pss_one (ps_fld (pv 0) pe_dnewT rfl))))))), ?_⟩)
  · obtain ⟨Hs, p, dx, v, x, rfl, _⟩ := h
    rfl
  · obtain ⟨Hs, p, dx, v, x, rfl, hs, rv, hp, hps, h⟩ := h
    have e : EnvD K Hs (L2.start ["self", "land", "places", "ways", "last"] [.ref p, v]) [none, some x, none, none, none] := env_none (env_some rv (env_none (env_none (env_none env_nil))))
    have h0 : (L2.start ["self", "land", "places", "ways", "last"] [.ref p, v])[0]? = some (some (.ref p)) := rfl
    generalize L2.start ["self", "land", "places", "ways", "last"] [.ref p, v] = σ at e h0 ⊢
    rcases h with ⟨hx, q⟩ | ⟨n, ws, l, rfl, hx, q⟩
    · exact ye_seqE (ye_expr (yde_callX (ya_cons (yd_var rfl) ya_nil) ⟨_, rfl, hx, rfl⟩)) σ Hs H e hs q _
    · refine (yn_expr (yd_callX (ya_cons (yd_var rfl) ya_nil) ⟨_, rfl, hx, rfl⟩) : YN K _ _ _ _) σ Hs H e hs _ fun σ1 Hs1 H1 g1 e1 n1 => ?_
      refine (yn_asg (yd_var rfl) (yg_tup (ygs_cons yg_name (ygs_cons yg_name (ygs_cons yg_name ygs_nil))) rfl) : YN K _ _ _ _) σ1 Hs1 H1 e1 g1.c _ fun σ2 Hs2 H2 g2 e2 n2 => ?_
      have g := g1.trans g2
      have hσ0 : σ2[0]? = some (some (.ref p)) := (n2 0 (by decide)).trans ((n1 0 (by decide)).trans h0)
      obtain ⟨v2, hσ2, r2⟩ := e2.2 2 (.int n) rfl
      obtain ⟨v4, hσ4, r4⟩ := e2.2 4 (.int l) rfl
      cases r2
      cases r4
      have hp2 : H2 p = some (.ins C dx []) := g.b _ _ hp
      have hps2 : Hs2 p = none := g.d p (by rw [hp]; trivial) hps
      refine ⟨.int n, hσ2, .ref p, hσ0, p, C, dx, [], rfl, hp2, T.cl, T.aP, (by decide), ?_⟩
      refine ⟨.int l, hσ4, .ref p, hσ0, p, C, dx, _, rfl, upd_same, T.cl, T.aL, (by show 1 < 1000; decide), ?_⟩
      intro dh hdh
      have ndp : p ≠ dh := fun z => by rw [← z, upd_same] at hdh; cases hdh
      refine ⟨.ref p, hσ0, p, C, dx, _, rfl, (by rw [upd_ne ndp]; exact upd_same), T.cl, T.aH, ?_, ?_⟩
      · have := nfl_len n l dh dh
        have h3 : (putF "last" (V.int l) (putF "places" (V.int n) [])).length ≤ 2 := by
          show (if ("places" : Str) = "last" then _ else _ :: [_]).length ≤ 2
          split <;> simp
        exact Nat.lt_of_le_of_lt h3 (by decide)
      intro dst hdst
      have nsp : p ≠ dst := fun z => by rw [← z, upd_same] at hdst; cases hdst
      refine ⟨.ref p, hσ0, p, C, dx, _, rfl, (by rw [upd_ne nsp]; exact upd_same), T.cl, T.aS, ?_, ?_⟩
      · have : (putF "heard" (V.ref dh) (putF "last" (V.int l) (putF "places" (V.int n) []))).length ≤ 4 := by
          have h1 := nfl_len n l dh dh
          unfold nfl at h1
          have : ∀ (f : Str) (v : V) (fs : List (Str × V)), fs.length ≤ (putF f v fs).length := fun f v fs => by
            induction fs with
            | nil => exact Nat.zero_le _
            | cons x r ih =>
              obtain ⟨g, y⟩ := x
              show _ ≤ (if g = f then (g, v) :: r else (g, y) :: putF f v r).length
              split
              · simp
              · simp only [List.length_cons]
                omega
          exact Nat.le_trans (this _ _ _) h1
        exact Nat.lt_of_le_of_lt this (by decide)
      have k1 : GrX [p] Hs H Hs2 H2 := g.x
      have mp : p ∈ [p] := List.mem_singleton.mpr rfl
      have k2 := ((k1.put (o := .ins C dx (putF "places" (.int n) [])) mp hps2).put (o := .ins C dx (putF "last" (.int l) (putF "places" (.int n) []))) mp hps2).fresh (o := .dT []) hdh
      have hdh0 : H dh = none := ((k1.put (o := .ins C dx (putF "places" (.int n) [])) mp hps2).put (o := .ins C dx (putF "last" (.int l) (putF "places" (.int n) []))) mp hps2).none hdh
      have k3 := (k2.put (o := .ins C dx (putF "heard" (.ref dh) (putF "last" (.int l) (putF "places" (.int n) [])))) mp hps2).fresh (o := .dT []) hdst
      have hdst0 : H dst = none := (k2.put (o := .ins C dx (putF "heard" (.ref dh) (putF "last" (.int l) (putF "places" (.int n) [])))) mp hps2).none hdst
      have k4 := k3.put (o := .ins C dx (nfl n l dh dst)) mp hps2
      have nds : dh ≠ dst := fun z => by rw [← z, upd_ne ndp.symm, upd_same] at hdst; cases hdst
      have hsdh : Hs2 dh = none := same_none ((k1.put (o := .ins C dx (putF "places" (.int n) [])) mp hps2).put (o := .ins C dx (putF "last" (.int l) (putF "places" (.int n) []))) mp hps2).c hdh
      have hsds : Hs2 dst = none := same_none (k2.put (o := .ins C dx (putF "heard" (.ref dh) (putF "last" (.int l) (putF "places" (.int n) [])))) mp hps2).c hdst
      exact q Hs2 _ dh dst k4 hdh0 hdst0 ⟨⟨dx, upd_same⟩, ⟨[], by rw [upd_ne ndp.symm, upd_ne nds, upd_ne ndp.symm, upd_same], trivial⟩, ⟨[], by rw [upd_ne nsp.symm, upd_same], trivial⟩, hps2, hsdh, hsds, nds⟩
theorem bT {F : Bool → Hp → Prop} {b : Bool} {h : Hp} (e : b = true) (k : F true h) : F b h := e ▸ k
theorem bF {F : Bool → Hp → Prop} {b : Bool} {h : Hp} (e : b = false) (k : F false h) : F b h := e ▸ k
/-- check(x, self.f) -/
theorem s_chk {σ : L2.St} {Hs H : Hp} {p dx C' : Addr} {fs : List (Str × V)} {fl : Str} {i : Nat} {vi : V} {d : PyData} {m : Int} {R : List PyData → PyData → Prop} {X : List PyData → Addr → Prop} {E : XK} {D : Ends} (h0 : σ[0]? = some (some (.ref p))) (hi : σ[i]? = some (some vi)) (ri : Rp K Hs vi d)
    (ob : H p = some (.ins C' dx fs)) (cl : Cls K C') (na : NoAttr K C' fl) (lk : fs.lookup fl = some (.int m)) (s : Same Hs H)
    (k : (R [d, .int m] .none ∧ ∀ Hs2 H2, Gr Hs H Hs2 H2 → D.nx σ H2) ∨ (∃ Cx, X [d, .int m] Cx ∧ ∀ Hs2 H2, Gr Hs H Hs2 H2 → E (.ref Cx) none H2)) : tDrop (tCall (spX K R X) [] E (tCons (tVar i) (tCons (tFld K (tVar 0) fl) tNil))) D σ H := by
  refine ⟨vi, hi, .ref p, h0, p, C', dx, fs, .int m, rfl, ob, cl, na, lk, [d, .int m], Hs, s, .cons ri (.cons (.int m) .nil), ?_⟩
  rcases k with ⟨hR, q⟩ | ⟨Cx, hX, q⟩
  · exact .inl ⟨.none, hR, fun v Hs2 H2 g _ => q Hs2 H2 g⟩
  · exact .inr ⟨Cx, hX, q⟩
abbrev s_News_hear : Stmt := (inClass (top 31) 1)
theorem sc_News_hear : FnScope ["self", "hand", "own", "tick", "place", "source"] ["self", "hand", "own", "tick", "place"] (defScope s_News_hear) := ⟨rfl, rfl, rfl, by decide +kernel, rfl, by decide +kernel, by decide +kernel⟩
theorem ok_hear (F : FnM K "hear" "News.hear" s_News_hear f fd) (G : Gi mg) (T : NTxt K C) (x_Unlike : Xc K mg "Unlike" (cs .unlike)) (x_TooMany : Xc K mg "TooMany" (cs .tooMany))
    (c_check_source : Cal P w K mg base (L2.CX P w) 3 "check_source" (spX K R_check_source (X_check_source cs)))
    (c_check_tick : Cal P w K mg base (L2.CX P w) 3 "check_tick" (spX K R_check_tick (X_check_tick (cs .badTick))))
    (c_check_place : Cal P w K mg base (L2.CX P w) 3 "check_place" (spX K R_check_place (X_check_place (cs .badPlace)))) : FnOk P w K mg base (L2.CX P w) 4 f fd ["self", "hand", "own", "tick", "place"] (spHear K C cs) := by
  refine F.ok sc_News_hear (fun vs H Q E h => ?_) (fun cdv A outer s H vs Q E hr h => ⟨_, (pss_cons (ps_expr (pe_dX c_check_source hr (by decide) (takes_of rfl rfl rfl rfl) rfl (pa_cons (pv 1) (pa_cons (pv 2) pa_nil))))
      (pss_cons (ps_expr (pe_dX c_check_tick hr (by decide) (takes_of rfl rfl rfl rfl) rfl (pa_cons (pv 3) (pa_cons (pe_fldk (K := K) rfl (pv 0) rfl) pa_nil))))
      (pss_cons (ps_expr (pe_dX c_check_place hr (by decide) (takes_of rfl rfl rfl rfl) rfl (pa_cons (pv 4) (pa_cons (pe_fldk (K := K) rfl (pv 0) rfl) pa_nil))))
      (pss_cons (ps_set (i := 5) sc_News_hear.nd rfl (Or.inl rfl) (pe_tup (pa_cons (pv 1) (pa_cons (pv 2) pa_nil))))
      (pss_cons (ps_if (pt_cmp (pc_din (hu_of hr) (pv 5) (pe_fldk (K := K) rfl (pv 0) rfl))) (pss_cons (ps_if (pt_cmpR (op_nek (K := K) rfl hr.units) (pe_dget (hu_of hr) (pe_fldk (K := K) rfl (pv 0) rfl) (pv 5) (fun _ _ => rfl)) (pe_tup (pa_cons (pv 3) (pa_cons (pv 4) pa_nil))) (nomark _)) (pss_one (ps_raise rfl (takes_of rfl rfl rfl rfl) (pmk_own PySem.F.excBase_ValueError x_Unlike.ex x_Unlike.mg x_Unlike.kp (raises_own x_Unlike.sub x_Unlike.ty) rfl))) pss_nil)
      (pss_one (ps_ret pe_bl))) pss_nil)
      (pss_cons (ps_if (pt_cmpR (op_ge) (pe_callB call_len_dT rfl G.b_len boot_len (pa_cons (pe_fldk (K := K) rfl (pv 0) rfl) pa_nil)) (pe_gi rfl G.i_MOST_SIGHTINGS) (nomark _)) (pss_one (ps_raise rfl (takes_of rfl rfl rfl rfl) (pmk_own PySem.F.excBase_ValueError x_TooMany.ex x_TooMany.mg x_TooMany.kp (raises_own x_TooMany.sub x_TooMany.ty) rfl))) pss_nil)
      (pss_cons (ps_dput (hu_of hr) (pe_fldk (K := K) rfl (pv 0) rfl) (pv 5) (pe_tup (pa_cons (pv 3) (pa_cons (pv 4) pa_nil))) rfl)
      (pss_one (ps_ret pe_bl))))))))), ?_⟩)
  · obtain ⟨Hs, p, dh, dst, N, ws, a, b, c, d, rfl, _, hw, _⟩ := h
    simp [hw.len]
  · obtain ⟨Hs, p, dh, dst, N, ws, a, b, c, d, rfl, hs, hw, NA, hlen, q⟩ := h
    obtain ⟨v1, v2, v3, v4, rfl, r1, r2, r3, r4⟩ : ∃ v1 v2 v3 v4, ws = [v1, v2, v3, v4] ∧ Rp K Hs v1 a ∧ Rp K Hs v2 b ∧ Rp K Hs v3 c ∧ Rp K Hs v4 d := by
      cases hw with
      | cons r1 hw => cases hw with
        | cons r2 hw => cases hw with
          | cons r3 hw => cases hw with
            | cons r4 hw => cases hw; exact ⟨_, _, _, _, rfl, r1, r2, r3, r4⟩
    have e : EnvD K Hs (L2.start ["self", "hand", "own", "tick", "place", "source"] [.ref p, v1, v2, v3, v4]) [none, some a, some b, some c, some d, none] := env_none (env_some r1 (env_some r2 (env_some r3 (env_some r4 (env_none env_nil)))))
    have h0 : (L2.start ["self", "hand", "own", "tick", "place", "source"] [.ref p, v1, v2, v3, v4])[0]? = some (some (.ref p)) := rfl
    generalize L2.start ["self", "hand", "own", "tick", "place", "source"] [.ref p, v1, v2, v3, v4] = σ at e h0 ⊢
    unfold hearF at q
    cases hsrc : srcF a b with
    | some er =>
      rw [hsrc] at q
      exact ye_seqE (ye_expr (yde_callX (ya_cons (yd_var rfl) (ya_cons (yd_var rfl) ya_nil)) ⟨_, _, _, rfl, hsrc, rfl⟩)) σ Hs H e hs q _
    | none =>
      rw [hsrc] at q
      dsimp only at q
      have hab : numIn a 0 3 = true ∧ numIn b 0 9 = true := by
        unfold srcF at hsrc
        split at hsrc
        · rename_i h1
          split at hsrc
          · rename_i h2
            exact ⟨h1, h2⟩
          · cases hsrc
        · cases hsrc
      obtain ⟨ea, a0, a3⟩ := numIn_int hab.1
      obtain ⟨eb, b0, b9⟩ := numIn_int hab.2
      refine (yn_expr (yd_callX (ya_cons (yd_var rfl) (ya_cons (yd_var rfl) ya_nil)) ⟨_, _, rfl, hsrc, rfl⟩) : YN K _ _ _ _) σ Hs H e hs _ fun σ1 Hs1 H1 g1 e1 n1 => ?_
      have h01 : σ1[0]? = some (some (.ref p)) := (n1 0 (by decide)).trans h0
      have NA1 := NA.gr g1
      obtain ⟨⟨dx, ob1⟩, _⟩ := id NA1
      obtain ⟨u3, s3, t3⟩ := e1.2 3 c rfl
      by_cases hc : numIn c 0 N.l = true
      · rw [if_pos hc] at q
        refine s_chk h01 s3 t3 ob1 T.cl T.aL (nfl_last _ _ _ _) g1.c (.inl ⟨⟨_, _, rfl, hc, rfl⟩, fun Hs2 H2 g2 => ?_⟩)
        have NA2 := NA1.gr g2
        obtain ⟨⟨dx, ob2⟩, _⟩ := id NA2
        have e2 := e1.mono g2.a
        obtain ⟨u4, s4, t4⟩ := e2.2 4 d rfl
        by_cases hd : numIn d 0 (N.n - 1) = true
        · rw [if_pos hd] at q
          refine s_chk h01 s4 t4 ob2 T.cl T.aP (nfl_places _ _ _ _) g2.c (.inl ⟨⟨_, _, rfl, hd, rfl⟩, fun Hs3 H3 g3 => ?_⟩)
          have NA3 := NA2.gr g3
          have e3 := e2.mono g3.a
          -- source = (hand, own)
          refine (yn_asg (YD.eq (yd_tup (ya_cons (yd_var rfl) (ya_cons (yd_var rfl) ya_nil)) (Nat.le_of_ble_eq_true rfl)) (d' := dP (intOf a, intOf b)) (by rw [ea, eb]; rfl)) yg_name : YN K _ _ _ _) σ1 Hs3 H3 e3 g3.c _ fun σ4 Hs4 H4 g4 e4 n4 => ?_
          have NA4 := NA3.gr g4
          have G4 := ((g1.trans g2).trans g3).trans g4
          have h04 : σ4[0]? = some (some (.ref p)) := (n4 0 (by decide)).trans h01
          obtain ⟨u5, s5, t5⟩ := e4.2 5 (dP (intOf a, intOf b)) rfl
          obtain ⟨tk, rfl, htk⟩ := rp_pair t5
          obtain ⟨⟨dx4, ob4⟩, ⟨kvs, hdh4, rT4⟩, ⟨kvs2, hst4, sT4⟩, np4, nh4, ns4, nd4⟩ := id NA4
          have htk4 : H4 tk = some (.tup ((kp (intOf a, intOf b)).map kV)) := G4.c _ _ htk
          obtain ⟨l1, l2⟩ := rT4.look (intOf a, intOf b)
          rw [look_hT] at l1 l2
          obtain ⟨ec, c0, cl⟩ := numIn_int hc
          obtain ⟨ed, d0, dl⟩ := numIn_int hd
          -- if source in self.heard
          refine ⟨.ref tk, s5, .ref p, h04, p, C, dx4, _, .ref dh, rfl, ob4, T.cl, T.aH, nfl_heard _ _ _ _, dh, _, rfl, DGet.t (k := kp (intOf a, intOf b)) hdh4 htk4, _, rfl, ?_⟩
          cases hlk : lookH N.heard (intOf a, intOf b) with
          | some v =>
            rw [hlk] at q l1
            obtain ⟨vv, hvv, rvv⟩ := l1 (dP v) rfl
            rw [hvv]
            refine iteT ?_
            -- self.heard[source] != (tick, place)
            obtain ⟨w3, q3, z3⟩ := e4.2 3 c rfl
            obtain ⟨w4, q4, z4⟩ := e4.2 4 d rfl
            refine ⟨.ref p, h04, p, C, dx4, _, .ref dh, rfl, ob4, T.cl, T.aH, nfl_heard _ _ _ _, .ref tk, s5, dh, vv, rfl, by rw [← hvv]; exact DGet.t (k := kp (intOf a, intOf b)) hdh4 htk4, w3, q3, w4, q4, by show 2 ≤ sizeLine; decide, fun tp htp => ?_⟩
            have g5 : Gr Hs4 H4 (upd Hs4 tp (.tup [w3, w4])) (upd H4 tp (.tup [w3, w4])) := Gr.new G4.c htp
            have rt : Rp K (upd Hs4 tp (.tup [w3, w4])) (.ref tp) (dP (intOf c, intOf d)) := by
              have := rp_tup (K := K) (H := H4) (same_none G4.c htp) (RpAll.cons z3 (RpAll.cons z4 RpAll.nil))
              rw [ec, ed] at this
              exact this
            refine ⟨dP v, dP (intOf c, intOf d), ((rvv.mono g5.a).mono g5.c).shape (shp_pair _), (rt.mono g5.c).shape (shp_pair _), shp_pair _, shp_pair _, _, rfl, ?_⟩
            have G5 := G4.trans g5
            by_cases hv : v = (intOf c, intOf d)
            · dsimp only at q
              rw [if_pos hv] at q
              rw [eqv_pair, decide_eq_true hv]
              exact iteF (q _ _ G5.x (NA.gr G5))
            · dsimp only at q
              rw [if_neg hv] at q
              rw [eqv_pair, decide_eq_false hv]
              exact iteT (q _ _ G5)
          | none =>
            rw [hlk] at q l2
            rw [l2 rfl]
            refine iteF ?_
            -- if len(self.heard) >= 8
            refine ⟨.ref p, h04, p, C, dx4, _, .ref dh, rfl, ob4, T.cl, T.aH, nfl_heard _ _ _ _, dh, kvs, rfl, hdh4, _, _, rfl, rfl, _, rfl, ?_⟩
            have hkl : kvs.length = N.heard.length := by rw [rT4.len, hT, List.length_map]
            by_cases h8 : 8 ≤ N.heard.length
            · dsimp only at q
              rw [if_pos h8] at q
              rw [show decide ((8 : Int) ≤ ((kvs.length : Nat) : Int)) = true from decide_eq_true (by omega)]
              exact iteT (q _ _ G4)
            · dsimp only at q
              rw [if_neg h8] at q
              rw [show decide ((8 : Int) ≤ ((kvs.length : Nat) : Int)) = false from decide_eq_false (by omega)]
              refine iteF ?_
              -- self.heard[source] = (tick, place)
              obtain ⟨w3, q3, z3⟩ := e4.2 3 c rfl
              obtain ⟨w4, q4, z4⟩ := e4.2 4 d rfl
              refine ⟨w3, q3, w4, q4, by show 2 ≤ sizeLine; decide, fun tp htp => ?_⟩
              have g5 : Gr Hs4 H4 (upd Hs4 tp (.tup [w3, w4])) (upd H4 tp (.tup [w3, w4])) := Gr.new G4.c htp
              have rt : Rp K (upd Hs4 tp (.tup [w3, w4])) (.ref tp) (dP (intOf c, intOf d)) := by
                have := rp_tup (K := K) (H := H4) (same_none G4.c htp) (RpAll.cons z3 (RpAll.cons z4 RpAll.nil))
                rw [ec, ed] at this
                exact this
              have G5 := G4.trans g5
              have NA5 := NA4.gr g5
              obtain ⟨⟨dx5, ob5⟩, ⟨kvs5, hdh5, rT5⟩, ⟨kvs25, hst5, sT5⟩, np5, nh5, ns5, nd5⟩ := id NA5
              have hkl5 : kvs5.length = N.heard.length := by rw [rT5.len, hT, List.length_map]
              refine ⟨.ref p, h04, p, C, dx5, _, .ref dh, rfl, ob5, T.cl, T.aH, nfl_heard _ _ _ _, .ref tk, s5, dh, _, rfl, DPut.t (k := kp (intOf a, intOf b)) hdh5 (g5.b _ _ htk4) (sz_lt (by omega)), ?_⟩
              have npd : p ≠ dh := ne_of ob5 hdh5 (by intro z; cases z)
              refine q _ _ ((G5.x (ms := [dh])).put (List.mem_singleton.mpr rfl) nh5) ⟨⟨dx5, by rw [upd_ne npd]; exact ob5⟩, ⟨_, upd_same, ?_⟩, ⟨kvs25, by rw [upd_ne nd5.symm]; exact hst5, sT5⟩, np5, nh5, ns5, nd5⟩
              rw [← put_hT hlk]
              exact rT5.put rt
        · rw [if_neg hd] at q
          exact s_chk h01 s4 t4 ob2 T.cl T.aP (nfl_places _ _ _ _) g2.c (.inr ⟨_, ⟨_, _, rfl, by simpa using hd, rfl⟩, fun Hs3 H3 g3 => q Hs3 H3 ((g1.trans g2).trans g3)⟩)
      · rw [if_neg hc] at q
        exact s_chk h01 s3 t3 ob1 T.cl T.aL (nfl_last _ _ _ _) g1.c (.inr ⟨_, ⟨_, _, rfl, by simpa using hc, rfl⟩, fun Hs3 H3 g3 => q Hs3 H3 (g1.trans g3)⟩)
abbrev s_News_strike : Stmt := (inClass (top 31) 2)
theorem sc_News_strike : FnScope ["self", "hand", "own", "source", "new"] ["self", "hand", "own"] (defScope s_News_strike) := ⟨rfl, rfl, rfl, by decide +kernel, rfl, by decide +kernel, by decide +kernel⟩
theorem ok_strike (F : FnM K "strike" "News.strike" s_News_strike f fd) (G : Gi mg) (T : NTxt K C)
    (c_check_source : Cal P w K mg base (L2.CX P w) 3 "check_source" (spX K R_check_source (X_check_source cs))) : FnOk P w K mg base (L2.CX P w) 4 f fd ["self", "hand", "own"] (spStrike K C cs) := by
  refine F.ok sc_News_strike (fun vs H Q E h => ?_) (fun cdv A outer s H vs Q E hr h => ⟨_, (pss_cons (ps_expr (pe_dX c_check_source hr (by decide) (takes_of rfl rfl rfl rfl) rfl (pa_cons (pv 1) (pa_cons (pv 2) pa_nil))))
      (pss_cons (ps_set (i := 3) sc_News_strike.nd rfl (Or.inl rfl) (pe_tup (pa_cons (pv 1) (pa_cons (pv 2) pa_nil))))
      (pss_cons (ps_set (i := 4) sc_News_strike.nd rfl (Or.inl rfl) (pe_cmp (pc_dnotin (hu_of hr) (pv 3) (pe_fldk (K := K) rfl (pv 0) rfl))))
      (pss_cons (ps_dput (hu_of hr) (pe_fldk (K := K) rfl (pv 0) rfl) (pv 3) pe_bl rfl)
      (pss_one (ps_ret (pv 4))))))), ?_⟩)
  · obtain ⟨Hs, p, dh, dst, N, ws, a, b, rfl, _, hw, _⟩ := h
    simp [hw.len]
  · obtain ⟨Hs, p, dh, dst, N, ws, a, b, rfl, hs, hw, NA, hlen, q⟩ := h
    obtain ⟨v1, v2, rfl, r1, r2⟩ : ∃ v1 v2, ws = [v1, v2] ∧ Rp K Hs v1 a ∧ Rp K Hs v2 b := by
      cases hw with
      | cons r1 hw => cases hw with
        | cons r2 hw => cases hw; exact ⟨_, _, rfl, r1, r2⟩
    have e : EnvD K Hs (L2.start ["self", "hand", "own", "source", "new"] [.ref p, v1, v2]) [none, some a, some b, none, none] := env_none (env_some r1 (env_some r2 (env_none (env_none env_nil))))
    have h0 : (L2.start ["self", "hand", "own", "source", "new"] [.ref p, v1, v2])[0]? = some (some (.ref p)) := rfl
    generalize L2.start ["self", "hand", "own", "source", "new"] [.ref p, v1, v2] = σ at e h0 ⊢
    unfold strikeF at q
    cases hsrc : srcF a b with
    | some er =>
      rw [hsrc] at q
      exact ye_seqE (ye_expr (yde_callX (ya_cons (yd_var rfl) (ya_cons (yd_var rfl) ya_nil)) ⟨_, _, _, rfl, hsrc, rfl⟩)) σ Hs H e hs q _
    | none =>
      rw [hsrc] at q
      dsimp only at q
      have hab : numIn a 0 3 = true ∧ numIn b 0 9 = true := by
        unfold srcF at hsrc
        split at hsrc
        · rename_i h1
          split at hsrc
          · rename_i h2
            exact ⟨h1, h2⟩
          · cases hsrc
        · cases hsrc
      obtain ⟨ea, a0, a3⟩ := numIn_int hab.1
      obtain ⟨eb, b0, b9⟩ := numIn_int hab.2
      refine (yn_expr (yd_callX (ya_cons (yd_var rfl) (ya_cons (yd_var rfl) ya_nil)) ⟨_, _, rfl, hsrc, rfl⟩) : YN K _ _ _ _) σ Hs H e hs _ fun σ1 Hs1 H1 g1 e1 n1 => ?_
      refine (yn_asg (YD.eq (yd_tup (ya_cons (yd_var rfl) (ya_cons (yd_var rfl) ya_nil)) (Nat.le_of_ble_eq_true rfl)) (d' := dP (intOf a, intOf b)) (by rw [ea, eb]; rfl)) yg_name : YN K _ _ _ _) σ1 Hs1 H1 e1 g1.c _ fun σ4 Hs4 H4 g4 e4 n4 => ?_
      have G4 := g1.trans g4
      have NA4 := NA.gr G4
      have h04 : σ4[0]? = some (some (.ref p)) := (n4 0 (by decide)).trans ((n1 0 (by decide)).trans h0)
      obtain ⟨u5, s5, t5⟩ := e4.2 3 (dP (intOf a, intOf b)) rfl
      obtain ⟨tk, rfl, htk⟩ := rp_pair t5
      obtain ⟨⟨dx4, ob4⟩, ⟨kvs, hdh4, rT4⟩, ⟨kvs2, hst4, sT4⟩, np4, nh4, ns4, nd4⟩ := id NA4
      have htk4 : H4 tk = some (.tup ((kp (intOf a, intOf b)).map kV)) := G4.c _ _ htk
      have hkl : kvs2.length = N.struck.length := by rw [sT4.len, sT, List.length_map]
      have l4 : σ4.length = 5 := e4.1
      refine ⟨.ref tk, s5, .ref p, h04, p, C, dx4, _, .ref dst, rfl, ob4, T.cl, T.aS, nfl_struck _ _ _ _, dst, _, rfl, DGet.t (k := kp (intOf a, intOf b)) hst4 htk4, ?_⟩
      rw [sT4.isSome, look_sT]
      have f0 : ∀ x, (σ4.set 4 x)[0]? = some (some (.ref p)) := fun x => by rw [List.getElem?_set_ne (by decide)]; exact h04
      have f3 : ∀ x, (σ4.set 4 x)[3]? = some (some (.ref tk)) := fun x => by rw [List.getElem?_set_ne (by decide)]; exact s5
      refine ⟨.ref p, f0 _, p, C, dx4, _, .ref dst, rfl, ob4, T.cl, T.aS, nfl_struck _ _ _ _, .ref tk, f3 _, dst, _, rfl, DPut.t (k := kp (intOf a, intOf b)) hst4 htk4 (sz_lt (by omega)), ?_⟩
      refine ⟨_, List.getElem?_set_self (by omega), ?_⟩
      have npd : p ≠ dst := ne_of ob4 hst4 (by intro z; cases z)
      refine q Hs4 _ ((G4.x (ms := [dst])).put (List.mem_singleton.mpr rfl) ns4) ⟨⟨dx4, by rw [upd_ne npd]; exact ob4⟩, ⟨kvs, by rw [upd_ne nd4]; exact hdh4, rT4⟩, ⟨_, upd_same, ?_⟩, np4, nh4, ns4, nd4⟩
      rw [← put_sT]
      exact sT4.put (.bl true)
abbrev s_News_sightings : Stmt := (inClass (top 31) 3)
theorem sc_News_sightings : FnScope ["self", "source"] ["self"] (defScope s_News_sightings) := ⟨rfl, rfl, rfl, by decide +kernel, rfl, by decide +kernel, by decide +kernel⟩
theorem mem_look {h : List ((Int × Int) × (Int × Int))} {k : Int × Int} (hm : k ∈ h.map (·.1)) : ∃ v, lookH h k = some v := by
  obtain ⟨q, hq, rfl⟩ := List.mem_map.mp hm
  cases e : lookH h q.1 with
  | some v => exact ⟨v, rfl⟩
  | none =>
    unfold lookH at e
    rw [Option.map_eq_none_iff, List.find?_eq_none] at e
    exact absurd (decide_eq_true rfl) (e q hq)
theorem ok_stand (F : FnM K "sightings" "News.sightings" s_News_sightings f fd) (G : Gi mg) (T : NTxt K C) : FnOk P w K mg base CX0 1 f fd ["self"] (spStand K C) := by
  refine F.ok sc_News_sightings (fun vs H Q E h => ?_) (fun cdv A outer s H vs Q E hr h => ⟨_, (pss_one (ps_ret (pe_lc (own := [("source", 1)]) rfl sc_News_sightings.nd (pi_listk (K := K) rfl (pe_callB (call_sortedDT rfl) rfl G.b_sorted (by decide +kernel) (pa_cons (pe_fldk (K := K) rfl (pv 0) rfl) pa_nil))) (blkOk_by (N := ["self", "source"]) (sc := defScope s_News_sightings) (by decide +kernel)) (fun _ _ _ _ _ => (pg_name (i := 1) sc_News_sightings.nd rfl (Or.inl rfl))) (fun _ _ _ _ _ => (pts_one (pt_cmp (pc_dnotin (hu_of hr) (pv 1) (pe_fldk (K := K) rfl (pv 0) rfl))))) (fun _ _ _ _ _ => (pe_dget (hu_of hr) (pe_fldk (K := K) rfl (pv 0) rfl) (pv 1) (fun _ _ => rfl)))))), ?_⟩)
  · obtain ⟨Hs, p, dh, dst, N, rfl, _⟩ := h
    rfl
  · obtain ⟨Hs, p, dh, dst, N, rfl, hs, NA, hlen, q⟩ := h
    have e : EnvD K Hs (L2.start ["self", "source"] [.ref p]) [none, none] := env_none (env_none env_nil)
    have h0 : (L2.start ["self", "source"] [.ref p])[0]? = some (some (.ref p)) := rfl
    generalize L2.start ["self", "source"] [.ref p] = σ at e h0 ⊢
    have eh : (hT N.heard).map (·.1) = N.heard.map (·.1) := by
      unfold hT
      rw [List.map_map]
      rfl
    show tLc _ _ _ _ _ σ H Q
    refine lc_atU (xs := sortP (N.heard.map (·.1))) dP (fun k => !decide (k ∈ N.struck)) (fun k => dP ((lookH N.heard k).getD (0, 0))) (fun k => [none, some (dP k)]) e hs (fun R hR => ?_) ?_ (by decide) (fun k _ => yg_name) (fun k hk σ' Hs' H' g e' n' R hR => ?_) (fun k hk hb σ' Hs' H' g e' n' R hR => ?_) fun la acc Hs2 H2 g ha hb hc r => q la acc Hs2 H2 g ha hb hc ?_
    · obtain ⟨⟨dx, ob⟩, ⟨kvs, hdh, rT⟩, _⟩ := id NA
      refine ⟨.ref p, h0, p, C, dx, _, .ref dh, rfl, ob, T.cl, T.aH, nfl_heard _ _ _ _, ?_⟩
      show rSortedDT [.ref dh] H (fun x H1 => ∃ a, x = V.ref a ∧ (∃ xs, SqL K H1 a xs) ∧ R (Itl K a) H1)
      refine rc_sortedDT hdh rT hs fun pl ys hpl ry => ?_
      rw [eh] at ry
      obtain ⟨Hs', g', ry'⟩ := rp_settle ry hs
      have g2 : Gr Hs H (upd Hs' pl (.lst ys)) (upd H pl (.lst ys)) := g'.trans (Gr.new g'.c hpl)
      exact ⟨pl, rfl, ⟨ys, .inl (.inl upd_same)⟩, hR _ _ _ g2 (walk_lst upd_same (ry'.mono (same_new (same_none g'.c hpl))))⟩
    · rw [sortP_len, List.length_map]
      omega
    · have h0' : σ'[0]? = some (some (.ref p)) := (n' 0 (by decide)).trans h0
      obtain ⟨⟨dx, ob⟩, ⟨kvs, hdh, rT⟩, ⟨kvs2, hst, sT4⟩, _⟩ := NA.gr g
      obtain ⟨u, su, tu⟩ := e'.2 1 (dP k) rfl
      obtain ⟨tk, rfl, htk⟩ := rp_pair tu
      refine ⟨.ref tk, su, .ref p, h0', p, C, dx, _, .ref dst, rfl, ob, T.cl, T.aS, nfl_struck _ _ _ _, dst, _, rfl, DGet.t (k := kp k) hst (g.c _ _ htk), _, rfl, ?_⟩
      rw [sT4.isSome, look_sT]
      exact hR Hs' H' (Gr.refl g.c)
    · have h0' : σ'[0]? = some (some (.ref p)) := (n' 0 (by decide)).trans h0
      obtain ⟨⟨dx, ob⟩, ⟨kvs, hdh, rT⟩, ⟨kvs2, hst, sT4⟩, _⟩ := NA.gr g
      obtain ⟨u, su, tu⟩ := e'.2 1 (dP k) rfl
      obtain ⟨tk, rfl, htk⟩ := rp_pair tu
      obtain ⟨v, hv⟩ := mem_look (sortP_mem.mp hk)
      obtain ⟨l1, _⟩ := rT.look k
      rw [look_hT, hv] at l1
      obtain ⟨vv, hvv, rvv⟩ := l1 (dP v) rfl
      refine ⟨.ref p, h0', p, C, dx, _, .ref dh, rfl, ob, T.cl, T.aH, nfl_heard _ _ _ _, .ref tk, su, dh, vv, rfl, by rw [← hvv]; exact DGet.t (k := kp k) hdh (g.c _ _ htk), ?_⟩
      refine hR vv Hs' H' (Gr.refl g.c) ?_
      rw [hv]
      exact rvv
    · have : (stand N).map dP = ((sortP (N.heard.map (·.1))).filter fun k => !decide (k ∈ N.struck)).map fun k => dP ((lookH N.heard k).getD (0, 0)) := by
        unfold stand
        rw [List.map_map]
        rfl
      rw [this]
      exact r
end
end SG
set_option Elab.async false
set_option linter.all false
set_option maxRecDepth 100000
set_option maxHeartbeats 4000000
namespace SG
open PySem PySem.Spec PyProof.Rows L2
/-! ### what is due, what is strange, what are no lands -/
def dueD (j : Int) : List PyData := ((List.range 12).map fun (i : Nat) => PyData.bool (decide (j = 0 + (i : Int)))) ++ [.bool true]
def strangeD (far : Int) : List PyData := [.none, .str "1", .bool true, .bool false, .list [.int 1], .tuple [.int 1], .dict [], .int (-1), .int (-1 - far)]
def wayD (a b : PyData) : PyData := .tuple [a, b]
def land3 (a b c : PyData) : PyData := .tuple [a, b, c]
def noL0 : List PyData := [.none, .int 5, .str "land", .tuple [], .dict [], .list [.int 3, .list [wayD (.int 0) (.int 1)], .int 4], .tuple [.int 3, .list [wayD (.int 0) (.int 1)]], .tuple [.int 3, .list [wayD (.int 0) (.int 1)], .int 4, .int 4], land3 (.int 3) .none (.int 4)]
def lotsD : List PyData := [.list [.none], .list [.tuple []], .list [.list [.int 0, .int 1]], .list [.tuple [.int 0]], .list [.tuple [.int 0, .int 1, .int 2]], .list [wayD (.int 1) (.int 0)], .list [wayD (.int 1) (.int 1)], .list [wayD (.int 0) (.int 1), wayD (.int 0) (.int 1)]]
def lots2D : List PyData := lotsD ++ [.list [wayD (.int 1) (.int 2), wayD (.int 0) (.int 1)], .list [wayD (.int 0) (.int 3)]]
def noL1 : List PyData := noL0 ++ [land3 (.int 3) (.tuple [wayD (.int 0) (.int 1)]) (.int 4)]
def st8 (far : Int) : List PyData := strangeD far ++ [.int 0, .int 8, .int (7 + far)]
def st11 (far : Int) : List PyData := strangeD far ++ [.int 0, .int 11, .int (10 + far)]
def noL2 (far : Int) : List PyData := noL1 ++ (st8 far).map fun x => land3 x (.list []) (.int 4)
def noL3 (far : Int) : List PyData := noL2 far ++ (st11 far).map fun x => land3 (.int 3) (.list [wayD (.int 0) (.int 1)]) x
def noL4 (far : Int) : List PyData := noL3 far ++ lots2D.map fun x => land3 (.int 3) x (.int 4)
def noL5 (far : Int) : List PyData := noL4 far ++ (strangeD far).flatMap fun x => [land3 (.int 3) (.list [wayD x (.int 1)]) (.int 4), land3 (.int 3) (.list [wayD (.int 0) (.int 1), wayD (.int 1) x]) (.int 4)]
def elevenD : PyData := .list (((List.range 6).map fun (i : Nat) => wayD (.int 0) (.int (1 + (i : Int)))) ++ (List.range 5).map fun (i : Nat) => wayD (.int 1) (.int (2 + (i : Int))))
def noLands (far : Int) : List PyData := noL5 far ++ [land3 (.int 7) elevenD (.int 4)]
theorem not_lands (far : Int) (h : 1 ≤ far) : ∀ x ∈ noLands far, isLand x = false := by
  have e : (noLands far).all (fun x => !isLand x) = true := by
    simp [noLands, noL5, noL4, noL3, noL2, noL1, noL0, st8, st11, strangeD, lots2D, lotsD, land3, wayD, isLand, areWays, isWay, numIn, incD, ltD, ltPr, elevenD]
    omega
  intro x hx
  simpa using List.all_eq_true.mp e x hx
section
variable {P : Program} {w : World} {K : PySem.W.Frag} {mg : Str → Option Value} {base : Heap} {f : Addr} {fd : FuncData}
abbrev s__law_due_of : Stmt := (top 37)
theorem sc__law_due_of : FnScope ["_law_at", "_law_one"] ["_law_at"] (defScope s__law_due_of) := ⟨rfl, rfl, rfl, by decide +kernel, rfl, by decide +kernel, by decide +kernel⟩
def R_due_of (ds : List PyData) (d : PyData) : Prop := ∃ j : Int, ds = [.int j] ∧ d = .list (dueD j)
theorem ok_due_of (F : FnP K "_law_due_of" s__law_due_of f fd) (G : Gi mg) : FnOk P w K mg base CX0 1 f fd ["_law_at"] (spD K R_due_of) := by
  refine okD F sc__law_due_of (by rintro _ _ ⟨x, rfl, _⟩; rfl) fun cdv A outer s H E hr => ⟨_, (pss_one (ps_ret (pe_op op_cat (pe_lc (own := [("_law_one", 1)]) rfl sc__law_due_of.nd (pi_range1 rfl G.b_range (pa_cons pe_int pa_nil)) (blkOk_by (N := ["_law_at", "_law_one"]) (sc := defScope s__law_due_of) (by decide +kernel)) (fun _ _ _ _ _ => (pg_name (i := 1) sc__law_due_of.nd rfl (Or.inl rfl))) (fun _ _ _ _ _ => pts_nil) (fun _ _ _ _ _ => (pe_cmpR (op_eqk (K := K) rfl hr.units) (pv 0) (pv 1) (nomark _)))) (pe_lst (pa_cons pe_bl pa_nil))))), ?_⟩
  rintro _ _ ⟨j, rfl, rfl⟩
  refine yr_ret (yd_op (yd_lc0 (xs := List.range 12) (fun (i : Nat) => .int (0 + (i : Int))) (fun (i : Nat) => PyData.bool (decide (j = 0 + (i : Int)))) (fun (i : Nat) => _) (yi_rng1 (n := 12) (ya_cons yd_int ya_nil) (by decide) (by decide)) (by decide) (by decide) (fun i _ => yg_name) fun i _ => YD.eq (yd_op (yd_var rfl) (yd_var rfl) (rd_eqD rfl rfl)) ?_) (yd_lst (ya_cons yd_bl ya_nil) (by decide)) (rd_cat (Nat.le_of_ble_eq_true rfl)))
  rfl
abbrev s__law_strange : Stmt := (top 38)
theorem sc__law_strange : FnScope ["_law_far"] ["_law_far"] (defScope s__law_strange) := ⟨rfl, rfl, rfl, by decide +kernel, rfl, by decide +kernel, by decide +kernel⟩
def R_strange (ds : List PyData) (d : PyData) : Prop := ∃ j : Int, ds = [.int j] ∧ d = .list (strangeD j)
theorem ok_strange (F : FnP K "_law_strange" s__law_strange f fd) (G : Gi mg) : FnOk P w K mg base CX0 1 f fd ["_law_far"] (spD K R_strange) := by
  refine okD F sc__law_strange (by rintro _ _ ⟨x, rfl, _⟩; rfl) fun cdv A outer s H E hr => ⟨_, (pss_one (ps_ret (pe_lst (pa_cons pe_non (pa_cons pe_str (pa_cons pe_bl (pa_cons pe_bl (pa_cons (pe_lst (pa_cons pe_int pa_nil)) (pa_cons (pe_tup (pa_cons pe_int pa_nil)) (pa_cons pe_dnewK (pa_cons (pe_un un_neg pe_int) (pa_cons (pe_op op_sub (pe_un un_neg pe_int) (pv 0)) pa_nil)))))))))))), ?_⟩
  rintro _ _ ⟨j, rfl, rfl⟩
  exact yr_ret (yd_lst (ya_cons yd_non (ya_cons yd_str (ya_cons yd_bl (ya_cons yd_bl (ya_cons (yd_lst (ya_cons yd_int ya_nil) (by decide)) (ya_cons (yd_tup (ya_cons yd_int ya_nil) (by decide)) (ya_cons yd_dnew (ya_cons (yd_un yd_int ru_neg) (ya_cons (yd_op (yd_un yd_int ru_neg) (yd_var rfl) rd_I0) ya_nil))))))))) (Nat.le_of_ble_eq_true rfl))
abbrev s__law_no_lands : Stmt := (top 39)
theorem sc__law_no_lands : FnScope ["_law_far", "_law_bad", "_law_one", "_law_lots", "_law_some", "_law_at"] ["_law_far"] (defScope s__law_no_lands) := ⟨rfl, rfl, rfl, by decide +kernel, rfl, by decide +kernel, by decide +kernel⟩
def R_no_lands (ds : List PyData) (d : PyData) : Prop := ∃ j : Int, ds = [.int j] ∧ d = .list (noLands j)
theorem len_st (j : Int) : (strangeD j).length = 9 := rfl
theorem yd_way {ta tb : TE} {ρ : Rho} {a b : PyData} (h1 : YD K ta ρ a) (h2 : YD K tb ρ b) : YD K (tTup (tCons ta (tCons tb tNil))) ρ (wayD a b) := yd_tup (ya_cons h1 (ya_cons h2 ya_nil)) (Nat.le_of_ble_eq_true rfl)
theorem yd_land3 {ta tb tc : TE} {ρ : Rho} {a b c : PyData} (h1 : YD K ta ρ a) (h2 : YD K tb ρ b) (h3 : YD K tc ρ c) : YD K (tTup (tCons ta (tCons tb (tCons tc tNil)))) ρ (land3 a b c) := yd_tup (ya_cons h1 (ya_cons h2 (ya_cons h3 ya_nil))) (Nat.le_of_ble_eq_true rfl)
theorem yd_l1 {ta : TE} {ρ : Rho} {a : PyData} (h1 : YD K ta ρ a) : YD K (tLst (tCons ta tNil)) ρ (.list [a]) := yd_lst (ya_cons h1 ya_nil) (Nat.le_of_ble_eq_true rfl)
theorem yd_l2 {ta tb : TE} {ρ : Rho} {a b : PyData} (h1 : YD K ta ρ a) (h2 : YD K tb ρ b) : YD K (tLst (tCons ta (tCons tb tNil))) ρ (.list [a, b]) := yd_lst (ya_cons h1 (ya_cons h2 ya_nil)) (Nat.le_of_ble_eq_true rfl)
theorem yd_l3 {ta tb tc : TE} {ρ : Rho} {a b c : PyData} (h1 : YD K ta ρ a) (h2 : YD K tb ρ b) (h3 : YD K tc ρ c) : YD K (tLst (tCons ta (tCons tb (tCons tc tNil)))) ρ (.list [a, b, c]) := yd_lst (ya_cons h1 (ya_cons h2 (ya_cons h3 ya_nil))) (Nat.le_of_ble_eq_true rfl)
theorem yd_t0 {ρ : Rho} : YD K (tTup tNil) ρ (.tuple []) := yd_tup ya_nil (Nat.le_of_ble_eq_true rfl)
theorem yd_t1 {ta : TE} {ρ : Rho} {a : PyData} (h1 : YD K ta ρ a) : YD K (tTup (tCons ta tNil)) ρ (.tuple [a]) := yd_tup (ya_cons h1 ya_nil) (Nat.le_of_ble_eq_true rfl)
theorem ok_no_lands (F : FnP K "_law_no_lands" s__law_no_lands f fd) (G : Gi mg) (c__law_strange : Cal P w K mg base CX0 1 "_law_strange" (spD K R_strange)) : FnOk P w K mg base CX0 2 f fd ["_law_far"] (spD K R_no_lands) := by
  refine okD F sc__law_no_lands (by rintro _ _ ⟨x, rfl, _⟩; rfl) fun cdv A outer s H E hr => ⟨_, (pss_cons (ps_set (i := 1) sc__law_no_lands.nd rfl (Or.inl rfl) (pe_lst (pa_cons pe_non (pa_cons pe_int (pa_cons pe_str (pa_cons (pe_tup pa_nil) (pa_cons pe_dnewK (pa_cons (pe_lst (pa_cons pe_int (pa_cons (pe_lst (pa_cons (pe_tup (pa_cons pe_int (pa_cons pe_int pa_nil))) pa_nil)) (pa_cons pe_int pa_nil)))) (pa_cons (pe_tup (pa_cons pe_int (pa_cons (pe_lst (pa_cons (pe_tup (pa_cons pe_int (pa_cons pe_int pa_nil))) pa_nil)) pa_nil))) (pa_cons (pe_tup (pa_cons pe_int (pa_cons (pe_lst (pa_cons (pe_tup (pa_cons pe_int (pa_cons pe_int pa_nil))) pa_nil)) (pa_cons pe_int (pa_cons pe_int pa_nil))))) (pa_cons (pe_tup (pa_cons pe_int (pa_cons pe_non (pa_cons pe_int pa_nil)))) pa_nil)))))))))))
      (pss_cons (ps_expr (pe_bm PySem.F.plainAttrs_list PySem.F.slot_list_append PySem.F.type_list_append mt_append (pv 1) (pa_cons (pe_tup (pa_cons pe_int (pa_cons (pe_tup (pa_cons (pe_tup (pa_cons pe_int (pa_cons pe_int pa_nil))) pa_nil)) (pa_cons pe_int pa_nil)))) pa_nil)))
      (pss_cons (ps_for PassesOwn.never rfl (pi_listk (K := K) rfl (pe_op op_cat (pe_d c__law_strange hr (by decide) rfl (pa_cons (pv 0) pa_nil)) (pe_lst (pa_cons pe_int (pa_cons pe_int (pa_cons (pe_op op_add pe_int (pv 0)) pa_nil)))))) (pg_name (i := 2) sc__law_no_lands.nd rfl (Or.inl rfl))
        (pss_one (ps_expr (pe_bm PySem.F.plainAttrs_list PySem.F.slot_list_append PySem.F.type_list_append mt_append (pv 1) (pa_cons (pe_tup (pa_cons (pv 2) (pa_cons (pe_lst pa_nil) (pa_cons pe_int pa_nil)))) pa_nil)))))
      (pss_cons (ps_for PassesOwn.never rfl (pi_listk (K := K) rfl (pe_op op_cat (pe_d c__law_strange hr (by decide) rfl (pa_cons (pv 0) pa_nil)) (pe_lst (pa_cons pe_int (pa_cons pe_int (pa_cons (pe_op op_add pe_int (pv 0)) pa_nil)))))) (pg_name (i := 2) sc__law_no_lands.nd rfl (Or.inl rfl))
        (pss_one (ps_expr (pe_bm PySem.F.plainAttrs_list PySem.F.slot_list_append PySem.F.type_list_append mt_append (pv 1) (pa_cons (pe_tup (pa_cons pe_int (pa_cons (pe_lst (pa_cons (pe_tup (pa_cons pe_int (pa_cons pe_int pa_nil))) pa_nil)) (pa_cons (pv 2) pa_nil)))) pa_nil)))))
      (pss_cons (ps_set (i := 3) sc__law_no_lands.nd rfl (Or.inl rfl) (pe_lst (pa_cons (pe_lst (pa_cons pe_non pa_nil)) (pa_cons (pe_lst (pa_cons (pe_tup pa_nil) pa_nil)) (pa_cons (pe_lst (pa_cons (pe_lst (pa_cons pe_int (pa_cons pe_int pa_nil))) pa_nil)) (pa_cons (pe_lst (pa_cons (pe_tup (pa_cons pe_int pa_nil)) pa_nil)) (pa_cons (pe_lst (pa_cons (pe_tup (pa_cons pe_int (pa_cons pe_int (pa_cons pe_int pa_nil)))) pa_nil)) (pa_cons (pe_lst (pa_cons (pe_tup (pa_cons pe_int (pa_cons pe_int pa_nil))) pa_nil)) (pa_cons (pe_lst (pa_cons (pe_tup (pa_cons pe_int (pa_cons pe_int pa_nil))) pa_nil)) (pa_cons (pe_lst (pa_cons (pe_tup (pa_cons pe_int (pa_cons pe_int pa_nil))) (pa_cons (pe_tup (pa_cons pe_int (pa_cons pe_int pa_nil))) pa_nil))) pa_nil))))))))))
      (pss_cons (ps_for PassesOwn.never rfl (pi_listk (K := K) rfl (pe_op op_cat (pv 3) (pe_lst (pa_cons (pe_lst (pa_cons (pe_tup (pa_cons pe_int (pa_cons pe_int pa_nil))) (pa_cons (pe_tup (pa_cons pe_int (pa_cons pe_int pa_nil))) pa_nil))) (pa_cons (pe_lst (pa_cons (pe_tup (pa_cons pe_int (pa_cons pe_int pa_nil))) pa_nil)) pa_nil))))) (pg_name (i := 4) sc__law_no_lands.nd rfl (Or.inl rfl))
        (pss_one (ps_expr (pe_bm PySem.F.plainAttrs_list PySem.F.slot_list_append PySem.F.type_list_append mt_append (pv 1) (pa_cons (pe_tup (pa_cons pe_int (pa_cons (pv 4) (pa_cons pe_int pa_nil)))) pa_nil)))))
      (pss_cons (ps_for PassesOwn.never rfl (pi_listk (K := K) rfl (pe_d c__law_strange hr (by decide) rfl (pa_cons (pv 0) pa_nil))) (pg_name (i := 2) sc__law_no_lands.nd rfl (Or.inl rfl))
        (pss_one (ps_set (i := 1) sc__law_no_lands.nd rfl (Or.inl rfl) (pe_op op_cat (pv 1) (pe_lst (pa_cons (pe_tup (pa_cons pe_int (pa_cons (pe_lst (pa_cons (pe_tup (pa_cons (pv 2) (pa_cons pe_int pa_nil))) pa_nil)) (pa_cons pe_int pa_nil)))) (pa_cons (pe_tup (pa_cons pe_int (pa_cons (pe_lst (pa_cons (pe_tup (pa_cons pe_int (pa_cons pe_int pa_nil))) (pa_cons (pe_tup (pa_cons pe_int (pa_cons (pv 2) pa_nil))) pa_nil))) (pa_cons pe_int pa_nil)))) pa_nil)))))))
      (pss_one (ps_ret (pe_op op_cat (pv 1) (pe_lst (pa_cons (pe_tup (pa_cons pe_int (pa_cons (pe_op op_cat (pe_lc (own := [("_law_at", 5)]) rfl sc__law_no_lands.nd (pi_range2 rfl G.b_range (pa_cons pe_int (pa_cons pe_int pa_nil))) (blkOk_by (N := ["_law_far", "_law_bad", "_law_one", "_law_lots", "_law_some", "_law_at"]) (sc := defScope s__law_no_lands) (by decide +kernel)) (fun _ _ _ _ _ => (pg_name (i := 5) sc__law_no_lands.nd rfl (Or.inl rfl))) (fun _ _ _ _ _ => pts_nil) (fun _ _ _ _ _ => (pe_tup (pa_cons pe_int (pa_cons (pv 5) pa_nil))))) (pe_lc (own := [("_law_at", 5)]) rfl sc__law_no_lands.nd (pi_range2 rfl G.b_range (pa_cons pe_int (pa_cons pe_int pa_nil))) (blkOk_by (N := ["_law_far", "_law_bad", "_law_one", "_law_lots", "_law_some", "_law_at"]) (sc := defScope s__law_no_lands) (by decide +kernel)) (fun _ _ _ _ _ => (pg_name (i := 5) sc__law_no_lands.nd rfl (Or.inl rfl))) (fun _ _ _ _ _ => pts_nil) (fun _ _ _ _ _ => (pe_tup (pa_cons pe_int (pa_cons (pv 5) pa_nil)))))) (pa_cons pe_int pa_nil)))) pa_nil)))))))))))), ?_⟩
  rintro _ _ ⟨j, rfl, rfl⟩
  have w01 : ∀ {ρ : Rho}, YD K (tTup (tCons (tC (.int 0)) (tCons (tC (.int 1)) tNil))) ρ (wayD (.int 0) (.int 1)) := yd_way yd_int yd_int
  refine yr_own (ds := noL0) (i := 1) (ya_cons yd_non (ya_cons yd_int (ya_cons yd_str (ya_cons yd_t0 (ya_cons yd_dnew (ya_cons (yd_l3 yd_int (yd_l1 w01) yd_int) (ya_cons (yd_way yd_int (yd_l1 w01)) (ya_cons (yd_tup (ya_cons yd_int (ya_cons (yd_l1 w01) (ya_cons yd_int (ya_cons yd_int ya_nil)))) (Nat.le_of_ble_eq_true rfl)) (ya_cons (yd_land3 yd_int yd_non yd_int) ya_nil))))))))) (Nat.le_of_ble_eq_true rfl) ?_ (Nat.le_of_ble_eq_true rfl)
  refine ymr_seq (ym_app (yd_land3 yd_int (yd_t1 w01) yd_int) (Nat.le_of_ble_eq_true rfl)) ?_
  refine ymr_seq (ym_forA (xs := st8 j) (ρw := [some (.int j), none, none, none, none, none]) (fun x => x) (fun x => land3 x (.list []) (.int 4)) (fun x => _) ((yi_list (yd_op (yd_call (ya_cons (yd_var rfl) ya_nil) ⟨_, rfl, rfl⟩) (yd_l3 yd_int yd_int (yd_op yd_int (yd_var rfl) rd_I0)) (rd_cat (Nat.le_of_ble_eq_true rfl)))).eq (List.map_id' _).symm) ⟨rfl, trivial⟩ (by decide) (fun x _ => yg_name) fun x _ acc hl => ym_sub (ym_app (yd_land3 (yd_var rfl) (yd_lst ya_nil (Nat.le_of_ble_eq_true rfl)) yd_int) ?_) ⟨rfl, trivial⟩) ?_
  · exact Nat.lt_of_le_of_lt hl (Nat.le_of_ble_eq_true rfl)
  refine ymr_seq (ym_forA (xs := st11 j) (ρw := [some (.int j), none, none, none, none, none]) (fun x => x) (fun x => land3 (.int 3) (.list [wayD (.int 0) (.int 1)]) x) (fun x => _) ((yi_list (yd_op (yd_call (ya_cons (yd_var rfl) ya_nil) ⟨_, rfl, rfl⟩) (yd_l3 yd_int yd_int (yd_op yd_int (yd_var rfl) rd_I0)) (rd_cat (Nat.le_of_ble_eq_true rfl)))).eq (List.map_id' _).symm) ⟨rfl, trivial⟩ (by decide) (fun x _ => yg_name) fun x _ acc hl => ym_sub (ym_app (yd_land3 yd_int (yd_l1 w01) (yd_var rfl)) ?_) ⟨rfl, trivial⟩) ?_
  · exact Nat.lt_of_le_of_lt hl (Nat.le_of_ble_eq_true rfl)
  refine ymr_seq (ym_n (yn_asg (d := .list lotsD) (yd_lst (ya_cons (yd_l1 yd_non) (ya_cons (yd_l1 yd_t0) (ya_cons (yd_l1 (yd_l2 yd_int yd_int)) (ya_cons (yd_l1 (yd_t1 yd_int)) (ya_cons (yd_l1 (yd_land3 yd_int yd_int yd_int)) (ya_cons (yd_l1 (yd_way yd_int yd_int)) (ya_cons (yd_l1 (yd_way yd_int yd_int)) (ya_cons (yd_l2 w01 w01) ya_nil)))))))) (Nat.le_of_ble_eq_true rfl)) yg_name) (by decide)) ?_
  refine ymr_seq (ym_forA (xs := lots2D) (ρw := [some (.int j), none, none, none, none, none]) (fun x => x) (fun x => land3 (.int 3) x (.int 4)) (fun x => _) ((yi_list (yd_op (yd_var rfl) (yd_l2 (yd_l2 (yd_way yd_int yd_int) w01) (yd_l1 (yd_way yd_int yd_int))) (rd_cat (Nat.le_of_ble_eq_true rfl)))).eq (List.map_id' _).symm) ⟨rfl, trivial⟩ (by decide) (fun x _ => yg_name) fun x _ acc hl => ym_sub (ym_app (yd_land3 yd_int (yd_var rfl) yd_int) ?_) ⟨rfl, trivial⟩) ?_
  · exact Nat.lt_of_le_of_lt hl (Nat.le_of_ble_eq_true rfl)
  refine ymr_settle ?_
  let two : PyData → List PyData := fun x => [land3 (.int 3) (.list [wayD x (.int 1)]) (.int 4), land3 (.int 3) (.list [wayD (.int 0) (.int 1), wayD (.int 1) x]) (.int 4)]
  refine yr_seq (yn_forV (xs := strangeD j) (fun x => x) (fun k => [some (.int j), some (.list (noL4 j ++ ((strangeD j).take k).flatMap two)), none, none, none, none]) (fun k x => _) ((yi_list (yd_call (ya_cons (yd_var rfl) ya_nil) ⟨_, rfl, rfl⟩)).eq (List.map_id' _).symm) ⟨rfl, by simp; rfl, trivial⟩ (fun k x _ => yg_name) fun k x hx => yn_sub (yn_asg (d := .list ((noL4 j ++ ((strangeD j).take k).flatMap two) ++ two x)) (yd_op (yd_var rfl) (yd_l2 (yd_land3 yd_int (yd_l1 (yd_way (yd_var rfl) yd_int)) yd_int) (yd_land3 yd_int (yd_l2 w01 (yd_way yd_int (yd_var rfl))) yd_int)) (rd_cat ?_)) yg_name) ⟨rfl, ?_, trivial⟩) (yr_ret (yd_op (yd_var rfl) (yd_l1 (yd_land3 yd_int (yd_op (yd_lc0 (xs := List.range 6) (fun (i : Nat) => .int (1 + (i : Int))) (fun (i : Nat) => wayD (.int 0) (.int (1 + (i : Int)))) (fun (i : Nat) => _) (yi_rng2 (m := 1) (n := 7) (ya_cons yd_int (ya_cons yd_int ya_nil)) (by decide)) (by decide) (by decide) (fun i _ => yg_name) fun i _ => yd_way yd_int (yd_var rfl)) (yd_lc0 (xs := List.range 5) (fun (i : Nat) => .int (2 + (i : Int))) (fun (i : Nat) => wayD (.int 1) (.int (2 + (i : Int)))) (fun (i : Nat) => _) (yi_rng2 (m := 2) (n := 7) (ya_cons yd_int (ya_cons yd_int ya_nil)) (by decide)) (by decide) (by decide) (fun i _ => yg_name) fun i _ => yd_way yd_int (yd_var rfl)) (rd_cat (Nat.le_of_ble_eq_true rfl))) yd_int)) (rd_cat (Nat.le_of_ble_eq_true rfl))))
  · have h1 : (((strangeD j).take k).flatMap two).length = 2 * ((strangeD j).take k).length := by
      induction (strangeD j).take k with
      | nil => rfl
      | cons a r ih =>
        rw [List.flatMap_cons, List.length_append, ih]
        show 2 + 2 * r.length = 2 * (r.length + 1)
        omega
    have h2 : ((strangeD j).take k).length ≤ 9 := by
      rw [List.length_take]
      exact Nat.min_le_right _ _
    have h3 : (noL4 j).length = 44 := rfl
    rw [List.length_append, h1, h3]
    show 44 + _ + 2 ≤ _
    omega
  · rw [List.take_add_one, hx, List.flatMap_append, List.append_assoc]
    simp
end
end SG
set_option Elab.async false
set_option linter.all false
set_option maxRecDepth 100000
set_option maxHeartbeats 4000000
namespace SG
open PySem PySem.Spec PyProof.Rows L2
theorem pss_ex {X : Cx} {α : Type} {Pp : α → Prop} {T : α → TS} {sts : List Stmt} (h : ∀ x, Pp x → PSs X sts (T x)) : PSs X sts (fun D σ H => ∃ x, Pp x ∧ T x D σ H) := ⟨fun pins s σ H D I ⟨x, px, hx⟩ => (h x px).run pins s σ H D I hx⟩
/-! ### which class an error is of -/
def erI : Er → Nat
  | .badLand => 0
  | .badPlace => 1
  | .badTick => 2
  | .badHand => 7
  | .badOwn => 8
  | .unlike => 10
  | .tooMany => 11
structure KdM (mg : Str → Option Value) (cS : Addr) (ks : Nat → Addr) : Prop where
  m0 : mg "BadLand" = some (.ref (ks 0))
  m1 : mg "BadPlace" = some (.ref (ks 1))
  m2 : mg "BadTick" = some (.ref (ks 2))
  m3 : mg "BadSightings" = some (.ref (ks 3))
  m4 : mg "BadWrong" = some (.ref (ks 4))
  m5 : mg "BadNumber" = some (.ref (ks 5))
  m6 : mg "BadWalk" = some (.ref (ks 6))
  m7 : mg "BadHand" = some (.ref (ks 7))
  m8 : mg "BadOwn" = some (.ref (ks 8))
  m9 : mg "NoWalk" = some (.ref (ks 9))
  m10 : mg "Unlike" = some (.ref (ks 10))
  m11 : mg "TooMany" = some (.ref (ks 11))
  mS : mg "SightError" = some (.ref cS)
  mV : mg "ValueError" = none
def kb (x : Er) (i : Nat) : Bool := decide (((erI x : Nat) : Int) = 0 + (i : Int))
structure KdF (K : PySem.W.Frag) (cS : Addr) (ks : Nat → Addr) : Prop where
  ec : ∀ x : Er, ExcC K (ks (erI x))
  kit : ∀ (x : Er) (i : Nat), i < 12 → PySem.W.kitOne K (.ref (ks (erI x))) (.ref (ks i)) = some (kb x i)
  kv : ∀ x : Er, PySem.W.kitOne K (.ref (ks (erI x))) (.type "ValueError") = some true
  exm : ∀ x : Er, PySem.W.exmOne K (.ref (ks (erI x))) (.ref cS) = some true
theorem due_kb (x : Er) : dueD (erI x) = [.bool (kb x 0), .bool (kb x 1), .bool (kb x 2), .bool (kb x 3), .bool (kb x 4), .bool (kb x 5), .bool (kb x 6), .bool (kb x 7), .bool (kb x 8), .bool (kb x 9), .bool (kb x 10), .bool (kb x 11), .bool true] := rfl
def tI (K : PySem.W.Frag) (D a : Addr) (c : V) : TE := tCB (rIsE K D a) (tCons (tVar 2) (tCons (tC c) tNil))
def tL3 (K : PySem.W.Frag) (D a : Addr) (c0 c1 c2 : Addr) : TE := tLst (tCons (tI K D a (.ref c0)) (tCons (tI K D a (.ref c1)) (tCons (tI K D a (.ref c2)) tNil)))
def tSuiteK (K : PySem.W.Frag) (ks : Nat → Addr) (D a : Addr) : TS := tSeq (tAsg (tL3 K D a (ks 0) (ks 1) (ks 2)) (gName 1)) (tSeq (tAsg (tOp rCat (tVar 1) (tL3 K D a (ks 3) (ks 4) (ks 5))) (gName 1)) (tSeq (tAsg (tOp rCat (tVar 1) (tL3 K D a (ks 6) (ks 7) (ks 8))) (gName 1))
  (tSeq (tAsg (tOp rCat (tVar 1) (tL3 K D a (ks 9) (ks 10) (ks 11))) (gName 1)) (tDrop (tBM K "list" rAppend (tVar 1) (tCons (tI K D a (.ty "ValueError")) tNil))))))
/-- the call x(lambda): the lambda raises the error x -/
def TTk (K : PySem.W.Frag) (ks : Nat → Addr) : (XK → Hp → VK → Prop) → Hp → VK → Prop := fun tl H Q => ∃ (Hs : Hp) (x : Er), Same Hs H ∧ (∀ Hs1 H1, Gr Hs H Hs1 H1 → ∀ Q', tl (fun cls d H' => cls = .ref (ks (erI x)) ∧ d = none ∧ ∃ Hs', Gr Hs1 H1 Hs' H') H1 Q') ∧
  ∀ u Hs2 H2, Gr Hs H Hs2 H2 → Rp K Hs2 u (.list (dueD (erI x))) → Q u H2
abbrev s__law_kinds : Stmt := (top 36)
theorem sc__law_kinds : FnScope ["_law_ask", "_law_found", "error"] ["_law_ask"] (defScope s__law_kinds) := ⟨rfl, rfl, rfl, by decide +kernel, rfl, by decide +kernel, by decide +kernel⟩
section
variable {X : Cx} {g : Addr} {cdg : Value} {q : Str} {cS : Addr} {ks : Nat → Addr}
theorem l3_at {K : PySem.W.Frag} {D a c0 c1 c2 : Addr} {b0 b1 b2 : Bool} {σ : L2.St} {H : Hp} {Q : VK} (h2 : σ[2]? = some (some (.ref a))) (k0 : PySem.W.kitOne K (.ref D) (.ref c0) = some b0) (k1 : PySem.W.kitOne K (.ref D) (.ref c1) = some b1) (k2 : PySem.W.kitOne K (.ref D) (.ref c2) = some b2)
    (h : ∀ p, H p = none → Q (.ref p) (upd H p (.lst [.bl b0, .bl b1, .bl b2]))) : tL3 K D a c0 c1 c2 σ H Q :=
  ⟨.ref a, h2, .ref c0, .ref c0, b0, rfl, (fun u r => r), k0, .ref a, h2, .ref c1, .ref c1, b1, rfl, (fun u r => r), k1, .ref a, h2, .ref c2, .ref c2, b2, rfl, (fun u r => r), k2, by show 3 ≤ sizeLine; decide, h⟩
/-- found = found + [..] -/
theorem cat_at {K : PySem.W.Frag} {D a c0 c1 c2 : Addr} {b0 b1 b2 : Bool} {σ : L2.St} {Hs H : Hp} {Dn : Ends} {l : Addr} {xs : List V} (hl : xs.length ≤ 50) (h1 : σ[1]? = some (some (.ref l))) (h2 : σ[2]? = some (some (.ref a))) (hx : H l = some (.lst xs)) (s : Same Hs H) (k0 : PySem.W.kitOne K (.ref D) (.ref c0) = some b0) (k1 : PySem.W.kitOne K (.ref D) (.ref c1) = some b1) (k2 : PySem.W.kitOne K (.ref D) (.ref c2) = some b2)
    (h : ∀ p H2, Gr Hs H Hs (upd H2 p (.lst (xs ++ [.bl b0, .bl b1, .bl b2]))) → H2 p = none → Gr Hs H Hs H2 → Dn.nx (σ.set 1 (some (.ref p))) (upd H2 p (.lst (xs ++ [.bl b0, .bl b1, .bl b2])))) : tAsg (tOp rCat (tVar 1) (tL3 K D a c0 c1 c2)) (gName 1) Dn σ H := by
  refine ⟨.ref l, h1, l3_at h2 k0 k1 k2 fun p hp => ?_⟩
  refine ⟨l, p, xs, [.bl b0, .bl b1, .bl b2], rfl, rfl, ?_, upd_same, sz_of ?_, fun p2 hp2 => ?_⟩
  · rw [upd_ne (ne_of_none hx hp)]
    exact hx
  · show xs.length + 3 ≤ _
    omega
  · have g1 : Gr Hs H Hs (upd H p (.lst [.bl b0, .bl b1, .bl b2])) := Gr.fresh s hp
    exact h p2 _ (g1.trans (Gr.fresh g1.c hp2)) hp2 g1
theorem kinds_gives (G : Gi X.mg) (M : KdM X.mg cS ks) (F : KdF X.K cS ks) : LamX.GivesTo X ["_law_ask", "_law_found", "error"] "_law_kinds" (defScope s__law_kinds) g cdg (defBody s__law_kinds) "_law_ask" q (TTk X.K ks) := by
  intro f c' s H Q tl act hc h
  obtain ⟨Hs, x, sH, ht, hq⟩ := h
  have isE : ∀ {a Dx : Addr} {oe : Obj} {pn : List (Addr × Obj)} {Y : Cx}, Y.K = X.K → ExcC X.K Dx → Zc (.ref Dx) none oe → (∃ vs, oe.data = .fields vs) → CallR (Y.suite a ((a, oe) :: pn)) (.builtin "isinstance") (rIsE X.K Dx a) := fun hY ec hz hf => hY ▸ call_isE (hY.symm ▸ ec) hz hf
  refine ⟨_, pss_cons (ps_set (i := 1) sc__law_kinds.nd rfl (Or.inl rfl) (pe_lst pa_nil)) (pss_cons (ps_try_as (X := (cxOf C8.CX0 X.prog X.w X.K X.mg X.base ["_law_ask", "_law_found", "error"] "_law_kinds" (defScope s__law_kinds) g cdg X.A X.stack s H C8.E0).nox) (i := 2) (c := .ref cS)
      (tb := fun W D σ H => ∃ Ech : XK, (∀ cls d σ' H', Ech cls d H' → W cls d σ' H') ∧ σ[0]? = some (some (.ref f)) ∧ H c' = some (LamX.CodeO c' q) ∧ tl Ech H (fun _ H' => D.nx σ H'))
      (ts := fun a cls d D σ H => ∃ Dx, (cls = .ref Dx ∧ d = none ∧ ExcC X.K Dx) ∧ (σ.length = 3 → tSuiteK X.K ks Dx a D σ H)) rfl rfl sc__law_kinds.nd rfl rfl ⟨rfl, by decide, .inl M.mS⟩ LamX.takes0 (fun W pn xe tk _ => ?_) (fun a oe cls d pn hz hf => pss_ex fun Dx hD => ?_)) (pss_one (ps_ret (pv 1)))), ?_⟩
  · refine ⟨fun pins s' σ H' D I h' => ?_⟩
    obtain ⟨Ech, hW, h1, h2, h3⟩ := h'
    exact (pss_one (ps_expr (act W pn xe Ech _ _ tk hW))).run pins s' σ H' D I ⟨h1, h2, h3⟩
  · obtain ⟨rfl, rfl, ec⟩ := hD
    refine pss_len ?_ rfl
    exact pss_cons (ps_set (i := 1) sc__law_kinds.nd rfl (Or.inl rfl) (pe_lst (pa_cons (pe_callB (isE rfl ec hz hf) rfl G.b_isinstance boot_isinstance (pa_cons (pv 2) (pa_cons (pe_glob rfl M.m0 rfl) pa_nil))) (pa_cons (pe_callB (isE rfl ec hz hf) rfl G.b_isinstance boot_isinstance (pa_cons (pv 2) (pa_cons (pe_glob rfl M.m1 rfl) pa_nil))) (pa_cons (pe_callB (isE rfl ec hz hf) rfl G.b_isinstance boot_isinstance (pa_cons (pv 2) (pa_cons (pe_glob rfl M.m2 rfl) pa_nil))) pa_nil)))))
      (pss_cons (ps_set (i := 1) sc__law_kinds.nd rfl (Or.inl rfl) (pe_op op_cat (pv 1) (pe_lst (pa_cons (pe_callB (isE rfl ec hz hf) rfl G.b_isinstance boot_isinstance (pa_cons (pv 2) (pa_cons (pe_glob rfl M.m3 rfl) pa_nil))) (pa_cons (pe_callB (isE rfl ec hz hf) rfl G.b_isinstance boot_isinstance (pa_cons (pv 2) (pa_cons (pe_glob rfl M.m4 rfl) pa_nil))) (pa_cons (pe_callB (isE rfl ec hz hf) rfl G.b_isinstance boot_isinstance (pa_cons (pv 2) (pa_cons (pe_glob rfl M.m5 rfl) pa_nil))) pa_nil))))))
      (pss_cons (ps_set (i := 1) sc__law_kinds.nd rfl (Or.inl rfl) (pe_op op_cat (pv 1) (pe_lst (pa_cons (pe_callB (isE rfl ec hz hf) rfl G.b_isinstance boot_isinstance (pa_cons (pv 2) (pa_cons (pe_glob rfl M.m6 rfl) pa_nil))) (pa_cons (pe_callB (isE rfl ec hz hf) rfl G.b_isinstance boot_isinstance (pa_cons (pv 2) (pa_cons (pe_glob rfl M.m7 rfl) pa_nil))) (pa_cons (pe_callB (isE rfl ec hz hf) rfl G.b_isinstance boot_isinstance (pa_cons (pv 2) (pa_cons (pe_glob rfl M.m8 rfl) pa_nil))) pa_nil))))))
      (pss_cons (ps_set (i := 1) sc__law_kinds.nd rfl (Or.inl rfl) (pe_op op_cat (pv 1) (pe_lst (pa_cons (pe_callB (isE rfl ec hz hf) rfl G.b_isinstance boot_isinstance (pa_cons (pv 2) (pa_cons (pe_glob rfl M.m9 rfl) pa_nil))) (pa_cons (pe_callB (isE rfl ec hz hf) rfl G.b_isinstance boot_isinstance (pa_cons (pv 2) (pa_cons (pe_glob rfl M.m10 rfl) pa_nil))) (pa_cons (pe_callB (isE rfl ec hz hf) rfl G.b_isinstance boot_isinstance (pa_cons (pv 2) (pa_cons (pe_glob rfl M.m11 rfl) pa_nil))) pa_nil))))))
      (pss_one (ps_expr (pe_bm PySem.F.plainAttrs_list PySem.F.slot_list_append PySem.F.type_list_append mt_append (pv 1) (pa_cons (pe_callB (isE rfl ec hz hf) rfl G.b_isinstance boot_isinstance (pa_cons (pv 2) (pa_cons (pe_ty (n := "ValueError") rfl M.mV (by decide +kernel)) pa_nil))) pa_nil)))))))
  · refine ⟨Nat.zero_le _, fun p0 hp0 => ?_⟩
    have g1 : Gr Hs H Hs (upd H p0 (.lst [])) := Gr.fresh sH hp0
    refine ⟨fun cls d H' => cls = .ref (ks (erI x)) ∧ d = none ∧ ∃ Hs', Gr Hs (upd H p0 (.lst [])) Hs' H', fun cls d σ' H' hE => ?_, rfl, g1.b _ _ hc, ht _ _ g1 _⟩
    obtain ⟨rfl, rfl, Hs', gE⟩ := hE
    refine ⟨true, F.exm x, fun _ a ha => ⟨ks (erI x), ⟨rfl, rfl, F.ec x⟩, fun hlen => ?_⟩, fun z => nomatch z⟩
    have h2 : (σ'.set 2 (some (.ref a)))[2]? = some (some (.ref a)) := List.getElem?_set_self (by rw [List.length_set] at hlen; omega)
    generalize σ'.set 2 (some (.ref a)) = σ1 at hlen h2 ⊢
    have gA := g1.trans gE
    unfold tSuiteK
    unfold tSeq
    show tAsg _ _ _ _ _
    unfold tAsg
    refine l3_at h2 (F.kit x 0 (by decide)) (F.kit x 1 (by decide)) (F.kit x 2 (by decide)) fun p1 hp1 => ?_
    have G1 := gA.trans (Gr.fresh (o := .lst [.bl (kb x 0), .bl (kb x 1), .bl (kb x 2)]) gA.c hp1)
    have s1 : ∀ {σ : L2.St} {p : Addr}, σ.length = 3 → (σ.set 1 (some (V.ref p)))[1]? = some (some (.ref p)) := fun hl => List.getElem?_set_self (by omega)
    have s2 : ∀ {σ : L2.St} {p : Addr}, σ[2]? = some (some (.ref a)) → (σ.set 1 (some (V.ref p)))[2]? = some (some (.ref a)) := fun hl => by rw [List.getElem?_set_ne (by decide)]; exact hl
    have l3 : ∀ {σ : L2.St} {p : Addr}, σ.length = 3 → (σ.set 1 (some (V.ref p))).length = 3 := fun hl => by rw [List.length_set]; exact hl
    refine cat_at (Hs := Hs') (by show 3 ≤ 50; decide) (s1 hlen) (s2 h2) upd_same G1.c (F.kit x 3 (by decide)) (F.kit x 4 (by decide)) (F.kit x 5 (by decide)) fun p2 H2 g2 hp2 _ => ?_
    have G2 := G1.trans g2
    refine cat_at (Hs := Hs') (by show 6 ≤ 50; decide) (s1 (l3 hlen)) (s2 (s2 h2)) upd_same G2.c (F.kit x 6 (by decide)) (F.kit x 7 (by decide)) (F.kit x 8 (by decide)) fun p3 H3 g3 hp3 _ => ?_
    have G3 := G2.trans g3
    refine cat_at (Hs := Hs') (by show 9 ≤ 50; decide) (s1 (l3 (l3 hlen))) (s2 (s2 (s2 h2))) upd_same G3.c (F.kit x 9 (by decide)) (F.kit x 10 (by decide)) (F.kit x 11 (by decide)) fun p4 H4 g4 hp4 gp => ?_
    have G4 := G3.trans g4
    have Gp := G3.trans gp
    have n4 : Hs' p4 = none := same_none Gp.c hp4
    have nH : H p4 = none := same_none Gp.b hp4
    have e1 := s1 (p := p4) (l3 (p := p3) (l3 (p := p2) (l3 (p := p1) hlen)))
    have e2 := s2 (p := p4) (s2 (p := p3) (s2 (p := p2) (s2 (p := p1) h2)))
    have hl5 := l3 (p := p4) (l3 (p := p3) (l3 (p := p2) (l3 (p := p1) hlen)))
    generalize (((σ1.set 1 (some (V.ref p1))).set 1 (some (.ref p2))).set 1 (some (.ref p3))).set 1 (some (.ref p4)) = σ5 at e1 e2 hl5 ⊢
    refine ⟨.ref p4, e1, .inl ⟨rfl, _, .inl (.inl upd_same)⟩, .ref a, e2, .ty "ValueError", .type "ValueError", true, rfl, (fun u r => r), F.kv x, p4, _, .bl true, rfl, rfl, upd_same, sz_lt (by show 12 < 100000; decide), ?_⟩
    refine ⟨.ref p4, by rw [List.getElem?_set_ne (by decide)]; exact e1, ?_⟩
    refine hq _ (upd Hs' p4 (.lst [.bl (kb x 0), .bl (kb x 1), .bl (kb x 2), .bl (kb x 3), .bl (kb x 4), .bl (kb x 5), .bl (kb x 6), .bl (kb x 7), .bl (kb x 8), .bl (kb x 9), .bl (kb x 10), .bl (kb x 11), .bl true])) _ ((G4.mut nH n4).settle nH upd_same n4) ?_
    rw [due_kb]
    exact rp_lst (H := H) n4 (.cons (.bl _) (.cons (.bl _) (.cons (.bl _) (.cons (.bl _) (.cons (.bl _) (.cons (.bl _) (.cons (.bl _) (.cons (.bl _) (.cons (.bl _) (.cons (.bl _) (.cons (.bl _) (.cons (.bl _) (.cons (.bl _) .nil)))))))))))))
end
end SG
set_option Elab.async false
set_option linter.all false
set_option maxRecDepth 100000
set_option maxHeartbeats 4000000
namespace SG
open PySem PySem.Spec PyProof.Rows L2
/-! ### kinds(lambda: ..) in a def that makes lambdas -/
theorem pe_kinds {X : Cx} {K : PySem.W.Frag} {mg : Str → Option Value} {fk c Pt cS : Addr} {fdk : FuncData} {ks : Nat → Addr} {T : List (Addr × Str)} {q : Str} {k : Nat} {params : Arguments} {body : Expr} {scope : Scope} {t : XK → TE} {p lpos pos : Pos} (hK : X.K = K) (hmg : X.mg = mg)
    (Fk : FnP K "_law_kinds" s__law_kinds fk fdk) (mk : mg "_law_kinds" = some (.ref fk)) (G : Gi mg) (MK : KdM mg cS ks) (KF : KdF K cS ks) (hg : Gl X "_law_kinds") (TB : LamX.TabB X.base mg c Pt) (hcode : X.env.code = .ref c) (hq : X.env.qual ++ "<lambda>" = q) (hmT : (Pt, q) ∈ T) (hu : ∀ z ∈ T, z.1 = Pt → z.2 = q)
    (hr : Room (k + 2) X.A) (L : LamX.LamS X.env.scope scope) (hdef : defaultsOf params X.env = ([], [])) (hbind : ∀ (q : Str) (cl : List (Str × Addr)) (pm cv ctv : Value), bindArgs (PySem.W.kla_fn "<lambda>" q params body scope cl pm cv ctv) ⟨[], []⟩ = pure [])
    (hbody : ∀ (A : Around) (outer : List Env) (s : Shared) (H : Hp) (E : XK) (f c' : Addr), Room k (A.deeper (LamX.lamEnv X scope s.heap.objs.size f c')) → PE (LamX.lamCx X A outer s H E scope f c') body (t E)) :
    PE X (.Call (.Name "_law_kinds" p) [.Lambda params body scope lpos] [] pos) (LamX.tLam T (TTk K ks) t) := by
  subst hK hmg hq
  obtain ⟨oc, od, dV, kV, doc, pm, an, cdv, ct, osl, rfl, lk, hcd, _, _⟩ := Fk.ex
  have hb := FunD.bindsN (ps := ["_law_ask"]) Fk fun _ _ _ _ _ _ us hl => match us, hl with | [_], _ => rfl
  exact LamX.pe_lamcall hg mk Fk.kp lk hcd hb sc__law_kinds rfl (Or.inl rfl) (kinds_gives G MK KF) TB hcode hmT hu hr L hdef hbind hbody
section
variable {K : PySem.W.Frag} {ks : Nat → Addr} {T : List (Addr × Str)} {σ : L2.St} {Hs H : Hp} {C p dh dst : Addr} {N : NewsS} {ρ : Rho}
theorem NewsAt.grT {Hs2 H2 : Hp} (h : NewsAt K C Hs H p dh dst N) (g : GrT Hs H Hs2 H2) : NewsAt K C Hs2 H2 p dh dst N := by
  obtain ⟨⟨dx, o⟩, ⟨k1, h1, r1⟩, ⟨k2, h2, r2⟩, a, b, c, d⟩ := h
  refine ⟨⟨dx, g.b _ _ o fun _ z => nomatch z⟩, ⟨k1, g.b _ _ h1 (fun _ z => nomatch z), r1.mono g.a⟩, ⟨k2, g.b _ _ h2 (fun _ z => nomatch z), r2.mono g.a⟩, g.d _ (by rw [o]; trivial) ?_ a, g.d _ (by rw [h1]; trivial) ?_ b, g.d _ (by rw [h2]; trivial) ?_ c, d⟩
  · rw [o]; exact fun _ z => nomatch z
  · rw [h1]; exact fun _ z => nomatch z
  · rw [h2]; exact fun _ z => nomatch z
theorem NewsAt.nt (h : NewsAt K C Hs H p dh dst N) : NewsAt K C (nt Hs) H p dh dst N := by
  obtain ⟨⟨dx, o⟩, ⟨k1, h1, r1⟩, ⟨k2, h2, r2⟩, a, b, c, d⟩ := h
  exact ⟨⟨dx, o⟩, ⟨k1, h1, r1.nt⟩, ⟨k2, h2, r2.nt⟩, nt_none a, nt_none b, nt_none c, d⟩
theorem kd_val {t : XK → TE} {Q : VK} (n : NoT Hs) (s : Same Hs H) (tH : LamX.Tabs T H) (x : Er) (hb : ∀ (E : XK) (Q' : VK) (Hs1 H1 : Hp), GrT Hs H Hs1 H1 → (∀ Hs2 H2, Gr Hs1 H1 Hs2 H2 → E (.ref (ks (erI x))) none H2) → t E σ H1 Q')
    (q : ∀ u Hs2 H2, GrT Hs H Hs2 H2 → LamX.Tabs T H2 → Rp K Hs2 u (.list (dueD (erI x))) → Q u H2) : LamX.tLam T (TTk K ks) t σ H Q := by
  refine ⟨tH, fun H1 eN T1 => ?_⟩
  have gl := GrT.lam n s eN
  refine ⟨Hs, x, gl.c, fun Hs1 H2 g Q' => hb _ Q' _ H2 (gl.trans (g.t n)) fun Hs2 H3 g3 => ⟨rfl, rfl, Hs1, Same.refl _, g3.b, g.c.trans g3.b, fun _ _ h => h⟩, fun u Hs2 H2 g r => q u _ H2 (gl.trans (g.t n)) (Tabs.gr T1 g) r.nt⟩
theorem due_sh (x : Er) : SeqAt.shaped (.list (dueD (erI x))) = true := by cases x <;> decide +kernel
theorem due_eq (x : Er) : PyData.eqv (.list (dueD (erI x))) (.list (dueD (erI x))) = true := by cases x <;> decide +kernel
theorem kd_if {t : XK → TE} {u : TS} {D : Ends} {j : Int} (e : EnvD K Hs σ ρ) (n : NoT Hs) (s : Same Hs H) (tH : LamX.Tabs T H) (x : Er) (hj : j = erI x) (hb : ∀ (E : XK) (Q' : VK) (Hs1 H1 : Hp), GrT Hs H Hs1 H1 → (∀ Hs2 H2, Gr Hs1 H1 Hs2 H2 → E (.ref (ks (erI x))) none H2) → t E σ H1 Q')
    (k : ∀ Hs2 H2, GrT Hs H Hs2 H2 → LamX.Tabs T H2 → D.nx σ H2) : tIfS (tTest (tOp (rNeD K) (LamX.tLam T (TTk K ks) t) (tCall (spD K R_due_of) [] E0 (tCons (tC (.int j)) tNil)))) u tNext D σ H := by
  refine kd_val n s tH x hb fun u Hs2 H2 g2 t2 ru => ?_
  refine (yd_call (ya_cons yd_int ya_nil) ⟨j, rfl, rfl⟩ : YD K _ ρ (.list (dueD j))) σ Hs2 H2 (e.mono g2.a) g2.c _ fun v Hs3 H3 g3 rv => ?_
  subst hj
  refine rd_neD (due_sh x) (due_sh x) u v Hs3 H3 g3.c (ru.mono g3.a) rv _ fun z Hs4 H4 g4 rz => ?_
  rw [due_eq] at rz
  cases rz
  refine ⟨_, rfl, ?_⟩
  dsimp only
  rw [if_neg (by decide)]
  exact k _ H4 (g2.trans ((g3.trans g4).t g2.n)) (Tabs.gr (Tabs.gr t2 g3) g4)
theorem hear_bad {ta : TA} {E : XK} {Q : VK} {a b c d : PyData} {i : Nat} {x : Er} {cs : Er → Addr} (h0 : σ[i]? = some (some (.ref p))) (e : EnvD K Hs σ ρ) (s : Same Hs H) (NA : NewsAt K C Hs H p dh dst N) (hl : N.heard.length ≤ 100) (ya : YA K ta ρ [a, b, c, d]) (er : hearF N a b c d = .error x) (hE : ∀ Hs2 H2, Gr Hs H Hs2 H2 → E (.ref (cs x)) none H2) : tMeth C "hear" (spHear K C cs) [] E (tVar i) ta σ H Q := by
  obtain ⟨⟨dx, ob⟩, _⟩ := id NA
  refine ⟨.ref p, h0, p, dx, _, rfl, ob, nfl_no _ _ _ _ (by decide +kernel) (by decide +kernel) (by decide +kernel) (by decide +kernel), ya σ Hs H e s _ fun ws Hs2 H2 g2 rw => ?_⟩
  rw [List.append_nil]
  refine ⟨Hs2, p, dh, dst, N, ws, a, b, c, d, rfl, g2.c, rw, NA.gr g2, hl, ?_⟩
  rw [er]
  exact fun Hs3 H3 g3 => hE Hs3 H3 (g2.trans g3)
theorem strike_bad {ta : TA} {E : XK} {Q : VK} {a b : PyData} {i : Nat} {x : Er} {cs : Er → Addr} (h0 : σ[i]? = some (some (.ref p))) (e : EnvD K Hs σ ρ) (s : Same Hs H) (NA : NewsAt K C Hs H p dh dst N) (hl : N.struck.length ≤ 100) (ya : YA K ta ρ [a, b]) (er : strikeF N a b = .error x) (hE : ∀ Hs2 H2, Gr Hs H Hs2 H2 → E (.ref (cs x)) none H2) : tMeth C "strike" (spStrike K C cs) [] E (tVar i) ta σ H Q := by
  obtain ⟨⟨dx, ob⟩, _⟩ := id NA
  refine ⟨.ref p, h0, p, dx, _, rfl, ob, nfl_no _ _ _ _ (by decide +kernel) (by decide +kernel) (by decide +kernel) (by decide +kernel), ya σ Hs H e s _ fun ws Hs2 H2 g2 rw => ?_⟩
  rw [List.append_nil]
  refine ⟨Hs2, p, dh, dst, N, ws, a, b, rfl, g2.c, rw, NA.gr g2, hl, ?_⟩
  rw [er]
  exact fun Hs3 H3 g3 => hE Hs3 H3 (g2.trans g3)
end
/-! ### the checks of the news -/
theorem hearF_own {N : NewsS} {a b c d : PyData} (h1 : numIn a 0 3 = true) (h : numIn b 0 9 = false) : hearF N a b c d = .error .badOwn := by simp [hearF, srcF, h1, h]
theorem strikeF_own {N : NewsS} {a b : PyData} (h1 : numIn a 0 3 = true) (h : numIn b 0 9 = false) : strikeF N a b = .error .badOwn := by simp [strikeF, srcF, h1, h]
theorem hearF_tick {N : NewsS} {a b c d : PyData} (h1 : numIn a 0 3 = true) (h2 : numIn b 0 9 = true) (h : numIn c 0 N.l = false) : hearF N a b c d = .error .badTick := by simp [hearF, srcF, h1, h2, h]
theorem hearF_place {N : NewsS} {a b c d : PyData} (h1 : numIn a 0 3 = true) (h2 : numIn b 0 9 = true) (h3 : numIn c 0 N.l = true) (h : numIn d 0 (N.n - 1) = false) : hearF N a b c d = .error .badPlace := by simp [hearF, srcF, h1, h2, h3, h]
theorem hearF_rest {N : NewsS} {a b c d : PyData} (h1 : numIn a 0 3 = true) (h2 : numIn b 0 9 = true) (h3 : numIn c 0 N.l = true) (h4 : numIn d 0 (N.n - 1) = true) : hearF N a b c d = (match lookH N.heard (intOf a, intOf b) with
    | some v => if v = (intOf c, intOf d) then .ok (false, N) else .error .unlike
    | none => if 8 ≤ N.heard.length then .error .tooMany else .ok (true, { N with heard := N.heard ++ [((intOf a, intOf b), (intOf c, intOf d))] })) := by
  unfold hearF srcF
  rw [if_pos h1, if_pos h2]
  dsimp only
  rw [if_pos h3, if_pos h4] <;> rfl
def qLam (x : Str) : Str := x ++ ".<locals>." ++ "<lambda>"
def spRight (K : PySem.W.Frag) (C : Addr) (T : List (Addr × Str)) : Sp := fun vs H Q _ => ∃ (Hs : Hp) (p dh dst : Addr) (N : NewsS) (far : Int), vs = [.ref p, .int far] ∧ NoT Hs ∧ Same Hs H ∧ LamX.Tabs T H ∧ NewsAt K C Hs H p dh dst N ∧ 1 ≤ far ∧ N.n = 3 ∧ N.l = 4 ∧ lookH N.heard (0, 0) = some (0, 0) ∧ N.heard.length ≤ 100 ∧ N.struck.length ≤ 100 ∧
  ∀ Hs2 H2, GrT Hs H Hs2 H2 → LamX.Tabs T H2 → Q (.bl true) H2
section
variable {P : Program} {w : World} {K : PySem.W.Frag} {mg : Str → Option Value} {base : Heap} {f fk fH fS C cS : Addr} {fd fdk fdH fdS : FuncData} {ks : Nat → Addr} {Tb : List (Addr × Str)}
abbrev s__law_right : Stmt := (top 40)
theorem sc__law_right : FnScope ["_law_news", "_law_far", "_law_bad", "_law_tick", "_law_place"] ["_law_news", "_law_far"] (defScope s__law_right) := ⟨rfl, rfl, rfl, by decide +kernel, rfl, by decide +kernel, by decide +kernel⟩
theorem ok_right (F : FnP K "_law_right" s__law_right f fd) (G : Gi mg) (T : NTxt K C) (Fk : FnP K "_law_kinds" s__law_kinds fk fdk) (mk : mg "_law_kinds" = some (.ref fk)) (MK : KdM mg cS ks) (KF : KdF K cS ks) (TO : TabOf base mg Tb fd (qLam "_law_right"))
    (mH : Meth K C "hear" fH) (FH : FnOk P w K mg base (L2.CX P w) 4 fH fdH ["self", "hand", "own", "tick", "place"] (spHear K C (fun x => ks (erI x)))) (bH : Binds K fdH ["self", "hand", "own", "tick", "place"] [])
    (mS : Meth K C "strike" fS) (FS : FnOk P w K mg base (L2.CX P w) 4 fS fdS ["self", "hand", "own"] (spStrike K C (fun x => ks (erI x)))) (bS : Binds K fdS ["self", "hand", "own"] [])
    (c__law_strange : Cal P w K mg base CX0 1 "_law_strange" (spD K R_strange)) (c__law_due_of : Cal P w K mg base CX0 1 "_law_due_of" (spD K R_due_of)) : FnOk P w K mg base CX0 7 f fd ["_law_news", "_law_far"] (spRight K C Tb) := by
  refine ok_code F sc__law_right (fun vs H Q E h => ?_) (fun c A outer s H vs Q E hc hr h => ?_)
  · obtain ⟨Hs, p, dh, dst, N, far, rfl, _⟩ := h
    rfl
  · obtain ⟨Pt, TB, hmT, hu⟩ := TO c hc
    refine ⟨_, PSs.nox ((pss_cons (ps_for PassesOwn.never rfl (pi_listk (K := K) rfl (pe_op op_cat (pe_d c__law_strange hr (by decide) rfl (pa_cons (pv 1) pa_nil)) (pe_lst (pa_cons pe_int (pa_cons (pe_op op_add pe_int (pv 1)) pa_nil))))) (pg_name (i := 2) sc__law_right.nd rfl (Or.inr rfl))
        (pss_cons (ps_if (pt_cmpR (op_nek (K := K) rfl hr.units) (pe_kinds (K := K) (mg := mg) rfl rfl Fk mk G MK KF rfl TB rfl rfl hmT hu hr (LamX.lamS_by rfl) rfl (fun _ _ _ _ _ => rfl) (fun A2 outer2 s2 H2 E2 f2 c2 hr2 => (pe_meth (pv 0) T.cl mH FH (hr2.mono (by decide)) bH .nil (passes_call (takes_of rfl rfl rfl rfl) (fun _ _ _ _ h => h)) (pa_cons (pv 2) (pa_cons pe_non (pa_cons pe_non (pa_cons pe_non pa_nil))))))) (pe_d c__law_due_of hr (by decide) rfl (pa_cons pe_int pa_nil)) (nomark _)) (pss_one (ps_ret pe_bl)) pss_nil)
      (pss_one (ps_if (pt_cmpR (op_nek (K := K) rfl hr.units) (pe_kinds (K := K) (mg := mg) rfl rfl Fk mk G MK KF rfl TB rfl rfl hmT hu hr (LamX.lamS_by rfl) rfl (fun _ _ _ _ _ => rfl) (fun A2 outer2 s2 H2 E2 f2 c2 hr2 => (pe_meth (pv 0) T.cl mS FS (hr2.mono (by decide)) bS .nil (passes_call (takes_of rfl rfl rfl rfl) (fun _ _ _ _ h => h)) (pa_cons (pv 2) (pa_cons pe_non pa_nil))))) (pe_d c__law_due_of hr (by decide) rfl (pa_cons pe_int pa_nil)) (nomark _)) (pss_one (ps_ret pe_bl)) pss_nil))))
      (pss_cons (ps_for PassesOwn.never rfl (pi_listk (K := K) rfl (pe_op op_cat (pe_d c__law_strange hr (by decide) rfl (pa_cons (pv 1) pa_nil)) (pe_lst (pa_cons pe_int (pa_cons (pe_op op_add pe_int (pv 1)) pa_nil))))) (pg_name (i := 2) sc__law_right.nd rfl (Or.inr rfl))
        (pss_cons (ps_if (pt_cmpR (op_nek (K := K) rfl hr.units) (pe_kinds (K := K) (mg := mg) rfl rfl Fk mk G MK KF rfl TB rfl rfl hmT hu hr (LamX.lamS_by rfl) rfl (fun _ _ _ _ _ => rfl) (fun A2 outer2 s2 H2 E2 f2 c2 hr2 => (pe_meth (pv 0) T.cl mH FH (hr2.mono (by decide)) bH .nil (passes_call (takes_of rfl rfl rfl rfl) (fun _ _ _ _ h => h)) (pa_cons pe_int (pa_cons (pv 2) (pa_cons pe_non (pa_cons pe_non pa_nil))))))) (pe_d c__law_due_of hr (by decide) rfl (pa_cons pe_int pa_nil)) (nomark _)) (pss_one (ps_ret pe_bl)) pss_nil)
      (pss_one (ps_if (pt_cmpR (op_nek (K := K) rfl hr.units) (pe_kinds (K := K) (mg := mg) rfl rfl Fk mk G MK KF rfl TB rfl rfl hmT hu hr (LamX.lamS_by rfl) rfl (fun _ _ _ _ _ => rfl) (fun A2 outer2 s2 H2 E2 f2 c2 hr2 => (pe_meth (pv 0) T.cl mS FS (hr2.mono (by decide)) bS .nil (passes_call (takes_of rfl rfl rfl rfl) (fun _ _ _ _ h => h)) (pa_cons pe_int (pa_cons (pv 2) pa_nil))))) (pe_d c__law_due_of hr (by decide) rfl (pa_cons pe_int pa_nil)) (nomark _)) (pss_one (ps_ret pe_bl)) pss_nil))))
      (pss_cons (ps_for PassesOwn.never rfl (pi_listk (K := K) rfl (pe_op op_cat (pe_d c__law_strange hr (by decide) rfl (pa_cons (pv 1) pa_nil)) (pe_lst (pa_cons pe_int (pa_cons (pe_op op_add pe_int (pv 1)) pa_nil))))) (pg_name (i := 2) sc__law_right.nd rfl (Or.inr rfl))
        (pss_one (ps_if (pt_cmpR (op_nek (K := K) rfl hr.units) (pe_kinds (K := K) (mg := mg) rfl rfl Fk mk G MK KF rfl TB rfl rfl hmT hu hr (LamX.lamS_by rfl) rfl (fun _ _ _ _ _ => rfl) (fun A2 outer2 s2 H2 E2 f2 c2 hr2 => (pe_meth (pv 0) T.cl mH FH (hr2.mono (by decide)) bH .nil (passes_call (takes_of rfl rfl rfl rfl) (fun _ _ _ _ h => h)) (pa_cons pe_int (pa_cons pe_int (pa_cons (pv 2) (pa_cons pe_non pa_nil))))))) (pe_d c__law_due_of hr (by decide) rfl (pa_cons pe_int pa_nil)) (nomark _)) (pss_one (ps_ret pe_bl)) pss_nil)))
      (pss_cons (ps_for PassesOwn.never rfl (pi_listk (K := K) rfl (pe_op op_cat (pe_d c__law_strange hr (by decide) rfl (pa_cons (pv 1) pa_nil)) (pe_lst (pa_cons pe_int (pa_cons (pe_op op_add pe_int (pv 1)) pa_nil))))) (pg_name (i := 2) sc__law_right.nd rfl (Or.inr rfl))
        (pss_one (ps_if (pt_cmpR (op_nek (K := K) rfl hr.units) (pe_kinds (K := K) (mg := mg) rfl rfl Fk mk G MK KF rfl TB rfl rfl hmT hu hr (LamX.lamS_by rfl) rfl (fun _ _ _ _ _ => rfl) (fun A2 outer2 s2 H2 E2 f2 c2 hr2 => (pe_meth (pv 0) T.cl mH FH (hr2.mono (by decide)) bH .nil (passes_call (takes_of rfl rfl rfl rfl) (fun _ _ _ _ h => h)) (pa_cons pe_int (pa_cons pe_int (pa_cons pe_int (pa_cons (pv 2) pa_nil))))))) (pe_d c__law_due_of hr (by decide) rfl (pa_cons pe_int pa_nil)) (nomark _)) (pss_one (ps_ret pe_bl)) pss_nil)))
      (pss_cons (ps_for PassesOwn.never rfl (pi_tupk (K := K) rfl (pe_tup (pa_cons (pe_tup (pa_cons pe_int (pa_cons pe_int pa_nil))) (pa_cons (pe_tup (pa_cons pe_int (pa_cons pe_int pa_nil))) pa_nil)))) (pg_tupk (K := K) (n := 2) rfl rfl (pgs_cons (pg_name (i := 3) sc__law_right.nd rfl (Or.inr rfl)) (pgs_cons (pg_name (i := 4) sc__law_right.nd rfl (Or.inr rfl)) pgs_nil)))
        (pss_one (ps_if (pt_cmpR (op_nek (K := K) rfl hr.units) (pe_kinds (K := K) (mg := mg) rfl rfl Fk mk G MK KF rfl TB rfl rfl hmT hu hr (LamX.lamS_by rfl) rfl (fun _ _ _ _ _ => rfl) (fun A2 outer2 s2 H2 E2 f2 c2 hr2 => (pe_meth (pv 0) T.cl mH FH (hr2.mono (by decide)) bH .nil (passes_call (takes_of rfl rfl rfl rfl) (fun _ _ _ _ h => h)) (pa_cons pe_int (pa_cons pe_int (pa_cons (pv 3) (pa_cons (pv 4) pa_nil))))))) (pe_d c__law_due_of hr (by decide) rfl (pa_cons pe_int pa_nil)) (nomark _)) (pss_one (ps_ret pe_bl)) pss_nil)))
      (pss_one (ps_ret pe_bl)))))))), ?_⟩
    obtain ⟨Hs, p, dh, dst, N, far, rfl, nT, sH, tH, NA, hfar, hn, hl, hlk, hh, hs, q⟩ := h
    generalize hD0 : ({ nx := fun _ H' => Q .non H', rt := Q } : Ends) = D0
    have hrt : D0.rt = Q := by rw [← hD0]
    let I : L2.St → Prop := fun σ => σ.length = 5 ∧ σ[0]? = some (some (.ref p)) ∧ σ[1]? = some (some (.int far))
    have env : ∀ {Hs : Hp} {σ : L2.St}, I σ → EnvD K Hs σ [none, some (.int far), none, none, none] := fun {Hs σ} hI => ⟨hI.1, fun i d hd => by
      match i, hd with
      | 1, hd =>
        have : d = .int far := by simpa using hd.symm
        subst this
        exact ⟨_, hI.2.2, .int _⟩
      | 0, hd => simp at hd
      | 2, hd => simp at hd
      | 3, hd => simp at hd
      | 4, hd => simp at hd
      | _ + 5, hd => simp at hd⟩
    have lp : ∀ (ds : List PyData) (te : TE) (tb rest : TS) (σ : L2.St) (Hs1 H1 : Hp), I σ → GrT Hs H Hs1 H1 → LamX.Tabs Tb H1 → YD K te [none, some (.int far), none, none, none] (.list ds) →
        (∀ d ∈ ds, ∀ (σ2 : L2.St) (Hs2 H2 : Hp) (D' : Ends), I σ2 → EnvD K Hs2 σ2 [none, some (.int far), some d, none, none] → GrT Hs H Hs2 H2 → LamX.Tabs Tb H2 → (∀ Hs3 H3, GrT Hs2 H2 Hs3 H3 → LamX.Tabs Tb H3 → D'.nx σ2 H3) → tb D' σ2 H2) →
        (∀ (σ' : L2.St) (Hs' H' : Hp), I σ' → GrT Hs H Hs' H' → LamX.Tabs Tb H' → rest D0 σ' H') → tSeq (tFor (iList K te) (gName 2) tb) rest D0 σ H1 := by
      intro ds te tb rest σ Hs1 H1 hI g1 t1 hy hb hk
      refine for_T (yit_list hy (env hI) g1.n g1.c) t1 I hI (fun i d σ' Hs' H' hd hI' g' t' x rx D' _ hnx => ?_) fun σ' Hs' H' hI' g' t' => hk σ' Hs' H' hI' (g1.trans g') t'
      have hI2 : I (σ'.set 2 (some x)) := ⟨by rw [List.length_set]; exact hI'.1, by rw [List.getElem?_set_ne (by decide)]; exact hI'.2.1, by rw [List.getElem?_set_ne (by decide)]; exact hI'.2.2⟩
      exact hb d (List.mem_of_getElem? hd) _ Hs' H' D' hI2 ((env hI').set 2 rx) (g1.trans g') t' fun Hs3 H3 g3 t3 => hnx _ Hs3 H3 hI2 g3 t3
    have num : ∀ (hi : Int), 0 ≤ hi → ∀ d ∈ strangeD far ++ [.int (hi + 1), .int (hi + far)], numIn d 0 hi = false := by
      intro hi h0 d hd
      simp only [strangeD, List.cons_append, List.nil_append, List.mem_cons, List.not_mem_nil, or_false] at hd
      rcases hd with rfl | rfl | rfl | rfl | rfl | rfl | rfl | rfl | rfl | rfl | rfl <;> first | rfl | (simp [numIn]; omega)
    have n3 := num 3 (by decide)
    have n9 := num 9 (by decide)
    have n4 := num 4 (by decide)
    have n2 := num 2 (by decide)
    refine lp (strangeD far ++ [.int (3 + 1), .int (3 + far)]) _ _ _ _ Hs H ⟨rfl, rfl, rfl⟩ (GrT.refl nT sH) tH (yd_op (yd_call (ya_cons (yd_var rfl) ya_nil) ⟨_, rfl, rfl⟩) (yd_l2 yd_int (yd_op yd_int (yd_var rfl) rd_I0)) (rd_cat (Nat.le_of_ble_eq_true rfl))) (fun d hd σ2 Hs2 H2 D' hI e2 g2 t2 k2 => ?_) fun σ1 Hs1 H1 hI1 g1 t1 => ?_
    · refine kd_if e2 g2.n g2.c t2 .badHand rfl (fun E Q' Hs3 H3 g3 hE => hear_bad (x := .badHand) (cs := fun x => ks (erI x)) hI.2.1 (e2.mono g3.a) g3.c (NA.grT (g2.trans g3)) hh (ya_cons (yd_var rfl) (ya_cons yd_non (ya_cons yd_non (ya_cons yd_non ya_nil)))) ?_ hE) fun Hs3 H3 g3 t3 => ?_
      · simp [hearF, srcF, n3 d hd]
      · refine kd_if (e2.mono g3.a) g3.n g3.c t3 .badHand rfl (fun E Q' Hs4 H4 g4 hE => strike_bad (x := .badHand) (cs := fun x => ks (erI x)) hI.2.1 (e2.mono (g3.a.trans g4.a)) g4.c (NA.grT ((g2.trans g3).trans g4)) hs (ya_cons (yd_var rfl) (ya_cons yd_non ya_nil)) ?_ hE) fun Hs4 H4 g4 t4 => k2 Hs4 H4 (g3.trans g4) t4
        simp [strikeF, srcF, n3 d hd]
    refine lp (strangeD far ++ [.int (9 + 1), .int (9 + far)]) _ _ _ _ Hs1 H1 hI1 g1 t1 (yd_op (yd_call (ya_cons (yd_var rfl) ya_nil) ⟨_, rfl, rfl⟩) (yd_l2 yd_int (yd_op yd_int (yd_var rfl) rd_I0)) (rd_cat (Nat.le_of_ble_eq_true rfl))) (fun d hd σ2 Hs2 H2 D' hI e2 g2 t2 k2 => ?_) fun σ3 Hs3 H3 hI3 g3 t3 => ?_
    · refine kd_if e2 g2.n g2.c t2 .badOwn rfl (fun E Q' Hs3 H3 g3 hE => hear_bad (x := .badOwn) (cs := fun x => ks (erI x)) hI.2.1 (e2.mono g3.a) g3.c (NA.grT (g2.trans g3)) hh (ya_cons yd_int (ya_cons (yd_var rfl) (ya_cons yd_non (ya_cons yd_non ya_nil)))) ?_ hE) fun Hs3 H3 g3 t3 => ?_
      · exact hearF_own rfl (n9 d hd)
      · refine kd_if (e2.mono g3.a) g3.n g3.c t3 .badOwn rfl (fun E Q' Hs4 H4 g4 hE => strike_bad (x := .badOwn) (cs := fun x => ks (erI x)) hI.2.1 (e2.mono (g3.a.trans g4.a)) g4.c (NA.grT ((g2.trans g3).trans g4)) hs (ya_cons yd_int (ya_cons (yd_var rfl) ya_nil)) ?_ hE) fun Hs4 H4 g4 t4 => k2 Hs4 H4 (g3.trans g4) t4
        exact strikeF_own rfl (n9 d hd)
    refine lp (strangeD far ++ [.int (4 + 1), .int (4 + far)]) _ _ _ _ Hs3 H3 hI3 g3 t3 (yd_op (yd_call (ya_cons (yd_var rfl) ya_nil) ⟨_, rfl, rfl⟩) (yd_l2 yd_int (yd_op yd_int (yd_var rfl) rd_I0)) (rd_cat (Nat.le_of_ble_eq_true rfl))) (fun d hd σ2 Hs2 H2 D' hI e2 g2 t2 k2 => ?_) fun σ5 Hs5 H5 hI5 g5 t5 => ?_
    · refine kd_if e2 g2.n g2.c t2 .badTick rfl (fun E Q' Hs3 H3 g3 hE => hear_bad (x := .badTick) (cs := fun x => ks (erI x)) hI.2.1 (e2.mono g3.a) g3.c (NA.grT (g2.trans g3)) hh (ya_cons yd_int (ya_cons yd_int (ya_cons (yd_var rfl) (ya_cons yd_non ya_nil)))) ?_ hE) fun Hs3 H3 g3 t3 => k2 Hs3 H3 g3 t3
      have e4 : numIn d 0 N.l = false := by rw [hl]; exact n4 d hd
      exact hearF_tick rfl rfl e4
    refine lp (strangeD far ++ [.int (2 + 1), .int (2 + far)]) _ _ _ _ Hs5 H5 hI5 g5 t5 (yd_op (yd_call (ya_cons (yd_var rfl) ya_nil) ⟨_, rfl, rfl⟩) (yd_l2 yd_int (yd_op yd_int (yd_var rfl) rd_I0)) (rd_cat (Nat.le_of_ble_eq_true rfl))) (fun d hd σ2 Hs2 H2 D' hI e2 g2 t2 k2 => ?_) fun σ7 Hs7 H7 hI7 g7 t7 => ?_
    · refine kd_if e2 g2.n g2.c t2 .badPlace rfl (fun E Q' Hs3 H3 g3 hE => hear_bad (x := .badPlace) (cs := fun x => ks (erI x)) hI.2.1 (e2.mono g3.a) g3.c (NA.grT (g2.trans g3)) hh (ya_cons yd_int (ya_cons yd_int (ya_cons yd_int (ya_cons (yd_var rfl) ya_nil)))) ?_ hE) fun Hs3 H3 g3 t3 => k2 Hs3 H3 g3 t3
      have e4 : numIn d 0 (N.n - 1) = false := by rw [hn]; exact n2 d hd
      exact hearF_place rfl rfl (by rw [hl]; rfl) e4
    refine for_T (ds := [wayD (.int 0) (.int 1), wayD (.int 1) (.int 0)]) (yit_tup (yd_tup (ya_cons (yd_way yd_int yd_int) (ya_cons (yd_way yd_int yd_int) ya_nil)) (Nat.le_of_ble_eq_true rfl)) (env hI7) g7.n g7.c) t7 I hI7 (fun i d σ' Hs' H' hd hI' g' t' x rx D' _ hnx => ?_) fun σ' Hs' H' hI' g' t' => ?_
    · have hcase : ∃ a b : Int, d = wayD (.int a) (.int b) ∧ ((a = 0 ∧ b = 1) ∨ (a = 1 ∧ b = 0)) := by
        have hm := List.mem_of_getElem? hd
        simp only [List.mem_cons, List.not_mem_nil, or_false] at hm
        rcases hm with rfl | rfl
        · exact ⟨_, _, rfl, .inl ⟨rfl, rfl⟩⟩
        · exact ⟨_, _, rfl, .inr ⟨rfl, rfl⟩⟩
      obtain ⟨a, b, rfl, hab⟩ := hcase
      refine (yg_tup (ygs_cons yg_name (ygs_cons yg_name ygs_nil)) rfl : YG K _ _ _ (wayD (.int a) (.int b)) _) σ' Hs' H' x (env hI') g'.c rx _ fun σ2 e2 l2 n2 => ?_
      have hI2 : I σ2 := ⟨l2.trans hI'.1, (n2 0 (by decide)).trans hI'.2.1, (n2 1 (by decide)).trans hI'.2.2⟩
      refine kd_if e2 g'.n g'.c t' .unlike rfl (fun E Q' Hs3 H3 g3 hE => hear_bad (x := .unlike) (cs := fun x => ks (erI x)) hI2.2.1 (e2.mono g3.a) g3.c (NA.grT ((g7.trans g').trans g3)) hh (ya_cons yd_int (ya_cons yd_int (ya_cons (yd_var rfl) (ya_cons (yd_var rfl) ya_nil)))) ?_ hE) fun Hs3 H3 g3 t3 => hnx σ2 Hs3 H3 hI2 g3 t3
      rcases hab with ⟨rfl, rfl⟩ | ⟨rfl, rfl⟩ <;> rw [hearF_rest rfl rfl (by rw [hl]; rfl) (by rw [hn]; rfl)] <;> simp [intOf, hlk]
    · show D0.rt (.bl true) H'
      rw [hrt]
      exact q Hs' H' (g7.trans g') t'
end
end SG
set_option Elab.async false
set_option linter.all false
set_option maxRecDepth 100000
set_option maxHeartbeats 4000000
namespace SG
open PySem PySem.Spec PyProof.Rows L2
/-! ### news made in a def: HsB, HB were before -/
structure NW (K : PySem.W.Frag) (C : Addr) (T : List (Addr × Str)) (HsB HB Hs H : Hp) (p dh dst : Addr) (N : NewsS) : Prop where
  g : GrT HsB HB Hs H
  t : LamX.Tabs T H
  na : NewsAt K C Hs H p dh dst N
  fh : HB dh = none
  fs : HB dst = none
section
variable {K : PySem.W.Frag} {cs : Er → Addr} {T : List (Addr × Str)} {σ : L2.St} {HsB HB Hs H Hs2 H2 : Hp} {C p dh dst : Addr} {N N' : NewsS} {ρ : Rho} {E : XK} {Q : VK} {i : Nat} {ta : TA} {te : TE} {r : Bool}
theorem NW.grT (w : NW K C T HsB HB Hs H p dh dst N) (g : GrT Hs H Hs2 H2) (t : LamX.Tabs T H2) : NW K C T HsB HB Hs2 H2 p dh dst N := ⟨w.g.trans g, t, w.na.grT g, w.fh, w.fs⟩
theorem no_m {n l : Int} {a b : Addr} {m : Str} (hm : m = "hear" ∨ m = "strike" ∨ m = "sightings") : (nfl n l a b).lookup m = none := by
  rcases hm with rfl | rfl | rfl <;> exact nfl_no _ _ _ _ (by decide +kernel) (by decide +kernel) (by decide +kernel) (by decide +kernel)
theorem hear_at {a b c d : PyData} (w : NW K C T HsB HB Hs H p dh dst N) (h0 : te σ H = fun Q => Q (.ref p) H) (e : EnvD K HsB σ ρ) (ya : YA K ta ρ [a, b, c, d]) (er : hearF N a b c d = .ok (r, N')) (hl : N.heard.length ≤ 100)
    (q : ∀ Hs2 H2, NW K C T HsB HB Hs2 H2 p dh dst N' → Same Hs Hs2 → Q (.bl r) H2) : tMeth C "hear" (spHear K C cs) [] E te ta σ H Q := by
  obtain ⟨⟨dx, ob⟩, _⟩ := id w.na
  unfold tMeth
  rw [h0]
  refine ⟨p, dx, _, rfl, ob, no_m (.inl rfl), ya σ Hs H (e.mono w.g.a) w.g.c _ fun ws Hs1 H1 g1 rw => ?_⟩
  rw [List.append_nil]
  have gT := g1.t w.g.n
  have NA := (w.na.grT gT)
  refine ⟨_, p, dh, dst, N, ws, a, b, c, d, rfl, gT.c, rw.nt, NA, hl, ?_⟩
  rw [er]
  intro Hs2 H2 g2 NA2
  refine q _ H2 ⟨(w.g.trans gT).byX g2 (by intro b hb; rw [List.mem_singleton.mp hb]; exact w.fh), Tabs.but (Tabs.gr w.t g1) g2.b ?_, NA2.nt, w.fh, w.fs⟩ (fun b o e => nt_of (g2.a b o (gT.a b o e)) fun ps z => w.g.n b ps (by rw [e, z]))
  intro b hb
  obtain ⟨kv, e1, _⟩ := NA.he
  rw [List.mem_singleton.mp hb, e1]
  exact ntab_dT
theorem strike_at {a b : PyData} (w : NW K C T HsB HB Hs H p dh dst N) (h0 : te σ H = fun Q => Q (.ref p) H) (e : EnvD K HsB σ ρ) (ya : YA K ta ρ [a, b]) (er : strikeF N a b = .ok (r, N')) (hl : N.struck.length ≤ 100)
    (q : ∀ Hs2 H2, NW K C T HsB HB Hs2 H2 p dh dst N' → Same Hs Hs2 → Q (.bl r) H2) : tMeth C "strike" (spStrike K C cs) [] E te ta σ H Q := by
  obtain ⟨⟨dx, ob⟩, _⟩ := id w.na
  unfold tMeth
  rw [h0]
  refine ⟨p, dx, _, rfl, ob, no_m (.inr (.inl rfl)), ya σ Hs H (e.mono w.g.a) w.g.c _ fun ws Hs1 H1 g1 rw => ?_⟩
  rw [List.append_nil]
  have gT := g1.t w.g.n
  have NA := (w.na.grT gT)
  refine ⟨_, p, dh, dst, N, ws, a, b, rfl, gT.c, rw.nt, NA, hl, ?_⟩
  rw [er]
  intro Hs2 H2 g2 NA2
  refine q _ H2 ⟨(w.g.trans gT).byX g2 (by intro b hb; rw [List.mem_singleton.mp hb]; exact w.fs), Tabs.but (Tabs.gr w.t g1) g2.b ?_, NA2.nt, w.fh, w.fs⟩ (fun b o e => nt_of (g2.a b o (gT.a b o e)) fun ps z => w.g.n b ps (by rw [e, z]))
  intro b hb
  obtain ⟨kv, e1, _⟩ := NA.st
  rw [List.mem_singleton.mp hb, e1]
  exact ntab_dT
/-- what stands is told: a list of its own, settled -/
theorem stand_at {ps : List (Int × Int)} (w : NW K C T HsB HB Hs H p dh dst N) (h0 : te σ H = fun Q => Q (.ref p) H) (hp : stand N = ps) (hl : N.heard.length ≤ 100)
    (q : ∀ v Hs2 H2, NW K C T HsB HB Hs2 H2 p dh dst N → Rp K Hs2 v (.list (ps.map dP)) → Q v H2) : tMeth C "sightings" (spStand K C) [] E te tNil σ H Q := by
  obtain ⟨⟨dx, ob⟩, _⟩ := id w.na
  unfold tMeth
  rw [h0]
  refine ⟨p, dx, _, rfl, ob, no_m (.inr (.inr rfl)), ?_⟩
  show spStand K C (.ref p :: ([] ++ [])) H Q E
  refine ⟨Hs, p, dh, dst, N, rfl, w.g.c, w.na, hl, fun a acc Hs2 H2 g2 ha has hac ra => ?_⟩
  have g3 := g2.settle ha hac has
  rw [hp] at ra
  exact q _ _ H2 (w.grT (g3.t w.g.n) (Tabs.gr w.t g3)) (rp_lst (H := H) has ra).nt
theorem news_at {n l : Int} {ws : PyData} (nn : NoT Hs) (s : Same Hs H) (tH : LamX.Tabs T H) (e : EnvD K Hs σ ρ) (hy : YA K ta ρ [.tuple [.int n, ws, .int l]]) (hL : isLand (.tuple [.int n, ws, .int l]) = true)
    (q : ∀ p dh dst Hs2 H2, NW K C T Hs H Hs2 H2 p dh dst ⟨n, l, [], []⟩ → Q (.ref p) H2) : tMake C (spInit K C cs) [] E ta σ H Q := by
  refine hy σ Hs H e s _ fun vs Hs1 H1 g1 rv x dx hx hdx nx => ?_
  rw [List.append_nil]
  have gT := g1.t nn
  have hx1 : nt Hs1 x = none := same_none gT.c hx
  have hdx1 : nt Hs1 dx = none := same_none gT.c hdx
  have hx2 : (upd H1 dx (.own x)) x = none := by rw [upd_ne (fun z => nx z.symm)]; exact hx
  have gN : GrT (nt Hs1) H1 (nt Hs1) (upd (upd H1 dx (.own x)) x (.ins C dx [])) := ((GrT.refl gT.n gT.c).mut hdx hdx1).mut hx hx1
  have g0 := gT.trans gN
  have tN : LamX.Tabs T (upd (upd H1 dx (.own x)) x (.ins C dx [])) := Tabs.upd (Tabs.upd (Tabs.gr tH g1) (by rw [hdx]; exact ntab_none)) (by rw [hx2]; exact ntab_none)
  cases rv with
  | cons rv rz =>
    cases rz
    refine ⟨nt Hs1, x, dx, _, _, rfl, gN.c, rv.nt, upd_same, hx1, .inr ⟨n, ws, l, rfl, hL, fun Hs2 H2 dh dst gx hdh hdst NA => ⟨rfl, ?_⟩⟩⟩
    have hx0 : H x = none := same_none g1.b hx
    have fr : ∀ b, (upd (upd H1 dx (.own x)) x (.ins C dx [])) b = none → H b = none := fun b hb => by
      have n1 : b ≠ x := fun z => by rw [z, upd_same] at hb; cases hb
      rw [upd_ne n1] at hb
      have n2 : b ≠ dx := fun z => by rw [z, upd_same] at hb; cases hb
      rw [upd_ne n2] at hb
      exact same_none g1.b hb
    refine q x dh dst _ H2 ⟨g0.byX gx (by intro b hb; rw [List.mem_singleton.mp hb]; exact hx0), Tabs.but tN gx.b ?_, NA.nt, fr _ hdh, fr _ hdst⟩
    intro b hb
    rw [List.mem_singleton.mp hb, upd_same]
    exact ntab_ins
theorem news_bad {x : PyData} (nn : NoT Hs) (s : Same Hs H) (e : EnvD K Hs σ ρ) (hy : YA K ta ρ [x]) (hL : isLand x = false) (hE : ∀ Hs2 H2, Gr Hs H Hs2 H2 → E (.ref (cs .badLand)) none H2) : tMake C (spInit K C cs) [] E ta σ H Q := by
  refine hy σ Hs H e s _ fun vs Hs1 H1 g1 rv y dx hy1 hdx nx => ?_
  rw [List.append_nil]
  have hx2 : (upd H1 dx (.own y)) y = none := by rw [upd_ne (fun z => nx z.symm)]; exact hy1
  have gA := (g1.trans (Gr.fresh (o := .own y) g1.c hdx))
  have gB := gA.trans (Gr.fresh (o := .ins C dx []) gA.c hx2)
  cases rv with
  | cons rv rz =>
    cases rz
    exact ⟨Hs1, y, dx, _, _, rfl, gB.c, rv, upd_same, same_none g1.c hy1, .inl ⟨hL, fun Hs2 H2 g2 => hE Hs2 H2 (gB.trans g2)⟩⟩
/-- news.sightings() != [(0, 0)] comes out false -/
theorem stand_ne (w : NW K C T HsB HB Hs H p dh dst N) (h0 : te σ H = fun Q => Q (.ref p) H) (e : EnvD K HsB σ ρ) (hp : stand N = [(0, 0)]) (hl : N.heard.length ≤ 100) {R : Bool → Hp → Prop}
    (q : ∀ Hs2 H2, NW K C T HsB HB Hs2 H2 p dh dst N → R false H2) : tTest (tOp (rNeD K) (tMeth C "sightings" (spStand K C) [] E te tNil) (tLst (tCons (tTup (tCons (tC (.int 0)) (tCons (tC (.int 0)) tNil))) tNil))) σ H R := by
  refine stand_at w h0 hp hl fun v Hs2 H2 w2 rv => ?_
  refine (yd_l1 (yd_way yd_int yd_int) : YD K _ ρ (.list [wayD (.int 0) (.int 0)])) σ Hs2 H2 (e.mono w2.g.a) w2.g.c _ fun u Hs3 H3 g3 ru => ?_
  have rv2 : Rp K Hs2 v (.list [wayD (.int 0) (.int 0)]) := rv
  refine rd_neD rfl rfl v u Hs3 H3 g3.c (rv2.mono g3.a) ru _ fun z Hs4 H4 g4 rz => ?_
  cases rz
  exact ⟨_, rfl, q _ H4 (w2.grT ((g3.trans g4).t w2.g.n) (Tabs.gr (Tabs.gr w2.t g3) g4))⟩
end
end SG
set_option Elab.async false
set_option linter.all false
set_option maxRecDepth 100000
set_option maxHeartbeats 4000000
namespace SG
open PySem PySem.Spec PyProof.Rows L2
theorem cutV_to {xs : List V} (j : Nat) : cutV xs none (some (j : Int)) = xs.take j := by
  unfold cutV
  rw [HT.sIx_none, show HT.sIx xs.length xs.length (some (j : Int)) = min j xs.length from HT.sIx_nat xs.length xs.length j, List.drop_zero, Nat.sub_zero]
  rcases Nat.le_total j xs.length with h | h
  · rw [Nat.min_eq_left h]
  · rw [Nat.min_eq_right h, List.take_of_length_le (Nat.le_refl _), List.take_of_length_le h]
theorem var_eq {σ : L2.St} {i : Nat} {v : V} {H : Hp} (h : σ[i]? = some (some v)) : tVar i σ H = fun Q => Q v H := funext fun Q => propext ⟨fun ⟨u, hu, q⟩ => by
  rw [h] at hu
  cases hu
  exact q, fun q => ⟨v, h, q⟩⟩
/-! ### statements one behind another -/
def CF (c : TT) (σ : L2.St) (H : Hp) (P : Hp → Prop) : Prop := ∀ R : Bool → Hp → Prop, (∀ H', P H' → R false H') → c σ H R
def EV (te : TE) (σ : L2.St) (H : Hp) (v : V) (P : Hp → Prop) : Prop := ∀ R : VK, (∀ H', P H' → R v H') → te σ H R
section
variable {te : TE} {c c1 c2 : TT} {g : TG} {t r : TS} {D : Ends} {σ : L2.St} {H : Hp} {P P2 : Hp → Prop} {b : Bool}
theorem seq_asg {i : Nat} (h : te σ H fun v H' => t D (σ.set i (some v)) H') : tSeq (tAsg te (gName i)) t D σ H := h
theorem seq_ifF (h : CF c σ H P) (k : ∀ H', P H' → r D σ H') : tSeq (tIfS c t tNext) r D σ H := h _ fun H' p => k H' p
theorem end_ifF (h : CF c σ H P) (k : ∀ H', P H' → D.nx σ H') : tIfS c t tNext D σ H := h _ fun H' p => k H' p
theorem cf_or (h : CF c1 σ H P) (k : ∀ H', P H' → CF c2 σ H' P2) : CF (tOr c1 c2) σ H P2 := fun R q => h _ fun H' p => k H' p _ q
theorem cf_notB (h : EV te σ H (.bl true) P) : CF (tNot (tB te)) σ H P := fun R q => h _ fun H' p => ⟨true, rfl, q H' p⟩
theorem ret_and {ta tb : TE} (h1 : EV ta σ H (.bl true) P) (h2 : ∀ H', P H' → EV tb σ H' (.bl true) P2) (k : ∀ H', P2 H' → D.rt (.bl true) H') : tRet (tAndV ta tb) D σ H := h1 _ fun H' p => ⟨true, rfl, h2 H' p _ k⟩
theorem on_op {ta tb : TE} {r : R2} {Q : VK} (h : ta σ H fun x H1 => tb σ H1 fun y H2 => r x y H2 Q) : tOp r ta tb σ H Q := h
theorem on_meth {C : Addr} {m : Str} {sp : Sp} {E : XK} {to : TE} {ta : TA} {Q : VK} (h : to σ H fun v H1 => tMeth C m sp [] E (fun _ H Q => Q v H) ta σ H1 Q) : tMeth C m sp [] E to ta σ H Q := h
theorem cf_isnot (h : EV te σ H (.bl b) P) : CF (tTest (tOp (rIsX true) te (tC (.bl b)))) σ H P := fun R q => h _ fun H' p => ⟨b, rfl, .inl ⟨b, rfl⟩, _, rfl, by
  have e : (if true = true then !decide ((V.bl b) = V.bl b) else decide ((V.bl b) = V.bl b)) = false := by simp
  rw [e]
  exact q H' p⟩
end
def NK (k : Nat) : NewsS := ⟨3, 4, ((0, 0), (0, 0)) :: (List.range k).map (fun (i : Nat) => ((3, 1 + (i : Int)), (4, 2))), (List.range k).map fun (i : Nat) => (3, 1 + (i : Int))⟩
def NH (k : Nat) : NewsS := ⟨3, 4, (NK (k + 1)).heard, (NK k).struck⟩
theorem nk_hear : ∀ k, k < 7 → hearF (NK k) (.int 3) (.int (1 + (k : Int))) (.int 4) (.int 2) = .ok (true, NH k)
  | 0, _ => rfl
  | 1, _ => rfl
  | 2, _ => rfl
  | 3, _ => rfl
  | 4, _ => rfl
  | 5, _ => rfl
  | 6, _ => rfl
  | _ + 7, h => absurd h (by omega)
theorem nk_strike : ∀ k, k < 7 → strikeF (NH k) (.int 3) (.int (1 + (k : Int))) = .ok (true, NK (k + 1))
  | 0, _ => rfl
  | 1, _ => rfl
  | 2, _ => rfl
  | 3, _ => rfl
  | 4, _ => rfl
  | 5, _ => rfl
  | 6, _ => rfl
  | _ + 7, h => absurd h (by omega)
theorem nk_more {b : Int} (h : b = 0 ∨ b = 8 ∨ b = 9) : hearF (NK 7) (.int 2) (.int b) (.int 4) (.int 2) = .error .tooMany := by
  rcases h with rfl | rfl | rfl <;> rfl
theorem nk_again : hearF (NK 7) (.int 3) (.int 7) (.int 4) (.int 2) = .ok (false, NK 7) := rfl
theorem nk_st0 : stand (NK 0) = [(0, 0)] := by decide
theorem nk_st7 : stand (NK 7) = [(0, 0)] := by decide
theorem nk_len (k : Nat) (h : k ≤ 7) : (NK k).heard.length ≤ 100 ∧ (NK k).struck.length ≤ 100 ∧ (NH k).heard.length ≤ 100 ∧ (NH k).struck.length ≤ 100 := by
  simp [NK, NH]
  omega
def farI (ns : List Int) (k : Nat) : Int := 1 + valueI (ns.getD k 0) 7 % 10 ^ 20
theorem env_free {K : PySem.W.Frag} {Hs : Hp} {σ : L2.St} (l : σ.length = 6) : EnvD K Hs σ [none, none, none, none, none, none] := ⟨l, fun i d hd => by
  have hm := List.mem_of_getElem? hd
  simp at hm⟩
theorem kd_eq {K : PySem.W.Frag} {ks : Nat → Addr} {T : List (Addr × Str)} {σ : L2.St} {Hs H : Hp} {ρ : Rho} {t : XK → TE} {R : VK} {j : Int} (e : EnvD K Hs σ ρ) (n : NoT Hs) (s : Same Hs H) (tH : LamX.Tabs T H) (x : Er) (hj : j = erI x) (hb : ∀ (E : XK) (Q' : VK) (Hs1 H1 : Hp), GrT Hs H Hs1 H1 → (∀ Hs2 H2, Gr Hs1 H1 Hs2 H2 → E (.ref (ks (erI x))) none H2) → t E σ H1 Q')
    (k : ∀ Hs2 H2, GrT Hs H Hs2 H2 → LamX.Tabs T H2 → R (.bl true) H2) : tOp (rEqD K) (LamX.tLam T (TTk K ks) t) (tCall (spD K R_due_of) [] E0 (tCons (tC (.int j)) tNil)) σ H R := by
  refine kd_val n s tH x hb fun u Hs2 H2 g2 t2 ru => ?_
  refine (yd_call (ya_cons yd_int ya_nil) ⟨j, rfl, rfl⟩ : YD K _ ρ (.list (dueD j))) σ Hs2 H2 (e.mono g2.a) g2.c _ fun v Hs3 H3 g3 rv => ?_
  subst hj
  refine rd_eqD (due_sh x) (due_sh x) u v Hs3 H3 g3.c (ru.mono g3.a) rv _ fun z Hs4 H4 g4 rz => ?_
  rw [due_eq] at rz
  cases rz
  exact k _ H4 (g2.trans ((g3.trans g4).t g2.n)) (Tabs.gr (Tabs.gr t2 g3) g4)
theorem nol_if {K : PySem.W.Frag} {ks : Nat → Addr} {T : List (Addr × Str)} {C : Addr} {σ : L2.St} {Hs H : Hp} {ρ : Rho} {ta : TE} {u rest : TS} {D : Ends} {far : Int} (hfar : 1 ≤ far) (hl : σ.length = 6) (hy : YD K ta ρ (.list (noLands far))) (e : EnvD K Hs σ ρ) (n : NoT Hs) (s : Same Hs H) (tH : LamX.Tabs T H)
    (k : ∀ Hs2 H2, GrT Hs H Hs2 H2 → LamX.Tabs T H2 → rest D σ H2) :
    tSeq (tIfS (tNot (tB (tCB (rAll K) (tCons (tLc (iList K ta) (gName 3) tYes (tOp (rEqD K) (LamX.tLam T (TTk K ks) fun E2 => tMake C (spInit K C fun x => ks (erI x)) [] E2 (tCons (tVar 3) tNil)) (tCall (spD K R_due_of) [] E0 (tCons (tC (.int 0)) tNil))) [3]) tNil)))) u tNext) rest D σ H := by
  unfold tSeq tIfS tNot tB tCB tCons
  refine lc_T (i := 3) (ds := noLands far) (yit_list hy e n s) (Nat.le_of_ble_eq_true rfl) tH (fun d hd y Hs5 H5 g5 t5 ry R hR => ?_) fun a4 Hs4 H4 g4 t4 ha4 hl4 => ?_
  · have e5 : EnvD K Hs5 ((wipe σ [3]).set 3 (some y)) _ := (env_free (by rw [wipe_length]; exact hl)).set 3 ry
    refine kd_eq e5 g5.n g5.c t5 .badLand rfl (fun E Q' Hs6 H6 g6 hE => ?_) fun Hs6 H6 g6 t6 => hR Hs6 H6 g6 t6
    exact news_bad (cs := fun x => ks (erI x)) g6.n g6.c (e5.mono g6.a) (ya_cons (yd_var rfl) ya_nil) (not_lands far hfar d hd) hE
  · have rr : ∀ m : Nat, RpAll K Hs4 (List.replicate m (.bl true)) (List.replicate m (.bool true)) := fun m => by
      induction m with
      | zero => exact .nil
      | succ m ih => exact .cons (.bl _) ih
    have ra : RpAll K (upd Hs4 a4 (.lst (List.replicate (noLands far).length (.bl true)))) [.ref a4] [.list ((List.replicate (noLands far).length true).map PyData.bool)] := .cons (rp_lst (H := H4) ha4 (by rw [List.map_replicate]; exact rr _)) .nil
    unfold tNil
    refine rc_all (bs := List.replicate (noLands far).length true) _ _ H4 (same_own g4.c hl4) ra _ fun v Hs6 H6 g6 r6 => ?_
    have eb : (List.replicate (noLands far).length true).all id = true := by simp [List.all_replicate]
    rw [eb] at r6
    cases r6
    have gs : Gr Hs4 H4 Hs4 H6 := Gr.back (same_new ha4) g6
    refine ⟨true, rfl, ?_⟩
    dsimp only
    rw [if_neg (by decide)]
    exact k _ H6 (g4.trans (gs.t g4.n)) (Tabs.gr t4 gs)
def spLaw (K : PySem.W.Frag) (T : List (Addr × Str)) : Sp := fun vs H Q _ => ∃ (a : Addr) (ns : List Int), vs = [.ref a] ∧ SqL K H a (ns.map V.int) ∧ ns.length ≤ 63 ∧ LamX.Tabs T H ∧ ∀ H', Q (.bl true) H'
section
variable {P : Program} {w : World} {K : PySem.W.Frag} {mg : Str → Option Value} {base : Heap} {f fk fI fH fS fT C cS : Addr} {fd fdk fdI fdH fdS fdT : FuncData} {ks : Nat → Addr} {Tb : List (Addr × Str)}
abbrev s_law : Stmt := (top 41)
theorem sc_law : FnScope ["_law_script", "_law_by", "_law_far", "_law_bad", "_law_news", "_law_own"] ["_law_script"] (defScope s_law) := ⟨rfl, rfl, rfl, by decide +kernel, rfl, by decide +kernel, by decide +kernel⟩
theorem ok_law (F : FnP K "law" s_law f fd) (G : Gi mg) (T : NTxt K C) (xN : mg "News" = some (.ref C)) (M : Mk K C fI) (Fk : FnP K "_law_kinds" s__law_kinds fk fdk) (mk : mg "_law_kinds" = some (.ref fk)) (MK : KdM mg cS ks) (KF : KdF K cS ks) (TO : TabOf base mg Tb fd (qLam "law"))
    (FI : FnOk P w K mg base (L2.CX P w) 7 fI fdI ["self", "land"] (spInit K C (fun x => ks (erI x)))) (bI : Binds K fdI ["self", "land"] [])
    (mH : Meth K C "hear" fH) (FH : FnOk P w K mg base (L2.CX P w) 4 fH fdH ["self", "hand", "own", "tick", "place"] (spHear K C (fun x => ks (erI x)))) (bH : Binds K fdH ["self", "hand", "own", "tick", "place"] [])
    (mS : Meth K C "strike" fS) (FS : FnOk P w K mg base (L2.CX P w) 4 fS fdS ["self", "hand", "own"] (spStrike K C (fun x => ks (erI x)))) (bS : Binds K fdS ["self", "hand", "own"] [])
    (mT : Meth K C "sightings" fT) (FT : FnOk P w K mg base CX0 1 fT fdT ["self"] (spStand K C)) (bT : Binds K fdT ["self"] [])
    (c__law_cell_at : Cal P w K mg base CX0 1 "_law_cell_at" (spD K R_cell_at)) (c__law_value : Cal P w K mg base CX0 2 "_law_value" (spD K R_value)) (c__law_due_of : Cal P w K mg base CX0 1 "_law_due_of" (spD K R_due_of))
    (c__law_no_lands : Cal P w K mg base CX0 2 "_law_no_lands" (spD K R_no_lands)) (c__law_right : Cal P w K mg base CX0 7 "_law_right" (spRight K C Tb)) : FnOk P w K mg base CX0 11 f fd ["_law_script"] (spLaw K Tb) := by
  refine ok_code F sc_law (fun vs H Q E h => ?_) (fun c A outer s H vs Q E hc hr h => ?_)
  · obtain ⟨a, ns, rfl, _⟩ := h
    rfl
  · obtain ⟨Pt, TB, hmT, hu⟩ := TO c hc
    refine ⟨_, PSs.nox ((pss_cons (ps_set (i := 0) sc_law.nd rfl (Or.inl rfl) (pe_slice (sl_listk (K := K) rfl) (pv 0) po_none (po_some pe_int)))
      (pss_cons (ps_for PassesOwn.never rfl (pi_tupk (K := K) rfl (pe_tup (pa_cons pe_int (pa_cons pe_int pa_nil)))) (pg_name (i := 1) sc_law.nd rfl (Or.inl rfl))
        (pss_cons (ps_set (i := 2) sc_law.nd rfl (Or.inl rfl) (pe_op op_add pe_int (pe_op op_mod (pe_d c__law_value hr (by decide) rfl (pa_cons (pe_d c__law_cell_at hr (by decide) rfl (pa_cons (pv 0) (pa_cons (pv 1) pa_nil))) (pa_cons pe_int pa_nil))) (pe_op op_pow pe_int pe_int))))
      (pss_cons (ps_if (pt_not (pt_val (pe_callB (cr_allk (K := K) rfl rfl) rfl G.b_all (by decide +kernel) (pa_cons (pe_lc (own := [("_law_bad", 3)]) rfl sc_law.nd (pi_listk (K := K) rfl (pe_d c__law_no_lands hr (by decide) rfl (pa_cons (pv 2) pa_nil))) (blkOk_by (N := ["_law_script", "_law_by", "_law_far", "_law_bad", "_law_news", "_law_own"]) (sc := defScope s_law) (by decide +kernel)) (fun _ _ _ _ _ => (pg_name (i := 3) sc_law.nd rfl (Or.inr rfl))) (fun _ _ _ _ _ => pts_nil) (fun _ _ _ _ _ => (pe_cmpR (op_eqk (K := K) rfl hr.units) (pe_kinds (K := K) (mg := mg) rfl rfl Fk mk G MK KF rfl TB rfl rfl hmT hu hr (LamX.lamS_by rfl) rfl (fun _ _ _ _ _ => rfl) (fun A2 outer2 s2 H2 E2 f2 c2 hr2 => (pe_make M FI (hr2.mono (by decide)) rfl xN bI .nil (passes_call (takes_of rfl rfl rfl rfl) (fun _ _ _ _ h => h)) (pa_cons (pv 3) pa_nil)))) (pe_d c__law_due_of hr (by decide) rfl (pa_cons pe_int pa_nil)) (nomark _)))) pa_nil)))) (pss_one (ps_ret pe_bl)) pss_nil)
      (pss_cons (ps_set (i := 4) sc_law.nd rfl (Or.inr rfl) (pe_make M FI (hr.mono (by decide)) rfl xN bI .nil passL (pa_cons (pe_tup (pa_cons pe_int (pa_cons (pe_lst (pa_cons (pe_tup (pa_cons pe_int (pa_cons pe_int pa_nil))) pa_nil)) (pa_cons pe_int pa_nil)))) pa_nil)))
      (pss_cons (ps_if (PW.pt (pw_or (pt_not (pt_val (pe_meth (pv 4) T.cl mH FH (hr.mono (by decide)) bH .nil passL (pa_cons pe_int (pa_cons pe_int (pa_cons pe_int (pa_cons pe_int pa_nil))))))) (pw_or (pt_not (pt_val (pe_d c__law_right hr (by decide) rfl (pa_cons (pv 4) (pa_cons (pv 2) pa_nil))))) (pw_or1 (pt_cmpR (op_nek (K := K) rfl hr.units) (pe_meth0 (pv 4) T.cl mT FT (hr.mono (by decide)) bT .nil pass0) (pe_lst (pa_cons (pe_tup (pa_cons pe_int (pa_cons pe_int pa_nil))) pa_nil)) (nomark _)))))) (pss_one (ps_ret pe_bl)) pss_nil)
      (pss_cons (ps_for PassesOwn.never rfl (pi_range2 rfl G.b_range (pa_cons pe_int (pa_cons pe_int pa_nil))) (pg_name (i := 5) sc_law.nd rfl (Or.inr rfl))
        (pss_one (ps_if (PW.pt (pw_or (pt_cmpR op_isnotX (pe_meth (pv 4) T.cl mH FH (hr.mono (by decide)) bH .nil passL (pa_cons pe_int (pa_cons (pv 5) (pa_cons pe_int (pa_cons pe_int pa_nil))))) pe_bl (nomark _)) (pw_or1 (pt_cmpR op_isnotX (pe_meth (pv 4) T.cl mS FS (hr.mono (by decide)) bS .nil passL (pa_cons pe_int (pa_cons (pv 5) pa_nil))) pe_bl (nomark _))))) (pss_one (ps_ret pe_bl)) pss_nil)))
      (pss_cons (ps_for PassesOwn.never rfl (pi_tupk (K := K) rfl (pe_tup (pa_cons pe_int (pa_cons pe_int (pa_cons pe_int pa_nil))))) (pg_name (i := 5) sc_law.nd rfl (Or.inr rfl))
        (pss_one (ps_if (pt_cmpR (op_nek (K := K) rfl hr.units) (pe_kinds (K := K) (mg := mg) rfl rfl Fk mk G MK KF rfl TB rfl rfl hmT hu hr (LamX.lamS_by rfl) rfl (fun _ _ _ _ _ => rfl) (fun A2 outer2 s2 H2 E2 f2 c2 hr2 => (pe_meth (pv 4) T.cl mH FH (hr2.mono (by decide)) bH .nil (passes_call (takes_of rfl rfl rfl rfl) (fun _ _ _ _ h => h)) (pa_cons pe_int (pa_cons (pv 5) (pa_cons pe_int (pa_cons pe_int pa_nil))))))) (pe_d c__law_due_of hr (by decide) rfl (pa_cons pe_int pa_nil)) (nomark _)) (pss_one (ps_ret pe_bl)) pss_nil)))
      (pss_one (ps_if (PW.pt (pw_or (pt_not (pt_val (pe_d c__law_right hr (by decide) rfl (pa_cons (pv 4) (pa_cons (pv 2) pa_nil))))) (pw_or (pt_cmpR op_isnotX (pe_meth (pv 4) T.cl mH FH (hr.mono (by decide)) bH .nil passL (pa_cons pe_int (pa_cons pe_int (pa_cons pe_int (pa_cons pe_int pa_nil))))) pe_bl (nomark _)) (pw_or1 (pt_cmpR (op_nek (K := K) rfl hr.units) (pe_meth0 (pv 4) T.cl mT FT (hr.mono (by decide)) bT .nil pass0) (pe_lst (pa_cons (pe_tup (pa_cons pe_int (pa_cons pe_int pa_nil))) pa_nil)) (nomark _)))))) (pss_one (ps_ret pe_bl)) pss_nil)))))))))
      (pss_one (ps_ret (pe_and (pe_cmpR (op_eqk (K := K) rfl hr.units) (pe_meth0 (pe_make M FI (hr.mono (by decide)) rfl xN bI .nil passL (pa_cons (pe_tup (pa_cons pe_int (pa_cons (pe_lst pa_nil) (pa_cons pe_int pa_nil)))) pa_nil)) T.cl mT FT (hr.mono (by decide)) bT .nil pass0) (pe_lst pa_nil) (nomark _)) (pe_one (pe_cmpR op_isX (pe_meth (pe_make M FI (hr.mono (by decide)) rfl xN bI .nil passL (pa_cons (pe_tup (pa_cons pe_int (pa_cons (pe_lst pa_nil) (pa_cons pe_int pa_nil)))) pa_nil)) T.cl mH FH (hr.mono (by decide)) bH .nil passL (pa_cons pe_int (pa_cons pe_int (pa_cons pe_int (pa_cons pe_int pa_nil))))) pe_bl (nomark _))))))))), ?_⟩
    obtain ⟨a, ns, rfl, hS, hlen, tH, q⟩ := h
    generalize hD0 : ({ nx := fun _ H' => Q .non H', rt := Q } : Ends) = D0
    have hrt : D0.rt = Q := by rw [← hD0]
    have l0 : (L2.start ["_law_script", "_law_by", "_law_far", "_law_bad", "_law_news", "_law_own"] [.ref a]).length = 6 := rfl
    have h0 : (L2.start ["_law_script", "_law_by", "_law_far", "_law_bad", "_law_news", "_law_own"] [.ref a])[0]? = some (some (.ref a)) := rfl
    generalize L2.start ["_law_script", "_law_by", "_law_far", "_law_bad", "_law_news", "_law_own"] [.ref a] = σ at l0 h0 ⊢
    refine ⟨.ref a, h0, 63, rfl, a, _, rfl, hS, fun ps hps => ?_⟩
    have ec : cutV (ns.map V.int) none (some 63) = ns.map V.int := by
      rw [show cutV (ns.map V.int) none (some 63) = (ns.map V.int).take 63 from cutV_to 63]
      exact List.take_of_length_le (by rw [List.length_map]; exact hlen)
    rw [ec]
    have s1 : Same (upd (fun _ => none) ps (.lst (ns.map V.int))) (upd H ps (.lst (ns.map V.int))) := fun b x e => by
      by_cases hb : b = ps
      · subst hb
        rw [upd_same] at e ⊢
        exact e
      · rw [upd_ne hb] at e
        cases e
    have n1 : NoT (upd (fun _ => none) ps (.lst (ns.map V.int))) := fun b qs z => by
      by_cases hb : b = ps
      · subst hb
        rw [upd_same] at z
        cases z
      · rw [upd_ne hb] at z
        cases z
    have t1 : LamX.Tabs Tb (upd H ps (.lst (ns.map V.int))) := Tabs.upd tH (by rw [hps]; exact ntab_none)
    have rS : Rp K (upd (fun _ => none) ps (.lst (ns.map V.int))) (.ref ps) (.list (ns.map .int)) := rp_lst (K := K) (H := H) (p := ps) (Hs := fun _ => none) rfl (RpAll.ints ns)
    generalize (upd (fun _ => none) ps (.lst (ns.map V.int)) : Hp) = Hs1 at s1 n1 rS
    dsimp only [gName]
    generalize upd H ps (.lst (ns.map V.int)) = H1 at s1 t1 ⊢
    let I : L2.St → Prop := fun σ => σ.length = 6 ∧ σ[0]? = some (some (.ref ps))
    have hI1 : I (σ.set 0 (some (.ref ps))) := ⟨by rw [List.length_set]; exact l0, List.getElem?_set_self (by omega)⟩
    show tSeq _ _ _ (σ.set 0 (some (.ref ps))) H1
    generalize σ.set 0 (some (.ref ps)) = σ1 at hI1 ⊢
    have env : ∀ {Hs : Hp} {σ : L2.St}, I σ → Same Hs1 Hs → EnvD K Hs σ [some (.list (ns.map .int)), none, none, none, none, none] := fun {Hs σ} hI sm => ⟨hI.1, fun i d hd => by
      match i, hd with
      | 0, hd =>
        have : d = .list (ns.map .int) := by simpa using hd.symm
        subst this
        exact ⟨_, hI.2, rS.mono sm⟩
      | 1, hd => simp at hd
      | 2, hd => simp at hd
      | 3, hd => simp at hd
      | 4, hd => simp at hd
      | 5, hd => simp at hd
      | _ + 6, hd => simp at hd⟩
    refine for_T (ds := [.int 0, .int 3]) (yit_tup (yd_tup (ya_cons yd_int (ya_cons yd_int ya_nil)) (Nat.le_of_ble_eq_true rfl)) (env hI1 (Same.refl _)) n1 s1) t1 I hI1 (fun i d σ' Hs' H' hd hI' g' t' x rx D' _ hnx => ?_) fun σ' Hs' H' hI' g' t' => ?_
    · have hk : ∃ k : Nat, d = .int (k : Int) := by
        have hm := List.mem_of_getElem? hd
        simp only [List.mem_cons, List.not_mem_nil, or_false] at hm
        rcases hm with rfl | rfl
        · exact ⟨0, rfl⟩
        · exact ⟨3, rfl⟩
      obtain ⟨k, rfl⟩ := hk
      have e2 := (env hI' g'.a).set 1 rx
      have i2 : I (σ'.set 1 (some x)) := ⟨by rw [List.length_set]; exact hI'.1, by rw [List.getElem?_set_ne (by decide)]; exact hI'.2⟩
      show tSeq _ _ D' (σ'.set 1 (some x)) H'
      generalize σ'.set 1 (some x) = σ2 at e2 i2 ⊢
      -- far
      have hP : CPow 10 20 := ⟨by decide, by decide, by decide⟩
      refine (yn_asg (YD.eq (yd_op yd_int (yd_op (yd_call (ya_cons (yd_call (ya_cons (yd_var rfl) (ya_cons (yd_var rfl) ya_nil)) ⟨ns, k, rfl, rfl⟩) (ya_cons yd_int ya_nil)) ⟨_, _, rfl, by decide, by decide, rfl⟩) (yd_op yd_int yd_int (rd_I hP)) (rd_I ?_)) rd_I0) (d' := .int (farI ns k)) rfl) yg_name : YN K _ _ _ _) σ2 Hs' H' e2 g'.c _ fun σ3 Hs3 H3 g3 e3 n3 => ?_
      · show (0 : Int) < 10 ^ 20
        decide
      have hfar : 1 ≤ farI ns k := by
        unfold farI
        have := Int.emod_nonneg (valueI (ns.getD k 0) 7) (show (10 : Int) ^ 20 ≠ 0 by decide)
        omega
      generalize farI ns k = far at e3 hfar
      have i3 : I σ3 := ⟨e3.1, (n3 0 (by decide)).trans i2.2⟩
      have g3T := g3.t g'.n
      have e3T := e3.nt
      have t3 := Tabs.gr t' g3
      -- no lands
      refine nol_if hfar i3.1 (yd_call (ya_cons (yd_var rfl) ya_nil) ⟨far, rfl, rfl⟩) e3T g3T.n g3T.c t3 fun Hs4 H6 g6T t6 => ?_
      have e6 := e3T.mono g6T.a
      -- the news
      refine seq_asg (news_at (n := 3) (l := 4) (ws := .list [wayD (.int 0) (.int 1)]) (cs := fun x => ks (erI x)) g6T.n g6T.c t6 e6 (ya_cons (yd_land3 yd_int (yd_l1 (yd_way yd_int yd_int)) yd_int) ya_nil) rfl fun p dh dst Hs7 H7 w7 => ?_)
      have G0 := g3T.trans g6T
      have e7 := e6.del (x := some (.ref p)) 4
      have h4 : (σ3.set 4 (some (.ref p)))[4]? = some (some (.ref p)) := List.getElem?_set_self (by have := i3.1; omega)
      have i7 : I (σ3.set 4 (some (.ref p))) := ⟨by rw [List.length_set]; exact i3.1, by rw [List.getElem?_set_ne (by decide)]; exact i3.2⟩
      generalize σ3.set 4 (some (.ref p)) = σ4 at e7 h4 i7 ⊢
      have e4 : EnvD K Hs4 σ4 [some (.list (ns.map .int)), none, some (.int far), none, none, none] := e7.weak rfl fun i d hd => by
        match i, hd with
        | 0, hd => exact hd
        | 2, hd => exact hd
        | 1, hd => simp at hd
        | 3, hd => simp at hd
        | 4, hd => simp at hd
        | 5, hd => simp at hd
        | _ + 6, hd => simp at hd
      have far_at : ∀ {σ : L2.St} {ρ : Rho}, EnvD K Hs4 σ ρ → ρ[2]? = some (some (.int far)) → σ[2]? = some (some (.int far)) := fun {σ ρ} e hρ => by
        obtain ⟨v, hv, r⟩ := e.2 2 _ hρ
        cases r
        exact hv
      have right : ∀ (k : Nat), k ≤ 7 → ∀ {σ : L2.St} {Hs H : Hp}, σ[4]? = some (some (.ref p)) → σ[2]? = some (some (.int far)) → NW K C Tb Hs4 H6 Hs H p dh dst (NK k) → EV (tCall (spRight K C Tb) [] E0 (tCons (tVar 4) (tCons (tVar 2) tNil))) σ H (.bl true) fun H' => ∃ Hs', NW K C Tb Hs4 H6 Hs' H' p dh dst (NK k) := by
        intro k hk σ Hs H h4 h2 w R q
        obtain ⟨b1, b2, _, _⟩ := nk_len k hk
        exact ⟨.ref p, h4, .int far, h2, Hs, p, dh, dst, NK k, far, rfl, w.g.n, w.g.c, w.t, w.na, hfar, rfl, rfl, rfl, b1, b2, fun Hs2 H2 g2 t2 => q H2 ⟨Hs2, w.grT g2 t2⟩⟩
      refine seq_ifF (P := fun H' => ∃ Hs', NW K C Tb Hs4 H6 Hs' H' p dh dst (NK 0)) (cf_or (cf_notB (P := fun H' => ∃ Hs', NW K C Tb Hs4 H6 Hs' H' p dh dst (NK 0)) fun R q => hear_at w7 (var_eq h4) e4 (ya_cons yd_int (ya_cons yd_int (ya_cons yd_int (ya_cons yd_int ya_nil)))) rfl (by decide) fun Hs8 H8 w8 _ => q H8 ⟨Hs8, w8⟩) fun H8 ⟨Hs8, w8⟩ => cf_or (cf_notB (right 0 (by decide) h4 (far_at e4 rfl) w8)) fun H9 ⟨Hs9, w9⟩ R q => stand_ne w9 (var_eq h4) e4 nk_st0 (by decide) fun Hs2 H2 w2 => q H2 ⟨Hs2, w2⟩) fun H9 ⟨Hs9, w9⟩ => ?_
      -- seven more, each one struck
      let J : L2.St → Prop := fun σ => I σ ∧ EnvD K Hs4 σ [some (.list (ns.map .int)), none, some (.int far), none, none, none] ∧ σ[4]? = some (some (.ref p))
      have hJ4 : J σ4 := ⟨i7, e4, h4⟩
      have J5 : ∀ {σ : L2.St} {z : Int}, J σ → J (σ.set 5 (some (.int z))) ∧ EnvD K Hs4 (σ.set 5 (some (.int z))) [some (.list (ns.map .int)), none, some (.int far), none, none, some (.int z)] := fun {σ z} hJ => by
        obtain ⟨⟨j1, j2⟩, j3, j4⟩ := hJ
        exact ⟨⟨⟨by rw [List.length_set]; exact j1, by rw [List.getElem?_set_ne (by decide)]; exact j2⟩, j3.del (x := some (.int z)) 5, by rw [List.getElem?_set_ne (by decide)]; exact j4⟩, j3.set 5 (.int z)⟩
      refine y_forT (ds := rgD 1 7) (yit_rng2 (m := 1) (n := 8) (ya_cons yd_int (ya_cons yd_int ya_nil)) (by decide) (e4.mono w9.g.a) w9.g.n w9.g.c) fun HsA HA gA sA => ⟨fun i σ' Hs' H' => NW K C Tb Hs4 H6 Hs' H' p dh dst (NK i) ∧ Same HsA Hs' ∧ J σ', ⟨w9.grT gA (w9.t.ext sA), Same.refl _, hJ4⟩, fun i σ' Hs' H' z => ⟨z.2.1, z.1.g.c, z.1.g.n⟩, ?_, ?_⟩
      · rintro i d σ' Hs' H' hd ⟨wi, si, hJ⟩ y Hs2 H2 g2 gb ry
        have hi : i < 7 := by
          have := (List.getElem?_eq_some_iff.mp hd).1
          rwa [rgD_len] at this
        rw [rgD_get hi] at hd
        cases hd
        cases ry
        obtain ⟨hJ5, e5⟩ := J5 (z := 1 + (i : Int)) hJ
        obtain ⟨b1, b2, b3, b4⟩ := nk_len i (by omega)
        have wi2 := wi.grT g2 (wi.t.ext gb.b)
        refine end_ifF (D := { D' with nx := _, ct := _, bk := _ }) (P := fun H' => ∃ Hs', NW K C Tb Hs4 H6 Hs' H' p dh dst (NK (i + 1)) ∧ Same HsA Hs') (cf_or (cf_isnot (P := fun H' => ∃ Hs', NW K C Tb Hs4 H6 Hs' H' p dh dst (NH i) ∧ Same HsA Hs') fun R q => hear_at wi2 (var_eq hJ5.2.2) e5 (ya_cons yd_int (ya_cons (yd_var rfl) (ya_cons yd_int (ya_cons yd_int ya_nil)))) (nk_hear i hi) b1 fun Hs8 H8 w8 s8 => q H8 ⟨Hs8, w8, si.trans (g2.a.trans s8)⟩) fun H8 ⟨Hs8, w8, s8⟩ => cf_isnot fun R q => strike_at w8 (var_eq hJ5.2.2) e5 (ya_cons yd_int (ya_cons (yd_var rfl) ya_nil)) (nk_strike i hi) b4 fun Hs9 H9 w9 s9 => q H9 ⟨Hs9, w9, s8.trans s9⟩) fun H9 ⟨Hs9, w9, s9⟩ => ⟨Hs9, w9, s9, hJ5⟩
      · rintro σ5 Hs5 H5 ⟨w5, s5, hJ5⟩
        rw [rgD_len] at w5
        -- a ninth one
        refine for_T (ds := [.int 0, .int 8, .int 9]) (yit_tup (yd_tup (ya_cons yd_int (ya_cons yd_int (ya_cons yd_int ya_nil))) (Nat.le_of_ble_eq_true rfl)) (hJ5.2.1.mono w5.g.a) w5.g.n w5.g.c) w5.t J hJ5 (fun i d σ' Hs' H' hd hJ' gi ti y ry D2 _ hn2 => ?_) fun σ6 Hs6 H10 hJ6 gi ti => ?_
        · have hz : ∃ z : Int, d = .int z ∧ (z = 0 ∨ z = 8 ∨ z = 9) := by
            have hm := List.mem_of_getElem? hd
            simp only [List.mem_cons, List.not_mem_nil, or_false] at hm
            rcases hm with rfl | rfl | rfl
            · exact ⟨0, rfl, .inl rfl⟩
            · exact ⟨8, rfl, .inr (.inl rfl)⟩
            · exact ⟨9, rfl, .inr (.inr rfl)⟩
          obtain ⟨z, rfl, hz⟩ := hz
          cases ry
          obtain ⟨hJz, ez⟩ := J5 (z := z) hJ'
          have ez2 : EnvD K Hs' (σ'.set 5 (some (.int z))) _ := ez.mono (w5.g.a.trans gi.a)
          exact kd_if ez2 gi.n gi.c ti .tooMany rfl (fun E Q' Hs3 H3 g3 hE => hear_bad (x := .tooMany) (cs := fun x => ks (erI x)) hJz.2.2 (ez2.mono g3.a) g3.c (w5.na.grT (gi.trans g3)) (nk_len 7 (by decide)).1 (ya_cons yd_int (ya_cons (yd_var rfl) (ya_cons yd_int (ya_cons yd_int ya_nil)))) (nk_more hz) hE) fun Hs3 H3 g3 t3 => hn2 _ Hs3 H3 hJz g3 t3
        · have w6 := w5.grT gi ti
          refine end_ifF (P := fun H' => ∃ Hs', NW K C Tb Hs4 H6 Hs' H' p dh dst (NK 7)) (cf_or (cf_notB (right 7 (by decide) hJ6.2.2 (far_at hJ6.2.1 rfl) w6)) fun H8 ⟨Hs8, w8⟩ => cf_or (cf_isnot (P := fun H' => ∃ Hs', NW K C Tb Hs4 H6 Hs' H' p dh dst (NK 7)) fun R q => hear_at w8 (var_eq hJ6.2.2) hJ6.2.1 (ya_cons yd_int (ya_cons yd_int (ya_cons yd_int (ya_cons yd_int ya_nil)))) nk_again (nk_len 7 (by decide)).1 fun Hs9 H9 w9 _ => q H9 ⟨Hs9, w9⟩) fun H9 ⟨Hs9, w9⟩ R q => stand_ne w9 (var_eq hJ6.2.2) hJ6.2.1 nk_st7 (nk_len 7 (by decide)).1 fun Hs2 H2 w2 => q H2 ⟨Hs2, w2⟩) fun H9 ⟨Hs9, w9⟩ => ?_
          exact hnx σ6 Hs9 H9 hJ6.1 (G0.trans w9.g) w9.t
    · -- two more
      have eF := env_free (K := K) (Hs := Hs') hI'.1
      refine ret_and (P := fun H2 => ∃ Hs2, GrT Hs' H' Hs2 H2 ∧ LamX.Tabs Tb H2) (P2 := fun _ => True) (fun R hR => on_op (on_meth (news_at (n := 1) (l := 1) (ws := .list []) (cs := fun x => ks (erI x)) g'.n g'.c t' eF (ya_cons (yd_land3 yd_int (yd_lst ya_nil (Nat.le_of_ble_eq_true rfl)) yd_int) ya_nil) rfl fun p dh dst Hs7 H7 w7 => stand_at (te := fun _ H Q => Q (.ref p) H) (ps := []) w7 rfl (by decide) (by decide) fun v Hs8 H8 w8 rv => ?_))) (fun H2 ⟨Hs2, g2, t2⟩ R hR => on_op (on_meth (news_at (n := 7) (l := 10) (ws := .list []) (cs := fun x => ks (erI x)) g2.n g2.c t2 (env_free hI'.1) (ya_cons (yd_land3 yd_int (yd_lst ya_nil (Nat.le_of_ble_eq_true rfl)) yd_int) ya_nil) rfl fun p2 dh2 dst2 HsB HB wB => hear_at (te := fun _ H Q => Q (.ref p2) H) wB rfl (env_free hI'.1) (ya_cons yd_int (ya_cons yd_int (ya_cons yd_int (ya_cons yd_int ya_nil)))) (r := true) rfl (by decide) fun HsC HC wC _ => ?_))) fun H2 _ => ?_
      · refine (yd_lst ya_nil (Nat.le_of_ble_eq_true rfl) : YD K _ [none, none, none, none, none, none] (.list [])) σ' Hs8 H8 (env_free hI'.1) w8.g.c _ fun u Hs9 H9 g9 ru => ?_
        have rv2 : Rp K Hs8 v (.list []) := rv
        refine rd_eqD rfl rfl v u Hs9 H9 g9.c (rv2.mono g9.a) ru _ fun z HsA HA gA rz => ?_
        cases rz
        have wA := w8.grT ((g9.trans gA).t w8.g.n) (Tabs.gr (Tabs.gr w8.t g9) gA)
        exact hR HA ⟨_, wA.g, wA.t⟩
      · refine ⟨true, rfl, .inl ⟨true, rfl⟩, ?_⟩
        have e : (if false = true then !decide ((V.bl true) = V.bl true) else decide ((V.bl true) = V.bl true)) = true := by simp
        rw [e]
        exact hR HC trivial
      · rw [hrt]
        exact q _
end
end SG
set_option Elab.async false
set_option linter.all false
set_option maxRecDepth 100000
set_option maxHeartbeats 4000000
namespace SG
open PySem PySem.Spec PyProof.Rows L2
/-! ### the head's facts, and one Bool more -/
abbrev AlM : Type := He.AlD × Bool
def obsM (n : Nat) (fa : List He.Fa) (fn : List He.DefD) (ex : PySem.W.Frag → Bool) (g : Addr → Option Obj) : AlM := (He.obsD fa fn (He.frG g (He.asD g n)), ex (He.frG g (He.asD g n)))
structure SaysM (fa : List He.Fa) (fn : List He.DefD) (ex : PySem.W.Frag → Bool) (K : PySem.W.Frag) : Prop where
  d : He.SaysD fa fn K
  more : ex K = true
def hookM (n : Nat) (fa : List He.Fa) (fn : List He.DefD) (ex : PySem.W.Frag → Bool) : PySem.W.Hook where
  α := AlM
  obs := fun s => obsM n fa fn ex s.heap.get?
  val := fun _ => (He.valD fn, true)
  says := fun _ h => ∃ K : PySem.W.Frag, K.In h ∧ SaysM fa fn ex K
  of := fun _ _ e => ⟨_, He.frG_in, ⟨congrArg (fun z : AlM => z.1) e, congrArg (fun z : AlM => z.2) e⟩⟩
  keeps := fun _ _ _ ⟨K, hK, c⟩ k => ⟨K, PySem.W.Frag.In.keeps hK k, c⟩
theorem obsM_eq {n : Nat} {fa : List He.Fa} {fn : List He.DefD} {ex : PySem.W.Frag → Bool} {g : Addr → Option Obj} {s : Shared} (h : ∀ a, g a = s.heap.get? a) : obsM n fa fn ex g = (hookM n fa fn ex).obs s := by
  have e : g = s.heap.get? := funext h
  rw [e] <;> rfl
def excCB (K : PySem.W.Frag) (D : Addr) : Bool := He.eqO (PySem.W.findIn K (.ref D) "__getattribute__") (some (some (.builtin "BaseException.__getattribute__"))) && (He.eqO (PySem.W.findIn K (.ref D) "__getattr__") (some none) &&
  (decide (PySem.W.subIn K (.ref D) (.type "BaseException") = some true) && (PySem.W.hasDictIn K D && (He.eqO (PySem.W.findIn K (.ref D) "__class__") (some (some (.builtin "object.__class__"))) &&
  (He.eqO (PySem.W.specialIn K (.builtin "object.__class__") "__get__") (some (some (.builtin "getset_descriptor.__get__"))) && (decide (PySem.W.takesIn K (.builtin "object.__class__") = some true) && decide (PySem.W.mroIn K D (.type "object") = some true)))))))
theorem excCB_ok {K : PySem.W.Frag} {D : Addr} (h : excCB K D = true) : ExcC K D := by
  obtain ⟨c1, h⟩ := He.ba h
  obtain ⟨c2, h⟩ := He.ba h
  obtain ⟨c3, h⟩ := He.ba h
  obtain ⟨c4, h⟩ := He.ba h
  obtain ⟨c5, h⟩ := He.ba h
  obtain ⟨c6, h⟩ := He.ba h
  obtain ⟨c7, c8⟩ := He.ba h
  exact ⟨He.eqO_ok c1, He.eqO_ok c2, of_decide_eq_true c3, c4, He.eqO_ok c5, He.eqO_ok c6, of_decide_eq_true c7, of_decide_eq_true c8⟩
/-- own errors by names: each one's facts; of two whether one is the other; each a SightError -/
def errB (xs : List Str) (base : Str) (K : PySem.W.Frag) : Bool := (xs.all fun x => excCB K (He.ga K x)) && ((xs.all fun x => xs.all fun y => decide (PySem.W.kitOne K (.ref (He.ga K x)) (.ref (He.ga K y)) = some (decide (x = y)))) &&
  xs.all fun x => decide (PySem.W.exmOne K (.ref (He.ga K x)) (.ref (He.ga K base)) = some true))
theorem errB_ec {xs : List Str} {b x : Str} {K : PySem.W.Frag} (h : errB xs b K = true) (hx : x ∈ xs) : ExcC K (He.ga K x) := excCB_ok (List.all_eq_true.mp (He.ba h).1 x hx)
theorem errB_kit {xs : List Str} {b x y : Str} {K : PySem.W.Frag} (h : errB xs b K = true) (hx : x ∈ xs) (hy : y ∈ xs) : PySem.W.kitOne K (.ref (He.ga K x)) (.ref (He.ga K y)) = some (decide (x = y)) := of_decide_eq_true (List.all_eq_true.mp (List.all_eq_true.mp (He.ba (He.ba h).2).1 x hx) y hy)
theorem errB_exm {xs : List Str} {b x : Str} {K : PySem.W.Frag} (h : errB xs b K = true) (hx : x ∈ xs) : PySem.W.exmOne K (.ref (He.ga K x)) (.ref (He.ga K b)) = some true := of_decide_eq_true (List.all_eq_true.mp (He.ba (He.ba h).2).2 x hx)
theorem xc_of {K : PySem.W.Frag} {h : Heap} {mg : Str → Option Value} (X : K.In h) (G : h.Ns mainGlobals mg) {x : Str} (m : (He.Fa.glo x).ok K = true) (c : (He.Fa.exc x).ok K = true) : Xc K mg x (He.ga K x) := by
  obtain ⟨c1, c2, c3, c4⟩ := He.exc_ok c
  exact ⟨He.glo_ok X G m, c1, c2, c3, c4⟩
end SG
set_option Elab.async false
set_option linter.all false
set_option maxRecDepth 100000
set_option maxHeartbeats 0
namespace SG
open PySem PySem.Spec PyProof.Rows L2
/-! ### the head -/
def kN : Nat → Str
  | 0 => "BadLand"
  | 1 => "BadPlace"
  | 2 => "BadTick"
  | 3 => "BadSightings"
  | 4 => "BadWrong"
  | 5 => "BadNumber"
  | 6 => "BadWalk"
  | 7 => "BadHand"
  | 8 => "BadOwn"
  | 9 => "NoWalk"
  | 10 => "Unlike"
  | _ => "TooMany"
def kL : List Str := (List.range 12).map kN
theorem kN_in {i : Nat} (h : i < 12) : kN i ∈ kL := List.mem_map.mpr ⟨i, List.mem_range.mpr h, rfl⟩
theorem er_lt (x : Er) : erI x < 12 := by cases x <;> decide
theorem kN_eq (x : Er) : ∀ i, i < 12 → decide (kN (erI x) = kN i) = kb x i := by cases x <;> decide +kernel
def vB (K : PySem.W.Frag) : Bool := (kL.all fun x => decide (PySem.W.kitOne K (.ref (He.ga K x)) (.type "ValueError") = some true)) && !decide ((He.cT K ("law", none)).2 = (He.cT K ("_law_right", none)).2)

def d_is_number : He.DefD := ⟨("is_number", none), "is_number", "is_number", defArgs (top 19), defBody (top 19), defScope (top 19), [], []⟩
def d_is_within : He.DefD := ⟨("is_within", none), "is_within", "is_within", defArgs (top 20), defBody (top 20), defScope (top 20), [], []⟩
def d_is_way : He.DefD := ⟨("is_way", none), "is_way", "is_way", defArgs (top 21), defBody (top 21), defScope (top 21), [], []⟩
def d_are_ways : He.DefD := ⟨("are_ways", none), "are_ways", "are_ways", defArgs (top 22), defBody (top 22), defScope (top 22), [], []⟩
def d_is_land : He.DefD := ⟨("is_land", none), "is_land", "is_land", defArgs (top 23), defBody (top 23), defScope (top 23), [], []⟩
def d_check_land : He.DefD := ⟨("check_land", none), "check_land", "check_land", defArgs (top 24), defBody (top 24), defScope (top 24), [], []⟩
def d_check_place : He.DefD := ⟨("check_place", none), "check_place", "check_place", defArgs (top 25), defBody (top 25), defScope (top 25), [], []⟩
def d_check_tick : He.DefD := ⟨("check_tick", none), "check_tick", "check_tick", defArgs (top 26), defBody (top 26), defScope (top 26), [], []⟩
def d_check_source : He.DefD := ⟨("check_source", none), "check_source", "check_source", defArgs (top 30), defBody (top 30), defScope (top 30), [], []⟩
def d_News___init__ : He.DefD := ⟨("News", some "__init__"), "__init__", "News.__init__", defArgs (inClass (top 31) 0), defBody (inClass (top 31) 0), defScope (inClass (top 31) 0), [], []⟩
def d_News_hear : He.DefD := ⟨("News", some "hear"), "hear", "News.hear", defArgs (inClass (top 31) 1), defBody (inClass (top 31) 1), defScope (inClass (top 31) 1), [], []⟩
def d_News_strike : He.DefD := ⟨("News", some "strike"), "strike", "News.strike", defArgs (inClass (top 31) 2), defBody (inClass (top 31) 2), defScope (inClass (top 31) 2), [], []⟩
def d_News_sightings : He.DefD := ⟨("News", some "sightings"), "sightings", "News.sightings", defArgs (inClass (top 31) 3), defBody (inClass (top 31) 3), defScope (inClass (top 31) 3), [], []⟩
def d__law_cell_at : He.DefD := ⟨("_law_cell_at", none), "_law_cell_at", "_law_cell_at", defArgs (top 33), defBody (top 33), defScope (top 33), [], []⟩
def d__law_draw : He.DefD := ⟨("_law_draw", none), "_law_draw", "_law_draw", defArgs (top 34), defBody (top 34), defScope (top 34), [], []⟩
def d__law_value : He.DefD := ⟨("_law_value", none), "_law_value", "_law_value", defArgs (top 35), defBody (top 35), defScope (top 35), [], []⟩
def d__law_kinds : He.DefD := ⟨("_law_kinds", none), "_law_kinds", "_law_kinds", defArgs (top 36), defBody (top 36), defScope (top 36), [], []⟩
def d__law_due_of : He.DefD := ⟨("_law_due_of", none), "_law_due_of", "_law_due_of", defArgs (top 37), defBody (top 37), defScope (top 37), [], []⟩
def d__law_strange : He.DefD := ⟨("_law_strange", none), "_law_strange", "_law_strange", defArgs (top 38), defBody (top 38), defScope (top 38), [], []⟩
def d__law_no_lands : He.DefD := ⟨("_law_no_lands", none), "_law_no_lands", "_law_no_lands", defArgs (top 39), defBody (top 39), defScope (top 39), [], []⟩
def d__law_right : He.DefD := ⟨("_law_right", none), "_law_right", "_law_right", defArgs (top 40), defBody (top 40), defScope (top 40), [], []⟩
def d_law : He.DefD := ⟨("law", none), "law", "law", defArgs (top 41), defBody (top 41), defScope (top 41), [], []⟩
def fn : List He.DefD := [d_is_number, d_is_within, d_is_way, d_are_ways, d_is_land, d_check_land, d_check_place, d_check_tick, d_check_source, d_News___init__, d_News_hear, d_News_strike, d_News_sightings, d__law_cell_at, d__law_draw, d__law_value, d__law_kinds, d__law_due_of, d__law_strange, d__law_no_lands, d__law_right, d_law]
def fa : List He.Fa := [.glo "SightError", .glo "BadLand", .glo "BadPlace", .glo "BadTick", .glo "BadSightings", .glo "BadWrong", .glo "BadNumber", .glo "BadWalk", .glo "BadHand", .glo "BadOwn", .glo "NoWalk", .glo "Unlike", .glo "TooMany", .glo "is_number", .glo "is_within", .glo "is_way", .glo "are_ways", .glo "is_land", .glo "check_land", .glo "check_place", .glo "check_tick", .glo "check_source", .glo "News", .glo "_law_cell_at", .glo "_law_draw", .glo "_law_value", .glo "_law_kinds", .glo "_law_due_of", .glo "_law_strange", .glo "_law_no_lands", .glo "_law_right", .glo "law", .int "MOST_PLACES" 7, .int "MOST_WAYS" 10, .int "MOST_LAST" 10, .int "MOST_SIGHTINGS" 8, .int "LAST_HAND" 3, .int "LAST_OWN" 9, .free "len", .free "isinstance", .free "all", .free "any", .free "min", .free "max", .free "sorted", .free "abs", .free "sum", .free "int", .free "bool", .free "tuple", .free "list", .free "range", .free "zip", .free "enumerate", .free "reversed", .free "set", .free "dict", .exc "SightError", .exc "BadLand", .exc "BadPlace", .exc "BadTick", .exc "BadSightings", .exc "BadWrong", .exc "BadNumber", .exc "BadWalk", .exc "BadHand", .exc "BadOwn", .exc "NoWalk", .exc "Unlike", .exc "TooMany", .cls "News", .noat "News" "places", .noat "News" "last", .noat "News" "heard", .noat "News" "struck", .mkr "News", .meth "News" "hear", .meth "News" "strike", .meth "News" "sightings", .free "ValueError"]
def names : List PySem.Str := (["SightError", "BadLand", "BadPlace", "BadTick", "BadSightings", "BadWrong", "BadNumber", "BadWalk", "BadHand", "BadOwn", "NoWalk", "Unlike", "TooMany", "MOST_PLACES", "MOST_WAYS", "MOST_LAST", "MOST_SIGHTINGS", "is_number", "is_within", "is_way", "are_ways", "is_land", "check_land", "check_place", "check_tick", "LAST_HAND", "LAST_OWN", "check_source", "News", "_law_cell_at"] : List PySem.Str) ++ (["_law_draw", "_law_value", "_law_kinds", "_law_due_of", "_law_strange", "_law_no_lands", "_law_right"] : List PySem.Str)
def tfs : List He.Defn := [("law", none), ("_law_right", none)]
def exq : PySem.W.Frag → Bool := fun K => errB kL "SightError" K && vB K
abbrev Rw : PySem.W.OpenRow := PySem.W.OpenLaw.row PySem.Challenge.rw_sightings_k09_refused_news
abbrev hk : PySem.W.Hook := He.hookX 5 fa fn [] tfs exq
def ob (s : PySem.W.SharedT) : He.AlX := He.obsX 5 fa fn [] tfs exq (HandSHeadRun.getT s)
theorem ob_eq (s : PySem.W.SharedT) : ob s = hk.obs s.abs := He.obsX_eq (HandSHeadRun.getT_eq s)
theorem run (w : World) : HandSHeadRun.RunEq Rw (PySem.W.view Rw.prog [41]) hk ob 4000 names w := by
  intro os
  kernel_rfl
theorem facts {l : PySem.W.OpenLaw} {w : World} {K : PySem.W.Frag} {h : Heap} {mg : Str → Option Value} {f : Addr} (X : K.In h) (G : h.Ns mainGlobals mg) (hfa : mg ("law" : Str) = some (.ref f)) (c : He.SaysX fa fn [] tfs exq w h K) : LamX.LawAtS l w K CX0 11 63 "_law_script" mg f h := by
  obtain ⟨fd_is_number, F_is_number⟩ := c.t.d.def_ 0 (d := d_is_number) rfl
  replace F_is_number : FnP K "is_number" (top 19) (He.ga K "is_number") fd_is_number := F_is_number
  have m_is_number : mg "is_number" = some (.ref (He.ga K "is_number")) := He.glo_ok X G (c.t.d.fact 13 (f := .glo "is_number") rfl)
  obtain ⟨fd_is_within, F_is_within⟩ := c.t.d.def_ 1 (d := d_is_within) rfl
  replace F_is_within : FnP K "is_within" (top 20) (He.ga K "is_within") fd_is_within := F_is_within
  have m_is_within : mg "is_within" = some (.ref (He.ga K "is_within")) := He.glo_ok X G (c.t.d.fact 14 (f := .glo "is_within") rfl)
  obtain ⟨fd_is_way, F_is_way⟩ := c.t.d.def_ 2 (d := d_is_way) rfl
  replace F_is_way : FnP K "is_way" (top 21) (He.ga K "is_way") fd_is_way := F_is_way
  have m_is_way : mg "is_way" = some (.ref (He.ga K "is_way")) := He.glo_ok X G (c.t.d.fact 15 (f := .glo "is_way") rfl)
  obtain ⟨fd_are_ways, F_are_ways⟩ := c.t.d.def_ 3 (d := d_are_ways) rfl
  replace F_are_ways : FnP K "are_ways" (top 22) (He.ga K "are_ways") fd_are_ways := F_are_ways
  have m_are_ways : mg "are_ways" = some (.ref (He.ga K "are_ways")) := He.glo_ok X G (c.t.d.fact 16 (f := .glo "are_ways") rfl)
  obtain ⟨fd_is_land, F_is_land⟩ := c.t.d.def_ 4 (d := d_is_land) rfl
  replace F_is_land : FnP K "is_land" (top 23) (He.ga K "is_land") fd_is_land := F_is_land
  have m_is_land : mg "is_land" = some (.ref (He.ga K "is_land")) := He.glo_ok X G (c.t.d.fact 17 (f := .glo "is_land") rfl)
  obtain ⟨fd_check_land, F_check_land⟩ := c.t.d.def_ 5 (d := d_check_land) rfl
  replace F_check_land : FnP K "check_land" (top 24) (He.ga K "check_land") fd_check_land := F_check_land
  have m_check_land : mg "check_land" = some (.ref (He.ga K "check_land")) := He.glo_ok X G (c.t.d.fact 18 (f := .glo "check_land") rfl)
  obtain ⟨fd_check_place, F_check_place⟩ := c.t.d.def_ 6 (d := d_check_place) rfl
  replace F_check_place : FnP K "check_place" (top 25) (He.ga K "check_place") fd_check_place := F_check_place
  have m_check_place : mg "check_place" = some (.ref (He.ga K "check_place")) := He.glo_ok X G (c.t.d.fact 19 (f := .glo "check_place") rfl)
  obtain ⟨fd_check_tick, F_check_tick⟩ := c.t.d.def_ 7 (d := d_check_tick) rfl
  replace F_check_tick : FnP K "check_tick" (top 26) (He.ga K "check_tick") fd_check_tick := F_check_tick
  have m_check_tick : mg "check_tick" = some (.ref (He.ga K "check_tick")) := He.glo_ok X G (c.t.d.fact 20 (f := .glo "check_tick") rfl)
  obtain ⟨fd_check_source, F_check_source⟩ := c.t.d.def_ 8 (d := d_check_source) rfl
  replace F_check_source : FnP K "check_source" (top 30) (He.ga K "check_source") fd_check_source := F_check_source
  have m_check_source : mg "check_source" = some (.ref (He.ga K "check_source")) := He.glo_ok X G (c.t.d.fact 21 (f := .glo "check_source") rfl)
  obtain ⟨fd_News___init__, F_News___init__⟩ := c.t.d.def_ 9 (d := d_News___init__) rfl
  replace F_News___init__ : FnM K "__init__" "News.__init__" (inClass (top 31) 0) (He.ma K (He.ga K "News") "__init__") fd_News___init__ := F_News___init__
  obtain ⟨fd_News_hear, F_News_hear⟩ := c.t.d.def_ 10 (d := d_News_hear) rfl
  replace F_News_hear : FnM K "hear" "News.hear" (inClass (top 31) 1) (He.ma K (He.ga K "News") "hear") fd_News_hear := F_News_hear
  obtain ⟨fd_News_strike, F_News_strike⟩ := c.t.d.def_ 11 (d := d_News_strike) rfl
  replace F_News_strike : FnM K "strike" "News.strike" (inClass (top 31) 2) (He.ma K (He.ga K "News") "strike") fd_News_strike := F_News_strike
  obtain ⟨fd_News_sightings, F_News_sightings⟩ := c.t.d.def_ 12 (d := d_News_sightings) rfl
  replace F_News_sightings : FnM K "sightings" "News.sightings" (inClass (top 31) 3) (He.ma K (He.ga K "News") "sightings") fd_News_sightings := F_News_sightings
  obtain ⟨fd__law_cell_at, F__law_cell_at⟩ := c.t.d.def_ 13 (d := d__law_cell_at) rfl
  replace F__law_cell_at : FnP K "_law_cell_at" (top 33) (He.ga K "_law_cell_at") fd__law_cell_at := F__law_cell_at
  have m__law_cell_at : mg "_law_cell_at" = some (.ref (He.ga K "_law_cell_at")) := He.glo_ok X G (c.t.d.fact 23 (f := .glo "_law_cell_at") rfl)
  obtain ⟨fd__law_draw, F__law_draw⟩ := c.t.d.def_ 14 (d := d__law_draw) rfl
  replace F__law_draw : FnP K "_law_draw" (top 34) (He.ga K "_law_draw") fd__law_draw := F__law_draw
  have m__law_draw : mg "_law_draw" = some (.ref (He.ga K "_law_draw")) := He.glo_ok X G (c.t.d.fact 24 (f := .glo "_law_draw") rfl)
  obtain ⟨fd__law_value, F__law_value⟩ := c.t.d.def_ 15 (d := d__law_value) rfl
  replace F__law_value : FnP K "_law_value" (top 35) (He.ga K "_law_value") fd__law_value := F__law_value
  have m__law_value : mg "_law_value" = some (.ref (He.ga K "_law_value")) := He.glo_ok X G (c.t.d.fact 25 (f := .glo "_law_value") rfl)
  obtain ⟨fd__law_kinds, F__law_kinds⟩ := c.t.d.def_ 16 (d := d__law_kinds) rfl
  replace F__law_kinds : FnP K "_law_kinds" (top 36) (He.ga K "_law_kinds") fd__law_kinds := F__law_kinds
  have m__law_kinds : mg "_law_kinds" = some (.ref (He.ga K "_law_kinds")) := He.glo_ok X G (c.t.d.fact 26 (f := .glo "_law_kinds") rfl)
  obtain ⟨fd__law_due_of, F__law_due_of⟩ := c.t.d.def_ 17 (d := d__law_due_of) rfl
  replace F__law_due_of : FnP K "_law_due_of" (top 37) (He.ga K "_law_due_of") fd__law_due_of := F__law_due_of
  have m__law_due_of : mg "_law_due_of" = some (.ref (He.ga K "_law_due_of")) := He.glo_ok X G (c.t.d.fact 27 (f := .glo "_law_due_of") rfl)
  obtain ⟨fd__law_strange, F__law_strange⟩ := c.t.d.def_ 18 (d := d__law_strange) rfl
  replace F__law_strange : FnP K "_law_strange" (top 38) (He.ga K "_law_strange") fd__law_strange := F__law_strange
  have m__law_strange : mg "_law_strange" = some (.ref (He.ga K "_law_strange")) := He.glo_ok X G (c.t.d.fact 28 (f := .glo "_law_strange") rfl)
  obtain ⟨fd__law_no_lands, F__law_no_lands⟩ := c.t.d.def_ 19 (d := d__law_no_lands) rfl
  replace F__law_no_lands : FnP K "_law_no_lands" (top 39) (He.ga K "_law_no_lands") fd__law_no_lands := F__law_no_lands
  have m__law_no_lands : mg "_law_no_lands" = some (.ref (He.ga K "_law_no_lands")) := He.glo_ok X G (c.t.d.fact 29 (f := .glo "_law_no_lands") rfl)
  obtain ⟨fd__law_right, F__law_right⟩ := c.t.d.def_ 20 (d := d__law_right) rfl
  replace F__law_right : FnP K "_law_right" (top 40) (He.ga K "_law_right") fd__law_right := F__law_right
  have m__law_right : mg "_law_right" = some (.ref (He.ga K "_law_right")) := He.glo_ok X G (c.t.d.fact 30 (f := .glo "_law_right") rfl)
  obtain ⟨fd_law, F_law⟩ := c.t.d.def_ 21 (d := d_law) rfl
  replace F_law : FnP K "law" (top 41) (He.ga K "law") fd_law := F_law
  have m_law : mg "law" = some (.ref (He.ga K "law")) := He.glo_ok X G (c.t.d.fact 31 (f := .glo "law") rfl)
  have x_SightError : Xc K mg "SightError" (He.ga K "SightError") := xc_of X G (c.t.d.fact 0 (f := .glo "SightError") rfl) (c.t.d.fact 57 (f := .exc "SightError") rfl)
  have x_BadLand : Xc K mg "BadLand" (He.ga K "BadLand") := xc_of X G (c.t.d.fact 1 (f := .glo "BadLand") rfl) (c.t.d.fact 58 (f := .exc "BadLand") rfl)
  have x_BadPlace : Xc K mg "BadPlace" (He.ga K "BadPlace") := xc_of X G (c.t.d.fact 2 (f := .glo "BadPlace") rfl) (c.t.d.fact 59 (f := .exc "BadPlace") rfl)
  have x_BadTick : Xc K mg "BadTick" (He.ga K "BadTick") := xc_of X G (c.t.d.fact 3 (f := .glo "BadTick") rfl) (c.t.d.fact 60 (f := .exc "BadTick") rfl)
  have x_BadSightings : Xc K mg "BadSightings" (He.ga K "BadSightings") := xc_of X G (c.t.d.fact 4 (f := .glo "BadSightings") rfl) (c.t.d.fact 61 (f := .exc "BadSightings") rfl)
  have x_BadWrong : Xc K mg "BadWrong" (He.ga K "BadWrong") := xc_of X G (c.t.d.fact 5 (f := .glo "BadWrong") rfl) (c.t.d.fact 62 (f := .exc "BadWrong") rfl)
  have x_BadNumber : Xc K mg "BadNumber" (He.ga K "BadNumber") := xc_of X G (c.t.d.fact 6 (f := .glo "BadNumber") rfl) (c.t.d.fact 63 (f := .exc "BadNumber") rfl)
  have x_BadWalk : Xc K mg "BadWalk" (He.ga K "BadWalk") := xc_of X G (c.t.d.fact 7 (f := .glo "BadWalk") rfl) (c.t.d.fact 64 (f := .exc "BadWalk") rfl)
  have x_BadHand : Xc K mg "BadHand" (He.ga K "BadHand") := xc_of X G (c.t.d.fact 8 (f := .glo "BadHand") rfl) (c.t.d.fact 65 (f := .exc "BadHand") rfl)
  have x_BadOwn : Xc K mg "BadOwn" (He.ga K "BadOwn") := xc_of X G (c.t.d.fact 9 (f := .glo "BadOwn") rfl) (c.t.d.fact 66 (f := .exc "BadOwn") rfl)
  have x_NoWalk : Xc K mg "NoWalk" (He.ga K "NoWalk") := xc_of X G (c.t.d.fact 10 (f := .glo "NoWalk") rfl) (c.t.d.fact 67 (f := .exc "NoWalk") rfl)
  have x_Unlike : Xc K mg "Unlike" (He.ga K "Unlike") := xc_of X G (c.t.d.fact 11 (f := .glo "Unlike") rfl) (c.t.d.fact 68 (f := .exc "Unlike") rfl)
  have x_TooMany : Xc K mg "TooMany" (He.ga K "TooMany") := xc_of X G (c.t.d.fact 12 (f := .glo "TooMany") rfl) (c.t.d.fact 69 (f := .exc "TooMany") rfl)
  have m_News : mg "News" = some (.ref (He.ga K "News")) := He.glo_ok X G (c.t.d.fact 22 (f := .glo "News") rfl)
  have GG : Gi mg := ⟨⟨He.free_ok X G (c.t.d.fact 38 (f := .free "len") rfl), He.free_ok X G (c.t.d.fact 39 (f := .free "isinstance") rfl), He.free_ok X G (c.t.d.fact 40 (f := .free "all") rfl), He.free_ok X G (c.t.d.fact 41 (f := .free "any") rfl), He.free_ok X G (c.t.d.fact 42 (f := .free "min") rfl), He.free_ok X G (c.t.d.fact 43 (f := .free "max") rfl), He.free_ok X G (c.t.d.fact 44 (f := .free "sorted") rfl), He.free_ok X G (c.t.d.fact 45 (f := .free "abs") rfl), He.free_ok X G (c.t.d.fact 46 (f := .free "sum") rfl), He.free_ok X G (c.t.d.fact 47 (f := .free "int") rfl), He.free_ok X G (c.t.d.fact 48 (f := .free "bool") rfl), He.free_ok X G (c.t.d.fact 49 (f := .free "tuple") rfl), He.free_ok X G (c.t.d.fact 50 (f := .free "list") rfl), He.free_ok X G (c.t.d.fact 51 (f := .free "range") rfl), He.free_ok X G (c.t.d.fact 52 (f := .free "zip") rfl), He.free_ok X G (c.t.d.fact 53 (f := .free "enumerate") rfl), He.free_ok X G (c.t.d.fact 54 (f := .free "reversed") rfl), He.free_ok X G (c.t.d.fact 55 (f := .free "set") rfl), He.free_ok X G (c.t.d.fact 56 (f := .free "dict") rfl)⟩, He.int_ok X G (c.t.d.fact 32 (f := .int "MOST_PLACES" 7) rfl), He.int_ok X G (c.t.d.fact 33 (f := .int "MOST_WAYS" 10) rfl), He.int_ok X G (c.t.d.fact 34 (f := .int "MOST_LAST" 10) rfl), He.int_ok X G (c.t.d.fact 35 (f := .int "MOST_SIGHTINGS" 8) rfl), He.int_ok X G (c.t.d.fact 36 (f := .int "LAST_HAND" 3) rfl), He.int_ok X G (c.t.d.fact 37 (f := .int "LAST_OWN" 9) rfl)⟩
  have cls_News := He.cls_ok (c.t.d.fact 70 (f := .cls "News") rfl)
  have noat_News_places := He.noat_ok (c.t.d.fact 71 (f := .noat "News" "places") rfl)
  have noat_News_last := He.noat_ok (c.t.d.fact 72 (f := .noat "News" "last") rfl)
  have noat_News_heard := He.noat_ok (c.t.d.fact 73 (f := .noat "News" "heard") rfl)
  have noat_News_struck := He.noat_ok (c.t.d.fact 74 (f := .noat "News" "struck") rfl)
  have mkr_News := He.mkr_ok (c.t.d.fact 75 (f := .mkr "News") rfl)
  have meth_News_hear := He.meth_ok (c.t.d.fact 76 (f := .meth "News" "hear") rfl)
  have meth_News_strike := He.meth_ok (c.t.d.fact 77 (f := .meth "News" "strike") rfl)
  have meth_News_sightings := He.meth_ok (c.t.d.fact 78 (f := .meth "News" "sightings") rfl)
  have free_ValueError : mg "ValueError" = none := He.free_ok X G (c.t.d.fact 79 (f := .free "ValueError") rfl)
  have e := hfa.symm.trans m_law
  cases e
  obtain ⟨c1, c2⟩ := He.ba c.more
  obtain ⟨c3, c4⟩ := He.ba c2
  have b := FunD.bindsA (ps := ["_law_script"]) F_law fun _ _ _ _ _ _ us hl => match us, hl with | [_], _ => rfl
  have T : NTxt K (He.ga K "News") := ⟨cls_News, noat_News_places, noat_News_last, noat_News_heard, noat_News_struck⟩
  have KF : KdF K (He.ga K "SightError") (fun i => He.ga K (kN i)) := ⟨fun x => errB_ec c1 (kN_in (er_lt x)), fun x i hi => by rw [← kN_eq x i hi]; exact errB_kit c1 (kN_in (er_lt x)) (kN_in hi), fun x => of_decide_eq_true (List.all_eq_true.mp c3 _ (kN_in (er_lt x))), fun x => errB_exm c1 (kN_in (er_lt x))⟩
  have MK : KdM mg (He.ga K "SightError") (fun i => He.ga K (kN i)) := ⟨x_BadLand.mg, x_BadPlace.mg, x_BadTick.mg, x_BadSightings.mg, x_BadWrong.mg, x_BadNumber.mg, x_BadWalk.mg, x_BadHand.mg, x_BadOwn.mg, x_NoWalk.mg, x_Unlike.mg, x_TooMany.mg, x_SightError.mg, free_ValueError⟩
  have ne : (He.cT K ("law", none)).2 ≠ (He.cT K ("_law_right", none)).2 := by
    intro z
    rw [decide_eq_true z] at c4
    cases c4
  let Tb : List (Addr × Str) := [((He.cT K ("law", none)).2, qLam "law"), ((He.cT K ("_law_right", none)).2, qLam "_law_right")]
  have code : ∀ {x : Str} {fd : FuncData} {st : Stmt}, FnP K x st (He.ga K x) fd → ∀ c, fd.code = .ref c → (He.cT K (x, none)).1 = c := fun {x fd st} F c hc => by
    obtain ⟨oc, od, dV, kV, doc, pm, an, cdv, ct, osl, rfl, lk, _⟩ := F.ex
    exact He.codeOf_eq (p := (x, none)) lk hc
  refine ⟨fd_law, [He.cT K ("law", none), He.cT K ("_law_right", none)], spLaw K Tb, ?_, ?_, ?_, fun s v => b s [v] rfl, ?_, fun base KB GB TB => ?_⟩
  · intro p hp
    rcases List.mem_cons.mp hp with rfl | hp
    · exact c.empty _ (List.mem_cons_self)
    · rw [List.mem_singleton.mp hp]
      exact c.empty _ (List.mem_cons_of_mem _ List.mem_cons_self)
  · intro p hp
    rcases List.mem_cons.mp hp with rfl | hp
    · exact c.out _ (List.mem_cons_self)
    · rw [List.mem_singleton.mp hp]
      exact c.out _ (List.mem_cons_of_mem _ List.mem_cons_self)
  · intro p hp
    rcases List.mem_cons.mp hp with rfl | hp
    · exact PySem.W.codeHd_of_K X (c.hd _ (List.mem_cons_self))
    · rw [List.mem_singleton.mp hp]
      exact PySem.W.codeHd_of_K X (c.hd _ (List.mem_cons_of_mem _ List.mem_cons_self))
  · intro H a ns hl _ hT hS
    refine ⟨a, ns, rfl, hS, hl, fun p hp => ?_, fun _ => rfl⟩
    rcases List.mem_cons.mp hp with rfl | hp
    · exact LamX.TabS.nil (hT (He.cT K ("law", none)) List.mem_cons_self)
    · rw [List.mem_singleton.mp hp]
      exact LamX.TabS.nil (hT (He.cT K ("_law_right", none)) (List.mem_cons_of_mem _ List.mem_cons_self))
  have TL : TabOf base mg Tb fd_law (qLam "law") := fun c hc => ⟨(He.cT K ("law", none)).2, by rw [← code F_law c hc]; exact TB _ List.mem_cons_self, List.mem_cons_self, fun p hp hz => by
    rcases List.mem_cons.mp hp with rfl | hp
    · rfl
    · rw [List.mem_singleton.mp hp] at hz
      exact absurd hz.symm ne⟩
  have TR : TabOf base mg Tb fd__law_right (qLam "_law_right") := fun c hc => ⟨(He.cT K ("_law_right", none)).2, by rw [← code F__law_right c hc]; exact TB _ (List.mem_cons_of_mem _ List.mem_cons_self), List.mem_cons_of_mem _ List.mem_cons_self, fun p hp hz => by
    rcases List.mem_cons.mp hp with rfl | hp
    · exact absurd hz ne
    · rw [List.mem_singleton.mp hp]⟩
  have c_is_number := cal_of F_is_number m_is_number (ok_is_number (P := l.prog) (w := w) (base := base) F_is_number GG) fun _ _ _ _ _ _ us hl => match us, hl with | [_], _ => rfl
  have c_is_within := cal_of F_is_within m_is_within (ok_is_within (P := l.prog) (w := w) (base := base) F_is_within GG c_is_number) fun _ _ _ _ _ _ us hl => match us, hl with | [_, _, _], _ => rfl
  have c_is_way := cal_of F_is_way m_is_way (ok_is_way (P := l.prog) (w := w) (base := base) F_is_way GG c_is_within) fun _ _ _ _ _ _ us hl => match us, hl with | [_, _], _ => rfl
  have c_are_ways := cal_of F_are_ways m_are_ways (ok_are_ways (P := l.prog) (w := w) (base := base) F_are_ways GG c_is_way) fun _ _ _ _ _ _ us hl => match us, hl with | [_, _], _ => rfl
  have c_is_land := cal_of F_is_land m_is_land (ok_is_land (P := l.prog) (w := w) (base := base) F_is_land GG c_is_within c_are_ways) fun _ _ _ _ _ _ us hl => match us, hl with | [_], _ => rfl
  have c_check_land := cal_of F_check_land m_check_land (ok_check_land (P := l.prog) (w := w) (base := base) F_check_land GG x_BadLand c_is_land) fun _ _ _ _ _ _ us hl => match us, hl with | [_], _ => rfl
  have c_check_place := cal_of F_check_place m_check_place (ok_check_place (P := l.prog) (w := w) (base := base) F_check_place GG x_BadPlace c_is_within) fun _ _ _ _ _ _ us hl => match us, hl with | [_, _], _ => rfl
  have c_check_tick := cal_of F_check_tick m_check_tick (ok_check_tick (P := l.prog) (w := w) (base := base) F_check_tick GG x_BadTick c_is_within) fun _ _ _ _ _ _ us hl => match us, hl with | [_, _], _ => rfl
  have c_check_source := cal_of F_check_source m_check_source (ok_check_source (P := l.prog) (w := w) (base := base) (cs := fun x => He.ga K (kN (erI x))) F_check_source GG x_BadHand x_BadOwn c_is_within) fun _ _ _ _ _ _ us hl => match us, hl with | [_, _], _ => rfl
  have FI := ok_init (P := l.prog) (w := w) (base := base) (cs := fun x => He.ga K (kN (erI x))) F_News___init__ GG T c_check_land
  have bI : Binds K fd_News___init__ ["self", "land"] [] := F_News___init__.bindsN fun _ _ _ _ _ _ us hl => match us, hl with | [_, _], _ => rfl
  have FH := ok_hear (P := l.prog) (w := w) (base := base) (cs := fun x => He.ga K (kN (erI x))) F_News_hear GG T x_Unlike x_TooMany c_check_source c_check_tick c_check_place
  have bH : Binds K fd_News_hear ["self", "hand", "own", "tick", "place"] [] := F_News_hear.bindsN fun _ _ _ _ _ _ us hl => match us, hl with | [_, _, _, _, _], _ => rfl
  have FS := ok_strike (P := l.prog) (w := w) (base := base) (cs := fun x => He.ga K (kN (erI x))) F_News_strike GG T c_check_source
  have bS : Binds K fd_News_strike ["self", "hand", "own"] [] := F_News_strike.bindsN fun _ _ _ _ _ _ us hl => match us, hl with | [_, _, _], _ => rfl
  have FT := ok_stand (P := l.prog) (w := w) (base := base) F_News_sightings GG T
  have bT : Binds K fd_News_sightings ["self"] [] := F_News_sightings.bindsN fun _ _ _ _ _ _ us hl => match us, hl with | [_], _ => rfl
  have c__law_cell_at := cal_of F__law_cell_at m__law_cell_at (ok_cell_at (P := l.prog) (w := w) (base := base) F__law_cell_at GG) fun _ _ _ _ _ _ us hl => match us, hl with | [_, _], _ => rfl
  have c__law_draw := cal_of F__law_draw m__law_draw (ok_draw (P := l.prog) (w := w) (base := base) F__law_draw GG) fun _ _ _ _ _ _ us hl => match us, hl with | [_, _, _], _ => rfl
  have c__law_value := cal_of F__law_value m__law_value (ok_value (P := l.prog) (w := w) (base := base) F__law_value GG c__law_draw) fun _ _ _ _ _ _ us hl => match us, hl with | [_, _], _ => rfl
  have c__law_due_of := cal_of F__law_due_of m__law_due_of (ok_due_of (P := l.prog) (w := w) (base := base) F__law_due_of GG) fun _ _ _ _ _ _ us hl => match us, hl with | [_], _ => rfl
  have c__law_strange := cal_of F__law_strange m__law_strange (ok_strange (P := l.prog) (w := w) (base := base) F__law_strange GG) fun _ _ _ _ _ _ us hl => match us, hl with | [_], _ => rfl
  have c__law_no_lands := cal_of F__law_no_lands m__law_no_lands (ok_no_lands (P := l.prog) (w := w) (base := base) F__law_no_lands GG c__law_strange) fun _ _ _ _ _ _ us hl => match us, hl with | [_], _ => rfl
  have c__law_right := cal_of F__law_right m__law_right (ok_right (P := l.prog) (w := w) (base := base) (ks := fun i => He.ga K (kN i)) F__law_right GG T F__law_kinds m__law_kinds MK KF TR meth_News_hear FH bH meth_News_strike FS bS c__law_strange c__law_due_of) fun _ _ _ _ _ _ us hl => match us, hl with | [_, _], _ => rfl
  exact ok_law (ks := fun i => He.ga K (kN i)) F_law GG T m_News mkr_News F__law_kinds m__law_kinds MK KF TL FI bI meth_News_hear FH bH meth_News_strike FS bS meth_News_sightings FT bT c__law_cell_at c__law_value c__law_due_of c__law_no_lands c__law_right
end SG
open PySem PySem.W PySem.Calls PyProof.Rows
theorem PySem.Challenge.cw_sightings_k09_refused_news_holds : PySem.Challenge.rw_sightings_k09_refused_news.Holds := by
  w_on; o_law
  refine HandSHeadRun.head_any (r := OpenLaw.row PySem.Challenge.rw_sightings_k09_refused_news) (q := view (OpenLaw.row PySem.Challenge.rw_sightings_k09_refused_news).prog [41]) (H := SG.hk) (ob := SG.ob) (M := 4000) (loose := SG.names) (d := HandSHeadRun.topDef (OpenLaw.row PySem.Challenge.rw_sightings_k09_refused_news).prog 41) (kwd := []) SG.ob_eq
    (by kernel_rfl) (fun s => by kernel_rfl) SG.run (by kernel_rfl) (by kernel_rfl) (by kernel_rfl) (by rfl) (by first | assumption | decide +kernel) (by decide +kernel) ⟨rfl, rfl, rfl, rfl, rfl, by decide +kernel⟩ ?hw ?hc
  case hw => w_witness2
  case hc =>
    refine LamX.walk_ofTsE (l := PySem.Challenge.rw_sightings_k09_refused_news) (n := 63) (k := 11) (x := "_law_script") (CX := fun _ => L2.CX0) rfl (by decide) (by kernel_rfl) ⟨rfl, by decide, by decide⟩ ?F (fun _ _ _ _ _ z => z)
    intro w mg fa h Y G hmg0
    obtain ⟨K, KX, c⟩ := Y
    have hmg : mg ("law" : PySem.Str) = some (.ref fa) := by
      have e : (HandSHeadRun.topDef (OpenLaw.row PySem.Challenge.rw_sightings_k09_refused_news).prog 41).name = ("law" : PySem.Str) := by kernel_rfl
      rw [← e]
      exact hmg0
    exact ⟨K, KX, SG.facts (l := PySem.Challenge.rw_sightings_k09_refused_news) (w := w) KX G hmg c⟩
