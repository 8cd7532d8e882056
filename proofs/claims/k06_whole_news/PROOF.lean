import PyProof.Rows.All
import Wide.All
import OpenK.AllK
import Wide.FinOn
import KE.KStateDown
import Lean
import HandS.ForMost
import HandS.ForExc
import HandS.Deep
import HandS.IsInst
import HandS.TupAny
import HandS.TupLen
import HandS.Conv
import HandS.SortRule
import HandS.ExcIs
import HandS.Style
import HandS.Flow
import HandS.Wide
import HandS.Defaults
import HandS.More
import PySem.Challenge.RW_sightings_k06_whole_news
import HandS.Head0
import HandS.Head1
import HandS.Head2
import HandS.HeadEnd
import HandS.HeadHook1
import HandS.HeadHook2
import HandS.Ends
import HandS.Words
import HandS.WordsExc
set_option Elab.async false
set_option linter.all false
set_option maxRecDepth 100000
set_option maxHeartbeats 4000000
namespace SG
open PySem PySem.Spec PyProof.Rows L2

/-! ### the settled part of the heap -/
def Mu : Option HO → Prop
  | none => False
  | some (.tup _) => False
  | some _ => True
theorem Mu.same {H H1 : Hp} {x : Addr} (s : Same H H1) (h : Mu (H x)) : Mu (H1 x) := by
  cases e : H x with
  | none => rw [e] at h; exact h.elim
  | some o => rw [s x o e, ← e]; exact h
structure Gr (Hs H Hs2 H2 : Hp) : Prop where
  a : Same Hs Hs2
  b : Same H H2
  c : Same Hs2 H2
  d : ∀ x, Mu (H x) → Hs x = none → Hs2 x = none
theorem same_none {H H' : Hp} {p : Addr} (s : Same H H') (h : H' p = none) : H p = none := s.free h
theorem same_new {H : Hp} {p : Addr} {o : HO} (h : H p = none) : Same H (upd H p o) := fun b x e => by
  rw [upd_ne (ne_of_none e h)]
  exact e
section
variable {Hs H Hs1 H1 Hs2 H2 : Hp} {p : Addr} {o : HO}
theorem Gr.refl (s : Same Hs H) : Gr Hs H Hs H := ⟨Same.refl _, Same.refl _, s, fun _ _ h => h⟩
theorem Gr.trans (g : Gr Hs H Hs1 H1) (k : Gr Hs1 H1 Hs2 H2) : Gr Hs H Hs2 H2 :=
  ⟨g.a.trans k.a, g.b.trans k.b, k.c, fun x h1 h2 => k.d x (h1.same g.b) (g.d x h1 h2)⟩
theorem Gr.new (s : Same Hs H) (hp : H p = none) : Gr Hs H (upd Hs p o) (upd H p o) where
  a := same_new (same_none s hp)
  b := same_new hp
  c := fun b x e => by
    by_cases hb : b = p
    · subst hb
      rw [upd_same] at e ⊢
      exact e
    · rw [upd_ne hb] at e ⊢
      exact s b x e
  d := fun x h1 h2 => by
    have : x ≠ p := fun z => by rw [z, hp] at h1; exact h1
    rw [upd_ne this]
    exact h2
/-- a new object that may still change -/
theorem Gr.fresh (s : Same Hs H) (hp : H p = none) : Gr Hs H Hs (upd H p o) :=
  ⟨Same.refl _, same_new hp, s.trans (same_new hp), fun _ _ h => h⟩
/-- a changing object changes -/
theorem Gr.mut (g : Gr Hs H Hs1 H1) (h0 : H p = none) (hs : Hs1 p = none) : Gr Hs H Hs1 (upd H1 p o) where
  a := g.a
  b := fun b x e => by
    rw [upd_ne (ne_of_none e h0)]
    exact g.b b x e
  c := fun b x e => by
    rw [upd_ne (ne_of_none e hs)]
    exact g.c b x e
  d := g.d
/-- it is settled -/
theorem Gr.settle (g : Gr Hs H Hs1 H1) (h0 : H p = none) (h1 : H1 p = some o) (hs : Hs1 p = none) : Gr Hs H (upd Hs1 p o) H1 where
  a := g.a.trans (same_new hs)
  b := g.b
  c := fun b x e => by
    by_cases hb : b = p
    · subst hb
      rw [upd_same] at e
      rw [h1]
      exact e
    · rw [upd_ne hb] at e
      exact g.c b x e
  d := fun x h2 h3 => by
    have : x ≠ p := fun z => by rw [z, h0] at h2; exact h2
    rw [upd_ne this]
    exact g.d x h2 h3
/-- what was settled for a while is let go again -/
theorem Gr.back (s : Same Hs Hs1) (g : Gr Hs1 H Hs2 H2) : Gr Hs H Hs H2 :=
  ⟨Same.refl _, g.b, s.trans (g.a.trans g.c), fun _ _ h => h⟩
/-- a tuple is settled -/
theorem Gr.tup {xs : List V} (s : Same Hs H) (h : H p = some (.tup xs)) : Gr Hs H (upd Hs p (.tup xs)) H where
  a := fun b x e => by
    by_cases hb : b = p
    · subst hb
      have := s b x e
      rw [h] at this
      rw [upd_same]
      exact this
    · rw [upd_ne hb]
      exact e
  b := Same.refl _
  c := fun b x e => by
    by_cases hb : b = p
    · subst hb
      rw [upd_same] at e
      rw [h]
      exact e
    · rw [upd_ne hb] at e
      exact s b x e
  d := fun x h1 h2 => by
    have : x ≠ p := fun z => by rw [z, h] at h1; exact h1
    rw [upd_ne this]
    exact h2
end

/-! ### data -/
section
variable {K : PySem.W.Frag}
theorem sqL_mono {H H' : Hp} {a : Addr} {xs : List V} (e : Same H H') (h : H a = some (.lst xs)) : SqL K H' a xs := .inl (.inl (e _ _ h))
theorem sqT_mono {H H' : Hp} {a : Addr} {xs : List V} (e : Same H H') (h : H a = some (.tup xs)) : SqT K H' a xs := .inl (.inl (e _ _ h))
mutual
inductive Rp (K : PySem.W.Frag) (H : Hp) : V → PyData → Prop
  | non : Rp K H .non .none
  | bl (b : Bool) : Rp K H (.bl b) (.bool b)
  | int (i : Int) : Rp K H (.int i) (.int i)
  | str (x : Str) : Rp K H (.str x) (.str x)
  | lst {a : Addr} {xs : List V} {ds : List PyData} : H a = some (.lst xs) → RpAll K H xs ds → Rp K H (.ref a) (.list ds)
  | tup {a : Addr} {xs : List V} {ds : List PyData} : H a = some (.tup xs) → RpAll K H xs ds → Rp K H (.ref a) (.tuple ds)
  | dct {a : Addr} : H a = some (.dK []) → Rp K H (.ref a) (.dict [])
inductive RpAll (K : PySem.W.Frag) (H : Hp) : List V → List PyData → Prop
  | nil : RpAll K H [] []
  | cons {v : V} {vs : List V} {d : PyData} {ds : List PyData} : Rp K H v d → RpAll K H vs ds → RpAll K H (v :: vs) (d :: ds)
end
mutual
theorem Rp.mono {H H' : Hp} (e : Same H H') : ∀ {v : V} {d : PyData}, Rp K H v d → Rp K H' v d
  | _, _, .non => .non
  | _, _, .bl b => .bl b
  | _, _, .int b => .int b
  | _, _, .str b => .str b
  | _, _, .lst s a => .lst (e _ _ s) (RpAll.mono e a)
  | _, _, .tup s a => .tup (e _ _ s) (RpAll.mono e a)
  | _, _, .dct h => .dct (e _ _ h)
theorem RpAll.mono {H H' : Hp} (e : Same H H') : ∀ {v : List V} {d : List PyData}, RpAll K H v d → RpAll K H' v d
  | _, _, .nil => .nil
  | _, _, .cons a b => .cons (Rp.mono e a) (RpAll.mono e b)
end
mutual
theorem Rp.dp {H : Hp} : ∀ {v : V} {d : PyData}, d.canLay0 = true → Rp K H v d → Dp K H v d
  | _, _, _, .non => .non
  | _, _, _, .bl b => .bl b
  | _, _, _, .int b => .int b
  | _, _, _, .str b => .str b
  | _, .list ds, c, .lst s a => .lst (.inl (.inl s)) (RpAll.dp (show PyData.canLayAll0 ds = true from c) a)
  | _, .tuple ds, c, .tup s a => .tup (.inl (.inl s)) (RpAll.dp (show PyData.canLayAll0 ds = true from c) a)
  | _, _, c, .dct h => nomatch c
theorem RpAll.dp {H : Hp} : ∀ {v : List V} {d : List PyData}, PyData.canLayAll0 d = true → RpAll K H v d → DpAll K H v d
  | _, _, _, .nil => .nil
  | _, d :: ds, c, .cons a b => .cons (Rp.dp (Bool.and_eq_true_iff.mp (show (d.canLay0 && PyData.canLayAll0 ds) = true from c)).1 a) (RpAll.dp (Bool.and_eq_true_iff.mp (show (d.canLay0 && PyData.canLayAll0 ds) = true from c)).2 b)
end
theorem Rp.shape {H : Hp} {v : V} {d : PyData} (c : SeqAt.shaped d = true) (h : Rp K H v d) : Dp K H v d := h.dp (SeqAt.canLay_of_shaped c)
theorem RpAll.len {H : Hp} : ∀ {v : List V} {d : List PyData}, RpAll K H v d → v.length = d.length
  | _, _, .nil => rfl
  | _, _, .cons _ b => congrArg (· + 1) (RpAll.len b)
theorem RpAll.get {H : Hp} : ∀ {vs : List V} {ds : List PyData} {i : Nat} {v : V}, RpAll K H vs ds → vs[i]? = some v → ∃ d, ds[i]? = some d ∧ Rp K H v d
  | _, _, 0, _, .cons a _, e => by simp at e; subst e; exact ⟨_, rfl, a⟩
  | _, _, i + 1, _, .cons _ b, e => by simpa using RpAll.get (i := i) b (by simpa using e)
theorem RpAll.getD {H : Hp} : ∀ {vs : List V} {ds : List PyData} {i : Nat} {d : PyData}, RpAll K H vs ds → ds[i]? = some d → ∃ v, vs[i]? = some v ∧ Rp K H v d
  | _, _, 0, _, .cons a _, e => by simp at e; subst e; exact ⟨_, rfl, a⟩
  | _, _, i + 1, _, .cons _ b, e => by simpa using RpAll.getD (i := i) b (by simpa using e)
theorem RpAll.append {H : Hp} : ∀ {vs ws : List V} {ds es : List PyData}, RpAll K H vs ds → RpAll K H ws es → RpAll K H (vs ++ ws) (ds ++ es)
  | _, _, _, _, .nil, h => h
  | _, _, _, _, .cons a b, h => .cons a (RpAll.append b h)
theorem RpAll.snoc {H : Hp} {vs : List V} {ds : List PyData} {v : V} {d : PyData} (h : RpAll K H vs ds) (a : Rp K H v d) : RpAll K H (vs ++ [v]) (ds ++ [d]) := h.append (.cons a .nil)
theorem RpAll.drop {H : Hp} : ∀ {vs : List V} {ds : List PyData} (n : Nat), RpAll K H vs ds → RpAll K H (vs.drop n) (ds.drop n)
  | _, _, 0, h => h
  | _, _, _ + 1, .nil => .nil
  | _, _, n + 1, .cons _ b => RpAll.drop n b
theorem RpAll.take {H : Hp} : ∀ {vs : List V} {ds : List PyData} (n : Nat), RpAll K H vs ds → RpAll K H (vs.take n) (ds.take n)
  | _, _, 0, _ => .nil
  | _, _, _ + 1, .nil => .nil
  | _, _, n + 1, .cons a b => .cons a (RpAll.take n b)
theorem RpAll.ints {H : Hp} : ∀ ns : List Int, RpAll K H (ns.map V.int) (ns.map PyData.int)
  | [] => .nil
  | n :: ns => .cons (.int n) (RpAll.ints ns)
theorem RpAll.ints_eq {H : Hp} : ∀ {vs : List V} {ns : List Int}, RpAll K H vs (ns.map PyData.int) → vs = ns.map V.int
  | _, [], .nil => rfl
  | _, n :: ns, .cons (.int _) b => congrArg (V.int n :: ·) (RpAll.ints_eq b)
theorem RpAll.bools_eq {H : Hp} : ∀ {vs : List V} {ns : List Bool}, RpAll K H vs (ns.map PyData.bool) → vs = ns.map V.bl
  | _, [], .nil => rfl
  | _, n :: ns, .cons (.bl _) b => congrArg (V.bl n :: ·) (RpAll.bools_eq b)
/-- scalars stand in every heap -/
def scalD : PyData → Bool
  | .none | .bool _ | .int _ | .str _ => true
  | _ => false
theorem Rp.scal {H H' : Hp} {v : V} {d : PyData} (h : Rp K H v d) (c : scalD d = true) : Rp K H' v d := by
  cases h with
  | non => exact .non
  | bl b => exact .bl b
  | int i => exact .int i
  | str x => exact .str x
  | lst _ _ => cases c
  | tup _ _ => cases c
  | dct _ => cases c
end

/-! ### the slots -/
abbrev Rho := List (Option PyData)
def EnvD (K : PySem.W.Frag) (Hs : Hp) (σ : L2.St) (ρ : Rho) : Prop := σ.length = ρ.length ∧ ∀ (i : Nat) (d : PyData), ρ[i]? = some (some d) → ∃ v, σ[i]? = some (some v) ∧ Rp K Hs v d
section
variable {K : PySem.W.Frag} {Hs Hs2 : Hp} {σ : L2.St} {ρ : Rho}
theorem EnvD.mono (e : Same Hs Hs2) (h : EnvD K Hs σ ρ) : EnvD K Hs2 σ ρ := ⟨h.1, fun i d q => by
  obtain ⟨v, h1, h2⟩ := h.2 i d q
  exact ⟨v, h1, h2.mono e⟩⟩
theorem EnvD.set {v : V} {d : PyData} (i : Nat) (h : EnvD K Hs σ ρ) (r : Rp K Hs v d) : EnvD K Hs (σ.set i (some v)) (ρ.set i (some d)) := by
  refine ⟨by rw [List.length_set, List.length_set]; exact h.1, fun j e q => ?_⟩
  by_cases hj : j = i
  · subst hj
    have hl : j < ρ.length := by
      have := (List.getElem?_eq_some_iff.mp q).1
      rwa [List.length_set] at this
    rw [List.getElem?_set_self hl] at q
    have := Option.some.inj (Option.some.inj q)
    subst this
    exact ⟨v, List.getElem?_set_self (by have := h.1; omega), r⟩
  · rw [List.getElem?_set_ne (Ne.symm hj)] at q
    obtain ⟨w, h1, h2⟩ := h.2 j e q
    exact ⟨w, by rw [List.getElem?_set_ne (Ne.symm hj)]; exact h1, h2⟩
theorem EnvD.del {x : Option V} (i : Nat) (h : EnvD K Hs σ ρ) : EnvD K Hs (σ.set i x) (ρ.set i none) := by
  refine ⟨by rw [List.length_set, List.length_set]; exact h.1, fun j e q => ?_⟩
  by_cases hj : j = i
  · subst hj
    have hl : j < ρ.length := by
      have := (List.getElem?_eq_some_iff.mp q).1
      rwa [List.length_set] at this
    rw [List.getElem?_set_self hl] at q
    cases q
  · rw [List.getElem?_set_ne (Ne.symm hj)] at q
    obtain ⟨w, h1, h2⟩ := h.2 j e q
    exact ⟨w, by rw [List.getElem?_set_ne (Ne.symm hj)]; exact h1, h2⟩
def wipeD (ρ : Rho) : List Nat → Rho
  | [] => ρ
  | v :: vs => (wipeD ρ vs).set v none
theorem EnvD.wipe (h : EnvD K Hs σ ρ) : ∀ vs : List Nat, EnvD K Hs (wipe σ vs) (wipeD ρ vs)
  | [] => h
  | v :: vs => (EnvD.wipe h vs).del v
theorem wipe_get {σ : L2.St} : ∀ {vs : List Nat} {i : Nat}, i ∈ vs → i < σ.length → (wipe σ vs)[i]? = some none
  | v :: vs, i, h, hl => by
    show ((L2.wipe σ vs).set v none)[i]? = some none
    by_cases e : i = v
    · subst e
      exact List.getElem?_set_self (by rw [wipe_length]; exact hl)
    · rw [List.getElem?_set_ne (Ne.symm e)]
      exact wipe_get (by
        rcases List.mem_cons.mp h with z | z
        · exact absurd z e
        · exact z) hl
theorem wipe_ext {σ τ : L2.St} {vs : List Nat} (hl : σ.length = τ.length) (h : ∀ i, i ∉ vs → σ[i]? = τ[i]?) : wipe σ vs = wipe τ vs := by
  apply List.ext_getElem?
  intro i
  by_cases hi : i ∈ vs
  · by_cases hb : i < σ.length
    · rw [wipe_get hi hb, wipe_get hi (by omega)]
    · have e1 : (wipe σ vs)[i]? = none := List.getElem?_eq_none (by rw [wipe_length]; omega)
      have e2 : (wipe τ vs)[i]? = none := List.getElem?_eq_none (by rw [wipe_length]; omega)
      rw [e1, e2]
  · rw [wipe_out hi, wipe_out hi]
    exact h i hi
end
end SG
set_option Elab.async false
set_option linter.all false
set_option maxRecDepth 100000
set_option maxHeartbeats 4000000
namespace SG
open PySem PySem.Spec PyProof.Rows L2

/-! ### what evaluates to what -/
def YD (K : PySem.W.Frag) (te : TE) (ρ : Rho) (d : PyData) : Prop := ∀ (σ : L2.St) (Hs H : Hp), EnvD K Hs σ ρ → Same Hs H → ∀ Q : VK, (∀ v Hs2 H2, Gr Hs H Hs2 H2 → Rp K Hs2 v d → Q v H2) → te σ H Q
def YT (K : PySem.W.Frag) (tt : TT) (ρ : Rho) (b : Bool) : Prop := ∀ (σ : L2.St) (Hs H : Hp), EnvD K Hs σ ρ → Same Hs H → ∀ Q : Bool → Hp → Prop, (∀ Hs2 H2, Gr Hs H Hs2 H2 → Q b H2) → tt σ H Q
def YA (K : PySem.W.Frag) (ta : TA) (ρ : Rho) (ds : List PyData) : Prop := ∀ (σ : L2.St) (Hs H : Hp), EnvD K Hs σ ρ → Same Hs H → ∀ Q : List V → Hp → Prop, (∀ vs Hs2 H2, Gr Hs H Hs2 H2 → RpAll K Hs2 vs ds → Q vs H2) → ta σ H Q
def YO (K : PySem.W.Frag) (to : TO) (ρ : Rho) (o : Option Int) : Prop := ∀ (σ : L2.St) (Hs H : Hp), EnvD K Hs σ ρ → Same Hs H → ∀ Q : Option Int → Hp → Prop, (∀ Hs2 H2, Gr Hs H Hs2 H2 → Q o H2) → to σ H Q
def RD (K : PySem.W.Frag) (r : R2) (x y z : PyData) : Prop := ∀ (v w : V) (Hs H : Hp), Same Hs H → Rp K Hs v x → Rp K Hs w y → ∀ Q : VK, (∀ u Hs2 H2, Gr Hs H Hs2 H2 → Rp K Hs2 u z → Q u H2) → r v w H Q
def RU (K : PySem.W.Frag) (r : V → Hp → VK → Prop) (x z : PyData) : Prop := ∀ (v : V) (Hs H : Hp), Same Hs H → Rp K Hs v x → ∀ Q : VK, (∀ u Hs2 H2, Gr Hs H Hs2 H2 → Rp K Hs2 u z → Q u H2) → r v H Q
def RC (K : PySem.W.Frag) (r : List V → Hp → VK → Prop) (xs : List PyData) (z : PyData) : Prop := ∀ (vs : List V) (Hs H : Hp), Same Hs H → RpAll K Hs vs xs → ∀ Q : VK, (∀ u Hs2 H2, Gr Hs H Hs2 H2 → Rp K Hs2 u z → Q u H2) → r vs H Q
section
variable {K : PySem.W.Frag} {ρ : Rho} {ta tb tc te : TE} {t u : TT} {x y z d : PyData} {r r' : R2} {a b : Bool}
theorem YD.eq {d' : PyData} (h : YD K te ρ d) (e : d = d') : YD K te ρ d' := e ▸ h
theorem YT.eq {b' : Bool} (h : YT K t ρ b) (e : b = b') : YT K t ρ b' := e ▸ h
theorem YA.eq {ta : TA} {ds ds' : List PyData} (h : YA K ta ρ ds) (e : ds = ds') : YA K ta ρ ds' := e ▸ h
theorem yd_var {i : Nat} (h : ρ[i]? = some (some d)) : YD K (tVar i) ρ d := fun σ Hs H e s Q q => by
  obtain ⟨v, h1, h2⟩ := e.2 i d h
  exact ⟨v, h1, q v Hs H (Gr.refl s) h2⟩
theorem yd_int {i : Int} : YD K (tC (.int i)) ρ (.int i) := fun σ Hs H e s Q q => q _ Hs H (Gr.refl s) (.int i)
theorem yd_bl {i : Bool} : YD K (tC (.bl i)) ρ (.bool i) := fun σ Hs H e s Q q => q _ Hs H (Gr.refl s) (.bl i)
theorem yd_non : YD K (tC .non) ρ .none := fun σ Hs H e s Q q => q _ Hs H (Gr.refl s) .non
theorem yd_str {x : Str} : YD K (tC (.str x)) ρ (.str x) := fun σ Hs H e s Q q => q _ Hs H (Gr.refl s) (.str x)
theorem yd_op (ha : YD K ta ρ x) (hb : YD K tb ρ y) (hr : RD K r x y z) : YD K (tOp r ta tb) ρ z := fun σ Hs H e s Q q =>
  ha σ Hs H e s _ fun v Hs1 H1 g1 r1 => hb σ Hs1 H1 (e.mono g1.a) g1.c _ fun w Hs2 H2 g2 r2 => hr v w Hs2 H2 g2.c (r1.mono g2.a) r2 Q fun u Hs3 H3 g3 r3 => q u Hs3 H3 ((g1.trans g2).trans g3) r3
theorem yd_un {r : V → Hp → VK → Prop} (ha : YD K ta ρ x) (hr : RU K r x z) : YD K (tUn r ta) ρ z := fun σ Hs H e s Q q =>
  ha σ Hs H e s _ fun v Hs1 H1 g1 r1 => hr v Hs1 H1 g1.c r1 Q fun u Hs3 H3 g3 r3 => q u Hs3 H3 (g1.trans g3) r3
theorem rd_I0 {f : Int → Int → Int} {i j : Int} : RD K (rI0 fun i j => .int (f i j)) (.int i) (.int j) (.int (f i j)) := fun v w Hs H s h1 h2 Q q => by
  cases h1; cases h2
  exact ⟨i, j, rfl, rfl, q _ Hs H (Gr.refl s) (.int _)⟩
theorem rd_B0 {f : Int → Int → Bool} {i j : Int} : RD K (rI0 fun i j => .bl (f i j)) (.int i) (.int j) (.bool (f i j)) := fun v w Hs H s h1 h2 Q q => by
  cases h1; cases h2
  exact ⟨i, j, rfl, rfl, q _ Hs H (Gr.refl s) (.bl _)⟩
theorem rd_I {C : Int → Int → Prop} {f : Int → Int → Int} {i j : Int} (hc : C i j) : RD K (rI C fun i j => .int (f i j)) (.int i) (.int j) (.int (f i j)) := fun v w Hs H s h1 h2 Q q => by
  cases h1; cases h2
  exact ⟨i, j, rfl, rfl, hc, q _ Hs H (Gr.refl s) (.int _)⟩
theorem ru_neg {i : Int} : RU K (rU fun i => .int (-i)) (.int i) (.int (-i)) := fun v Hs H s h1 Q q => by
  cases h1
  exact ⟨i, rfl, q _ Hs H (Gr.refl s) (.int _)⟩
theorem rd_eqD (h1 : SeqAt.shaped x = true) (h2 : SeqAt.shaped y = true) : RD K (rEqD K) x y (.bool (PyData.eqv x y)) := fun v w Hs H s a b Q q =>
  ⟨x, y, (a.mono s).shape h1, (b.mono s).shape h2, h1, h2, q _ Hs H (Gr.refl s) (.bl _)⟩
theorem rd_neD (h1 : SeqAt.shaped x = true) (h2 : SeqAt.shaped y = true) : RD K (rNeD K) x y (.bool (!PyData.eqv x y)) := fun v w Hs H s a b Q q =>
  ⟨x, y, (a.mono s).shape h1, (b.mono s).shape h2, h1, h2, q _ Hs H (Gr.refl s) (.bl _)⟩
theorem rd_inD {ds : List PyData} (h1 : SeqAt.shaped x = true) (h2 : SeqAt.shaped (.list ds) = true) : RD K (rInD K) x (.list ds) (.bool (ds.any fun z => PyData.eqv z x)) := fun v w Hs H s a b Q q =>
  ⟨x, ds, (a.mono s).shape h1, (b.mono s).shape h2, h1, h2, q _ Hs H (Gr.refl s) (.bl _)⟩
theorem rd_notInD {ds : List PyData} (h1 : SeqAt.shaped x = true) (h2 : SeqAt.shaped (.list ds) = true) : RD K (rNotInD K) x (.list ds) (.bool (!ds.any fun z => PyData.eqv z x)) := fun v w Hs H s a b Q q =>
  ⟨x, ds, (a.mono s).shape h1, (b.mono s).shape h2, h1, h2, q _ Hs H (Gr.refl s) (.bl _)⟩
theorem atI_rp {Hs : Hp} {vs : List V} {ds : List PyData} {i : Int} (h : RpAll K Hs vs ds) (e : atI ds i = some d) : ∃ v, atI vs i = some v ∧ Rp K Hs v d := by
  unfold atI at e ⊢
  rw [h.len]
  cases q : ixN ds.length i with
  | none => rw [q] at e; cases e
  | some j =>
    rw [q] at e
    exact h.getD e
theorem rd_ixL {ds : List PyData} {i : Int} (h : atI ds i = some d) : RD K (rIx K) (.list ds) (.int i) d := fun v w Hs H s h1 h2 Q q => by
  cases h1 with
  | lst hs ha =>
    cases h2
    obtain ⟨u, e, ru⟩ := atI_rp ha h
    exact .inl ⟨_, _, i, u, rfl, rfl, sqL_mono s hs, e, q u Hs H (Gr.refl s) ru⟩
theorem rd_ixT {ds : List PyData} {i : Int} (h : atI ds i = some d) : RD K (rIx K) (.tuple ds) (.int i) d := fun v w Hs H s h1 h2 Q q => by
  cases h1 with
  | tup hs ha =>
    cases h2
    obtain ⟨u, e, ru⟩ := atI_rp ha h
    exact .inr (.inl ⟨_, _, i, u, rfl, rfl, sqT_mono s hs, e, q u Hs H (Gr.refl s) ru⟩)
theorem yd_chain (ha : YD K ta ρ x) (hb : YD K tb ρ y) (hr : RD K r x y (.bool a)) (hc : a = true → YD K tc ρ z) (hr2 : a = true → RD K r' y z (.bool b)) : YD K (tChain r r' ta tb tc) ρ (.bool (a && b)) := fun σ Hs H e s Q q =>
  ha σ Hs H e s _ fun v Hs1 H1 g1 r1 => hb σ Hs1 H1 (e.mono g1.a) g1.c _ fun w Hs2 H2 g2 r2 => hr v w Hs2 H2 g2.c (r1.mono g2.a) r2 _ fun k Hs3 H3 g3 r3 => by
    cases r3
    refine ⟨a, rfl, ?_⟩
    have g := (g1.trans g2).trans g3
    cases a with
    | true => exact hc rfl σ Hs3 H3 (e.mono g.a) g.c _ fun w2 Hs4 H4 g4 r4 => hr2 rfl w w2 Hs4 H4 g4.c (r2.mono (g3.a.trans g4.a)) r4 Q fun u Hs5 H5 g5 r5 => q u Hs5 H5 ((g.trans g4).trans g5) r5
    | false => exact q _ Hs3 H3 g (.bl _)
theorem ya_nil : YA K tNil ρ [] := fun σ Hs H e s Q q => q [] Hs H (Gr.refl s) .nil
theorem ya_cons {tr : TA} {ds : List PyData} (h : YD K ta ρ x) (hr : YA K tr ρ ds) : YA K (tCons ta tr) ρ (x :: ds) := fun σ Hs H e s Q q =>
  h σ Hs H e s _ fun v Hs1 H1 g1 r1 => hr σ Hs1 H1 (e.mono g1.a) g1.c _ fun vs Hs2 H2 g2 r2 => q _ Hs2 H2 (g1.trans g2) (.cons (r1.mono g2.a) r2)
theorem sz_of {n : Nat} (h : n ≤ 100000) : n ≤ sizeLine := Nat.le_trans h (by decide)
theorem sz_lt {n : Nat} (h : n < 100000) : n < sizeLine := Nat.lt_of_lt_of_le h (by decide)
theorem rp_lst {Hs H : Hp} {p : Addr} {vs : List V} {ds : List PyData} (hp : Hs p = none) (h : RpAll K Hs vs ds) : Rp K (upd Hs p (.lst vs)) (.ref p) (.list ds) := .lst upd_same (h.mono (same_new hp))
theorem rp_tup {Hs H : Hp} {p : Addr} {vs : List V} {ds : List PyData} (hp : Hs p = none) (h : RpAll K Hs vs ds) : Rp K (upd Hs p (.tup vs)) (.ref p) (.tuple ds) := .tup upd_same (h.mono (same_new hp))
theorem yd_tup {tr : TA} {ds : List PyData} (h : YA K tr ρ ds) (hl : ds.length ≤ 100000) : YD K (tTup tr) ρ (.tuple ds) := fun σ Hs H e s Q q =>
  h σ Hs H e s _ fun vs Hs1 H1 g1 r1 => ⟨sz_of (by rw [r1.len]; exact hl), fun p hp => q _ _ _ (g1.trans (Gr.new g1.c hp)) (rp_tup (H := H1) (same_none g1.c hp) r1)⟩
theorem yd_lst {tr : TA} {ds : List PyData} (h : YA K tr ρ ds) (hl : ds.length ≤ 100000) : YD K (tLst tr) ρ (.list ds) := fun σ Hs H e s Q q =>
  h σ Hs H e s _ fun vs Hs1 H1 g1 r1 => ⟨sz_of (by rw [r1.len]; exact hl), fun p hp => q _ _ _ (g1.trans (Gr.new g1.c hp)) (rp_lst (H := H1) (same_none g1.c hp) r1)⟩
theorem yt_test (h : YD K te ρ (.bool b)) : YT K (tTest te) ρ b := fun σ Hs H e s Q q => h σ Hs H e s _ fun v Hs1 H1 g1 r1 => by
  cases r1
  exact ⟨b, rfl, q Hs1 H1 g1⟩
theorem yt_B (h : YD K te ρ (.bool b)) : YT K (tB te) ρ b := fun σ Hs H e s Q q => h σ Hs H e s _ fun v Hs1 H1 g1 r1 => by
  cases r1
  exact ⟨b, rfl, q Hs1 H1 g1⟩
theorem yt_and (h1 : YT K t ρ a) (h2 : a = true → YT K u ρ b) : YT K (tAnd t u) ρ (a && b) := fun σ Hs H e s Q q => h1 σ Hs H e s _ fun Hs1 H1 g1 => by
  cases a with
  | true => exact h2 rfl σ Hs1 H1 (e.mono g1.a) g1.c Q fun Hs2 H2 g2 => q Hs2 H2 (g1.trans g2)
  | false => exact q Hs1 H1 g1
theorem yt_or (h1 : YT K t ρ a) (h2 : a = false → YT K u ρ b) : YT K (tOr t u) ρ (a || b) := fun σ Hs H e s Q q => h1 σ Hs H e s _ fun Hs1 H1 g1 => by
  cases a with
  | false => exact h2 rfl σ Hs1 H1 (e.mono g1.a) g1.c Q fun Hs2 H2 g2 => q Hs2 H2 (g1.trans g2)
  | true => exact q Hs1 H1 g1
theorem yt_not (h1 : YT K t ρ a) : YT K (tNot t) ρ (!a) := fun σ Hs H e s Q q => h1 σ Hs H e s _ fun Hs1 H1 g1 => q Hs1 H1 g1
theorem yd_and (h1 : YD K ta ρ (.bool a)) (h2 : a = true → YD K tb ρ (.bool b)) : YD K (tAndV ta tb) ρ (.bool (a && b)) := fun σ Hs H e s Q q => h1 σ Hs H e s _ fun v Hs1 H1 g1 r1 => by
  cases r1
  refine ⟨a, rfl, ?_⟩
  cases a with
  | true => exact h2 rfl σ Hs1 H1 (e.mono g1.a) g1.c Q fun w Hs2 H2 g2 r2 => q w Hs2 H2 (g1.trans g2) r2
  | false => exact q _ Hs1 H1 g1 (.bl _)
theorem yd_or (h1 : YD K ta ρ (.bool a)) (h2 : a = false → YD K tb ρ (.bool b)) : YD K (tOrV ta tb) ρ (.bool (a || b)) := fun σ Hs H e s Q q => h1 σ Hs H e s _ fun v Hs1 H1 g1 r1 => by
  cases r1
  refine ⟨a, rfl, ?_⟩
  cases a with
  | false => exact h2 rfl σ Hs1 H1 (e.mono g1.a) g1.c Q fun w Hs2 H2 g2 r2 => q w Hs2 H2 (g1.trans g2) r2
  | true => exact q _ Hs1 H1 g1 (.bl _)
theorem yd_not (h1 : YD K ta ρ (.bool a)) : YD K (tNotV ta) ρ (.bool (!a)) := fun σ Hs H e s Q q => h1 σ Hs H e s _ fun v Hs1 H1 g1 r1 => by
  cases r1
  exact ⟨a, rfl, q _ Hs1 H1 g1 (.bl _)⟩
theorem yd_if (h : YT K t ρ b) (h1 : b = true → YD K ta ρ d) (h2 : b = false → YD K tb ρ d) : YD K (tIf t ta tb) ρ d := fun σ Hs H e s Q q => h σ Hs H e s _ fun Hs1 H1 g1 => by
  cases b with
  | true => exact h1 rfl σ Hs1 H1 (e.mono g1.a) g1.c Q fun w Hs2 H2 g2 r2 => q w Hs2 H2 (g1.trans g2) r2
  | false => exact h2 rfl σ Hs1 H1 (e.mono g1.a) g1.c Q fun w Hs2 H2 g2 r2 => q w Hs2 H2 (g1.trans g2) r2
theorem yt_yes : YT K tYes ρ true := fun σ Hs H e s Q q => q Hs H (Gr.refl s)
theorem yd_isN (h : YD K ta ρ x) (hb : b = (match x with | .none => true | _ => false)) : YD K (tIsN ta) ρ (.bool b) := fun σ Hs H e s Q q => h σ Hs H e s _ fun v Hs1 H1 g1 r1 => by
  have e : decide (v = V.non) = b := by rw [hb]; cases r1 <;> rfl
  rw [e]
  exact q _ Hs1 H1 g1 (.bl _)
theorem yd_notN (h : YD K ta ρ x) (hb : b = (match x with | .none => false | _ => true)) : YD K (tNotN ta) ρ (.bool b) := fun σ Hs H e s Q q => h σ Hs H e s _ fun v Hs1 H1 g1 r1 => by
  have e : (!decide (v = V.non)) = b := by rw [hb]; cases r1 <;> rfl
  rw [e]
  exact q _ Hs1 H1 g1 (.bl _)
theorem yd_cb {r : List V → Hp → VK → Prop} {tr : TA} {ds : List PyData} (h : YA K tr ρ ds) (hr : RC K r ds z) : YD K (tCB r tr) ρ z := fun σ Hs H e s Q q =>
  h σ Hs H e s _ fun vs Hs1 H1 g1 r1 => hr vs Hs1 H1 g1.c r1 Q fun u Hs2 H2 g2 r2 => q u Hs2 H2 (g1.trans g2) r2
/-! slices -/
theorem yo_none : YO K tNoPart ρ none := fun σ Hs H e s Q q => q Hs H (Gr.refl s)
theorem yo_some {i : Int} (h : YD K te ρ (.int i)) : YO K (tPart te) ρ (some i) := fun σ Hs H e s Q q => h σ Hs H e s _ fun v Hs1 H1 g1 r1 => by
  cases r1
  exact ⟨i, rfl, q Hs1 H1 g1⟩
def cutD (xs : List PyData) (lo hi : Option Int) : List PyData := (xs.drop (HT.sIx xs.length 0 lo)).take (HT.sIx xs.length xs.length hi - HT.sIx xs.length 0 lo)
theorem cut_rp {Hs : Hp} {vs : List V} {ds : List PyData} {lo hi : Option Int} (h : RpAll K Hs vs ds) : RpAll K Hs (cutV vs lo hi) (cutD ds lo hi) := by
  unfold cutV cutD
  rw [h.len]
  exact (h.drop _).take _
theorem yd_slL {to1 to2 : TO} {ds : List PyData} {lo hi : Option Int} (h : YD K te ρ (.list ds)) (h1 : YO K to1 ρ lo) (h2 : YO K to2 ρ hi) : YD K (tSl (rSlL K) te to1 to2) ρ (.list (cutD ds lo hi)) := fun σ Hs H e s Q q =>
  h σ Hs H e s _ fun v Hs1 H1 g1 r1 => h1 σ Hs1 H1 (e.mono g1.a) g1.c _ fun Hs2 H2 g2 => h2 σ Hs2 H2 (e.mono (g1.a.trans g2.a)) g2.c _ fun Hs3 H3 g3 => by
    cases r1 with
    | lst hs ha => exact ⟨_, _, rfl, sqL_mono (g2.a.trans (g3.a.trans g3.c)) hs, fun p hp => q _ _ _ (((g1.trans g2).trans g3).trans (Gr.new g3.c hp)) (rp_lst (H := H3) (same_none g3.c hp) (cut_rp (ha.mono (g2.a.trans g3.a))))⟩
theorem yd_slA {to1 to2 : TO} {ds : List PyData} {lo hi : Option Int} (h : YD K te ρ (.tuple ds)) (h1 : YO K to1 ρ lo) (h2 : YO K to2 ρ hi) : YD K (tSl (rSlA K) te to1 to2) ρ (.tuple (cutD ds lo hi)) := fun σ Hs H e s Q q =>
  h σ Hs H e s _ fun v Hs1 H1 g1 r1 => h1 σ Hs1 H1 (e.mono g1.a) g1.c _ fun Hs2 H2 g2 => h2 σ Hs2 H2 (e.mono (g1.a.trans g2.a)) g2.c _ fun Hs3 H3 g3 => by
    cases r1 with
    | tup hs ha =>
      have G := (g1.trans g2).trans g3
      refine ⟨_, _, rfl, sqT_mono (g2.a.trans (g3.a.trans g3.c)) hs, fun hw => ?_, fun _ p hp => q _ _ _ (G.trans (Gr.new g3.c hp)) (rp_tup (H := H3) (same_none g3.c hp) (cut_rp (ha.mono (g2.a.trans g3.a))))⟩
      have e2 : cutD ds lo hi = ds := by
        unfold cutD
        rw [← ha.len, hw.1, hw.2, List.drop_zero, Nat.sub_zero, ha.len, List.take_length]
      exact q _ Hs3 H3 G (by rw [e2]; exact .tup ((g2.a.trans g3.a) _ _ hs) (ha.mono (g2.a.trans g3.a)))
end

/-! ### statements -/
def YR (K : PySem.W.Frag) (ts : TS) (ρ : Rho) (d : PyData) : Prop := ∀ (σ : L2.St) (Hs H : Hp), EnvD K Hs σ ρ → Same Hs H → ∀ D : Ends, (∀ v Hs2 H2, Gr Hs H Hs2 H2 → Rp K Hs2 v d → D.rt v H2) → ts D σ H
def YN (K : PySem.W.Frag) (ts : TS) (sl : List Nat) (ρ ρ' : Rho) : Prop := ∀ (σ : L2.St) (Hs H : Hp), EnvD K Hs σ ρ → Same Hs H → ∀ D : Ends, (∀ σ' Hs2 H2, Gr Hs H Hs2 H2 → EnvD K Hs2 σ' ρ' → (∀ i, i ∉ sl → σ'[i]? = σ[i]?) → D.nx σ' H2) → ts D σ H
/-- binding a target -/
def YG (K : PySem.W.Frag) (g : TG) (sl : List Nat) (ρ : Rho) (d : PyData) (ρ' : Rho) : Prop := ∀ (σ : L2.St) (Hs H : Hp) (v : V), EnvD K Hs σ ρ → Same Hs H → Rp K Hs v d → ∀ Q : L2.St → Hp → Prop, (∀ σ', EnvD K Hs σ' ρ' → σ'.length = σ.length → (∀ i, i ∉ sl → σ'[i]? = σ[i]?) → Q σ' H) → g v σ H Q
def YGs (K : PySem.W.Frag) (g : TGs) (sl : List Nat) (ρ : Rho) (ds : List PyData) (ρ' : Rho) : Prop := ∀ (σ : L2.St) (Hs H : Hp) (vs : List V), EnvD K Hs σ ρ → Same Hs H → RpAll K Hs vs ds → ∀ Q : L2.St → Hp → Prop, (∀ σ', EnvD K Hs σ' ρ' → σ'.length = σ.length → (∀ i, i ∉ sl → σ'[i]? = σ[i]?) → Q σ' H) → g vs σ H Q
section
variable {K : PySem.W.Frag} {ρ ρ1 ρ2 : Rho} {te : TE} {t u : TS} {c : TT} {d : PyData} {b : Bool} {sl sl2 : List Nat}
theorem YR.eq {d' : PyData} (h : YR K t ρ d) (e : d = d') : YR K t ρ d' := e ▸ h
theorem yr_ret (h : YD K te ρ d) : YR K (tRet te) ρ d := fun σ Hs H e s D q => h σ Hs H e s _ q
theorem yr_seq (h : YN K t sl ρ ρ1) (k : YR K u ρ1 d) : YR K (tSeq t u) ρ d := fun σ Hs H e s D q =>
  h σ Hs H e s _ fun σ1 Hs1 H1 g1 e1 _ => k σ1 Hs1 H1 e1 g1.c D fun v Hs2 H2 g2 r => q v Hs2 H2 (g1.trans g2) r
theorem yr_seqR (h : YR K t ρ d) : YR K (tSeq t u) ρ d := fun σ Hs H e s D q => h σ Hs H e s _ q
theorem yr_next (h : YR K u ρ d) : YR K (tSeq tNext u) ρ d := fun σ Hs H e s D q => h σ Hs H e s D q
theorem yr_if (h : YT K c ρ b) (h1 : b = true → YR K t ρ d) (h2 : b = false → YR K u ρ d) : YR K (tIfS c t u) ρ d := fun σ Hs H e s D q => h σ Hs H e s _ fun Hs1 H1 g1 => by
  cases b with
  | true => exact h1 rfl σ Hs1 H1 (e.mono g1.a) g1.c D fun w Hs2 H2 g2 r2 => q w Hs2 H2 (g1.trans g2) r2
  | false => exact h2 rfl σ Hs1 H1 (e.mono g1.a) g1.c D fun w Hs2 H2 g2 r2 => q w Hs2 H2 (g1.trans g2) r2
theorem yr_ifs {u2 : TS} (h : YT K c ρ b) (h1 : b = true → YR K (tSeq t u2) ρ d) (h2 : b = false → YR K (tSeq u u2) ρ d) : YR K (tSeq (tIfS c t u) u2) ρ d := fun σ Hs H e s D q => h σ Hs H e s _ fun Hs1 H1 g1 => by
  cases b with
  | true => exact h1 rfl σ Hs1 H1 (e.mono g1.a) g1.c D fun w Hs2 H2 g2 r2 => q w Hs2 H2 (g1.trans g2) r2
  | false => exact h2 rfl σ Hs1 H1 (e.mono g1.a) g1.c D fun w Hs2 H2 g2 r2 => q w Hs2 H2 (g1.trans g2) r2
theorem yn_if (h : YT K c ρ b) (h1 : b = true → YN K t sl ρ ρ1) (h2 : b = false → YN K u sl2 ρ ρ1) : YN K (tIfS c t u) (sl ++ sl2) ρ ρ1 := fun σ Hs H e s D q => h σ Hs H e s _ fun Hs1 H1 g1 => by
  cases b with
  | true => exact h1 rfl σ Hs1 H1 (e.mono g1.a) g1.c D fun w Hs2 H2 g2 r2 n2 => q w Hs2 H2 (g1.trans g2) r2 fun i hi => n2 i fun z => hi (List.mem_append_left _ z)
  | false => exact h2 rfl σ Hs1 H1 (e.mono g1.a) g1.c D fun w Hs2 H2 g2 r2 n2 => q w Hs2 H2 (g1.trans g2) r2 fun i hi => n2 i fun z => hi (List.mem_append_right _ z)
theorem yn_ifF (h : YT K c ρ false) (h2 : YN K u sl ρ ρ1) : YN K (tIfS c t u) sl ρ ρ1 := fun σ Hs H e s D q => h σ Hs H e s _ fun Hs1 H1 g1 => h2 σ Hs1 H1 (e.mono g1.a) g1.c D fun w Hs2 H2 g2 r2 n2 => q w Hs2 H2 (g1.trans g2) r2 n2
theorem yn_ifT (h : YT K c ρ true) (h2 : YN K t sl ρ ρ1) : YN K (tIfS c t u) sl ρ ρ1 := fun σ Hs H e s D q => h σ Hs H e s _ fun Hs1 H1 g1 => h2 σ Hs1 H1 (e.mono g1.a) g1.c D fun w Hs2 H2 g2 r2 n2 => q w Hs2 H2 (g1.trans g2) r2 n2
theorem yn_next : YN K tNext [] ρ ρ := fun σ Hs H e s D q => q σ Hs H (Gr.refl s) e fun _ _ => rfl
theorem yn_seq (h : YN K t sl ρ ρ1) (k : YN K u sl2 ρ1 ρ2) : YN K (tSeq t u) (sl ++ sl2) ρ ρ2 := fun σ Hs H e s D q =>
  h σ Hs H e s _ fun σ1 Hs1 H1 g1 e1 n1 => k σ1 Hs1 H1 e1 g1.c D fun v Hs2 H2 g2 r n2 => q v Hs2 H2 (g1.trans g2) r fun i hi => (n2 i fun z => hi (List.mem_append_right _ z)).trans (n1 i fun z => hi (List.mem_append_left _ z))
theorem yn_asg {g : TG} (h : YD K te ρ d) (k : YG K g sl ρ d ρ1) : YN K (tAsg te g) sl ρ ρ1 := fun σ Hs H e s D q =>
  h σ Hs H e s _ fun v Hs1 H1 g1 r1 => k σ Hs1 H1 v (e.mono g1.a) g1.c r1 _ fun σ' e' _ n' => q σ' Hs1 H1 g1 e' n'
theorem yg_name {i : Nat} : YG K (gName i) [i] ρ d (ρ.set i (some d)) := fun σ Hs H v e s r Q q => q _ (e.set i r) (by rw [List.length_set]) fun j hj => by
  rw [List.getElem?_set_ne (fun z => hj (by rw [z]; exact List.mem_singleton.mpr rfl))]
theorem ygs_nil : YGs K gNil [] ρ [] ρ := fun σ Hs H vs e s r Q q => by
  cases r
  exact ⟨rfl, q σ e rfl fun _ _ => rfl⟩
theorem ygs_cons {g : TG} {gs : TGs} {sl sl' : List Nat} {ds : List PyData} (h : YG K g sl ρ d ρ1) (k : YGs K gs sl' ρ1 ds ρ2) : YGs K (gCons g gs) (sl ++ sl') ρ (d :: ds) ρ2 := fun σ Hs H vs e s r Q q => by
  cases r with
  | cons r1 r2 =>
    refine ⟨_, _, rfl, h σ Hs H _ e s r1 _ fun σ1 e1 l1 n1 => k σ1 Hs H _ e1 s r2 _ fun σ2 e2 l2 n2 => q σ2 e2 (l2.trans l1) fun i hi => ?_⟩
    rw [n2 i (fun z => hi (List.mem_append_right _ z)), n1 i (fun z => hi (List.mem_append_left _ z))]
theorem yg_tup {n : Nat} {gs : TGs} {sl : List Nat} {ds : List PyData} (k : YGs K gs sl ρ ds ρ1) (hn : ds.length = n) : YG K (gTup K n gs) sl ρ (.tuple ds) ρ1 := fun σ Hs H v e s r Q q => by
  cases r with
  | tup hs ha => exact ⟨_, _, rfl, sqT_mono s hs, by rw [ha.len]; exact hn, k σ Hs H _ e s ha Q q⟩
/-- a, b = x, y -/
theorem yn_par {i j : Nat} {ta : TA} {d1 d2 : PyData} (h : YA K ta ρ [d1, d2]) : YN K (tPar i j ta) [i, j] ρ ((ρ.set i (some d1)).set j (some d2)) := fun σ Hs H e s D q =>
  h σ Hs H e s _ fun vs Hs1 H1 g1 r1 => by
    cases r1 with
    | cons r1 r2 => cases r2 with
      | cons r2 r3 => cases r3; exact ⟨_, _, rfl, q _ Hs1 H1 g1 (((e.mono g1.a).set i r1).set j r2) fun k hk => by
        rw [List.getElem?_set_ne (fun z => hk (by simp [z])), List.getElem?_set_ne (fun z => hk (by simp [z]))]⟩
end

/-! ### what is walked -/
def WalkD (K : PySem.W.Frag) (J : It) (Hs1 : Hp) (ds : List PyData) : Prop := ∀ (i : Nat) (Hs2 H2 : Hp), Same Hs1 Hs2 → Same Hs2 H2 →
  (∀ d, ds[i]? = some d → J.go i H2 ∧ ∀ x H', J.yld i H2 x H' → ∃ Hs3, Gr Hs2 H2 Hs3 H' ∧ Rp K Hs3 x d) ∧ (ds.length ≤ i → J.stop i H2)
def YI (K : PySem.W.Frag) (wi : TI) (ρ : Rho) (ds : List PyData) : Prop := ∀ (σ : L2.St) (Hs H : Hp), EnvD K Hs σ ρ → Same Hs H → ∀ R : It → Hp → Prop, (∀ J Hs1 H1, Gr Hs H Hs1 H1 → WalkD K J Hs1 ds → R J H1) → wi σ H R
section
variable {K : PySem.W.Frag} {ρ ρ1 ρ2 : Rho} {te : TE} {d : PyData} {ds : List PyData}
theorem walk_lst {a : Addr} {xs : List V} {Hs : Hp} (h : Hs a = some (.lst xs)) (k : RpAll K Hs xs ds) : WalkD K (Itl K a) Hs ds := fun i Hs2 H2 s1 s2 => by
  have h2 : SqL K H2 a xs := sqL_mono (s1.trans s2) h
  refine ⟨fun d e => ?_, fun hl => ⟨xs, h2, by rw [k.len]; exact hl⟩⟩
  obtain ⟨v, e1, r⟩ := k.getD e
  refine ⟨⟨xs, v, h2, e1⟩, fun x H' y => ?_⟩
  obtain ⟨rfl, y⟩ := y
  have : v = x := Option.some.inj (e1.symm.trans (y xs h2))
  subst this
  exact ⟨Hs2, Gr.refl s2, r.mono s1⟩
theorem walk_tup {a : Addr} {xs : List V} {Hs : Hp} (h : Hs a = some (.tup xs)) (k : RpAll K Hs xs ds) : WalkD K (Itt K a) Hs ds := fun i Hs2 H2 s1 s2 => by
  have h2 : SqT K H2 a xs := sqT_mono (s1.trans s2) h
  refine ⟨fun d e => ?_, fun hl => ⟨xs, h2, by rw [k.len]; exact hl⟩⟩
  obtain ⟨v, e1, r⟩ := k.getD e
  refine ⟨⟨xs, v, h2, e1⟩, fun x H' y => ?_⟩
  obtain ⟨rfl, y⟩ := y
  have : v = x := Option.some.inj (e1.symm.trans (y xs h2))
  subst this
  exact ⟨Hs2, Gr.refl s2, r.mono s1⟩
theorem yi_list (h : YD K te ρ (.list ds)) : YI K (iList K te) ρ ds := fun σ Hs H e s R q => h σ Hs H e s _ fun v Hs1 H1 g1 r1 => by
  cases r1 with
  | lst hs ha => exact ⟨_, rfl, ⟨_, sqL_mono g1.c hs⟩, q _ Hs1 H1 g1 (walk_lst hs ha)⟩
theorem yi_tup (h : YD K te ρ (.tuple ds)) : YI K (iTup K te) ρ ds := fun σ Hs H e s R q => h σ Hs H e s _ fun v Hs1 H1 g1 r1 => by
  cases r1 with
  | tup hs ha => exact ⟨_, rfl, ⟨_, sqT_mono g1.c hs⟩, q _ Hs1 H1 g1 (walk_tup hs ha)⟩
def rgD (lo : Int) (n : Nat) : List PyData := (List.range n).map fun (i : Nat) => .int (lo + (i : Int))
theorem rgD_get {lo : Int} {n i : Nat} (h : i < n) : (rgD lo n)[i]? = some (.int (lo + (i : Int))) := by
  unfold rgD
  rw [List.getElem?_map, List.getElem?_range h]
  rfl
theorem rgD_len {lo : Int} {n : Nat} : (rgD lo n).length = n := by
  unfold rgD
  rw [List.length_map, List.length_range]
theorem walk_rng {lo : Int} {n : Nat} {Hs : Hp} : WalkD K (Itr lo n) Hs (rgD lo n) := fun i Hs2 H2 s1 s2 => by
  refine ⟨fun d e => ?_, fun hl => by rw [rgD_len] at hl; exact hl⟩
  have hi : i < n := by
    have := (List.getElem?_eq_some_iff.mp e).1
    rwa [rgD_len] at this
  rw [rgD_get hi] at e
  refine ⟨hi, fun x H' y => ?_⟩
  obtain ⟨rfl, rfl⟩ := y
  cases Option.some.inj e
  exact ⟨Hs2, Gr.refl s2, .int _⟩
theorem yi_rng1 {ta : TA} {n : Int} (h : YA K ta ρ [.int n]) (h1 : n < 2 ^ 62) (h0 : -(2 ^ 62) ≤ n) : YI K (iRng1 ta) ρ (rgD 0 n.toNat) := fun σ Hs H e s R q => h σ Hs H e s _ fun vs Hs1 H1 g1 r1 => by
  cases r1 with
  | cons r1 r2 => cases r2; cases r1; exact ⟨n, rfl, h0, h1, q _ Hs1 H1 g1 walk_rng⟩
theorem yi_rng2 {ta : TA} {m n : Int} (h : YA K ta ρ [.int m, .int n]) (hb : -(2 ^ 62) ≤ m ∧ m < 2 ^ 62 ∧ -(2 ^ 62) ≤ n ∧ n < 2 ^ 62) : YI K (iRng2 ta) ρ (rgD m (n - m).toNat) := fun σ Hs H e s R q => h σ Hs H e s _ fun vs Hs1 H1 g1 r1 => by
  cases r1 with
  | cons r1 r2 => cases r2 with
    | cons r2 r3 => cases r3; cases r1; cases r2; exact ⟨m, n, rfl, hb, q _ Hs1 H1 g1 walk_rng⟩
def enumD (ds : List PyData) : List PyData := (List.range ds.length).zipWith (fun i d => .tuple [.int (i : Nat), d]) ds
theorem enumD_get {i : Nat} {d : PyData} : (enumD ds)[i]? = some d ↔ ∃ e, ds[i]? = some e ∧ d = .tuple [.int (i : Nat), e] := by
  unfold enumD
  rw [List.getElem?_zipWith]
  constructor
  · intro h
    cases e : ds[i]? with
    | none => rw [e] at h; cases h1 : (List.range ds.length)[i]? <;> rw [h1] at h <;> cases h
    | some x =>
      rw [e, List.getElem?_range (List.getElem?_eq_some_iff.mp e).1] at h
      exact ⟨x, rfl, (Option.some.inj h).symm⟩
  · rintro ⟨e, h, rfl⟩
    rw [h, List.getElem?_range (List.getElem?_eq_some_iff.mp h).1]
theorem enumD_len : (enumD ds).length = ds.length := by
  unfold enumD
  rw [List.length_zipWith, List.length_range, Nat.min_self]
theorem yi_enum {ta : TA} (h : YA K ta ρ [.list ds]) : YI K (iEnum K ta) ρ (enumD ds) := fun σ Hs H e s R q => h σ Hs H e s _ fun vs Hs1 H1 g1 r1 => by
  cases r1 with
  | cons r1 r2 =>
    cases r2
    cases r1 with
    | lst hs ha =>
      refine ⟨_, _, rfl, sqL_mono g1.c hs, q _ Hs1 H1 g1 fun i Hs2 H2 s1 s2 => ?_⟩
      have h2 := sqL_mono (K := K) (s1.trans s2) hs
      refine ⟨fun d e => ?_, fun hl => ⟨_, h2, by rw [ha.len]; rwa [enumD_len] at hl⟩⟩
      obtain ⟨x, ex, rfl⟩ := enumD_get.mp e
      obtain ⟨v, e1, r⟩ := ha.getD ex
      refine ⟨⟨_, v, h2, e1⟩, fun y H' yl => ?_⟩
      obtain ⟨T, z, rfl, hT, rfl, fz⟩ := yl
      have : v = z := Option.some.inj (e1.symm.trans (fz _ h2))
      subst this
      exact ⟨_, Gr.new s2 hT, rp_tup (H := H2) (same_none s2 hT) (.cons (.int _) (.cons (r.mono s1) .nil))⟩
def zipD (ds es : List PyData) : List PyData := ds.zipWith (fun d e => .tuple [d, e]) es
theorem yi_zip {ta : TA} {es : List PyData} (h : YA K ta ρ [.list ds, .list es]) : YI K (iZip K ta) ρ (zipD ds es) := fun σ Hs H e s R q => h σ Hs H e s _ fun vs Hs1 H1 g1 r1 => by
  cases r1 with
  | cons r1 r2 =>
    cases r2 with
    | cons r2 r3 =>
      cases r3
      cases r1 with
      | lst hs ha =>
        cases r2 with
        | lst ks ka =>
          refine ⟨_, _, _, _, rfl, sqL_mono g1.c hs, sqL_mono g1.c ks, q _ Hs1 H1 g1 fun i Hs2 H2 s1 s2 => ?_⟩
          have h2 := sqL_mono (K := K) (s1.trans s2) hs
          have k2 := sqL_mono (K := K) (s1.trans s2) ks
          refine ⟨fun d e => ?_, fun hl => ⟨_, _, h2, k2, ?_⟩⟩
          · unfold zipD at e
            rw [List.getElem?_zipWith] at e
            cases e1 : ds[i]? with
            | none => rw [e1] at e; cases e2 : es[i]? <;> rw [e2] at e <;> cases e
            | some x =>
              cases e2 : es[i]? with
              | none => rw [e1, e2] at e; cases e
              | some y =>
                rw [e1, e2] at e
                cases Option.some.inj e
                obtain ⟨v, f1, r⟩ := ha.getD e1
                obtain ⟨w, f2, r'⟩ := ka.getD e2
                refine ⟨⟨_, _, v, w, h2, k2, f1, f2⟩, fun z H' yl => ?_⟩
                obtain ⟨T, z1, z2, rfl, hT, rfl, fz1, fz2⟩ := yl
                have : v = z1 := Option.some.inj (f1.symm.trans (fz1 _ h2))
                subst this
                have : w = z2 := Option.some.inj (f2.symm.trans (fz2 _ k2))
                subst this
                exact ⟨_, Gr.new s2 hT, rp_tup (H := H2) (same_none s2 hT) (.cons (r.mono s1) (.cons (r'.mono s1) .nil))⟩
          · unfold zipD at hl
            rw [List.length_zipWith] at hl
            rw [ha.len, ka.len]
            omega
end

/-! ### comprehensions -/
section
variable {K : PySem.W.Frag} {ρ : Rho}
/-- [e for g in wi if tt]: b and f tell of each one whether it is taken, and what it gives -/
theorem yd_lcM {α : Type} {wi : TI} {g : TG} {tt : TT} {te : TE} {vs sl : List Nat} {xs : List α} (mk : α → PyData) (b : α → Bool) (f : α → PyData) (ρ' : α → Rho) (hi : YI K wi ρ (xs.map mk)) (hl : xs.length ≤ 50000) (hsl : ∀ i ∈ sl, i ∈ vs)
    (hg : ∀ d ∈ xs, YG K g sl (wipeD ρ vs) (mk d) (ρ' d)) (ht : ∀ d ∈ xs, YT K tt (ρ' d) (b d)) (he : ∀ d ∈ xs, b d = true → YD K te (ρ' d) (f d)) : YD K (tLc wi g tt te vs) ρ (.list ((xs.filter b).map f)) := by
  intro σ Hs H e s Q q
  refine hi σ Hs H e s _ fun J Hs1 H1 g1 wk D hD => ?_
  have hD1 : Hs1 D = none := same_none g1.c hD
  have hD0 : H D = none := same_none g1.b hD
  -- after i turns
  refine ⟨fun i m H' => i + m = xs.length ∧ ∃ Hs' acc, Gr Hs H Hs' H' ∧ Same Hs1 Hs' ∧ Hs' D = none ∧ H' D = some (.lst acc) ∧ RpAll K Hs' acc (((xs.take i).filter b).map f), ⟨xs.length, by omega, Hs1, [], (g1.trans (Gr.fresh g1.c hD)), Same.refl _, hD1, upd_same, .nil⟩, ?_⟩
  rintro i m H' ⟨him, Hs', acc, gr, s1, hDs, hDl, ra⟩
  obtain ⟨w1, w2⟩ := wk i Hs' H' s1 gr.c
  by_cases hlt : i < xs.length
  · right
    have hd : xs[i]? = some xs[i] := List.getElem?_eq_getElem hlt
    have hm : xs[i] ∈ xs := List.getElem_mem hlt
    obtain ⟨go, yl⟩ := w1 (mk xs[i]) (by rw [List.getElem?_map, hd]; rfl)
    have et : xs.take (i + 1) = xs.take i ++ [xs[i]] := by rw [List.take_add_one, hd]; rfl
    refine ⟨go, fun H'' => i + 1 + (m - 1) = xs.length ∧ ∃ Hs' acc, Gr Hs H Hs' H'' ∧ Same Hs1 Hs' ∧ Hs' D = none ∧ H'' D = some (.lst acc) ∧ RpAll K Hs' acc (((xs.take (i + 1)).filter b).map f), fun H'' nx => ⟨m - 1, by omega, nx⟩, fun x H2 hy => ?_⟩
    obtain ⟨Hs2, gr2, rx⟩ := yl x H2 hy
    have hDH' : Mu (H' D) := by rw [hDl]; trivial
    have hDs2 : Hs2 D = none := gr2.d D hDH' hDs
    refine hg _ hm (wipe σ vs) Hs2 H2 x ((e.mono (gr.a.trans gr2.a)).wipe vs) gr2.c rx _ fun σ2 e2 l2 n2 => ⟨?_, ?_⟩
    · have : wipe σ2 vs = wipe (wipe σ vs) vs := wipe_ext l2 fun j hj => n2 j fun z => hj (hsl j z)
      rw [this]
      exact wipe_ext (wipe_length _ _) fun j hj => wipe_out hj
    · refine ht _ hm σ2 Hs2 H2 e2 gr2.c _ fun Hs3 H3 gr3 => ?_
      have hDH2 : Mu (H2 D) := hDH'.same gr2.b
      have hDs3 : Hs3 D = none := gr3.d D hDH2 hDs2
      have hl3 : H3 D = some (.lst acc) := gr3.b _ _ (gr2.b _ _ hDl)
      cases hb : b xs[i] with
      | true =>
        rw [if_pos rfl]
        refine he _ hm hb σ2 Hs3 H3 (e2.mono gr3.a) gr3.c _ fun y Hs4 H4 gr4 ry => ?_
        have hDH3 : Mu (H3 D) := by rw [hl3]; trivial
        have hDs4 : Hs4 D = none := gr4.d D hDH3 hDs3
        have hl4 : H4 D = some (.lst acc) := gr4.b _ _ hl3
        have hal : acc.length ≤ xs.length := by
          rw [ra.len, List.length_map]
          exact Nat.le_trans (List.length_filter_le _ _) (by rw [List.length_take]; omega)
        refine ⟨acc, hl4, sz_lt (by omega), by omega, Hs4, acc ++ [y], (((gr.trans gr2).trans gr3).trans gr4).mut hD0 hDs4, (s1.trans (gr2.a.trans (gr3.a.trans gr4.a))), hDs4, upd_same, ?_⟩
        rw [et, List.filter_append, List.map_append]
        have : ([xs[i]].filter b).map f = [f xs[i]] := by simp [hb]
        rw [this]
        exact (ra.mono (gr2.a.trans (gr3.a.trans gr4.a))).snoc ry
      | false =>
        rw [if_neg (by decide)]
        refine ⟨by omega, Hs3, acc, (gr.trans gr2).trans gr3, s1.trans (gr2.a.trans gr3.a), hDs3, hl3, ?_⟩
        rw [et, List.filter_append, List.map_append]
        have : ([xs[i]].filter b).map f = [] := by simp [hb]
        rw [this, List.append_nil]
        exact ra.mono (gr2.a.trans gr3.a)
  · left
    refine ⟨w2 (by rw [List.length_map]; omega), ?_⟩
    have hei : xs.take i = xs := List.take_of_length_le (by omega)
    rw [hei] at ra
    refine q _ (upd Hs' D (.lst acc)) H' (gr.settle hD0 hDl hDs) (rp_lst (H := H') hDs ra)
/-- .. without a test -/
theorem yd_lc0 {α : Type} {wi : TI} {g : TG} {te : TE} {vs sl : List Nat} {xs : List α} (mk : α → PyData) (f : α → PyData) (ρ' : α → Rho) (hi : YI K wi ρ (xs.map mk)) (hl : xs.length ≤ 50000) (hsl : ∀ i ∈ sl, i ∈ vs)
    (hg : ∀ d ∈ xs, YG K g sl (wipeD ρ vs) (mk d) (ρ' d)) (he : ∀ d ∈ xs, YD K te (ρ' d) (f d)) : YD K (tLc wi g tYes te vs) ρ (.list (xs.map f)) :=
  (yd_lcM mk (fun _ => true) f ρ' hi hl hsl hg (fun _ _ => yt_yes) fun d hd _ => he d hd).eq (by rw [List.filter_eq_self.mpr (fun _ _ => rfl)])
theorem YI.eq {wi : TI} {ds ds' : List PyData} (h : YI K wi ρ ds) (e : ds = ds') : YI K wi ρ ds' := e ▸ h
end
end SG
set_option Elab.async false
set_option linter.all false
set_option maxRecDepth 100000
set_option maxHeartbeats 4000000
namespace SG
open PySem PySem.Spec PyProof.Rows L2

/-! ### defs: data in, a datum out, nothing changed -/
def spD (K : PySem.W.Frag) (R : List PyData → PyData → Prop) : Sp := fun vs H Q _ => ∃ ds d Hs, R ds d ∧ Same Hs H ∧ RpAll K Hs vs ds ∧ ∀ v Hs2 H2, Gr Hs H Hs2 H2 → Rp K Hs2 v d → Q v H2
/-- .. or an error of the class X names -/
def spX (K : PySem.W.Frag) (R : List PyData → PyData → Prop) (X : List PyData → Addr → Prop) : Sp := fun vs H Q E => ∃ ds Hs, Same Hs H ∧ RpAll K Hs vs ds ∧
  ((∃ d, R ds d ∧ ∀ v Hs2 H2, Gr Hs H Hs2 H2 → Rp K Hs2 v d → Q v H2) ∨ (∃ C, X ds C ∧ ∀ Hs2 H2, Gr Hs H Hs2 H2 → E (.ref C) none H2))
section
variable {K : PySem.W.Frag} {ρ : Rho} {R : List PyData → PyData → Prop} {ta : TA} {E : XK} {ds : List PyData} {d : PyData}
theorem yd_call (h : YA K ta ρ ds) (hr : R ds d) : YD K (tCall (spD K R) [] E ta) ρ d := fun σ Hs H e s Q q => h σ Hs H e s _ fun vs Hs1 H1 g1 r1 =>
  ⟨ds, d, Hs1, hr, g1.c, by rw [List.append_nil]; exact r1, fun v Hs2 H2 g2 r2 => q v Hs2 H2 (g1.trans g2) r2⟩
def startD (N : List Str) (ds : List PyData) : Rho := ds.map some ++ List.replicate (N.length - ds.length) none
theorem env_start {N : List Str} {Hs : Hp} {vs : List V} (h : RpAll K Hs vs ds) : EnvD K Hs (L2.start N vs) (startD N ds) := by
  unfold L2.start startD
  refine ⟨by simp [h.len], fun i e q => ?_⟩
  by_cases hi : i < ds.length
  · rw [List.getElem?_append_left (by rw [List.length_map]; exact hi), List.getElem?_map] at q
    rw [List.getElem?_append_left (by rw [List.length_map, h.len]; exact hi), List.getElem?_map]
    cases e1 : ds[i]? with
    | none => rw [e1] at q; cases q
    | some y =>
      rw [e1] at q
      have : y = e := Option.some.inj (Option.some.inj q)
      subst this
      obtain ⟨v, e2, r⟩ := h.getD e1
      exact ⟨v, by rw [e2]; rfl, r⟩
  · rw [List.getElem?_append_right (by rw [List.length_map]; omega), List.getElem?_replicate] at q
    split at q <;> cases q
end
/-- a def by its name -/
structure Cal (P : Program) (w : World) (K : PySem.W.Frag) (mg : Str → Option Value) (base : Heap) (CX : CXT) (k : Nat) (x : Str) (sp : Sp) : Prop where
  ex : ∃ (f : Addr) (fd : FuncData) (ps : List Str), FnOk P w K mg base CX k f fd ps sp ∧ mg x = some (.ref f) ∧ PySem.W.keepIn K (.ref f) = true ∧ Binds K fd ps []
theorem pe_d {X : Cx} {k j : Nat} {x : Str} {sp : Sp} {e : Expr} {es : List Expr} {t : TA} {p pos : Pos} (c : Cal X.prog X.w X.K X.mg X.base CX0 k x sp) (hr : Room j X.A) (hk : k ≤ j) (hg : Gl X x) (ha : PA X (e :: es) t)
    (hd : (x == ("__debug__" : Str)) = false := by decide) (he : starEach (e :: es) X.env = (false, eval e X.env) :: starEach es X.env := by rfl) (hpl : ((backTo pos (starEach es X.env)).any fun x => x.fst) = false := by rfl) : PE X (.Call (.Name x p) (e :: es) [] pos) (tCall sp [] E0 t) := by
  obtain ⟨f, fd, ps, F, hm, hkp, hb⟩ := c.ex
  exact pe_call (F.mono hk) hr hg hm hkp hb .nil pass0 ha hd he hpl
theorem pe_gi {X : Cx} {x : Str} {pos : Pos} {i : Int} (hg : Gl X x) (h : ∃ t, X.mg x = some (.int i t)) (hd : (x == ("__debug__" : Str)) = false := by decide) : PE X (.Name x pos) (tC (.int i)) := by
  obtain ⟨t, h⟩ := h
  exact pe_glob hg h ⟨t, rfl⟩ hd
theorem pe_ty {X : Cx} {x : Str} {pos : Pos} {n : String} (hg : Gl X x) (hm : X.mg x = none) (hv : bootBuiltins x = some (.type n)) (hn : x ≠ ("__name__" : Str) := by decide) (hd : (x == ("__debug__" : Str)) = false := by decide) : PE X (.Name x pos) (tC (.ty n)) := pe_bltn hg hm hv rfl hn hd
/-- the rule of a def that lets nothing out -/
theorem okD {P : Program} {w : World} {K : PySem.W.Frag} {mg : Str → Option Value} {base : Heap} {x qual : Str} {params : Arguments} {body : List Stmt} {scope : Scope} {f : Addr} {fd : FuncData} {N ps : List Str} {k : Nat} {R : List PyData → PyData → Prop}
    (F : FunD K x qual params body scope [] [] f fd) (S : FnScope N ps scope) (len : ∀ ds d, R ds d → ds.length = ps.length)
    (hbody : ∀ (cdv : Value) (A : Around) (outer : List Env) (s : Shared) (H : Hp) (E : XK), Room k (A.deeper (envOfC qual scope s.heap.objs.size f cdv)) →
      ∃ t, PSs (cxOf CX0 P w K mg base N qual scope f cdv A outer s H E).nox body t ∧ ∀ ds d, R ds d → YR K t (startD N ds) d) : FnOk P w K mg base CX0 (k + 1) f fd ps (spD K R) := by
  refine F.ok S (fun vs H Q E h => ?_) (fun cdv A outer s H vs Q E hr h => ?_)
  · obtain ⟨ds, d, Hs, hR, _, hp, _⟩ := h
    rw [hp.len]
    exact len ds d hR
  · obtain ⟨ds, d, Hs, hR, hs, hp, q⟩ := h
    obtain ⟨t, h1, h2⟩ := hbody cdv A outer s H E hr
    exact ⟨t, h1.nox, h2 ds d hR _ Hs H (env_start hp) hs _ q⟩
theorem cal_of {P : Program} {w : World} {K : PySem.W.Frag} {mg : Str → Option Value} {base : Heap} {CX : CXT} {x y qual : Str} {params : Arguments} {body : List Stmt} {scope : Scope} {f : Addr} {fd : FuncData} {ps : List Str} {k : Nat} {sp : Sp}
    (F : FunD K y qual params body scope [] [] f fd) (m : mg x = some (.ref f)) (o : FnOk P w K mg base CX k f fd ps sp)
    (h : ∀ (kV doc pm : Value) (an : Option Addr) (cdv ct : Value) (us : List Value), us.length = ps.length → bindArgs (PySem.W.fnOf y qual params body scope .none kV doc pm an cdv ct) ⟨us, []⟩ = pure (ps.zip us)) : Cal P w K mg base CX k x sp :=
  ⟨f, fd, ps, o, m, F.kp, F.bindsN h⟩
/-! ### loops -/
/-- for g in wi: tb, by a word of the turn, the slots, what is settled, the heap -/
theorem y_for {K : PySem.W.Frag} {ρ : Rho} {wi : TI} {g : TG} {tb : TS} {ds : List PyData} {D : Ends} {σ : L2.St} {Hs H : Hp} (hi : YI K wi ρ ds) (e : EnvD K Hs σ ρ) (s : Same Hs H)
    (k : ∀ Hs1 H1, Gr Hs H Hs1 H1 → ∃ Pv : Nat → L2.St → Hp → Hp → Prop, Pv 0 σ Hs1 H1 ∧ (∀ i σ' Hs' H', Pv i σ' Hs' H' → Same Hs1 Hs' ∧ Same Hs' H') ∧
      (∀ i d σ' Hs' H', ds[i]? = some d → Pv i σ' Hs' H' → ∀ x Hs2 H2, Gr Hs' H' Hs2 H2 → Rp K Hs2 x d → g x σ' H2 fun σ2 H3 => tb { D with nx := fun σ3 H4 => ∃ Hs4, Pv (i + 1) σ3 Hs4 H4, ct := fun σ3 H4 => ∃ Hs4, Pv (i + 1) σ3 Hs4 H4, bk := D.nx } σ2 H3) ∧
      ∀ σ' Hs' H', Pv ds.length σ' Hs' H' → D.nx σ' H') : tFor wi g tb D σ H := by
  refine hi σ Hs H e s _ fun J Hs1 H1 g1 wk => ?_
  obtain ⟨Pv, p0, hG, hs, hd⟩ := k Hs1 H1 g1
  refine ⟨fun i m σ' H' => i + m = ds.length ∧ ∃ Hs', Pv i σ' Hs' H', ⟨ds.length, by omega, Hs1, p0⟩, ?_⟩
  rintro i m σ' H' ⟨him, Hs', p⟩
  obtain ⟨s1, sc⟩ := hG i σ' Hs' H' p
  obtain ⟨w1, w2⟩ := wk i Hs' H' s1 sc
  by_cases hlt : i < ds.length
  · right
    have hd1 : ds[i]? = some ds[i] := List.getElem?_eq_getElem hlt
    obtain ⟨go, yl⟩ := w1 _ hd1
    refine ⟨go, fun σ3 H4 => ∃ Hs4, Pv (i + 1) σ3 Hs4 H4, fun σ3 H4 nx => ⟨m - 1, by omega, by omega, nx⟩, fun x H2 hy => ?_⟩
    obtain ⟨Hs2, gr2, rx⟩ := yl x H2 hy
    exact hs i _ σ' Hs' H' hd1 p x Hs2 H2 gr2 rx
  · left
    have : i = ds.length := by omega
    subst this
    exact ⟨w2 (Nat.le_refl _), hd σ' Hs' H' p⟩
/-! loops without a state: each turn goes on or returns -/
theorem EnvD.weak {K : PySem.W.Frag} {Hs : Hp} {σ : L2.St} {ρ ρ' : Rho} (h : EnvD K Hs σ ρ) (hl : ρ'.length = ρ.length) (hw : ∀ (i : Nat) d, ρ'[i]? = some (some d) → ρ[i]? = some (some d)) : EnvD K Hs σ ρ' :=
  ⟨h.1.trans hl.symm, fun i d q => h.2 i d (hw i d q)⟩
/-- below, slot by slot -/
def subR : Rho → Rho → Prop
  | [], [] => True
  | none :: r, _ :: r' => subR r r'
  | some d :: r, some d' :: r' => d = d' ∧ subR r r'
  | _, _ => False
theorem subR_of : ∀ {r r' : Rho}, subR r r' → r.length = r'.length ∧ ∀ (i : Nat) d, r[i]? = some (some d) → r'[i]? = some (some d)
  | [], [], _ => ⟨rfl, fun i d h => by simp at h⟩
  | none :: r, x :: r', h => by
    obtain ⟨a, b⟩ := subR_of (r := r) (r' := r') h
    refine ⟨by simp [a], fun i d q => ?_⟩
    cases i with
    | zero => simp at q
    | succ i => simpa using b i d (by simpa using q)
  | some e :: r, some e' :: r', h => by
    obtain ⟨rfl, h⟩ := h
    obtain ⟨a, b⟩ := subR_of (r := r) (r' := r') h
    refine ⟨by simp [a], fun i d q => ?_⟩
    cases i with
    | zero => simpa using q
    | succ i => simpa using b i d (by simpa using q)
theorem EnvD.sub {K : PySem.W.Frag} {Hs : Hp} {σ : L2.St} {ρ ρ' : Rho} (h : EnvD K Hs σ ρ) (hs : subR ρ' ρ) : EnvD K Hs σ ρ' := by
  obtain ⟨a, b⟩ := subR_of hs
  exact h.weak a b
theorem yn_sub {K : PySem.W.Frag} {t : TS} {sl : List Nat} {ρ ρ1 ρ2 : Rho} (h : YN K t sl ρ ρ1) (hs : subR ρ2 ρ1) : YN K t sl ρ ρ2 := fun σ Hs H e s D q => h σ Hs H e s D fun σ' Hs2 H2 g e' n => q σ' Hs2 H2 g (e'.sub hs) n
theorem yr_for {α : Type} {K : PySem.W.Frag} {ρ ρw : Rho} {wi : TI} {g : TG} {tb u : TS} {xs : List α} {sl sl2 : List Nat} {d : PyData} (mk : α → PyData) (o : α → Option PyData) (ρ' : α → Rho) (hi : YI K wi ρ (xs.map mk)) (hw : subR ρw ρ)
    (hg : ∀ x ∈ xs, YG K g sl ρw (mk x) (ρ' x)) (hn : ∀ x ∈ xs, o x = none → YN K tb sl2 (ρ' x) ρw) (hr : ∀ x ∈ xs, ∀ r, o x = some r → YR K tb (ρ' x) r)
    (h1 : ∀ r, xs.findSome? o = some r → r = d) (h2 : xs.findSome? o = none → YR K u ρw d) : YR K (tSeq (tFor wi g tb) u) ρ d := by
  intro σ Hs H e s D q
  refine y_for (D := { D with nx := u D }) hi e s fun Hs1 H1 g1 => ⟨fun i σ' Hs' H' => Gr Hs H Hs' H' ∧ Same Hs1 Hs' ∧ EnvD K Hs' σ' ρw ∧ ∀ x ∈ xs.take i, o x = none, ⟨g1, Same.refl _, (e.mono g1.a).sub hw, by simp⟩, fun i σ' Hs' H' p => ⟨p.2.1, p.1.c⟩, ?_, ?_⟩
  · rintro i z σ' Hs' H' hz ⟨gr, s1, e1, hno⟩ v Hs2 H2 g2 rv
    rw [List.getElem?_map] at hz
    obtain ⟨x, hx, rfl⟩ := Option.map_eq_some_iff.mp hz
    have hm : x ∈ xs := List.mem_of_getElem? hx
    refine hg x hm σ' Hs2 H2 v (e1.mono g2.a) g2.c rv _ fun σ2 e2 _ _ => ?_
    cases ho : o x with
    | none =>
      refine hn x hm ho σ2 Hs2 H2 e2 g2.c _ fun σ3 Hs3 H3 g3 e3 _ => ⟨Hs3, (gr.trans g2).trans g3, s1.trans (g2.a.trans g3.a), e3, fun y hy => ?_⟩
      rw [List.take_add_one, hx] at hy
      rcases List.mem_append.mp hy with hy | hy
      · exact hno y hy
      · have : y = x := by simpa using hy
        rw [this]
        exact ho
    | some r =>
      have hi2 : i < xs.length := (List.getElem?_eq_some_iff.mp hx).1
      have e0 : xs.findSome? o = some r := by
        have ed : xs = xs.take i ++ x :: xs.drop (i + 1) := by
          have hxe : x = xs[i] := (Option.some.inj ((List.getElem?_eq_getElem hi2).symm.trans hx)).symm
          rw [hxe, List.getElem_cons_drop, List.take_append_drop]
        rw [ed, List.findSome?_append, List.findSome?_eq_none_iff.mpr (by simpa using hno), List.findSome?_cons, ho]
        rfl
      have : r = d := h1 r e0
      subst this
      exact hr x hm r ho σ2 Hs2 H2 e2 g2.c _ fun w Hs3 H3 g3 r3 => q w Hs3 H3 ((gr.trans g2).trans g3) r3
  · rintro σ' Hs' H' ⟨gr, s1, e1, hno⟩
    rw [List.length_map] at hno
    have e0 : xs.findSome? o = none := List.findSome?_eq_none_iff.mpr (by
      rw [List.take_of_length_le (Nat.le_refl _)] at hno
      simpa using hno)
    exact h2 e0 σ' Hs' H' e1 gr.c D fun w Hs3 H3 g3 r3 => q w Hs3 H3 (gr.trans g3) r3
end SG
set_option Elab.async false
set_option linter.all false
set_option maxRecDepth 100000
set_option maxHeartbeats 4000000
namespace SG
open PySem PySem.Spec PyProof.Rows L2

/-! ### built-in functions -/
def rLenS (K : PySem.W.Frag) : List V → Hp → VK → Prop := fun xs H Q => ∃ p ys, xs = [.ref p] ∧ (SqL K H p ys ∨ SqT K H p ys) ∧ Q (.int ys.length) H
theorem call_lenS {X : Cx} : CallR X (.builtin "len") (rLenS X.K) := call_len_seq
def rListS (K : PySem.W.Frag) : List V → Hp → VK → Prop := fun xs H Q => ∃ p ys, xs = [.ref p] ∧ (SqL K H p ys ∨ SqT K H p ys) ∧ ∀ l, H l = none → Q (.ref l) (upd H l (.lst ys))
theorem call_listS {X : Cx} : CallR X (.type "list") (rListS X.K) := call_list_of
def rMin2 : List V → Hp → VK → Prop := fun xs H Q => ∃ i j, xs = [.int i, .int j] ∧ Q (.int (if j < i then j else i)) H
def rMax2 : List V → Hp → VK → Prop := fun xs H Q => ∃ i j, xs = [.int i, .int j] ∧ Q (.int (if j > i then j else i)) H
theorem call_min2' {X : Cx} (hc : X.calm = true) : CallR X (.builtin "min") rMin2 := call_min2 hc
theorem call_max2' {X : Cx} (hc : X.calm = true) : CallR X (.builtin "max") rMax2 := call_max2 hc
def rAbs : List V → Hp → VK → Prop := fun xs H Q => ∃ i, xs = [.int i] ∧ Q (.int (if i < 0 then -i else i)) H
theorem call_abs' {X : Cx} : CallR X (.builtin "abs") rAbs := call_abs
section
variable {K : PySem.W.Frag} {ρ : Rho} {ta : TE}
theorem rc_lenL {ds : List PyData} : RC K (rLenS K) [.list ds] (.int ds.length) := fun vs Hs H s h Q q => by
  cases h with
  | cons h1 h2 => cases h2; cases h1 with
    | lst hs ha => exact ⟨_, _, rfl, .inl (sqL_mono s hs), by rw [ha.len]; exact q _ Hs H (Gr.refl s) (.int _)⟩
theorem rc_lenT {ds : List PyData} : RC K (rLenS K) [.tuple ds] (.int ds.length) := fun vs Hs H s h Q q => by
  cases h with
  | cons h1 h2 => cases h2; cases h1 with
    | tup hs ha => exact ⟨_, _, rfl, .inr (sqT_mono s hs), by rw [ha.len]; exact q _ Hs H (Gr.refl s) (.int _)⟩
theorem rc_listL {ds : List PyData} : RC K (rListS K) [.list ds] (.list ds) := fun vs Hs H s h Q q => by
  cases h with
  | cons h1 h2 => cases h2; cases h1 with
    | lst hs ha => exact ⟨_, _, rfl, .inl (sqL_mono s hs), fun l hl => q _ _ _ (Gr.new s hl) (rp_lst (H := H) (same_none s hl) ha)⟩
theorem rc_min {i j : Int} : RC K rMin2 [.int i, .int j] (.int (min i j)) := fun vs Hs H s h Q q => by
  cases h with
  | cons h1 h2 => cases h2 with
    | cons h2 h3 =>
      cases h3; cases h1; cases h2
      refine ⟨i, j, rfl, ?_⟩
      have : (if j < i then j else i) = min i j := by omega
      rw [this]
      exact q _ Hs H (Gr.refl s) (.int _)
theorem rc_max {i j : Int} : RC K rMax2 [.int i, .int j] (.int (max i j)) := fun vs Hs H s h Q q => by
  cases h with
  | cons h1 h2 => cases h2 with
    | cons h2 h3 =>
      cases h3; cases h1; cases h2
      refine ⟨i, j, rfl, ?_⟩
      have : (if j > i then j else i) = max i j := by omega
      rw [this]
      exact q _ Hs H (Gr.refl s) (.int _)
theorem rc_abs {i : Int} : RC K rAbs [.int i] (.int (i.natAbs : Int)) := fun vs Hs H s h Q q => by
  cases h with
  | cons h1 h2 =>
    cases h2; cases h1
    refine ⟨i, rfl, ?_⟩
    have : (if i < 0 then -i else i) = (i.natAbs : Int) := by omega
    rw [this]
    exact q _ Hs H (Gr.refl s) (.int _)
theorem rc_all {bs : List Bool} : RC K (rAll K) [.list (bs.map PyData.bool)] (.bool (bs.all id)) := fun vs Hs H s h Q q => by
  cases h with
  | cons h1 h2 => cases h2; cases h1 with
    | lst hs ha =>
      have := ha.bools_eq
      subst this
      exact ⟨_, bs, rfl, sqL_mono s hs, q _ Hs H (Gr.refl s) (.bl _)⟩
theorem rc_any {bs : List Bool} : RC K (rAny K) [.list (bs.map PyData.bool)] (.bool (bs.any id)) := fun vs Hs H s h Q q => by
  cases h with
  | cons h1 h2 => cases h2; cases h1 with
    | lst hs ha =>
      have := ha.bools_eq
      subst this
      exact ⟨_, bs, rfl, sqL_mono s hs, q _ Hs H (Gr.refl s) (.bl _)⟩
theorem rc_sum {ns : List Int} : RC K (rSum K) [.list (ns.map PyData.int)] (.int ns.sum) := fun vs Hs H s h Q q => by
  cases h with
  | cons h1 h2 => cases h2; cases h1 with
    | lst hs ha =>
      have := ha.ints_eq
      subst this
      exact ⟨_, ns, rfl, sqL_mono s hs, q _ Hs H (Gr.refl s) (.int _)⟩
theorem yd_all {α : Type} {xs : List α} {p : α → Bool} (h : YD K ta ρ (.list (xs.map fun x => .bool (p x)))) : YD K (tCB (rAll K) (tCons ta tNil)) ρ (.bool (xs.all p)) :=
  (yd_cb (ya_cons (h.eq (show PyData.list (xs.map fun x => .bool (p x)) = .list ((xs.map p).map .bool) by rw [List.map_map]; rfl)) ya_nil) rc_all).eq (by rw [List.all_map]; rfl)
theorem yd_any {α : Type} {xs : List α} {p : α → Bool} (h : YD K ta ρ (.list (xs.map fun x => .bool (p x)))) : YD K (tCB (rAny K) (tCons ta tNil)) ρ (.bool (xs.any p)) :=
  (yd_cb (ya_cons (h.eq (show PyData.list (xs.map fun x => .bool (p x)) = .list ((xs.map p).map .bool) by rw [List.map_map]; rfl)) ya_nil) rc_any).eq (by rw [List.any_map]; rfl)
theorem cutD_from {xs : List PyData} (j : Nat) : cutD xs (some (j : Int)) none = xs.drop j := by
  unfold cutD
  rw [show HT.sIx xs.length 0 (some (j : Int)) = min j xs.length from HT.sIx_nat xs.length 0 j, HT.sIx_none]
  rcases Nat.le_total j xs.length with h | h
  · rw [Nat.min_eq_left h]
    exact List.take_of_length_le (by rw [List.length_drop]; omega)
  · rw [Nat.min_eq_right h, Nat.sub_self, List.take_zero, List.drop_eq_nil_of_le h]
theorem cutD_to {xs : List PyData} (j : Nat) : cutD xs none (some (j : Int)) = xs.take j := by
  unfold cutD
  rw [HT.sIx_none, show HT.sIx xs.length xs.length (some (j : Int)) = min j xs.length from HT.sIx_nat xs.length xs.length j, List.drop_zero, Nat.sub_zero]
  rcases Nat.le_total j xs.length with h | h
  · rw [Nat.min_eq_left h]
  · rw [Nat.min_eq_right h, List.take_of_length_le (Nat.le_refl _), List.take_of_length_le h]
theorem cutD_ft {xs : List PyData} (i j : Nat) : cutD xs (some (i : Int)) (some (j : Int)) = (xs.take j).drop i := by
  unfold cutD
  rw [show HT.sIx xs.length 0 (some (i : Int)) = min i xs.length from HT.sIx_nat xs.length 0 i, show HT.sIx xs.length xs.length (some (j : Int)) = min j xs.length from HT.sIx_nat xs.length xs.length j, List.drop_take]
  rcases Nat.le_total i xs.length with h | h
  · rw [Nat.min_eq_left h]
    rcases Nat.le_total j xs.length with k | k
    · rw [Nat.min_eq_left k]
    · rw [Nat.min_eq_right k, List.take_of_length_le (by rw [List.length_drop]; omega), List.take_of_length_le (by rw [List.length_drop]; omega)]
  · rw [Nat.min_eq_right h, List.drop_eq_nil_of_le (Nat.le_refl _), List.drop_eq_nil_of_le h, List.take_nil, List.take_nil]
/-! isinstance of a built-in type -/
def tyD : PyData → String
  | .none => "NoneType"
  | .bool _ => "bool"
  | .int _ => "int"
  | .str _ => "str"
  | .list _ => "list"
  | .tuple _ => "tuple"
  | .dict _ => "dict"
def isInt : PyData → Bool
  | .bool _ => true
  | .int _ => true
  | _ => false
def isBool : PyData → Bool
  | .bool _ => true
  | _ => false
def isList : PyData → Bool
  | .list _ => true
  | _ => false
def isTup : PyData → Bool
  | .tuple _ => true
  | _ => false
theorem rp_ty {Hs H : Hp} {v : V} {d : PyData} (s : Same Hs H) (h : Rp K Hs v d) : TyX K H v (.type (tyD d)) := by
  cases h with
  | non => exact .base .non
  | bl b => exact .base (.bl b)
  | int i => exact .base (.int i)
  | str x => exact .base (.str x)
  | lst hs _ => exact .base (.lst (s _ _ hs))
  | tup hs _ => exact .base (.tup (s _ _ hs))
  | dct hs => exact .base (.dK (s _ _ hs))
theorem kit_int : ∀ d : PyData, kitB (tyD d) "int" = some (isInt d)
  | .none => (by decide +kernel : kitB "NoneType" "int" = some false)
  | .bool _ => (by decide +kernel : kitB "bool" "int" = some true)
  | .int _ => (by decide +kernel : kitB "int" "int" = some true)
  | .str _ => (by decide +kernel : kitB "str" "int" = some false)
  | .list _ => (by decide +kernel : kitB "list" "int" = some false)
  | .tuple _ => (by decide +kernel : kitB "tuple" "int" = some false)
  | .dict _ => (by decide +kernel : kitB "dict" "int" = some false)
theorem kit_bool : ∀ d : PyData, kitB (tyD d) "bool" = some (isBool d)
  | .none => (by decide +kernel : kitB "NoneType" "bool" = some false)
  | .bool _ => (by decide +kernel : kitB "bool" "bool" = some true)
  | .int _ => (by decide +kernel : kitB "int" "bool" = some false)
  | .str _ => (by decide +kernel : kitB "str" "bool" = some false)
  | .list _ => (by decide +kernel : kitB "list" "bool" = some false)
  | .tuple _ => (by decide +kernel : kitB "tuple" "bool" = some false)
  | .dict _ => (by decide +kernel : kitB "dict" "bool" = some false)
theorem kit_list : ∀ d : PyData, kitB (tyD d) "list" = some (isList d)
  | .none => (by decide +kernel : kitB "NoneType" "list" = some false)
  | .bool _ => (by decide +kernel : kitB "bool" "list" = some false)
  | .int _ => (by decide +kernel : kitB "int" "list" = some false)
  | .str _ => (by decide +kernel : kitB "str" "list" = some false)
  | .list _ => (by decide +kernel : kitB "list" "list" = some true)
  | .tuple _ => (by decide +kernel : kitB "tuple" "list" = some false)
  | .dict _ => (by decide +kernel : kitB "dict" "list" = some false)
theorem kit_tuple : ∀ d : PyData, kitB (tyD d) "tuple" = some (isTup d)
  | .none => (by decide +kernel : kitB "NoneType" "tuple" = some false)
  | .bool _ => (by decide +kernel : kitB "bool" "tuple" = some false)
  | .int _ => (by decide +kernel : kitB "int" "tuple" = some false)
  | .str _ => (by decide +kernel : kitB "str" "tuple" = some false)
  | .list _ => (by decide +kernel : kitB "list" "tuple" = some false)
  | .tuple _ => (by decide +kernel : kitB "tuple" "tuple" = some true)
  | .dict _ => (by decide +kernel : kitB "dict" "tuple" = some false)
theorem yd_isi {x : PyData} {n : String} {b : Bool} (h : YD K ta ρ x) (hk : kitB (tyD x) n = some b) : YD K (tCB (rIsi K) (tCons ta (tCons (tC (.ty n)) tNil))) ρ (.bool b) := fun σ Hs H e s Q q =>
  h σ Hs H e s _ fun v Hs1 H1 g1 r1 => ⟨v, .ty n, _, _, b, rfl, .ty n, rp_ty g1.c r1, kit_ty hk, q _ Hs1 H1 g1 (.bl _)⟩
/-! lists: +, * -/
theorem rd_cat {xs ys : List PyData} (hl : xs.length + ys.length ≤ 100000) : RD K rCat (.list xs) (.list ys) (.list (xs ++ ys)) := fun v w Hs H s h1 h2 Q q => by
  cases h1 with
  | lst hs ha => cases h2 with
    | lst ks ka => exact ⟨_, _, _, _, rfl, rfl, s _ _ hs, s _ _ ks, sz_of (by rw [ha.len, ka.len]; exact hl), fun p hp => q _ _ _ (Gr.new s hp) (rp_lst (H := H) (same_none s hp) (ha.append ka))⟩
theorem rp_rep {Hs : Hp} {vs : List V} {ds : List PyData} (h : RpAll K Hs vs ds) : ∀ n : Nat, RpAll K Hs (List.replicate n vs).flatten (List.replicate n ds).flatten
  | 0 => .nil
  | n + 1 => by
    rw [List.replicate_succ, List.replicate_succ, List.flatten_cons, List.flatten_cons]
    exact h.append (rp_rep h n)
theorem rd_rep {xs : List PyData} {k : Int} (hl : xs.length * k.toNat ≤ 100000) (h1 : -(2 ^ 63) ≤ k) (h2 : k < 2 ^ 63) : RD K rRep (.list xs) (.int k) (.list (List.replicate k.toNat xs).flatten) := fun v w Hs H s r1 r2 Q q => by
  cases r1 with
  | lst hs ha => cases r2; exact ⟨_, k, _, rfl, rfl, s _ _ hs, h1, h2, sz_of (by rw [ha.len]; exact hl), fun p hp => q _ _ _ (Gr.new s hp) (rp_lst (H := H) (same_none s hp) (rp_rep ha _))⟩
/-! pairs of ints -/
def dP (p : Int × Int) : PyData := .tuple [.int p.1, .int p.2]
def ltPr (a b : Int × Int) : Bool := decide (a.1 < b.1) || (decide (a.1 = b.1) && decide (a.2 < b.2))
theorem rd_ltT {a b : Int × Int} : RD K (rLtT K) (dP a) (dP b) (.bool (ltPr a b)) := fun v w Hs H s h1 h2 Q q => by
  cases h1 with
  | tup hs ha => cases h2 with
    | tup ks ka =>
      have e1 := RpAll.ints_eq (ns := [a.1, a.2]) ha
      have e2 := RpAll.ints_eq (ns := [b.1, b.2]) ka
      subst e1 e2
      refine ⟨_, _, [a.1, a.2], [b.1, b.2], rfl, rfl, sqT_mono s hs, sqT_mono s ks, ?_⟩
      have : HT.lexLt [a.1, a.2] [b.1, b.2] = ltPr a b := by
        simp only [HT.lexLt, ltPr]
        by_cases h1 : a.1 < b.1 <;> by_cases h2 : a.1 = b.1 <;> by_cases h3 : a.2 < b.2 <;> by_cases h4 : a.2 = b.2 <;> simp_all
      rw [this]
      exact q _ Hs H (Gr.refl s) (.bl _)
end
end SG
set_option Elab.async false
set_option linter.all false
set_option maxRecDepth 100000
set_option maxHeartbeats 4000000
namespace SG
open PySem PySem.Spec PyProof.Rows L2
/-! ### the rules with the written part named -/
section
variable {X : Cx} {K : PySem.W.Frag}
theorem op_ltTk (hK : X.K = K) (hu : X.A.units < cLine) : OpR X (compareOp .Lt) (rLtT K) := hK ▸ op_ltT hu
theorem op_eqk (hK : X.K = K) (hu : X.A.units + 64 < cLine) : OpR X (compareOp .Eq) (rEqD K) := hK ▸ op_eqD hu
theorem op_nek (hK : X.K = K) (hu : X.A.units + 64 < cLine) : OpR X (compareOp .NotEq) (rNeD K) := hK ▸ op_neD hu
theorem op_ink (hK : X.K = K) (hu : X.A.units + 65 < cLine) : OpR X (compareOp .In) (rInD K) := hK ▸ op_inD hu
theorem op_notInk (hK : X.K = K) (hu : X.A.units + 65 < cLine) : OpR X (compareOp .NotIn) (rNotInD K) := hK ▸ op_notInD hu
theorem ix_k (hK : X.K = K) : IxR X (rIx K) := hK ▸ ix_seq
theorem sl_listk (hK : X.K = K) : SlR X (rSlL K) := hK ▸ sl_list
theorem sl_tupk (hK : X.K = K) : SlR X (rSlA K) := hK ▸ sl_tupA
theorem call_isik (hK : X.K = K) : CallR X (.builtin "isinstance") (rIsi K) := hK ▸ call_isi
theorem call_lenk (hK : X.K = K) : CallR X (.builtin "len") (rLenS K) := hK ▸ call_lenS
theorem call_listk (hK : X.K = K) : CallR X (.type "list") (rListS K) := hK ▸ call_listS
theorem cr_allk (hK : X.K = K) (hc : X.calm = true) : CallR X (.builtin "all") (rAll K) := hK ▸ cr_all hc
theorem cr_anyk (hK : X.K = K) (hc : X.calm = true) : CallR X (.builtin "any") (rAny K) := hK ▸ cr_any hc
theorem cr_sumk (hK : X.K = K) (hc : X.calm = true) : CallR X (.builtin "sum") (rSum K) := hK ▸ cr_sum hc
theorem cr_sortedk (hK : X.K = K) : CallR X (.builtin "sorted") (rSortedPO K) := hK ▸ cr_sortedPO
theorem pg_tupk {pos : Pos} {es : List Expr} {k : Nat} {t : TGs} {n : Nat} (hK : X.K = K) (hc : X.calm = true) (h : PGs X es t) (h1 : (assignEach es X.env).length = n := by rfl) (h2 : (assignEach es X.env).findIdx? (fun x => x.1) = none := by rfl) : PG X (.Tuple es k pos) (gTup K n t) := hK ▸ pg_tup hc h h1 h2
theorem pi_listk {tg l : Expr} {tl : TE} (hK : X.K = K) (h : PE X l tl) : PI X tg l (iList K tl) := hK ▸ pi_list h
theorem pi_tupk {tg l : Expr} {tl : TE} (hK : X.K = K) (h : PE X l tl) : PI X tg l (iTup K tl) := hK ▸ pi_tup h
theorem pi_enumk {e : Expr} {ta : TA} {p pos tpos : Pos} {elts : List Expr} {kk : Nat} (hK : X.K = K) (hg : Gl X "enumerate") (hm : X.mg "enumerate" = none) (h : PA X [e] ta) (he : starEach [e] X.env = [(false, eval e X.env)] := by rfl) : PI X (.Tuple elts kk tpos) (.Call (.Name "enumerate" p) [e] [] pos) (iEnum K ta) := hK ▸ pi_enum hg hm h he
theorem pi_zipk {e e2 : Expr} {ta : TA} {p pos tpos : Pos} {elts : List Expr} {kk : Nat} (hK : X.K = K) (hg : Gl X "zip") (hm : X.mg "zip" = none) (h : PA X [e, e2] ta) (he : starEach [e, e2] X.env = (false, eval e X.env) :: starEach [e2] X.env := by rfl) (hp : ((backTo pos (starEach [e2] X.env)).any fun x => x.1) = false := by rfl) : PI X (.Tuple elts kk tpos) (.Call (.Name "zip" p) [e, e2] [] pos) (iZip K ta) := hK ▸ pi_zip hg hm h he hp
theorem pi_revk {tg e : Expr} {ta : TA} {p pos : Pos} (hK : X.K = K) (hg : Gl X "reversed") (hm : X.mg "reversed" = none) (h : PA X [e] ta) (he : starEach [e] X.env = [(false, eval e X.env)] := by rfl) : PI X tg (.Call (.Name "reversed" p) [e] [] pos) (iRev K ta) := hK ▸ pi_reversed hg hm h he
theorem pe_fldk {e : Expr} {f : Str} {pos : Pos} {ta : TE} (hK : X.K = K) (h : PE X e ta) (hb : attributeBase e f X.env (eval e X.env) = eval e X.env) : PE X (.Attribute e f pos) (tFld K ta f) := hK ▸ pe_fld h hb
end
/-! ### errors -/
/-- what is known of an own class of errors -/
structure Xc (K : PySem.W.Frag) (mg : Str → Option Value) (x : Str) (C : Addr) : Prop where
  mg : mg x = some (.ref C)
  ex : PySem.W.excIn K C [.type "ValueError", .type "Exception", .type "BaseException", .type "object"] "ValueError.__new__" = true
  kp : PySem.W.keepIn K (.ref C) = true
  sub : PySem.W.subIn K (.ref C) (.type "BaseException") = some true
  ty : PySem.W.typeIn K (.ref C) = some (.type "type")
def YE (K : PySem.W.Frag) (E : XK) (ts : TS) (ρ : Rho) (C : Addr) : Prop := ∀ (σ : L2.St) (Hs H : Hp), EnvD K Hs σ ρ → Same Hs H → (∀ Hs2 H2, Gr Hs H Hs2 H2 → E (.ref C) none H2) → ∀ D : Ends, ts D σ H
def YDE (K : PySem.W.Frag) (E : XK) (te : TE) (ρ : Rho) (C : Addr) : Prop := ∀ (σ : L2.St) (Hs H : Hp), EnvD K Hs σ ρ → Same Hs H → (∀ Hs2 H2, Gr Hs H Hs2 H2 → E (.ref C) none H2) → ∀ Q : VK, te σ H Q
section
variable {K : PySem.W.Frag} {E : XK} {ρ ρ1 : Rho} {C : Addr} {t u u2 : TS} {c : TT} {b : Bool} {te : TE} {ta : TA} {ds : List PyData} {d : PyData} {R : List PyData → PyData → Prop} {X : List PyData → Addr → Prop} {sl : List Nat}
theorem ye_raise : YE K E (fun _ _ H => E (.ref C) none H) ρ C := fun σ Hs H e s q D => q Hs H (Gr.refl s)
theorem ye_seqE (h : YE K E t ρ C) : YE K E (tSeq t u) ρ C := fun σ Hs H e s q D => h σ Hs H e s q _
theorem ye_seq (h : YN K t sl ρ ρ1) (k : YE K E u ρ1 C) : YE K E (tSeq t u) ρ C := fun σ Hs H e s q D => h σ Hs H e s _ fun σ1 Hs1 H1 g1 e1 _ => k σ1 Hs1 H1 e1 g1.c (fun Hs2 H2 g2 => q Hs2 H2 (g1.trans g2)) D
theorem ye_next (h : YE K E u ρ C) : YE K E (tSeq tNext u) ρ C := fun σ Hs H e s q D => h σ Hs H e s q D
theorem ye_if (h : YT K c ρ b) (h1 : b = true → YE K E t ρ C) (h2 : b = false → YE K E u ρ C) : YE K E (tIfS c t u) ρ C := fun σ Hs H e s q D => h σ Hs H e s _ fun Hs1 H1 g1 => by
  cases b with
  | true => exact h1 rfl σ Hs1 H1 (e.mono g1.a) g1.c (fun Hs2 H2 g2 => q Hs2 H2 (g1.trans g2)) D
  | false => exact h2 rfl σ Hs1 H1 (e.mono g1.a) g1.c (fun Hs2 H2 g2 => q Hs2 H2 (g1.trans g2)) D
theorem ye_ifs (h : YT K c ρ b) (h1 : b = true → YE K E (tSeq t u2) ρ C) (h2 : b = false → YE K E (tSeq u u2) ρ C) : YE K E (tSeq (tIfS c t u) u2) ρ C := fun σ Hs H e s q D => h σ Hs H e s _ fun Hs1 H1 g1 => by
  cases b with
  | true => exact h1 rfl σ Hs1 H1 (e.mono g1.a) g1.c (fun Hs2 H2 g2 => q Hs2 H2 (g1.trans g2)) D
  | false => exact h2 rfl σ Hs1 H1 (e.mono g1.a) g1.c (fun Hs2 H2 g2 => q Hs2 H2 (g1.trans g2)) D
theorem ye_expr (h : YDE K E te ρ C) : YE K E (tDrop te) ρ C := fun σ Hs H e s q D => h σ Hs H e s q _
theorem ye_ret (h : YDE K E te ρ C) : YE K E (tRet te) ρ C := fun σ Hs H e s q D => h σ Hs H e s q _
theorem ye_asg {g : TG} (h : YDE K E te ρ C) : YE K E (tAsg te g) ρ C := fun σ Hs H e s q D => h σ Hs H e s q _
theorem yn_expr (h : YD K te ρ d) : YN K (tDrop te) [] ρ ρ := fun σ Hs H e s D q => h σ Hs H e s _ fun v Hs1 H1 g1 _ => q σ Hs1 H1 g1 (e.mono g1.a) fun _ _ => rfl
theorem yd_callX (h : YA K ta ρ ds) (hr : R ds d) : YD K (tCall (spX K R X) [] E ta) ρ d := fun σ Hs H e s Q q => h σ Hs H e s _ fun vs Hs1 H1 g1 r1 =>
  ⟨ds, Hs1, g1.c, by rw [List.append_nil]; exact r1, .inl ⟨d, hr, fun v Hs2 H2 g2 r2 => q v Hs2 H2 (g1.trans g2) r2⟩⟩
theorem yde_callX (h : YA K ta ρ ds) (hr : X ds C) : YDE K E (tCall (spX K R X) [] E ta) ρ C := fun σ Hs H e s q Q => h σ Hs H e s _ fun vs Hs1 H1 g1 r1 =>
  ⟨ds, Hs1, g1.c, by rw [List.append_nil]; exact r1, .inr ⟨C, hr, fun Hs2 H2 g2 => q Hs2 H2 (g1.trans g2)⟩⟩
end
theorem pe_dX {X : Cx} {k j : Nat} {x : Str} {sp : Sp} {E : XK} {e : Expr} {es : List Expr} {t : TA} {p pos : Pos} (c : Cal X.prog X.w X.K X.mg X.base (L2.CX X.prog X.w) k x sp) (hr : Room j X.A) (hk : k ≤ j) (tk : Takes X (fun cls d _ H => E cls d H)) (hg : Gl X x) (ha : PA X (e :: es) t)
    (hd : (x == ("__debug__" : Str)) = false := by decide) (he : starEach (e :: es) X.env = (false, eval e X.env) :: starEach es X.env := by rfl) (hpl : ((backTo pos (starEach es X.env)).any fun x => x.fst) = false := by rfl) : PE X (.Call (.Name x p) (e :: es) [] pos) (tCall sp [] E t) := by
  obtain ⟨f, fd, ps, F, hm, hkp, hb⟩ := c.ex
  exact pe_call (F.mono hk) hr hg hm hkp hb .nil (passes_call tk fun _ _ _ _ h => h) ha hd he hpl
/-- the rule of a def that may raise -/
theorem okX {P : Program} {w : World} {K : PySem.W.Frag} {mg : Str → Option Value} {base : Heap} {x qual : Str} {params : Arguments} {body : List Stmt} {scope : Scope} {f : Addr} {fd : FuncData} {N ps : List Str} {k : Nat} {R : List PyData → PyData → Prop} {X : List PyData → Addr → Prop}
    (F : FunD K x qual params body scope [] [] f fd) (S : FnScope N ps scope) (len1 : ∀ ds d, R ds d → ds.length = ps.length) (len2 : ∀ ds C, X ds C → ds.length = ps.length)
    (hbody : ∀ (cdv : Value) (A : Around) (outer : List Env) (s : Shared) (H : Hp) (E : XK), Room k (A.deeper (envOfC qual scope s.heap.objs.size f cdv)) →
      ∃ t, PSs (cxOf (L2.CX P w) P w K mg base N qual scope f cdv A outer s H E) body t ∧ (∀ ds d, R ds d → YR K t (startD N ds) d ∨ (d = .none ∧ ∃ ρ' sl, YN K t sl (startD N ds) ρ')) ∧ (∀ ds C, X ds C → YE K E t (startD N ds) C)) : FnOk P w K mg base (L2.CX P w) (k + 1) f fd ps (spX K R X) := by
  refine F.ok S (fun vs H Q E h => ?_) (fun cdv A outer s H vs Q E hr h => ?_)
  · obtain ⟨ds, Hs, _, hp, ⟨d, hR, _⟩ | ⟨C, hX, _⟩⟩ := h
    · rw [hp.len]
      exact len1 ds d hR
    · rw [hp.len]
      exact len2 ds C hX
  · obtain ⟨ds, Hs, hs, hp, h⟩ := h
    obtain ⟨t, h1, h2, h3⟩ := hbody cdv A outer s H E hr
    refine ⟨t, h1, ?_⟩
    rcases h with ⟨d, hR, q⟩ | ⟨C, hX, q⟩
    · rcases h2 ds d hR with h2 | ⟨rfl, ρ', sl, h2⟩
      · exact h2 _ Hs H (env_start hp) hs _ q
      · exact h2 _ Hs H (env_start hp) hs _ fun σ' Hs2 H2 g e _ => q _ Hs2 H2 g .non
    · exact h3 ds C hX _ Hs H (env_start hp) hs q _
end SG
set_option Elab.async false
set_option linter.all false
set_option maxRecDepth 100000
set_option maxHeartbeats 4000000
namespace SG
open PySem PySem.Spec PyProof.Rows L2
/-! ### sorting pairs -/
theorem ltPr_iff {a b : Int × Int} : ltPr a b = true ↔ a.1 < b.1 ∨ (a.1 = b.1 ∧ a.2 < b.2) := by
  simp [ltPr]
def lePr (a b : Int × Int) : Bool := !ltPr b a
theorem lePr_iff {a b : Int × Int} : lePr a b = true ↔ a.1 < b.1 ∨ (a.1 = b.1 ∧ a.2 ≤ b.2) := by
  unfold lePr
  rw [Bool.not_eq_true', ← Bool.not_eq_true, ltPr_iff]
  omega
def insP (x : Int × Int) : List (Int × Int) → List (Int × Int)
  | [] => [x]
  | y :: r => if lePr x y then x :: y :: r else y :: insP x r
def sortP : List (Int × Int) → List (Int × Int)
  | [] => []
  | x :: r => insP x (sortP r)
theorem insP_perm (x : Int × Int) : ∀ l, (insP x l).Perm (x :: l)
  | [] => List.Perm.refl _
  | y :: r => by
    unfold insP
    split
    · exact List.Perm.refl _
    · exact ((insP_perm x r).cons y).trans (List.Perm.swap x y r)
theorem sortP_perm : ∀ l, (sortP l).Perm l
  | [] => List.Perm.refl _
  | x :: r => (insP_perm x _).trans ((sortP_perm r).cons x)
theorem sortP_len (l : List (Int × Int)) : (sortP l).length = l.length := (sortP_perm l).length_eq
theorem sortP_mem {l : List (Int × Int)} {x : Int × Int} : x ∈ sortP l ↔ x ∈ l := (sortP_perm l).mem_iff
theorem insP_srt (x : Int × Int) : ∀ {l : List (Int × Int)}, l.Pairwise (fun a b => lePr a b = true) → (insP x l).Pairwise (fun a b => lePr a b = true)
  | [], _ => by simp [insP]
  | y :: r, h => by
    obtain ⟨h1, h2⟩ := List.pairwise_cons.mp h
    unfold insP
    split
    · rename_i hx
      refine List.pairwise_cons.mpr ⟨fun z hz => ?_, h⟩
      rcases List.mem_cons.mp hz with rfl | hz
      · exact hx
      · have a := lePr_iff.mp hx
        have b := lePr_iff.mp (h1 z hz)
        exact lePr_iff.mpr (by omega)
    · rename_i hx
      refine List.pairwise_cons.mpr ⟨fun z hz => ?_, insP_srt x h2⟩
      rcases List.mem_cons.mp ((insP_perm x r).mem_iff.mp hz) with rfl | hz
      · have a := mt lePr_iff.mpr hx
        exact lePr_iff.mpr (by omega)
      · exact h1 z hz
theorem sortP_srt : ∀ l, (sortP l).Pairwise (fun a b => lePr a b = true)
  | [] => List.Pairwise.nil
  | x :: r => insP_srt x (sortP_srt r)
theorem srt_uniq : ∀ {l m : List (Int × Int)}, l.Pairwise (fun a b => lePr a b = true) → m.Pairwise (fun a b => lePr a b = true) → l.Perm m → l = m
  | [], m, _, _, h => (List.Perm.eq_nil h.symm).symm
  | x :: l, [], _, _, h => absurd h.length_eq (by simp)
  | x :: l, y :: m, hl, hm, h => by
    obtain ⟨l1, l2⟩ := List.pairwise_cons.mp hl
    obtain ⟨m1, m2⟩ := List.pairwise_cons.mp hm
    have e : x = y := by
      have a : lePr x y = true := by
        rcases List.mem_cons.mp (h.mem_iff.mpr (List.mem_cons_self (a := y) (l := m))) with e | hy
        · rw [e]; exact lePr_iff.mpr (by omega)
        · exact l1 y hy
      have b : lePr y x = true := by
        rcases List.mem_cons.mp (h.mem_iff.mp (List.mem_cons_self (a := x) (l := l))) with e | hy
        · rw [e]; exact lePr_iff.mpr (by omega)
        · exact m1 x hy
      have a := lePr_iff.mp a
      have b := lePr_iff.mp b
      exact Prod.ext (by omega) (by omega)
    subst e
    rw [srt_uniq l2 m2 h.cons_inv]
theorem dP_inj {a b : Int × Int} (h : dP a = dP b) : a = b := by
  simp [dP] at h
  exact Prod.ext h.1 h.2
section
variable {K : PySem.W.Frag}
theorem rp_pair {Hs : Hp} {v : V} {p : Int × Int} (h : Rp K Hs v (dP p)) : ∃ t, v = .ref t ∧ Hs t = some (.tup [.int p.1, .int p.2]) := by
  cases h with
  | tup hs ha =>
    have e := RpAll.ints_eq (ns := [p.1, p.2]) ha
    subst e
    exact ⟨_, rfl, hs⟩
theorem rp_of_pair {Hs : Hp} {t : Addr} {p : Int × Int} (h : Hs t = some (.tup [.int p.1, .int p.2])) : Rp K Hs (.ref t) (dP p) := .tup h (.cons (.int _) (.cons (.int _) .nil))
theorem rp_pair_fn {Hs : Hp} {v : V} {p q : Int × Int} (h : Rp K Hs v (dP p)) (k : Rp K Hs v (dP q)) : p = q := by
  obtain ⟨t, rfl, h1⟩ := rp_pair h
  obtain ⟨u, e, k1⟩ := rp_pair k
  cases e
  rw [h1] at k1
  simp at k1
  exact Prod.ext k1.1 k1.2
open Classical in
noncomputable def keyP (K : PySem.W.Frag) (Hs : Hp) (v : V) : Int × Int := if h : ∃ p, Rp K Hs v (dP p) then h.choose else (0, 0)
theorem keyP_eq {Hs : Hp} {v : V} {p : Int × Int} (h : Rp K Hs v (dP p)) : keyP K Hs v = p := by
  have hx : ∃ p, Rp K Hs v (dP p) := ⟨p, h⟩
  unfold keyP
  rw [dif_pos hx]
  exact rp_pair_fn hx.choose_spec h
theorem keyP_map {Hs : Hp} : ∀ {vs : List V} {ps : List (Int × Int)}, RpAll K Hs vs (ps.map dP) → vs.map (keyP K Hs) = ps
  | _, [], .nil => rfl
  | _, p :: ps, .cons a b => by rw [List.map_cons, keyP_eq a, keyP_map b]
theorem keyP_mem {Hs : Hp} : ∀ {vs : List V} {ps : List (Int × Int)}, RpAll K Hs vs (ps.map dP) → ∀ v ∈ vs, Rp K Hs v (dP (keyP K Hs v))
  | _, [], .nil, v, hv => nomatch hv
  | _, p :: ps, .cons a b, v, hv => by
    rcases List.mem_cons.mp hv with e | hv
    · rw [e, keyP_eq a]; exact a
    · exact keyP_mem b v hv
theorem keyP_all {Hs : Hp} : ∀ {vs : List V}, (∀ v ∈ vs, Rp K Hs v (dP (keyP K Hs v))) → RpAll K Hs vs ((vs.map (keyP K Hs)).map dP)
  | [], _ => .nil
  | v :: vs, h => .cons (h v List.mem_cons_self) (keyP_all fun u hu => h u (List.mem_cons_of_mem _ hu))
theorem lexB_lt {a b : Int × Int} : SrtO.lexB a b = ltPr a b := by
  have h1 := SrtO.lexB_iff (p := a) (q := b)
  have h2 := ltPr_iff (a := a) (b := b)
  have h3 : (SrtO.lexB a b = true) ↔ (ltPr a b = true) := h1.trans h2.symm
  cases e : SrtO.lexB a b <;> cases e' : ltPr a b <;> simp [e, e'] at h3 ⊢
/-- sorted rearrangements of a list of pairs, as data -/
theorem srt_data {Hs : Hp} {xs ys : List V} {ps : List (Int × Int)} (h : RpAll K Hs xs (ps.map dP)) (hs : SrtO.Srtd (ltP (keyP K Hs)) ys) (hp : ys.Perm xs) : RpAll K Hs ys ((sortP ps).map dP) := by
  have h1 := keyP_all (K := K) (Hs := Hs) (vs := ys) fun v hv => keyP_mem h v (hp.mem_iff.mp hv)
  have e : ys.map (keyP K Hs) = sortP ps := by
    refine srt_uniq ?_ (sortP_srt ps) ?_
    · rw [List.pairwise_map]
      refine List.Pairwise.imp (fun {a b} hab => ?_) hs
      unfold lePr
      rw [← lexB_lt]
      have z : SrtO.lexB (keyP K Hs b) (keyP K Hs a) = false := hab
      rw [z]
      rfl
    · have := hp.map (keyP K Hs)
      rw [keyP_map h] at this
      exact this.trans (sortP_perm ps).symm
  rw [e] at h1
  exact h1
theorem rc_sortedP {ps : List (Int × Int)} : RC K (rSortedPO K) [.list (ps.map dP)] (.list ((sortP ps).map dP)) := fun vs Hs H s h Q q => by
  cases h with
  | cons h1 h2 => cases h2; cases h1 with
    | lst hs ha =>
      refine ⟨_, _, keyP K Hs, rfl, sqL_mono s hs, fun x hx => ?_, fun ys p h1 h2 hp => ?_⟩
      · obtain ⟨t, e, ht⟩ := rp_pair (keyP_mem ha x hx)
        exact ⟨t, e, s _ _ ht⟩
      · exact q _ _ _ (Gr.new s hp) (rp_lst (H := H) (same_none s hp) (srt_data ha h1 h2.perm))
/-! ### a list that may still change, read for a moment -/
theorem EnvD.own {Hs : Hp} {σ : L2.St} {ρ : Rho} {j : Nat} {p : Addr} {vs : List V} {ds : List PyData} (h : EnvD K Hs σ ρ) (hσ : σ[j]? = some (some (.ref p))) (hp : Hs p = none) (ha : RpAll K Hs vs ds) : EnvD K (upd Hs p (.lst vs)) σ (ρ.set j (some (.list ds))) := by
  have h2 := (h.mono (same_new (o := .lst vs) hp)).set j (rp_lst (H := Hs) hp ha)
  have e : σ.set j (some (.ref p)) = σ := by
    apply List.ext_getElem?
    intro i
    by_cases hi : i = j
    · subst hi
      have hl := (List.getElem?_eq_some_iff.mp hσ).1
      rw [List.getElem?_set_self hl, hσ]
    · rw [List.getElem?_set_ne (Ne.symm hi)]
  rw [e] at h2
  exact h2
theorem same_own {Hs H : Hp} {p : Addr} {o : HO} (s : Same Hs H) (h : H p = some o) : Same (upd Hs p o) H := fun b x e => by
  by_cases hb : b = p
  · subst hb
    rw [upd_same] at e
    rw [h]
    exact e
  · rw [upd_ne hb] at e
    exact s b x e
/-- l.append(e), l a list that may change -/
theorem s_append {j : Nat} {σ : L2.St} {Hs H : Hp} {p : Addr} {vs : List V} {te : TE} {ρ : Rho} {d : PyData} {D : Ends} (hσ : σ[j]? = some (some (.ref p))) (hp : H p = some (.lst vs)) (h : YD K te ρ d) (e : EnvD K Hs σ ρ) (s : Same Hs H) (hl : vs.length < 50000)
    (k : ∀ v Hs2 H2, Gr Hs H Hs2 H2 → Rp K Hs2 v d → D.nx σ (upd H2 p (.lst (vs ++ [v])))) : tDrop (tBM K "list" rAppend (tVar j) (tCons te tNil)) D σ H :=
  ⟨.ref p, hσ, .inl ⟨rfl, vs, .inl (.inl hp)⟩, h σ Hs H e s _ fun v Hs2 H2 g r => ⟨p, vs, v, rfl, rfl, g.b _ _ hp, sz_lt (by omega), k v Hs2 H2 g r⟩⟩
end
/-! ### shapes and equality -/
theorem shp {d : PyData} (h1 : d.canLay0 = true) (h2 : d.depth ≤ 64) : SeqAt.shaped d = true := by
  unfold SeqAt.shaped
  rw [h1, decide_eq_true h2]
  rfl
theorem lay_pairs : ∀ ps : List (Int × Int), PyData.canLayAll0 (ps.map dP) = true
  | [] => rfl
  | p :: ps => by
    show ((dP p).canLay0 && PyData.canLayAll0 (ps.map dP)) = true
    rw [lay_pairs ps]
    rfl
theorem depth_pairs : ∀ ps : List (Int × Int), PyData.depthAll (ps.map dP) ≤ 1
  | [] => by decide
  | p :: ps => by
    show max (dP p).depth (PyData.depthAll (ps.map dP)) ≤ 1
    have h := depth_pairs ps
    have : (dP p).depth = 1 := rfl
    omega
theorem shp_pair (p : Int × Int) : SeqAt.shaped (dP p) = true := rfl
theorem shp_pairs (ps : List (Int × Int)) : SeqAt.shaped (.list (ps.map dP)) = true := shp (lay_pairs ps) (by
  show PyData.depthAll (ps.map dP) + 1 ≤ 64
  have := depth_pairs ps
  omega)
theorem eqv_pair (a b : Int × Int) : PyData.eqv (dP a) (dP b) = decide (a = b) := by
  show ((a.1 == b.1) && ((a.2 == b.2) && true)) = decide (a = b)
  by_cases h : a = b
  · subst h
    simp
  · rw [decide_eq_false h]
    have : ¬ (a.1 = b.1 ∧ a.2 = b.2) := fun z => h (Prod.ext z.1 z.2)
    by_cases h1 : a.1 = b.1 <;> by_cases h2 : a.2 = b.2 <;> simp_all
theorem any_pairs (q : Int × Int) : ∀ ps : List (Int × Int), (ps.map dP).any (fun z => PyData.eqv z (dP q)) = decide (q ∈ ps)
  | [] => rfl
  | p :: ps => by
    rw [List.map_cons, List.any_cons, any_pairs q ps, eqv_pair]
    by_cases h : p = q
    · subst h
      simp
    · rw [decide_eq_false h, Bool.false_or]
      by_cases h2 : q ∈ ps
      · rw [decide_eq_true h2, decide_eq_true (List.mem_cons_of_mem _ h2)]
      · rw [decide_eq_false h2, decide_eq_false fun z => (List.mem_cons.mp z).elim (fun e => h e.symm) h2]
end SG
set_option Elab.async false
set_option linter.all false
set_option maxRecDepth 100000
set_option maxHeartbeats 4000000
namespace SG
open PySem PySem.Spec PyProof.Rows L2
/-! ### sorted(d), the keys of d pairs of ints -/
def rSortedDT : List V → Hp → VK → Prop := fun xs H Q => ∃ (d : Addr) (kvs : List (List Key × V)) (k : V → Int × Int), xs = [.ref d] ∧ Rd H d (.dT kvs) ∧
  (∀ bs, IsKeys H kvs bs → ∀ b ∈ bs, H b = some (.tup [.int (k (.ref b)).1, .int (k (.ref b)).2])) ∧
  ∀ bs ys p, IsKeys H kvs bs → SrtO.Srtd (ltP k) ys → SrtO.Stb (ltP k) ys (bs.map V.ref) → H p = none → Q (.ref p) (upd H p (.lst ys))
section
variable {X : Cx}
theorem call_sortedDT (hc : X.calm = true) : CallR X (.builtin "sorted") rSortedDT := by
  intro pins s σ H xs us Q I r h
  obtain ⟨d, kvs, k, rfl, hd, hk, q⟩ := h
  obtain ⟨u, rfl, rx⟩ := vals1 r
  cases rx
  obtain ⟨z, hs, ks, pr, o, es, ep, ho, hx, hdt, he, hn⟩ := (show ObjOk X.prog X.w H s.heap d (.dT kvs) from hd.ok I.hok)
  have l1 : es.size = ks.length := size_of_entries he
  have l2 : kvs.length = ks.length := Paired.length pr
  have isk := isKeys_of pr
  have hkb := hk _ isk
  refine Calls.call_function_entry PyProof.Rows.kind_sorted PyProof.Rows.plain_sorted PyProof.Rows.entry_sorted (PyProof.Rows.args_sorted1 _) ?_
  unfold Builtin.«sorted»
  refine wpAny_bind (m := checkCount "sorted" 1 1 _) (wpAny_pure ?_)
  refine wpAny_bind (PySem.W.kdu_collect (A := X.A.in1) (kdl_raw hs hx hdt) (I.ok.hd hc) ho (by omega) fun h' tk acc' kp it => ?_)
  have ea : acc'.toList = ks.map fun x => Value.ref x.2.1 := by
    have hl : acc'.toList.length = ks.length := by rw [Array.length_toList, it.1]; exact l1
    apply List.ext_getElem?
    intro j
    rw [List.getElem?_map]
    cases hj : acc'.toList[j]? with
    | none =>
      have h1 := List.getElem?_eq_none_iff.mp hj
      rw [List.getElem?_eq_none (by omega)]
      all_goals rfl
    | some v =>
      obtain ⟨en, hen, hv⟩ := it.2 j v (by rw [← Array.getElem?_toList]; exact hj)
      have qe := entry_at he j
      rw [hen] at qe
      cases hb : ks[j]? with
      | none =>
        rw [hb] at qe
        exact nomatch (show some en = none from qe)
      | some b =>
        rw [hb] at qe
        have e2 : en = entryOfKey (tupleKind (mixKind X.prog X.w)) b := Option.some.inj qe
        rw [hv, e2]
        all_goals rfl
  have eb : acc'.toList = (ks.map fun x => x.2.1).map Value.ref := by rw [ea, List.map_map]; all_goals rfl
  generalize hbs : (ks.map fun x => x.2.1) = bs at eb isk hkb
  have hbl : bs.length = ks.length := by rw [← hbs, List.length_map]
  have I1 : Inv X pins σ H { s with heap := h', toks := tk } := I.kept kp
  have hz : acc'.toList.length ≤ sizeLine := by rw [eb, List.length_map]; omega
  refine wpAny_bind (wpAny_newList ?_ hz)
  have hoL : (h'.push (seqObj "list" acc'.toList.toArray 0)).get? h'.objs.size = some (seqObj "list" acc'.toList.toArray 0) := Heap.get?_push_size _ rfl
  show wpAny _ _ _ _ _ { s with heap := h'.push (seqObj "list" acc'.toList.toArray 0), toks := tk }
  let kk : Value → Int × Int := fun u => match u with | .ref b => k (.ref b) | _ => (0, 0)
  have hp : ∀ v ∈ acc'.toList, Srt.IsPair (h'.push (seqObj "list" acc'.toList.toArray 0)) v (kk v).1 (kk v).2 := fun v hv => by
    rw [eb] at hv
    obtain ⟨b, hb, rfl⟩ := List.mem_map.mp hv
    obtain ⟨_, its2, r2, o2, ho2, hc2, n2, hd2⟩ := I1.hok _ _ (hkb b hb)
    obtain ⟨u1, u2, rfl, ri, rj⟩ := vals2 r2
    obtain ⟨t1, rfl⟩ := ri
    obtain ⟨t2, rfl⟩ := rj
    exact ⟨b, o2, t1, t2, n2, rfl, Heap.get?_push_of_some _ ho2, hc2, hd2⟩
  refine wpAny_bind (wpAny_holding (wpAny_call_entry PyProof.Rows.slot_list_sort ⟨_, hoL, rfl⟩ PyProof.Rows.entry_list_sort
    (SrtO.list_sort_ord (s := { s with heap := h'.push (seqObj "list" acc'.toList.toArray 0), toks := tk }) (SrtO.swo_lex kk) hoL hz (fun h2 => SrtO.pairs_sortableO (by omega) hp fun o' e => ?_) fun out g1 g2 => ⟨_, rfl, ?_⟩) (PyProof.Rows.args_list_sort _)))
  · have e' : some o' = some (seqObj "list" acc'.toList.toArray 0) := e.symm.trans hoL
    cases e'
    intro c
    exact absurd (Value.type.inj c) (by decide)
  · obtain ⟨e', he'⟩ := PyProof.Rows.sortedHeap_at (vs := acc'.toList) (out := out.toArray) hoL
    have hmem : ∀ u ∈ out, ∃ b ∈ bs, u = Value.ref b := fun u hu => by
      have := g2.perm.mem_iff.mp hu
      rw [eb] at this
      obtain ⟨b, hb, e⟩ := List.mem_map.mp this
      exact ⟨b, hb, e.symm⟩
    let bk : Value → V := fun u => match u with | .ref b => .ref b | _ => .non
    have rv : Vals (out.map bk) out := by
      have : ∀ l : List Value, (∀ u ∈ l, ∃ b ∈ bs, u = Value.ref b) → Vals (l.map bk) l := fun l => by
        induction l with
        | nil => exact fun _ => .nil
        | cons u l ih =>
          intro h
          obtain ⟨b, _, rfl⟩ := h u List.mem_cons_self
          exact .cons rfl (ih fun w hw => h w (List.mem_cons_of_mem _ hw))
      exact this out hmem
    have e3 : acc'.toList.map bk = bs.map V.ref := by rw [eb, List.map_map]; rfl
    have hk2 : ∀ u ∈ out, k (bk u) = kk u := fun u hu => by
      obtain ⟨b, _, rfl⟩ := hmem u hu
      rfl
    have s1 : SrtO.Srtd (ltP k) (out.map bk) := by
      refine List.pairwise_map.mpr ?_
      refine List.Pairwise.imp_of_mem (fun {a b} ha hb hab => ?_) g1
      show SrtO.lexB (k (bk b)) (k (bk a)) = false
      rw [hk2 a ha, hk2 b hb]
      exact hab
    have s2 : SrtO.Stb (ltP k) (out.map bk) (bs.map V.ref) := by
      rw [← e3]
      -- bk is carried over: kk = k after bk on both
      have hk3 : ∀ u ∈ acc'.toList, k (bk u) = kk u := fun u hu => hk2 u (g2.perm.mem_iff.mpr hu)
      refine ⟨g2.perm.map bk, fun x => ?_⟩
      have key : ∀ l : List Value, (∀ u ∈ l, k (bk u) = kk u) → (∀ u ∈ l, ∃ b ∈ bs, u = Value.ref b) → (l.map bk).filter (SrtO.eqv (ltP k) x) = (l.filter fun u => !SrtO.lexB (k x) (kk u) && !SrtO.lexB (kk u) (k x)).map bk := fun l => by
        induction l with
        | nil => exact fun _ _ => rfl
        | cons u l ih =>
          intro h1 h2
          have e1 : SrtO.eqv (ltP k) x (bk u) = (!SrtO.lexB (k x) (kk u) && !SrtO.lexB (kk u) (k x)) := by
            show (!SrtO.lexB (k x) (k (bk u)) && !SrtO.lexB (k (bk u)) (k x)) = _
            rw [h1 u List.mem_cons_self]
          have ih2 := ih (fun w hw => h1 w (List.mem_cons_of_mem _ hw)) fun w hw => h2 w (List.mem_cons_of_mem _ hw)
          rw [List.map_cons, List.filter_cons, List.filter_cons, e1]
          by_cases hh : (!SrtO.lexB (k x) (kk u) && !SrtO.lexB (kk u) (k x)) = true
          · rw [if_pos hh, if_pos hh, List.map_cons, ih2]
          · rw [if_neg hh, if_neg hh, ih2]
      rw [key out hk2 hmem, key acc'.toList hk3 fun u hu => hmem u (g2.perm.mem_iff.mpr hu)]
      by_cases hne : ∃ u ∈ out, (!SrtO.lexB (k x) (kk u) && !SrtO.lexB (kk u) (k x)) = true
      · obtain ⟨u, hu, hh⟩ := hne
        have hx2 : SrtO.lexB (k x) (kk u) = false ∧ SrtO.lexB (kk u) (k x) = false := by simpa using hh
        have exu : k x = kk u := by
          have a := SrtO.lexB_no.mp hx2.1
          have b := SrtO.lexB_no.mp hx2.2
          exact Prod.ext (by omega) (by omega)
        rw [exu]
        exact congrArg (List.map bk) (g2.cls u)
      · have no : ∀ l : List Value, (∀ u ∈ l, u ∈ out) → l.filter (fun u => !SrtO.lexB (k x) (kk u) && !SrtO.lexB (kk u) (k x)) = [] := fun l hl => List.filter_eq_nil_iff.mpr fun u hu q => hne ⟨u, hl u hu, q⟩
        rw [no out fun _ h => h, no acc'.toList fun u hu => g2.perm.mem_iff.mpr hu]
    have hlen : (out.map bk).length ≤ sizeLine := by
      rw [List.length_map, g2.perm.length_eq]
      exact hz
    refine wpAny_pure ⟨_, rfl, .ref h'.objs.size, upd H h'.objs.size (.lst (out.map bk)), I1.laid (t' := tk) (fun b u e => ?_) (Nat.le_refl _)
      (show ObjOk X.prog X.w _ _ _ (.lst (out.map bk)) from ⟨hlen, out, e', rv, he'⟩), rfl, q bs _ _ isk s1 s2 (I1.hok.fresh (Nat.le_refl _))⟩
    have hb : b < h'.objs.size := Heap.lt_size e
    rw [PyProof.Rows.sortedHeap_old (Nat.ne_of_lt hb) (by rw [size_push']; exact Nat.lt_succ_of_lt hb)]
    exact Heap.get?_push_of_some _ e
end
end SG
set_option Elab.async false
set_option linter.all false
set_option maxRecDepth 100000
set_option maxHeartbeats 4000000
namespace SG
open PySem PySem.Spec PyProof.Rows L2
/-! ### growth but for some changing objects -/
structure GrX (ms : List Addr) (Hs H Hs2 H2 : Hp) : Prop where
  a : Same Hs Hs2
  b : ∀ x o, x ∉ ms → H x = some o → H2 x = some o
  c : Same Hs2 H2
  d : ∀ x, Mu (H x) → Hs x = none → Hs2 x = none
  e : ∀ x, H x ≠ none → H2 x ≠ none
  m : ∀ x, Mu (H x) → Mu (H2 x)
section
variable {ms : List Addr} {Hs H Hs1 H1 Hs2 H2 : Hp} {p : Addr} {o : HO}
theorem Gr.x (g : Gr Hs H Hs2 H2) : GrX ms Hs H Hs2 H2 := ⟨g.a, fun x o _ h => g.b x o h, g.c, g.d, fun x h z => h (same_none g.b z), fun x h => h.same g.b⟩
theorem GrX.trans (g : GrX ms Hs H Hs1 H1) (k : GrX ms Hs1 H1 Hs2 H2) : GrX ms Hs H Hs2 H2 :=
  ⟨g.a.trans k.a, fun x o h1 h2 => k.b x o h1 (g.b x o h1 h2), k.c, fun x h1 h2 => k.d x (g.m x h1) (g.d x h1 h2), fun x h => k.e x (g.e x h), fun x h => k.m x (g.m x h)⟩
theorem GrX.mono {ms' : List Addr} (g : GrX ms Hs H Hs1 H1) (h : ∀ x ∈ ms, x ∈ ms') : GrX ms' Hs H Hs1 H1 :=
  ⟨g.a, fun x o h1 h2 => g.b x o (fun z => h1 (h x z)) h2, g.c, g.d, g.e, g.m⟩
/-- an object of ms is changed -/
theorem GrX.put (g : GrX ms Hs H Hs1 H1) (hm : p ∈ ms) (hs : Hs1 p = none) (ho : Mu (some o) := by trivial) : GrX ms Hs H Hs1 (upd H1 p o) where
  a := g.a
  b := fun x u h1 h2 => by
    rw [upd_ne (fun z => h1 (by rw [z]; exact hm))]
    exact g.b x u h1 h2
  c := fun x u e => by
    rw [upd_ne (ne_of_none e hs)]
    exact g.c x u e
  d := g.d
  e := fun x h => by
    by_cases hx : x = p
    · subst hx
      rw [upd_same]
      exact fun z => nomatch z
    · rw [upd_ne hx]
      exact g.e x h
  m := fun x h => by
    by_cases hx : x = p
    · subst hx
      rw [upd_same]
      exact ho
    · rw [upd_ne hx]
      exact g.m x h
theorem GrX.fresh (g : GrX ms Hs H Hs1 H1) (hp : H1 p = none) : GrX ms Hs H Hs1 (upd H1 p o) where
  a := g.a
  b := fun x u h1 h2 => by
    rw [upd_ne (ne_of_none (g.b x u h1 h2) hp)]
    exact g.b x u h1 h2
  c := g.c.trans (same_new hp)
  d := g.d
  e := fun x h => by
    by_cases hx : x = p
    · subst hx
      rw [upd_same]
      exact fun z => nomatch z
    · rw [upd_ne hx]
      exact g.e x h
  m := fun x h => by
    have hx : x ≠ p := fun z => by
      have := g.m x h
      rw [z, hp] at this
      exact this
    rw [upd_ne hx]
    exact g.m x h
theorem GrX.none (g : GrX ms Hs H Hs1 H1) (hp : H1 p = Option.none) : H p = Option.none := by
  cases e : H p with
  | none => rfl
  | some o => exact absurd hp (g.e p (by rw [e]; exact fun z => nomatch z))
/-- pure growth behind -/
theorem GrX.gr (g : GrX ms Hs H Hs1 H1) (k : Gr Hs1 H1 Hs2 H2) : GrX ms Hs H Hs2 H2 := g.trans k.x
end
/-! ### slots written out -/
section
variable {K : PySem.W.Frag} {Hs : Hp} {σ : L2.St} {ρ : Rho}
theorem env_nil : EnvD K Hs [] [] := ⟨rfl, fun i d h => by simp at h⟩
theorem env_some {v : V} {d : PyData} (r : Rp K Hs v d) (h : EnvD K Hs σ ρ) : EnvD K Hs (some v :: σ) (some d :: ρ) := by
  refine ⟨congrArg (· + 1) h.1, fun i e q => ?_⟩
  cases i with
  | zero =>
    have : d = e := by simpa using q
    subst this
    exact ⟨v, rfl, r⟩
  | succ i => simpa using h.2 i e (by simpa using q)
theorem env_none {x : Option V} (h : EnvD K Hs σ ρ) : EnvD K Hs (x :: σ) (none :: ρ) := by
  refine ⟨congrArg (· + 1) h.1, fun i e q => ?_⟩
  cases i with
  | zero => simp at q
  | succ i => simpa using h.2 i e (by simpa using q)
end
/-! ### dicts whose keys are pairs -/
def kp (k : Int × Int) : List Key := [.inl k.1, .inl k.2]
theorem kp_inj {a b : Int × Int} (h : kp a = kp b) : a = b := by
  simp [kp] at h
  exact Prod.ext h.1 h.2
theorem kp_tup (k : Int × Int) : (kp k).map kV = [.int k.1, .int k.2] := rfl
def RpT (K : PySem.W.Frag) (Hs : Hp) : List (List Key × V) → List ((Int × Int) × PyData) → Prop
  | [], [] => True
  | (k, v) :: r, (k', d) :: r' => k = kp k' ∧ Rp K Hs v d ∧ RpT K Hs r r'
  | _, _ => False
def lookT (kt : List ((Int × Int) × PyData)) (k : Int × Int) : Option PyData := (kt.find? fun q => decide (q.1 = k)).map (·.2)
def putT (kt : List ((Int × Int) × PyData)) (k : Int × Int) (d : PyData) : List ((Int × Int) × PyData) :=
  if (kt.any fun q => decide (q.1 = k)) = true then kt.map (fun q => if q.1 = k then (q.1, d) else q) else kt ++ [(k, d)]
section
variable {K : PySem.W.Frag}
theorem RpT.mono {Hs Hs2 : Hp} (e : Same Hs Hs2) : ∀ {kvs : List (List Key × V)} {kt : List ((Int × Int) × PyData)}, RpT K Hs kvs kt → RpT K Hs2 kvs kt
  | [], [], _ => trivial
  | (k, v) :: r, (k', d) :: r', h => ⟨h.1, h.2.1.mono e, RpT.mono e h.2.2⟩
theorem RpT.len {Hs : Hp} : ∀ {kvs : List (List Key × V)} {kt : List ((Int × Int) × PyData)}, RpT K Hs kvs kt → kvs.length = kt.length
  | [], [], _ => rfl
  | (k, v) :: r, (k', d) :: r', h => congrArg (· + 1) (RpT.len h.2.2)
theorem RpT.look {Hs : Hp} (k : Int × Int) : ∀ {kvs : List (List Key × V)} {kt : List ((Int × Int) × PyData)}, RpT K Hs kvs kt → (∀ d, lookT kt k = some d → ∃ v, valV kvs (kp k) = some v ∧ Rp K Hs v d) ∧ (lookT kt k = none → valV kvs (kp k) = none)
  | [], [], _ => ⟨fun d h => (nomatch h), fun _ => rfl⟩
  | (k1, v) :: r, (k', d) :: r', h => by
    obtain ⟨rfl, hv, hr⟩ := h
    obtain ⟨i1, i2⟩ := RpT.look k hr
    by_cases e : k' = k
    · subst e
      rw [valV_pos rfl]
      refine ⟨fun d' hd => ?_, fun hn => ?_⟩
      · simp [lookT] at hd
        subst hd
        exact ⟨v, rfl, hv⟩
      · simp [lookT] at hn
    · have e2 : ¬ kp k' = kp k := fun z => e (kp_inj z)
      rw [valV_neg e2]
      have e3 : lookT ((k', d) :: r') k = lookT r' k := by simp [lookT, List.find?_cons, e]
      rw [e3]
      exact ⟨i1, i2⟩
theorem RpT.any {Hs : Hp} (k : Int × Int) : ∀ {kvs : List (List Key × V)} {kt : List ((Int × Int) × PyData)}, RpT K Hs kvs kt → (kvs.any fun q => decide (q.1 = kp k)) = kt.any fun q => decide (q.1 = k)
  | [], [], _ => rfl
  | (k1, v) :: r, (k', d) :: r', h => by
    obtain ⟨rfl, hv, hr⟩ := h
    rw [List.any_cons, List.any_cons, RpT.any k hr]
    congr 1
    by_cases e : k' = k
    · subst e; simp
    · rw [decide_eq_false e, decide_eq_false fun z => e (kp_inj z)]
theorem RpT.snoc {Hs : Hp} {k : Int × Int} {v : V} {d : PyData} (hv : Rp K Hs v d) : ∀ {kvs : List (List Key × V)} {kt : List ((Int × Int) × PyData)}, RpT K Hs kvs kt → RpT K Hs (kvs ++ [(kp k, v)]) (kt ++ [(k, d)])
  | [], [], _ => ⟨rfl, hv, trivial⟩
  | (k1, v) :: r, (k', d) :: r', h => ⟨h.1, h.2.1, RpT.snoc hv h.2.2⟩
theorem RpT.repl {Hs : Hp} {k : Int × Int} {v : V} {d : PyData} (hv : Rp K Hs v d) : ∀ {kvs : List (List Key × V)} {kt : List ((Int × Int) × PyData)}, RpT K Hs kvs kt → RpT K Hs (kvs.map fun q => if q.1 = kp k then (q.1, v) else q) (kt.map fun q => if q.1 = k then (q.1, d) else q)
  | [], [], _ => trivial
  | (k1, v1) :: r, (k', d1) :: r', h => by
    obtain ⟨rfl, h1, hr⟩ := h
    have ih := RpT.repl (k := k) hv hr
    rw [List.map_cons, List.map_cons]
    by_cases e : k' = k
    · subst e
      rw [if_pos rfl, if_pos rfl]
      exact ⟨rfl, hv, ih⟩
    · rw [if_neg e, if_neg (fun z => e (kp_inj z))]
      exact ⟨rfl, h1, ih⟩
theorem RpT.put {Hs : Hp} {k : Int × Int} {v : V} {d : PyData} {kvs : List (List Key × V)} {kt : List ((Int × Int) × PyData)} (h : RpT K Hs kvs kt) (hv : Rp K Hs v d) : RpT K Hs (putK kvs (kp k) v) (putT kt k d) := by
  unfold putK putT
  rw [h.any k]
  split
  · exact RpT.repl hv h
  · exact RpT.snoc hv h
theorem RpT.isSome {Hs : Hp} {k : Int × Int} {kvs : List (List Key × V)} {kt : List ((Int × Int) × PyData)} (h : RpT K Hs kvs kt) : (valV kvs (kp k)).isSome = (lookT kt k).isSome := by
  obtain ⟨h1, h2⟩ := h.look k
  cases e : lookT kt k with
  | none =>
    rw [h2 e]
    rfl
  | some d =>
    obtain ⟨v, e2, _⟩ := h1 d e
    rw [e2]
    rfl
/-- the keys, sorted: a list of key tuples -/
theorem keys_of {Hs H : Hp} : ∀ {kvs : List (List Key × V)} {kt : List ((Int × Int) × PyData)} {bs : List Addr}, RpT K Hs kvs kt → IsKeys H kvs bs → RpAll K H (bs.map V.ref) ((kt.map (·.1)).map dP)
  | [], [], _, _, .nil => .nil
  | (k, v) :: r, (k', d) :: r', _, h, .cons h1 h2 => by
    obtain ⟨rfl, _, hr⟩ := h
    exact .cons (rp_of_pair h1) (keys_of hr h2)
theorem rp_settle {H : Hp} : ∀ {ps : List (Int × Int)} {ys : List V} {Hs : Hp}, RpAll K H ys (ps.map dP) → Same Hs H → ∃ Hs', Gr Hs H Hs' H ∧ RpAll K Hs' ys (ps.map dP)
  | [], _, Hs, .nil, s => ⟨Hs, Gr.refl s, .nil⟩
  | p :: ps, _, Hs, .cons h1 h2, s => by
    obtain ⟨Hs1, g1, r1⟩ := rp_settle h2 s
    obtain ⟨t, rfl, ht⟩ := rp_pair h1
    have g2 := Gr.tup g1.c ht
    exact ⟨_, g1.trans g2, .cons (rp_of_pair upd_same) (r1.mono g2.a)⟩
theorem rc_sortedDT {H : Hp} {d : Addr} {kvs : List (List Key × V)} {kt : List ((Int × Int) × PyData)} {Hs : Hp} {Q : VK} (hd : H d = some (.dT kvs)) (ht : RpT K Hs kvs kt) (s : Same Hs H)
    (q : ∀ p ys, H p = none → RpAll K H ys ((sortP (kt.map (·.1))).map dP) → Q (.ref p) (upd H p (.lst ys))) : rSortedDT [.ref d] H Q := by
  refine ⟨d, kvs, keyP K H, rfl, .inl hd, fun bs hb b hm => ?_, fun bs ys p hb h1 h2 hp => q p ys hp (srt_data (keys_of ht hb) h1 h2.perm)⟩
  obtain ⟨t, e, ht⟩ := rp_pair (keyP_mem (keys_of ht hb) (.ref b) (List.mem_map.mpr ⟨b, hm, rfl⟩))
  cases e
  exact ht
/-! ### a comprehension at one place -/
theorem lc_atU {α : Type} {ρ : Rho} {wi : TI} {g : TG} {tt : TT} {te : TE} {vs sl : List Nat} {xs : List α} {σ : L2.St} {Hs H : Hp} {Q : VK} (mk : α → PyData) (b : α → Bool) (f : α → PyData) (ρ' : α → Rho) (e : EnvD K Hs σ ρ) (s : Same Hs H)
    (hi : ∀ R : It → Hp → Prop, (∀ J Hs1 H1, Gr Hs H Hs1 H1 → WalkD K J Hs1 (xs.map mk) → R J H1) → wi σ H R) (hl : xs.length ≤ 50000) (hsl : ∀ i ∈ sl, i ∈ vs)
    (hg : ∀ d ∈ xs, YG K g sl (wipeD ρ vs) (mk d) (ρ' d))
    (ht : ∀ d ∈ xs, ∀ σ' Hs' H', Gr Hs H Hs' H' → EnvD K Hs' σ' (ρ' d) → (∀ i, i ∉ vs → σ'[i]? = σ[i]?) → ∀ R : Bool → Hp → Prop, (∀ Hs2 H2, Gr Hs' H' Hs2 H2 → R (b d) H2) → tt σ' H' R)
    (he : ∀ d ∈ xs, b d = true → ∀ σ' Hs' H', Gr Hs H Hs' H' → EnvD K Hs' σ' (ρ' d) → (∀ i, i ∉ vs → σ'[i]? = σ[i]?) → ∀ R : VK, (∀ v Hs2 H2, Gr Hs' H' Hs2 H2 → Rp K Hs2 v (f d) → R v H2) → te σ' H' R)
    (q : ∀ a acc Hs2 H2, Gr Hs H Hs2 H2 → H a = none → Hs2 a = none → H2 a = some (.lst acc) → RpAll K Hs2 acc ((xs.filter b).map f) → Q (.ref a) H2) : tLc wi g tt te vs σ H Q := by
  refine hi _ fun J Hs1 H1 g1 wk D hD => ?_
  have hD1 : Hs1 D = none := same_none g1.c hD
  have hD0 : H D = none := same_none g1.b hD
  refine ⟨fun i m H' => i + m = xs.length ∧ ∃ Hs' acc, Gr Hs H Hs' H' ∧ Same Hs1 Hs' ∧ Hs' D = none ∧ H' D = some (.lst acc) ∧ RpAll K Hs' acc (((xs.take i).filter b).map f), ⟨xs.length, by omega, Hs1, [], (g1.trans (Gr.fresh g1.c hD)), Same.refl _, hD1, upd_same, .nil⟩, ?_⟩
  rintro i m H' ⟨him, Hs', acc, gr, s1, hDs, hDl, ra⟩
  obtain ⟨w1, w2⟩ := wk i Hs' H' s1 gr.c
  by_cases hlt : i < xs.length
  · right
    have hd : xs[i]? = some xs[i] := List.getElem?_eq_getElem hlt
    have hm : xs[i] ∈ xs := List.getElem_mem hlt
    obtain ⟨go, yl⟩ := w1 (mk xs[i]) (by rw [List.getElem?_map, hd]; rfl)
    have et : xs.take (i + 1) = xs.take i ++ [xs[i]] := by rw [List.take_add_one, hd]; rfl
    refine ⟨go, fun H'' => i + 1 + (m - 1) = xs.length ∧ ∃ Hs' acc, Gr Hs H Hs' H'' ∧ Same Hs1 Hs' ∧ Hs' D = none ∧ H'' D = some (.lst acc) ∧ RpAll K Hs' acc (((xs.take (i + 1)).filter b).map f), fun H'' nx => ⟨m - 1, by omega, nx⟩, fun x H2 hy => ?_⟩
    obtain ⟨Hs2, gr2, rx⟩ := yl x H2 hy
    have hDH' : Mu (H' D) := by rw [hDl]; trivial
    have hDs2 : Hs2 D = none := gr2.d D hDH' hDs
    refine hg _ hm (wipe σ vs) Hs2 H2 x ((e.mono (gr.a.trans gr2.a)).wipe vs) gr2.c rx _ fun σ2 e2 l2 n2 => ⟨?_, ?_⟩
    · have : wipe σ2 vs = wipe (wipe σ vs) vs := wipe_ext l2 fun j hj => n2 j fun z => hj (hsl j z)
      rw [this]
      exact wipe_ext (wipe_length _ _) fun j hj => wipe_out hj
    · have n3 : ∀ j, j ∉ vs → σ2[j]? = σ[j]? := fun j hj => (n2 j fun z => hj (hsl j z)).trans (wipe_out hj)
      refine ht _ hm σ2 Hs2 H2 (gr.trans gr2) e2 n3 _ fun Hs3 H3 gr3 => ?_
      have hDH2 : Mu (H2 D) := hDH'.same gr2.b
      have hDs3 : Hs3 D = none := gr3.d D hDH2 hDs2
      have hl3 : H3 D = some (.lst acc) := gr3.b _ _ (gr2.b _ _ hDl)
      cases hb : b xs[i] with
      | true =>
        rw [if_pos rfl]
        refine he _ hm hb σ2 Hs3 H3 ((gr.trans gr2).trans gr3) (e2.mono gr3.a) n3 _ fun y Hs4 H4 gr4 ry => ?_
        have hDH3 : Mu (H3 D) := by rw [hl3]; trivial
        have hDs4 : Hs4 D = none := gr4.d D hDH3 hDs3
        have hl4 : H4 D = some (.lst acc) := gr4.b _ _ hl3
        have hal : acc.length ≤ xs.length := by
          rw [ra.len, List.length_map]
          exact Nat.le_trans (List.length_filter_le _ _) (by rw [List.length_take]; omega)
        refine ⟨acc, hl4, sz_lt (by omega), by omega, Hs4, acc ++ [y], (((gr.trans gr2).trans gr3).trans gr4).mut hD0 hDs4, (s1.trans (gr2.a.trans (gr3.a.trans gr4.a))), hDs4, upd_same, ?_⟩
        rw [et, List.filter_append, List.map_append]
        have : ([xs[i]].filter b).map f = [f xs[i]] := by simp [hb]
        rw [this]
        exact (ra.mono (gr2.a.trans (gr3.a.trans gr4.a))).snoc ry
      | false =>
        rw [if_neg (by decide)]
        refine ⟨by omega, Hs3, acc, (gr.trans gr2).trans gr3, s1.trans (gr2.a.trans gr3.a), hDs3, hl3, ?_⟩
        rw [et, List.filter_append, List.map_append]
        have : ([xs[i]].filter b).map f = [] := by simp [hb]
        rw [this, List.append_nil]
        exact ra.mono (gr2.a.trans gr3.a)
  · left
    refine ⟨w2 (by rw [List.length_map]; omega), ?_⟩
    have hei : xs.take i = xs := List.take_of_length_le (by omega)
    rw [hei] at ra
    exact q D acc Hs' H' gr hD0 hDs hDl ra
end
end SG
set_option Elab.async false
set_option linter.all false
set_option maxRecDepth 100000
set_option maxHeartbeats 4000000
namespace SG
open PySem PySem.Spec PyProof.Rows L2
/-! ### o.m(e, ..) where what is raised is wished for at the caller's slots -/
def tMethE (C : Addr) (m : Str) (sp : Sp) (E : L2.St → XK) (ta : TE) (t : TA) : TE := fun σ H Q => ta σ H fun x H1 => ∃ a dx fs, x = .ref a ∧ H1 a = some (.ins C dx fs) ∧ fs.lookup m = none ∧ t σ H1 fun vs H2 => sp (x :: vs) H2 Q (E σ)
theorem pe_methE {X : Cx} {CX : CXT} {k : Nat} {f C : Addr} {fd : FuncData} {ps : List Str} {sp : Sp} {E : L2.St → XK} {m : Str} {pos apos : Pos} {e o : Expr} {es : List Expr} {ta : TE} {t : TA} {pl : Sem Bool} (he : PE X o ta) (c : Cls X.K C) (hm : Meth X.K C m f) (F : FnOk X.prog X.w X.K X.mg X.base CX k f fd ps sp) (hr : Room k X.A) (hb : Binds X.K fd ps []) (hx : ∀ σ, PassesAt CX X σ (E σ)) (ha : PA X (e :: es) t)
    (hst : starEach (e :: es) X.env = (false, eval e X.env) :: starEach es X.env := by rfl) (hpl : (backTo pos (starEach es X.env)).any (·.1) = false := by rfl)
    (ht : eval (.Call (.Attribute o m apos) (e :: es) [] pos) X.env = (do
      let ov ← eval o X.env
      standAt apos.atName
      let (f, first) ← holding [ov] (getMethod ov m pl)
      callWith pos f first (backTo pos (starEach (e :: es) X.env)) (backToKw pos (keywordEach [] X.env))) := by rfl) :
    PE X (.Call (.Attribute o m apos) (e :: es) [] pos) (tMethE C m sp E ta t) := by
  refine ⟨fun pins s σ H Q I h => ?_⟩
  refine PySem.W.methodCall_KW (pl := pl) (thn (he.run pins s σ H _ I h) fun u s1 ⟨x, H1, I1, rx, a, dx, fs, ex, ea, l, q⟩ => ?_) ht
  subst ex
  obtain rfl : u = Value.ref a := rx
  refine getmeth_ok I1 ea c hm l ?_
  refine PySem.W.callWith_K (first := [.ref a]) (h₀ := X.base) I.ok.mod.kin hm.kp (thn (ha.run pos pins s1 σ H1 _ I1 q) fun us s2 ⟨vs, H2, I2, r, q2⟩ => ⟨I2.kIn, ?_⟩) hst hpl
  exact run_fnS (us := .ref a :: us) (vs := .ref a :: vs) F hr hb (hx σ) I2 (.cons rfl r) q2
/-! ### x is True -/
def rIsX (neg : Bool) : R2 := fun x y H Q => ∃ b : Bool, y = .bl b ∧ ((∃ a, x = .bl a) ∨ (∃ i, x = .int i) ∨ x = .non) ∧ Q (.bl (if neg then !decide (x = y) else decide (x = y))) H
section
variable {X : Cx}
theorem op_isX : OpR X (compareOp .Is) (rIsX false) := by
  intro pins s σ H x y v u Q I rx ry h
  obtain ⟨b, rfl, hx, q⟩ := h
  cases (show u = Value.bool b from ry)
  rcases hx with ⟨a, rfl⟩ | ⟨i, rfl⟩ | rfl
  · cases (show v = Value.bool a from rx)
    by_cases e : a = b
    · subst e
      exact wpAny_is_self rfl ⟨.bl true, H, I, rfl, by simpa using q⟩
    · exact wpAny_is_other rfl (fun z => e (Value.bool.inj z)) ⟨.bl false, H, I, rfl, by simpa [e] using q⟩
  · obtain ⟨t, rfl⟩ := (show ∃ t, v = Value.int i t from rx)
    exact wpAny_is_other rfl (fun z => nomatch z) ⟨.bl false, H, I, rfl, by simpa using q⟩
  · cases (show v = Value.none from rx)
    exact wpAny_is_other rfl (fun z => nomatch z) ⟨.bl false, H, I, rfl, by simpa using q⟩
end
def rListDT : List V → Hp → VK → Prop := fun xs H Q => ∃ d kvs, xs = [V.ref d] ∧ Rd H d (.dT kvs) ∧ ∀ p bs, H p = none → IsKeys H kvs bs → Q (.ref p) (upd H p (.lst (bs.map V.ref)))
theorem call_listDT {X : Cx} (hc : X.calm = true) : CallR X (.type "list") rListDT := call_list_dT hc
def rInsert : V → List V → Hp → VK → Prop := fun x vs H Q => ∃ (l : Addr) (xs : List V) (i : Int) (y : V), x = .ref l ∧ vs = [.int i, y] ∧ H l = some (.lst xs) ∧ xs.length < sizeLine ∧ 0 ≤ i ∧ i < 2 ^ 63 ∧ Q .non (upd H l (.lst (xs.take i.toNat ++ [y] ++ xs.drop i.toNat)))
theorem mt_ins {X : Cx} : MtR X "list.insert" rInsert := mt_insert
end SG
set_option Elab.async false
set_option linter.all false
set_option maxRecDepth 100000
set_option maxHeartbeats 4000000
namespace SG
open PySem PySem.Spec PyProof.Rows L2
def top (i : Nat) : Stmt := PySem.Challenge.pw_sightings_k06_whole_news.main.body.getD i (.Pass ⟨0, 0, 0, 0⟩)
abbrev FnP (K : PySem.W.Frag) (x : Str) (st : Stmt) (f : Addr) (fd : FuncData) : Prop := FunD K x x (defArgs st) (defBody st) (defScope st) [] [] f fd
theorem hu65 {k : Nat} {A : Around} (hr : Room k A) : A.units + 65 < cLine := by have := hr.un; omega
structure Gb (mg : Str → Option Value) : Prop where
  b_len : mg "len" = none
  b_isinstance : mg "isinstance" = none
  b_all : mg "all" = none
  b_any : mg "any" = none
  b_min : mg "min" = none
  b_max : mg "max" = none
  b_sorted : mg "sorted" = none
  b_abs : mg "abs" = none
  b_sum : mg "sum" = none
  b_int : mg "int" = none
  b_bool : mg "bool" = none
  b_tuple : mg "tuple" = none
  b_list : mg "list" = none
  b_range : mg "range" = none
  b_zip : mg "zip" = none
  b_enumerate : mg "enumerate" = none
  b_reversed : mg "reversed" = none
  b_set : mg "set" = none
  b_dict : mg "dict" = none
structure Gi (mg : Str → Option Value) : Prop extends Gb mg where
  i_MOST_PLACES : ∃ t, mg "MOST_PLACES" = some (.int 7 t)
  i_MOST_WAYS : ∃ t, mg "MOST_WAYS" = some (.int 10 t)
  i_MOST_LAST : ∃ t, mg "MOST_LAST" = some (.int 10 t)
  i_MOST_SIGHTINGS : ∃ t, mg "MOST_SIGHTINGS" = some (.int 8 t)
  i_LAST_HAND : ∃ t, mg "LAST_HAND" = some (.int 3 t)
  i_LAST_OWN : ∃ t, mg "LAST_OWN" = some (.int 9 t)

/-! ### what lands are -/
def isNum : PyData → Bool
  | .int _ => true
  | _ => false
def numIn (d : PyData) (lo hi : Int) : Bool := match d with
  | .int i => decide (lo ≤ i) && decide (i ≤ hi)
  | _ => false
def isWay (d : PyData) (n : Int) : Bool := match d with
  | .tuple [.int i, b] => decide (0 ≤ i) && decide (i ≤ n - 1) && numIn b (i + 1) (n - 1)
  | _ => false
def ltD : PyData → PyData → Bool
  | .tuple [.int a, .int b], .tuple [.int c, .int d] => ltPr (a, b) (c, d)
  | _, _ => false
def incD : List PyData → Bool
  | a :: b :: r => ltD a b && incD (b :: r)
  | _ => true
def areWays (d : PyData) (n : Int) : Bool := match d with
  | .list ws => decide (ws.length ≤ 10) && (ws.all (fun w => isWay w n) && incD ws)
  | _ => false
def isLand (d : PyData) : Bool := match d with
  | .tuple [.int n, ws, l] => decide (1 ≤ n) && decide (n ≤ 7) && (areWays ws n && numIn l 1 10)
  | _ => false
section
variable {P : Program} {w : World} {K : PySem.W.Frag} {mg : Str → Option Value} {base : Heap} {f : Addr} {fd : FuncData}
abbrev s_is_number : Stmt := (top 14)
theorem sc_is_number : FnScope ["thing"] ["thing"] (defScope s_is_number) := ⟨rfl, rfl, rfl, by decide +kernel, rfl, by decide +kernel, by decide +kernel⟩
def R_is_number (ds : List PyData) (d : PyData) : Prop := ∃ x, ds = [x] ∧ d = .bool (isNum x)
theorem ok_is_number (F : FnP K "is_number" s_is_number f fd) (G : Gi mg) : FnOk P w K mg base CX0 1 f fd ["thing"] (spD K R_is_number) := by
  refine okD F sc_is_number (by rintro _ _ ⟨x, rfl, _⟩; rfl) fun cdv A outer s H E hr => ⟨_, (pss_one (ps_ret (pe_and (pe_callB (call_isik (K := K) rfl) rfl G.b_isinstance boot_isinstance (pa_cons (pv 0) (pa_cons (pe_ty (n := "int") rfl G.b_int (by decide +kernel)) pa_nil))) (pe_one (pe_not (pe_callB (call_isik (K := K) rfl) rfl G.b_isinstance boot_isinstance (pa_cons (pv 0) (pa_cons (pe_ty (n := "bool") rfl G.b_bool (by decide +kernel)) pa_nil)))))))), ?_⟩
  rintro _ _ ⟨x, rfl, rfl⟩
  refine yr_ret (YD.eq (yd_and (yd_isi (yd_var rfl) (kit_int x)) fun _ => yd_not (yd_isi (yd_var rfl) (kit_bool x))) ?_)
  cases x <;> rfl
abbrev s_is_within : Stmt := (top 15)
theorem sc_is_within : FnScope ["thing", "least", "most"] ["thing", "least", "most"] (defScope s_is_within) := ⟨rfl, rfl, rfl, by decide +kernel, rfl, by decide +kernel, by decide +kernel⟩
def R_is_within (ds : List PyData) (d : PyData) : Prop := ∃ x lo hi, ds = [x, .int lo, .int hi] ∧ d = .bool (numIn x lo hi)
theorem ok_is_within (F : FnP K "is_within" s_is_within f fd) (G : Gi mg) (c_is_number : Cal P w K mg base CX0 1 "is_number" (spD K R_is_number)) : FnOk P w K mg base CX0 2 f fd ["thing", "least", "most"] (spD K R_is_within) := by
  refine okD F sc_is_within (by rintro _ _ ⟨x, lo, hi, rfl, _⟩; rfl) fun cdv A outer s H E hr => ⟨_, (pss_one (ps_ret (pe_and (pe_d c_is_number hr (by decide) rfl (pa_cons (pv 0) pa_nil)) (pe_one (pe_chain (op_le) (op_le) (pv 1) (pv 0) (pv 2)))))), ?_⟩
  rintro _ _ ⟨x, lo, hi, rfl, rfl⟩
  refine yr_ret (YD.eq (yd_and (a := isNum x) (b := numIn x lo hi) (yd_call (ya_cons (yd_var rfl) ya_nil) ⟨x, rfl, rfl⟩) fun hx => ?_) ?_)
  · cases x with
    | int i => exact yd_chain (yd_var rfl) (yd_var rfl) rd_B0 (fun _ => yd_var rfl) (fun _ => rd_B0)
    | _ => cases hx
  · cases x <;> rfl
abbrev s_is_way : Stmt := (top 16)
theorem sc_is_way : FnScope ["thing", "places", "one", "other"] ["thing", "places"] (defScope s_is_way) := ⟨rfl, rfl, rfl, by decide +kernel, rfl, by decide +kernel, by decide +kernel⟩
def R_is_way (ds : List PyData) (d : PyData) : Prop := ∃ x n, ds = [x, .int n] ∧ d = .bool (isWay x n)
theorem ok_is_way (F : FnP K "is_way" s_is_way f fd) (G : Gi mg) (c_is_within : Cal P w K mg base CX0 2 "is_within" (spD K R_is_within)) : FnOk P w K mg base CX0 3 f fd ["thing", "places"] (spD K R_is_way) := by
  refine okD F sc_is_way (by rintro _ _ ⟨x, n, rfl, _⟩; rfl) fun cdv A outer s H E hr => ⟨_, (pss_cons (ps_if (PW.pt (pw_or (pt_not (pt_val (pe_callB (call_isik (K := K) rfl) rfl G.b_isinstance boot_isinstance (pa_cons (pv 0) (pa_cons (pe_ty (n := "tuple") rfl G.b_tuple (by decide +kernel)) pa_nil))))) (pw_or1 (pt_cmpR (op_nek (K := K) rfl hr.units) (pe_callB (call_lenk (K := K) rfl) rfl G.b_len boot_len (pa_cons (pv 0) pa_nil)) pe_int (nomark _))))) (pss_one (ps_ret pe_bl)) pss_nil)
      (pss_cons (ps_asg (pv 0) (pg_tupk (K := K) (n := 2) rfl rfl (pgs_cons (pg_name (i := 2) sc_is_way.nd rfl (Or.inl rfl)) (pgs_cons (pg_name (i := 3) sc_is_way.nd rfl (Or.inl rfl)) pgs_nil))))
      (pss_one (ps_ret (pe_and (pe_d c_is_within hr (by decide) rfl (pa_cons (pv 2) (pa_cons pe_int (pa_cons (pe_op op_sub (pv 1) pe_int) pa_nil)))) (pe_one (pe_d c_is_within hr (by decide) rfl (pa_cons (pv 3) (pa_cons (pe_op op_add (pv 2) pe_int) (pa_cons (pe_op op_sub (pv 1) pe_int) pa_nil)))))))))), ?_⟩
  rintro _ _ ⟨x, n, rfl, rfl⟩
  by_cases hx : ∃ ds, x = .tuple ds
  · obtain ⟨ds, rfl⟩ := hx
    refine yr_ifs (yt_or (yt_not (yt_B (yd_isi (yd_var rfl) (kit_tuple _)))) fun _ => yt_test (yd_op (yd_cb (ya_cons (yd_var rfl) ya_nil) rc_lenT) yd_int (rd_neD rfl rfl))) (fun hb => yr_seqR (yr_ret (YD.eq yd_bl ?_))) (fun hb => yr_next ?_)
    · have h2 : (ds.length : Int) ≠ 2 := by simpa [isTup, PyData.eqv] using hb
      have : isWay (.tuple ds) n = false := by
        unfold isWay
        split
        · rename_i z; cases z; exact absurd rfl h2
        · rfl
      rw [this]
    · have h2 : (ds.length : Int) = 2 := by simpa [isTup, PyData.eqv] using hb
      obtain ⟨a, b, rfl⟩ : ∃ a b, ds = [a, b] := by
        match ds, h2 with
        | [a, b], _ => exact ⟨a, b, rfl⟩
        | [], h => simp at h
        | [_], h => simp at h
        | _ :: _ :: _ :: _, h => simp at h; omega
      refine yr_seq (yn_asg (yd_var rfl) (yg_tup (ygs_cons yg_name (ygs_cons yg_name ygs_nil)) rfl)) ?_
      refine yr_ret (YD.eq (yd_and (a := numIn a 0 (n - 1)) (b := isWay (.tuple [a, b]) n) (yd_call (ya_cons (yd_var rfl) (ya_cons yd_int (ya_cons (yd_op (yd_var rfl) yd_int rd_I0) ya_nil))) ⟨_, _, _, rfl, rfl⟩) fun hn => ?_) ?_)
      · cases a with
        | int i =>
          refine YD.eq (yd_call (ya_cons (yd_var rfl) (ya_cons (yd_op (yd_var rfl) yd_int rd_I0) (ya_cons (yd_op (yd_var rfl) yd_int rd_I0) ya_nil))) ⟨_, _, _, rfl, rfl⟩) ?_
          have : (decide (0 ≤ i) && decide (i ≤ n - 1)) = true := hn
          simp only [isWay, this, Bool.true_and]
        | _ => cases hn
      · cases a with
        | int i => simp only [isWay, numIn]; cases (decide (0 ≤ i) && decide (i ≤ n - 1)) <;> rfl
        | _ => rfl
  · have e : isTup x = false := by cases x <;> first | rfl | exact absurd ⟨_, rfl⟩ hx
    refine yr_ifs (b := true) (YT.eq (yt_or (b := true) (yt_not (yt_B (yd_isi (yd_var rfl) (kit_tuple _)))) fun h => ?_) ?_) (fun hb => yr_seqR (yr_ret (YD.eq yd_bl ?_))) (fun hb => nomatch hb)
    · rw [e] at h; cases h
    · rw [e]; rfl
    · cases x <;> first | rfl | exact absurd ⟨_, rfl⟩ hx
abbrev s_are_ways : Stmt := (top 17)
theorem sc_are_ways : FnScope ["thing", "places", "way", "one", "other"] ["thing", "places"] (defScope s_are_ways) := ⟨rfl, rfl, rfl, by decide +kernel, rfl, by decide +kernel, by decide +kernel⟩
def R_are_ways (ds : List PyData) (d : PyData) : Prop := ∃ x n, ds = [x, .int n] ∧ d = .bool (areWays x n)
theorem isWay_pair {d : PyData} {n : Int} (h : isWay d n = true) : ∃ p : Int × Int, d = dP p ∧ 0 ≤ p.1 ∧ p.1 < p.2 ∧ p.2 < n := by
  unfold isWay at h
  split at h
  · rename_i i b
    cases b with
    | int j =>
      simp [numIn] at h
      exact ⟨(i, j), rfl, by omega, by simp; omega, by simp; omega⟩
    | _ => simp [numIn] at h
  · cases h
theorem inc_zip : ∀ ws : List PyData, (ws.zip (ws.drop 1)).all (fun p => ltD p.1 p.2) = incD ws
  | [] => rfl
  | [_] => rfl
  | a :: b :: r => by
    show (ltD a b && ((b :: r).zip ((b :: r).drop 1)).all fun p => ltD p.1 p.2) = (ltD a b && incD (b :: r))
    rw [inc_zip (b :: r)]
theorem zipD_zip (ds es : List PyData) : zipD ds es = (ds.zip es).map fun p => .tuple [p.1, p.2] := by
  unfold zipD
  rw [List.zip, List.map_zipWith]
theorem ok_are_ways (F : FnP K "are_ways" s_are_ways f fd) (G : Gi mg) (c_is_way : Cal P w K mg base CX0 3 "is_way" (spD K R_is_way)) : FnOk P w K mg base CX0 4 f fd ["thing", "places"] (spD K R_are_ways) := by
  refine okD F sc_are_ways (by rintro _ _ ⟨x, n, rfl, _⟩; rfl) fun cdv A outer s H E hr => ⟨_, (pss_cons (ps_if (PW.pt (pw_or (pt_not (pt_val (pe_callB (call_isik (K := K) rfl) rfl G.b_isinstance boot_isinstance (pa_cons (pv 0) (pa_cons (pe_ty (n := "list") rfl G.b_list (by decide +kernel)) pa_nil))))) (pw_or1 (pt_cmpR (op_gt) (pe_callB (call_lenk (K := K) rfl) rfl G.b_len boot_len (pa_cons (pv 0) pa_nil)) (pe_gi rfl G.i_MOST_WAYS) (nomark _))))) (pss_one (ps_ret pe_bl)) pss_nil)
      (pss_cons (ps_if (pt_not (pt_val (pe_callB (cr_allk (K := K) rfl rfl) rfl G.b_all (by decide +kernel) (pa_cons (pe_lc (own := [("way", 2)]) rfl sc_are_ways.nd (pi_listk (K := K) rfl (pv 0)) (blkOk_by (N := ["thing", "places", "way", "one", "other"]) (sc := defScope s_are_ways) (by decide +kernel)) (fun _ _ _ _ _ => (pg_name (i := 2) sc_are_ways.nd rfl (Or.inl rfl))) (fun _ _ _ _ _ => pts_nil) (fun _ _ _ _ _ => (pe_d c_is_way hr (by decide) rfl (pa_cons (pv 2) (pa_cons (pv 1) pa_nil))))) pa_nil)))) (pss_one (ps_ret pe_bl)) pss_nil)
      (pss_one (ps_ret (pe_callB (cr_allk (K := K) rfl rfl) rfl G.b_all (by decide +kernel) (pa_cons (pe_lc (own := [("one", 3), ("other", 4)]) rfl sc_are_ways.nd (pi_zipk (K := K) rfl rfl G.b_zip (pa_cons (pv 0) (pa_cons (pe_slice (sl_listk (K := K) rfl) (pv 0) (po_some pe_int) po_none) pa_nil))) (blkOk_by (N := ["thing", "places", "way", "one", "other"]) (sc := defScope s_are_ways) (by decide +kernel)) (fun _ _ _ _ _ => (pg_tupk (K := K) (n := 2) rfl rfl (pgs_cons (pg_name (i := 3) sc_are_ways.nd rfl (Or.inl rfl)) (pgs_cons (pg_name (i := 4) sc_are_ways.nd rfl (Or.inl rfl)) pgs_nil)))) (fun _ _ _ _ _ => pts_nil) (fun _ _ _ _ _ => (pe_cmpR (op_ltTk (K := K) rfl hr.units0) (pv 3) (pv 4) (nomark _)))) pa_nil)))))), ?_⟩
  rintro _ _ ⟨x, n, rfl, rfl⟩
  by_cases hx : ∃ ds, x = .list ds
  · obtain ⟨ds, rfl⟩ := hx
    refine yr_ifs (b := decide (10 < (ds.length : Int))) (YT.eq (yt_or (yt_not (yt_B (yd_isi (yd_var rfl) (kit_list _)))) fun _ => yt_test (yd_op (yd_cb (ya_cons (yd_var rfl) ya_nil) rc_lenL) yd_int rd_B0)) rfl) (fun hb => yr_seqR (yr_ret (YD.eq yd_bl ?_))) (fun hb => yr_next ?_)
    · have : 10 < ds.length := by have := of_decide_eq_true hb; omega
      simp [areWays]
      omega
    · have hl : ds.length ≤ 10 := by have := of_decide_eq_false hb; omega
      refine yr_ifs (yt_not (yt_B (yd_all (xs := ds) (p := fun w => isWay w n) (yd_lc0 (fun d => d) (fun w => .bool (isWay w n)) (fun d => _) ((yi_list (yd_var rfl)).eq (List.map_id' ds).symm) (by omega) (by decide) (fun d _ => yg_name) fun d _ => yd_call (ya_cons (yd_var rfl) (ya_cons (yd_var rfl) ya_nil)) ⟨_, _, rfl, rfl⟩)))) (fun hb => yr_seqR (yr_ret (YD.eq yd_bl ?_))) (fun hb => yr_next ?_)
      · have : (ds.all fun w => isWay w n) = false := by simpa using hb
        simp only [areWays, this, Bool.false_and, Bool.and_false]
      · have hw : (ds.all fun w => isWay w n) = true := by simpa using hb
        have hw2 : ∀ d ∈ ds, isWay d n = true := by simpa using hw
        have hm : ∀ p ∈ ds.zip (ds.drop 1), p.1 ∈ ds ∧ p.2 ∈ ds := fun p hp => ⟨(List.of_mem_zip hp).1, List.mem_of_mem_drop (List.of_mem_zip hp).2⟩
        refine yr_ret (YD.eq (yd_all (xs := ds.zip (ds.drop 1)) (p := fun p => ltD p.1 p.2) (yd_lc0 (fun p : PyData × PyData => .tuple [p.1, p.2]) (fun p => .bool (ltD p.1 p.2)) (fun p => _) ((yi_zip (ya_cons (yd_var rfl) (ya_cons (yd_slL (yd_var rfl) (yo_some yd_int) yo_none) ya_nil))).eq ?_) ?_ (by decide) (fun p _ => yg_tup (ygs_cons yg_name (ygs_cons yg_name ygs_nil)) rfl) fun p hp => ?_)) ?_)
        · rw [show cutD ds (some 1) none = ds.drop 1 from cutD_from 1, zipD_zip]
        · rw [List.length_zip]
          omega
        · obtain ⟨a, ea, _⟩ := isWay_pair (hw2 _ (hm p hp).1)
          obtain ⟨b, eb, _⟩ := isWay_pair (hw2 _ (hm p hp).2)
          obtain ⟨p1, p2⟩ := p
          dsimp only at ea eb
          subst ea eb
          exact yd_op (yd_var rfl) (yd_var rfl) rd_ltT
        · rw [inc_zip]
          simp only [areWays, hw, Bool.true_and]
          rw [decide_eq_true hl]
          rfl
  · have e : isList x = false := by cases x <;> first | rfl | exact absurd ⟨_, rfl⟩ hx
    refine yr_ifs (b := true) (YT.eq (yt_or (b := true) (yt_not (yt_B (yd_isi (yd_var rfl) (kit_list _)))) fun h => ?_) ?_) (fun hb => yr_seqR (yr_ret (YD.eq yd_bl ?_))) (fun hb => nomatch hb)
    · rw [e] at h; cases h
    · rw [e]; rfl
    · cases x <;> first | rfl | exact absurd ⟨_, rfl⟩ hx
abbrev s_is_land : Stmt := (top 18)
theorem sc_is_land : FnScope ["thing", "places", "ways", "last"] ["thing"] (defScope s_is_land) := ⟨rfl, rfl, rfl, by decide +kernel, rfl, by decide +kernel, by decide +kernel⟩
def R_is_land (ds : List PyData) (d : PyData) : Prop := ∃ x, ds = [x] ∧ d = .bool (isLand x)
theorem ok_is_land (F : FnP K "is_land" s_is_land f fd) (G : Gi mg) (c_is_within : Cal P w K mg base CX0 2 "is_within" (spD K R_is_within)) (c_are_ways : Cal P w K mg base CX0 4 "are_ways" (spD K R_are_ways)) : FnOk P w K mg base CX0 5 f fd ["thing"] (spD K R_is_land) := by
  refine okD F sc_is_land (by rintro _ _ ⟨x, rfl, _⟩; rfl) fun cdv A outer s H E hr => ⟨_, (pss_cons (ps_if (PW.pt (pw_or (pt_not (pt_val (pe_callB (call_isik (K := K) rfl) rfl G.b_isinstance boot_isinstance (pa_cons (pv 0) (pa_cons (pe_ty (n := "tuple") rfl G.b_tuple (by decide +kernel)) pa_nil))))) (pw_or1 (pt_cmpR (op_nek (K := K) rfl hr.units) (pe_callB (call_lenk (K := K) rfl) rfl G.b_len boot_len (pa_cons (pv 0) pa_nil)) pe_int (nomark _))))) (pss_one (ps_ret pe_bl)) pss_nil)
      (pss_cons (ps_asg (pv 0) (pg_tupk (K := K) (n := 3) rfl rfl (pgs_cons (pg_name (i := 1) sc_is_land.nd rfl (Or.inl rfl)) (pgs_cons (pg_name (i := 2) sc_is_land.nd rfl (Or.inl rfl)) (pgs_cons (pg_name (i := 3) sc_is_land.nd rfl (Or.inl rfl)) pgs_nil)))))
      (pss_one (ps_ret (pe_and (pe_d c_is_within hr (by decide) rfl (pa_cons (pv 1) (pa_cons pe_int (pa_cons (pe_gi rfl G.i_MOST_PLACES) pa_nil)))) (pe_and (pe_d c_are_ways hr (by decide) rfl (pa_cons (pv 2) (pa_cons (pv 1) pa_nil))) (pe_one (pe_d c_is_within hr (by decide) rfl (pa_cons (pv 3) (pa_cons pe_int (pa_cons (pe_gi rfl G.i_MOST_LAST) pa_nil))))))))))), ?_⟩
  rintro _ _ ⟨x, rfl, rfl⟩
  by_cases hx : ∃ ds, x = .tuple ds
  · obtain ⟨ds, rfl⟩ := hx
    refine yr_ifs (yt_or (yt_not (yt_B (yd_isi (yd_var rfl) (kit_tuple _)))) fun _ => yt_test (yd_op (yd_cb (ya_cons (yd_var rfl) ya_nil) rc_lenT) yd_int (rd_neD rfl rfl))) (fun hb => yr_seqR (yr_ret (YD.eq yd_bl ?_))) (fun hb => yr_next ?_)
    · have h2 : (ds.length : Int) ≠ 3 := by simpa [isTup, PyData.eqv] using hb
      have : isLand (.tuple ds) = false := by
        unfold isLand
        split
        · rename_i z; cases z; exact absurd rfl h2
        · rfl
      rw [this]
    · have h2 : (ds.length : Int) = 3 := by simpa [isTup, PyData.eqv] using hb
      obtain ⟨a, b, c, rfl⟩ : ∃ a b c, ds = [a, b, c] := by
        match ds, h2 with
        | [a, b, c], _ => exact ⟨a, b, c, rfl⟩
        | [], h => simp at h
        | [_], h => simp at h
        | [_, _], h => simp at h
        | _ :: _ :: _ :: _ :: _, h => simp at h; omega
      refine yr_seq (yn_asg (yd_var rfl) (yg_tup (ygs_cons yg_name (ygs_cons yg_name (ygs_cons yg_name ygs_nil))) rfl)) ?_
      refine yr_ret (YD.eq (yd_and (a := numIn a 1 7) (b := isLand (.tuple [a, b, c])) (yd_call (ya_cons (yd_var rfl) (ya_cons yd_int (ya_cons yd_int ya_nil))) ⟨_, _, _, rfl, rfl⟩) fun hn => ?_) ?_)
      · cases a with
        | int i =>
          refine YD.eq (yd_and (yd_call (ya_cons (yd_var rfl) (ya_cons (yd_var rfl) ya_nil)) ⟨_, _, rfl, rfl⟩) fun _ => yd_call (ya_cons (yd_var rfl) (ya_cons yd_int (ya_cons yd_int ya_nil))) ⟨_, _, _, rfl, rfl⟩) ?_
          have : (decide (1 ≤ i) && decide (i ≤ 7)) = true := hn
          simp only [isLand, this, Bool.true_and]
        | _ => cases hn
      · cases a with
        | int i => simp only [isLand, numIn]; cases (decide (1 ≤ i) && decide (i ≤ 7)) <;> rfl
        | _ => rfl
  · have e : isTup x = false := by cases x <;> first | rfl | exact absurd ⟨_, rfl⟩ hx
    refine yr_ifs (b := true) (YT.eq (yt_or (b := true) (yt_not (yt_B (yd_isi (yd_var rfl) (kit_tuple _)))) fun h => ?_) ?_) (fun hb => yr_seqR (yr_ret (YD.eq yd_bl ?_))) (fun hb => nomatch hb)
    · rw [e] at h; cases h
    · rw [e]; rfl
    · cases x <;> first | rfl | exact absurd ⟨_, rfl⟩ hx
/-! ### what is refused -/
abbrev s_check_land : Stmt := (top 19)
theorem sc_check_land : FnScope ["land"] ["land"] (defScope s_check_land) := ⟨rfl, rfl, rfl, by decide +kernel, rfl, by decide +kernel, by decide +kernel⟩
def R_check_land (ds : List PyData) (d : PyData) : Prop := ∃ x, ds = [x] ∧ isLand x = true ∧ d = .none
def X_check_land (C : Addr) (ds : List PyData) (C' : Addr) : Prop := ∃ x, ds = [x] ∧ isLand x = false ∧ C' = C
theorem ok_check_land {C : Addr} (F : FnP K "check_land" s_check_land f fd) (G : Gi mg) (x_BadLand : Xc K mg "BadLand" C) (c_is_land : Cal P w K mg base CX0 5 "is_land" (spD K R_is_land)) : FnOk P w K mg base (L2.CX P w) 6 f fd ["land"] (spX K R_check_land (X_check_land C)) := by
  refine okX F sc_check_land (by rintro _ _ ⟨x, rfl, _⟩; rfl) (by rintro _ _ ⟨x, rfl, _⟩; rfl) fun cdv A outer s H E hr => ⟨_, (pss_one (ps_if (pt_not (pt_val (pe_d c_is_land hr (by decide) rfl (pa_cons (pv 0) pa_nil)))) (pss_one (ps_raise rfl (takes_of rfl rfl rfl rfl) (pmk_own PySem.F.excBase_ValueError x_BadLand.ex x_BadLand.mg x_BadLand.kp (raises_own x_BadLand.sub x_BadLand.ty) rfl))) pss_nil)), ?_, ?_⟩
  · rintro _ _ ⟨x, rfl, hx, rfl⟩
    exact .inr ⟨rfl, _, _, yn_ifF ((yt_not (yt_B (yd_call (ya_cons (yd_var rfl) ya_nil) ⟨_, rfl, rfl⟩))).eq (by rw [hx]; rfl)) yn_next⟩
  · rintro _ _ ⟨x, rfl, hx, rfl⟩
    exact ye_if (b := true) ((yt_not (yt_B (yd_call (ya_cons (yd_var rfl) ya_nil) ⟨_, rfl, rfl⟩))).eq (by rw [hx]; rfl)) (fun _ => ye_raise) (fun h => nomatch h)
abbrev s_check_place : Stmt := (top 20)
theorem sc_check_place : FnScope ["place", "places"] ["place", "places"] (defScope s_check_place) := ⟨rfl, rfl, rfl, by decide +kernel, rfl, by decide +kernel, by decide +kernel⟩
def R_check_place (ds : List PyData) (d : PyData) : Prop := ∃ x n, ds = [x, .int n] ∧ numIn x 0 (n - 1) = true ∧ d = .none
def X_check_place (C : Addr) (ds : List PyData) (C' : Addr) : Prop := ∃ x n, ds = [x, .int n] ∧ numIn x 0 (n - 1) = false ∧ C' = C
theorem ok_check_place {C : Addr} (F : FnP K "check_place" s_check_place f fd) (G : Gi mg) (x_BadPlace : Xc K mg "BadPlace" C) (c_is_within : Cal P w K mg base CX0 2 "is_within" (spD K R_is_within)) : FnOk P w K mg base (L2.CX P w) 3 f fd ["place", "places"] (spX K R_check_place (X_check_place C)) := by
  refine okX F sc_check_place (by rintro _ _ ⟨x, n, rfl, _⟩; rfl) (by rintro _ _ ⟨x, n, rfl, _⟩; rfl) fun cdv A outer s H E hr => ⟨_, (pss_one (ps_if (pt_not (pt_val (pe_d c_is_within hr (by decide) rfl (pa_cons (pv 0) (pa_cons pe_int (pa_cons (pe_op op_sub (pv 1) pe_int) pa_nil)))))) (pss_one (ps_raise rfl (takes_of rfl rfl rfl rfl) (pmk_own PySem.F.excBase_ValueError x_BadPlace.ex x_BadPlace.mg x_BadPlace.kp (raises_own x_BadPlace.sub x_BadPlace.ty) rfl))) pss_nil)), ?_, ?_⟩
  · rintro _ _ ⟨x, n, rfl, hx, rfl⟩
    exact .inr ⟨rfl, _, _, yn_ifF ((yt_not (yt_B (yd_call (ya_cons (yd_var rfl) (ya_cons yd_int (ya_cons (yd_op (yd_var rfl) yd_int rd_I0) ya_nil))) ⟨_, _, _, rfl, rfl⟩))).eq (by rw [hx]; rfl)) yn_next⟩
  · rintro _ _ ⟨x, n, rfl, hx, rfl⟩
    exact ye_if (b := true) ((yt_not (yt_B (yd_call (ya_cons (yd_var rfl) (ya_cons yd_int (ya_cons (yd_op (yd_var rfl) yd_int rd_I0) ya_nil))) ⟨_, _, _, rfl, rfl⟩))).eq (by rw [hx]; rfl)) (fun _ => ye_raise) (fun h => nomatch h)
abbrev s_check_tick : Stmt := (top 21)
theorem sc_check_tick : FnScope ["tick", "last"] ["tick", "last"] (defScope s_check_tick) := ⟨rfl, rfl, rfl, by decide +kernel, rfl, by decide +kernel, by decide +kernel⟩
def R_check_tick (ds : List PyData) (d : PyData) : Prop := ∃ x n, ds = [x, .int n] ∧ numIn x 0 n = true ∧ d = .none
def X_check_tick (C : Addr) (ds : List PyData) (C' : Addr) : Prop := ∃ x n, ds = [x, .int n] ∧ numIn x 0 n = false ∧ C' = C
theorem ok_check_tick {C : Addr} (F : FnP K "check_tick" s_check_tick f fd) (G : Gi mg) (x_BadTick : Xc K mg "BadTick" C) (c_is_within : Cal P w K mg base CX0 2 "is_within" (spD K R_is_within)) : FnOk P w K mg base (L2.CX P w) 3 f fd ["tick", "last"] (spX K R_check_tick (X_check_tick C)) := by
  refine okX F sc_check_tick (by rintro _ _ ⟨x, n, rfl, _⟩; rfl) (by rintro _ _ ⟨x, n, rfl, _⟩; rfl) fun cdv A outer s H E hr => ⟨_, (pss_one (ps_if (pt_not (pt_val (pe_d c_is_within hr (by decide) rfl (pa_cons (pv 0) (pa_cons pe_int (pa_cons (pv 1) pa_nil)))))) (pss_one (ps_raise rfl (takes_of rfl rfl rfl rfl) (pmk_own PySem.F.excBase_ValueError x_BadTick.ex x_BadTick.mg x_BadTick.kp (raises_own x_BadTick.sub x_BadTick.ty) rfl))) pss_nil)), ?_, ?_⟩
  · rintro _ _ ⟨x, n, rfl, hx, rfl⟩
    exact .inr ⟨rfl, _, _, yn_ifF ((yt_not (yt_B (yd_call (ya_cons (yd_var rfl) (ya_cons yd_int (ya_cons (yd_var rfl) ya_nil))) ⟨_, _, _, rfl, rfl⟩))).eq (by rw [hx]; rfl)) yn_next⟩
  · rintro _ _ ⟨x, n, rfl, hx, rfl⟩
    exact ye_if (b := true) ((yt_not (yt_B (yd_call (ya_cons (yd_var rfl) (ya_cons yd_int (ya_cons (yd_var rfl) ya_nil))) ⟨_, _, _, rfl, rfl⟩))).eq (by rw [hx]; rfl)) (fun _ => ye_raise) (fun h => nomatch h)
end
end SG
set_option Elab.async false
set_option linter.all false
set_option maxRecDepth 100000
set_option maxHeartbeats 4000000
namespace SG
open PySem PySem.Spec PyProof.Rows L2
/-! ### the law's draws -/
def primes : List Int := [1000003, 1000033, 1000037, 1000039, 1000081, 1000099, 1000117, 1000121, 1000133, 1000151, 1000159, 1000171, 1000183, 1000187, 1000193, 1000199]
def primeAt (k : Int) : Int := primes.getD (k % 16).toNat 1
def drawI (c k m : Int) : Int := (c * 48271 + k * 69621) % primeAt k % m
def valueI (c t : Int) : Int := if 10 ^ 18 ≤ c then ((c - 10 ^ 18) % 10 ^ 40) / 2 ^ (3 * t).toNat else
  drawI ((c % 10 ^ 18 + 977 * t) * (c % 10 ^ 18 + 31 * t + 5)) (t % 9 + 1) 999983 * 1000003 + drawI ((c % 10 ^ 18 + 31 * t) * (c % 10 ^ 18 + 7) + 977 * t) (t % 7 + 2) 1000003
theorem prime_at (k : Int) : atI (primes.map PyData.int) (k % 16) = some (.int (primeAt k)) ∧ 0 < primeAt k := by
  have h1 : 0 ≤ k % 16 := Int.emod_nonneg _ (by decide)
  have h2 : k % 16 < 16 := Int.emod_lt_of_pos _ (by decide)
  have e : k % 16 = ((k % 16).toNat : Int) := by omega
  have hn : (k % 16).toNat < 16 := by omega
  unfold primeAt
  generalize (k % 16).toNat = j at *
  rw [e]
  have hj : (primes.map PyData.int)[j]? = some (.int (primes.getD j 1)) := by
    rw [List.getElem?_map, List.getD_eq_getElem?_getD, List.getElem?_eq_getElem (by exact hn)]
    rfl
  refine ⟨atI_nat hj, ?_⟩
  have : ∀ i : Fin 16, 0 < primes.getD i.val 1 := by decide
  exact this ⟨j, hn⟩
theorem draw_pos (c k : Int) {m : Int} (h : 0 < m) : 0 ≤ drawI c k m ∧ drawI c k m < m := ⟨Int.emod_nonneg _ (by omega), Int.emod_lt_of_pos _ h⟩
theorem value_nn (c t : Int) : 0 ≤ valueI c t := by
  unfold valueI
  split
  · exact Int.ediv_nonneg (Int.emod_nonneg _ (by decide)) (Int.le_of_lt (Int.pow_pos (by decide)))
  · have a := draw_pos ((c % 10 ^ 18 + 977 * t) * (c % 10 ^ 18 + 31 * t + 5)) (t % 9 + 1) (m := 999983) (by decide)
    have b := draw_pos ((c % 10 ^ 18 + 31 * t) * (c % 10 ^ 18 + 7) + 977 * t) (t % 7 + 2) (m := 1000003) (by decide)
    omega
section
variable {P : Program} {w : World} {K : PySem.W.Frag} {mg : Str → Option Value} {base : Heap} {f : Addr} {fd : FuncData}
abbrev s__law_cell_at : Stmt := (top 28)
theorem sc__law_cell_at : FnScope ["_law_script", "_law_k"] ["_law_script", "_law_k"] (defScope s__law_cell_at) := ⟨rfl, rfl, rfl, by decide +kernel, rfl, by decide +kernel, by decide +kernel⟩
def R_cell_at (ds : List PyData) (d : PyData) : Prop := ∃ (ns : List Int) (k : Nat), ds = [.list (ns.map .int), .int k] ∧ d = .int (ns.getD k 0)
theorem ok_cell_at (F : FnP K "_law_cell_at" s__law_cell_at f fd) (G : Gi mg) : FnOk P w K mg base CX0 1 f fd ["_law_script", "_law_k"] (spD K R_cell_at) := by
  refine okD F sc__law_cell_at (by rintro _ _ ⟨x, n, rfl, _⟩; rfl) fun cdv A outer s H E hr => ⟨_, (pss_cons (ps_if (pt_cmpR (op_lt) (pv 1) (pe_callB (call_lenk (K := K) rfl) rfl G.b_len boot_len (pa_cons (pv 0) pa_nil)) (nomark _)) (pss_one (ps_ret (pe_ix (ix_k (K := K) rfl) (pv 0) (pv 1) (fun _ _ => rfl)))) pss_nil)
      (pss_one (ps_ret pe_int))), ?_⟩
  rintro _ _ ⟨ns, k, rfl, rfl⟩
  refine yr_ifs (b := decide (k < ns.length)) ((yt_test (yd_op (yd_var rfl) (yd_cb (ya_cons (yd_var rfl) ya_nil) rc_lenL) rd_B0)).eq ?_) (fun hb => yr_seqR (yr_ret (yd_op (yd_var rfl) (yd_var rfl) (rd_ixL ?_)))) (fun hb => yr_next (yr_ret (YD.eq yd_int ?_)))
  · rw [List.length_map]
    by_cases h : k < ns.length
    · rw [decide_eq_true h]; exact decide_eq_true (by omega)
    · rw [decide_eq_false h]; exact decide_eq_false (by omega)
  · have h := of_decide_eq_true hb
    refine atI_nat ?_
    rw [List.getElem?_map, List.getD_eq_getElem?_getD, List.getElem?_eq_getElem h]
    rfl
  · have h := of_decide_eq_false hb
    rw [List.getD_eq_getElem?_getD, List.getElem?_eq_none (by omega)]
    rfl
abbrev s__law_draw : Stmt := (top 29)
theorem sc__law_draw : FnScope ["_law_cell", "_law_k", "_law_many", "_law_primes"] ["_law_cell", "_law_k", "_law_many"] (defScope s__law_draw) := ⟨rfl, rfl, rfl, by decide +kernel, rfl, by decide +kernel, by decide +kernel⟩
def R_draw (ds : List PyData) (d : PyData) : Prop := ∃ (c k m : Int), ds = [.int c, .int k, .int m] ∧ 0 < m ∧ d = .int (drawI c k m)
theorem ok_draw (F : FnP K "_law_draw" s__law_draw f fd) (G : Gi mg) : FnOk P w K mg base CX0 1 f fd ["_law_cell", "_law_k", "_law_many"] (spD K R_draw) := by
  refine okD F sc__law_draw (by rintro _ _ ⟨x, n, m, rfl, _⟩; rfl) fun cdv A outer s H E hr => ⟨_, (pss_cons (ps_set (i := 3) sc__law_draw.nd rfl (Or.inl rfl) (pe_tup (pa_cons pe_int (pa_cons pe_int (pa_cons pe_int (pa_cons pe_int (pa_cons pe_int (pa_cons pe_int (pa_cons pe_int (pa_cons pe_int (pa_cons pe_int (pa_cons pe_int (pa_cons pe_int (pa_cons pe_int (pa_cons pe_int (pa_cons pe_int (pa_cons pe_int (pa_cons pe_int pa_nil))))))))))))))))))
      (pss_one (ps_ret (pe_op op_mod (pe_op op_mod (pe_op op_add (pe_op op_mul (pv 0) pe_int) (pe_op op_mul (pv 1) pe_int)) (pe_ix (ix_k (K := K) rfl) (pv 3) (pe_op op_mod (pv 1) pe_int) (fun _ _ => rfl))) (pv 2))))), ?_⟩
  rintro _ _ ⟨c, k, m, rfl, hm, rfl⟩
  have hsm : ∀ i : Int, CMul i 48271 ∧ CMul i 69621 := fun i => ⟨.inr ⟨by decide, by decide⟩, .inr ⟨by decide, by decide⟩⟩
  obtain ⟨hp, hp0⟩ := prime_at k
  refine yr_seq (yn_asg (yd_tup (ya_cons yd_int (ya_cons yd_int (ya_cons yd_int (ya_cons yd_int (ya_cons yd_int (ya_cons yd_int (ya_cons yd_int (ya_cons yd_int (ya_cons yd_int (ya_cons yd_int (ya_cons yd_int (ya_cons yd_int (ya_cons yd_int (ya_cons yd_int (ya_cons yd_int (ya_cons yd_int ya_nil)))))))))))))))) (by decide)) yg_name) ?_
  exact yr_ret (yd_op (yd_op (yd_op (yd_op (yd_var rfl) yd_int (rd_I (hsm c).1)) (yd_op (yd_var rfl) yd_int (rd_I (hsm k).2)) rd_I0) (yd_op (yd_var rfl) (yd_op (yd_var rfl) yd_int (rd_I (by decide))) (rd_ixT hp)) (rd_I hp0)) (yd_var rfl) (rd_I hm))
abbrev s__law_value : Stmt := (top 30)
theorem sc__law_value : FnScope ["_law_cell", "_law_turn", "_law_rest", "_law_blend"] ["_law_cell", "_law_turn"] (defScope s__law_value) := ⟨rfl, rfl, rfl, by decide +kernel, rfl, by decide +kernel, by decide +kernel⟩
def R_value (ds : List PyData) (d : PyData) : Prop := ∃ (c t : Int), ds = [.int c, .int t] ∧ 0 ≤ t ∧ t ≤ 100 ∧ d = .int (valueI c t)
theorem ok_value (F : FnP K "_law_value" s__law_value f fd) (G : Gi mg) (c__law_draw : Cal P w K mg base CX0 1 "_law_draw" (spD K R_draw)) : FnOk P w K mg base CX0 2 f fd ["_law_cell", "_law_turn"] (spD K R_value) := by
  refine okD F sc__law_value (by rintro _ _ ⟨x, n, rfl, _⟩; rfl) fun cdv A outer s H E hr => ⟨_, (pss_cons (ps_if (pt_cmpR (op_ge) (pv 0) (pe_op op_pow pe_int pe_int) (nomark _)) (pss_one (ps_ret (pe_op op_shr (pe_op op_mod (pe_op op_sub (pv 0) (pe_op op_pow pe_int pe_int)) (pe_op op_pow pe_int pe_int)) (pe_op op_mul pe_int (pv 1))))) pss_nil)
      (pss_cons (ps_set (i := 2) sc__law_value.nd rfl (Or.inl rfl) (pe_op op_mod (pv 0) (pe_op op_pow pe_int pe_int)))
      (pss_cons (ps_set (i := 3) sc__law_value.nd rfl (Or.inl rfl) (pe_d c__law_draw hr (by decide) rfl (pa_cons (pe_op op_mul (pe_op op_add (pv 2) (pe_op op_mul pe_int (pv 1))) (pe_op op_add (pe_op op_add (pv 2) (pe_op op_mul pe_int (pv 1))) pe_int)) (pa_cons (pe_op op_add (pe_op op_mod (pv 1) pe_int) pe_int) (pa_cons pe_int pa_nil)))))
      (pss_one (ps_ret (pe_op op_add (pe_op op_mul (pv 3) pe_int) (pe_d c__law_draw hr (by decide) rfl (pa_cons (pe_op op_add (pe_op op_mul (pe_op op_add (pv 2) (pe_op op_mul pe_int (pv 1))) (pe_op op_add (pv 2) pe_int)) (pe_op op_mul pe_int (pv 1))) (pa_cons (pe_op op_add (pe_op op_mod (pv 1) pe_int) pe_int) (pa_cons pe_int pa_nil)))))))))), ?_⟩
  rintro _ _ ⟨c, t, rfl, h0, h1, rfl⟩
  have hP : CPow 10 18 := ⟨by decide, by decide, by decide⟩
  have hP4 : CPow 10 40 := ⟨by decide, by decide, by decide⟩
  have e18 : (10 : Int) ^ (18 : Int).toNat = 10 ^ 18 := rfl
  refine yr_ifs (b := decide ((10 : Int) ^ 18 ≤ c)) (yt_test (yd_op (yd_var rfl) (yd_op yd_int yd_int (rd_I hP)) rd_B0)) (fun hb => yr_seqR (yr_ret (YD.eq (yd_op (yd_op (yd_op (yd_var rfl) (yd_op yd_int yd_int (rd_I hP)) rd_I0) (yd_op yd_int yd_int (rd_I hP4)) (rd_I ?_)) (yd_op yd_int (yd_var rfl) (rd_I ?_)) (rd_I ?_)) ?_))) (fun hb => yr_next ?_)
  · show (0 : Int) < 10 ^ 40
    decide
  · exact .inl ⟨by decide, by decide⟩
  · show (0 : Int) ≤ 3 * t
    omega
  · have h := of_decide_eq_true hb
    unfold valueI
    rw [if_pos h]
    rfl
  · have h := of_decide_eq_false hb
    have r0 : 0 ≤ c % 10 ^ 18 := Int.emod_nonneg _ (by decide)
    have r1 : c % 10 ^ 18 < 10 ^ 18 := Int.emod_lt_of_pos _ (by decide)
    refine yr_seq (yn_asg (yd_op (yd_var rfl) (yd_op yd_int yd_int (rd_I hP)) (rd_I (show (0 : Int) < 10 ^ 18 by decide))) yg_name) ?_
    have hs : ∀ i : Int, CMul 977 i ∧ CMul 31 i := fun i => ⟨.inl ⟨by decide, by decide⟩, .inl ⟨by decide, by decide⟩⟩
    refine yr_seq (yn_asg (yd_call (ya_cons (yd_op (yd_op (yd_var rfl) (yd_op yd_int (yd_var rfl) (rd_I (hs t).1)) rd_I0) (yd_op (yd_op (yd_var rfl) (yd_op yd_int (yd_var rfl) (rd_I (hs t).2)) rd_I0) yd_int rd_I0) (rd_I ?_)) (ya_cons (yd_op (yd_op (yd_var rfl) yd_int (rd_I (by decide))) yd_int rd_I0) (ya_cons yd_int ya_nil))) ⟨_, _, _, rfl, by decide, rfl⟩) yg_name) ?_
    · left
      show -(2 ^ 64) < c % 10 ^ 18 + 977 * t ∧ c % 10 ^ 18 + 977 * t < 2 ^ 64
      omega
    · refine yr_ret (YD.eq (yd_op (yd_op (yd_var rfl) yd_int (rd_I ?_)) (yd_call (ya_cons (yd_op (yd_op (yd_op (yd_var rfl) (yd_op yd_int (yd_var rfl) (rd_I (hs t).2)) rd_I0) (yd_op (yd_var rfl) yd_int rd_I0) (rd_I ?_)) (yd_op yd_int (yd_var rfl) (rd_I (hs t).1)) rd_I0) (ya_cons (yd_op (yd_op (yd_var rfl) yd_int (rd_I (by decide))) yd_int rd_I0) (ya_cons yd_int ya_nil))) ⟨_, _, _, rfl, by decide, rfl⟩) rd_I0) ?_)
      · exact .inr ⟨by decide, by decide⟩
      · left
        show -(2 ^ 64) < c % 10 ^ 18 + 31 * t ∧ c % 10 ^ 18 + 31 * t < 2 ^ 64
        omega
      · unfold valueI
        rw [if_neg h]
        rfl
end
end SG
set_option Elab.async false
set_option linter.all false
set_option maxRecDepth 100000
set_option maxHeartbeats 4000000
namespace SG
open PySem PySem.Spec PyProof.Rows L2
/-! ### the law's lands -/
def placesI (v : Int) : Int := 1 + (v + 4) % 7
def kindI (v : Int) : Int := v / 7 % 4
def cntI (v : Int) : Int := if 1 < placesI v then v / 28 % 11 else 0
def numI (ns : List Int) (o i : Nat) : Int := valueI (ns.getD (o + i % 4) 0 + 11 * (i : Int)) 2 / 3
def oneI (v : Int) (ns : List Int) (o i : Nat) : Int := numI ns o i % placesI v
def otherI (v : Int) (ns : List Int) (o i : Nat) : Int := if kindI v = 1 then (oneI v ns o i + 1) % placesI v else (oneI v ns o i + 1 + numI ns o i / 7 % (placesI v - 1)) % placesI v
def pairI (v : Int) (ns : List Int) (o i : Nat) : Int × Int := (min (oneI v ns o i) (otherI v ns o i), max (oneI v ns o i) (otherI v ns o i))
def waysI (v : Int) (ns : List Int) (o : Nat) : Nat → List (Int × Int)
  | 0 => []
  | i + 1 => if pairI v ns o i ∈ waysI v ns o i then waysI v ns o i else waysI v ns o i ++ [pairI v ns o i]
/-- places, ways, the last tick -/
structure Land where
  n : Int
  ws : List (Int × Int)
  l : Int
def landD (L : Land) : PyData := .tuple [.int L.n, .list (L.ws.map dP), .int L.l]
def landI (ns : List Int) (o : Nat) : Land := let v := valueI (ns.getD o 0) 1; ⟨placesI v, sortP (waysI v ns o (cntI v).toNat), 1 + v / 308 % 10⟩
theorem places_bd (v : Int) : 1 ≤ placesI v ∧ placesI v ≤ 7 := by
  unfold placesI
  omega
theorem cnt_bd (v : Int) : 0 ≤ cntI v ∧ cntI v ≤ 10 := by
  unfold cntI
  split <;> omega
theorem ways_len (v : Int) (ns : List Int) (o : Nat) : ∀ i, (waysI v ns o i).length ≤ i
  | 0 => Nat.le_refl _
  | i + 1 => by
    unfold waysI
    have h := ways_len v ns o i
    split
    · omega
    · rw [List.length_append, List.length_singleton]
      omega
theorem ways_nd (v : Int) (ns : List Int) (o : Nat) : ∀ i, (waysI v ns o i).Nodup
  | 0 => List.nodup_nil
  | i + 1 => by
    unfold waysI
    split
    · exact ways_nd v ns o i
    · rename_i h
      exact nd_snoc (ways_nd v ns o i) h
theorem pair_ok {v : Int} {ns : List Int} {o i : Nat} (h : 1 < placesI v) : 0 ≤ (pairI v ns o i).1 ∧ (pairI v ns o i).1 < (pairI v ns o i).2 ∧ (pairI v ns o i).2 < placesI v := by
  have hp := places_bd v
  have h1 : 0 ≤ oneI v ns o i := Int.emod_nonneg _ (by omega)
  have h2 : oneI v ns o i < placesI v := Int.emod_lt_of_pos _ (by omega)
  have h3 : 0 ≤ otherI v ns o i ∧ otherI v ns o i < placesI v ∧ otherI v ns o i ≠ oneI v ns o i := by
    have key : ∀ k : Int, 1 ≤ k → k < placesI v → 0 ≤ (oneI v ns o i + k) % placesI v ∧ (oneI v ns o i + k) % placesI v < placesI v ∧ (oneI v ns o i + k) % placesI v ≠ oneI v ns o i := fun k k1 k2 => by
      refine ⟨Int.emod_nonneg _ (by omega), Int.emod_lt_of_pos _ (by omega), ?_⟩
      by_cases hc : oneI v ns o i + k < placesI v
      · rw [Int.emod_eq_of_lt (by omega) hc]
        omega
      · have e : (oneI v ns o i + k) % placesI v = oneI v ns o i + k - placesI v := by
          rw [← Int.sub_emod_right, Int.emod_eq_of_lt (by omega) (by omega)]
        rw [e]
        omega
    unfold otherI
    split
    · exact key 1 (by omega) (by omega)
    · rw [Int.add_assoc]
      refine key _ ?_ ?_
      · have : 0 ≤ numI ns o i / 7 % (placesI v - 1) := Int.emod_nonneg _ (by omega)
        omega
      · have : numI ns o i / 7 % (placesI v - 1) < placesI v - 1 := Int.emod_lt_of_pos _ (by omega)
        omega
  unfold pairI
  dsimp only
  omega
theorem ways_ok {v : Int} {ns : List Int} {o : Nat} (h : 1 < placesI v) : ∀ i, ∀ p ∈ waysI v ns o i, 0 ≤ p.1 ∧ p.1 < p.2 ∧ p.2 < placesI v
  | 0, p, hp => nomatch hp
  | i + 1, p, hp => by
    unfold waysI at hp
    split at hp
    · exact ways_ok h i p hp
    · rcases List.mem_append.mp hp with hp | hp
      · exact ways_ok h i p hp
      · rw [List.mem_singleton.mp hp]
        exact pair_ok h
/-- a land as the document says -/
structure GoodLand (L : Land) : Prop where
  n1 : 1 ≤ L.n
  n7 : L.n ≤ 7
  wl : L.ws.length ≤ 10
  wo : ∀ p ∈ L.ws, 0 ≤ p.1 ∧ p.1 < p.2 ∧ p.2 < L.n
  ws : L.ws.Pairwise (fun a b => ltPr a b = true)
  l1 : 1 ≤ L.l
  l10 : L.l ≤ 10
theorem srt_strict {l : List (Int × Int)} (hn : l.Nodup) : (sortP l).Pairwise (fun a b => ltPr a b = true) := by
  have h1 := sortP_srt l
  have h2 : (sortP l).Nodup := (sortP_perm l).nodup_iff.mpr hn
  refine (h1.and h2).imp fun {a b} ⟨h, hne⟩ => ?_
  have := lePr_iff.mp h
  refine ltPr_iff.mpr ?_
  have : ¬ (a.1 = b.1 ∧ a.2 = b.2) := fun z => hne (Prod.ext z.1 z.2)
  omega
theorem land_good (ns : List Int) (o : Nat) : GoodLand (landI ns o) := by
  unfold landI
  dsimp only
  have hp := places_bd (valueI (ns.getD o 0) 1)
  have hc := cnt_bd (valueI (ns.getD o 0) 1)
  refine ⟨hp.1, hp.2, ?_, ?_, srt_strict (ways_nd _ _ _ _), ?_, ?_⟩
  · show (sortP _).length ≤ 10
    rw [sortP_len]
    have := ways_len (valueI (ns.getD o 0) 1) ns o (cntI (valueI (ns.getD o 0) 1)).toNat
    omega
  · intro p hm
    have hm : p ∈ sortP (waysI (valueI (ns.getD o 0) 1) ns o (cntI (valueI (ns.getD o 0) 1)).toNat) := hm
    rw [sortP_mem] at hm
    by_cases h1 : 1 < placesI (valueI (ns.getD o 0) 1)
    · exact ways_ok h1 _ p hm
    · have : cntI (valueI (ns.getD o 0) 1) = 0 := by
        unfold cntI
        rw [if_neg h1]
      rw [this] at hm
      exact nomatch hm
  · show 1 ≤ 1 + valueI (ns.getD o 0) 1 / 308 % 10
    omega
  · show 1 + valueI (ns.getD o 0) 1 / 308 % 10 ≤ 10
    omega
theorem ltD_pair (a b : Int × Int) : ltD (dP a) (dP b) = ltPr a b := rfl
theorem inc_of : ∀ {l : List (Int × Int)}, l.Pairwise (fun a b => ltPr a b = true) → incD (l.map dP) = true
  | [], _ => rfl
  | [_], _ => rfl
  | a :: b :: r, h => by
    obtain ⟨h1, h2⟩ := List.pairwise_cons.mp h
    show (ltD (dP a) (dP b) && incD ((b :: r).map dP)) = true
    rw [inc_of h2, ltD_pair, h1 b List.mem_cons_self]
    rfl
theorem isLand_good {L : Land} (g : GoodLand L) : isLand (landD L) = true := by
  obtain ⟨n1, n7, wl, wo, ws, l1, l10⟩ := g
  have e2 : ((L.ws.map dP).all fun w => isWay w L.n) = true := by
    rw [List.all_eq_true]
    intro d hd
    obtain ⟨p, hp, rfl⟩ := List.mem_map.mp hd
    have := wo p hp
    show (decide (0 ≤ p.1) && decide (p.1 ≤ L.n - 1) && (decide (p.1 + 1 ≤ p.2) && decide (p.2 ≤ L.n - 1))) = true
    simp
    omega
  show (decide (1 ≤ L.n) && decide (L.n ≤ 7) && ((decide ((L.ws.map dP).length ≤ 10) && (((L.ws.map dP).all fun w => isWay w L.n) && incD (L.ws.map dP))) && (decide (1 ≤ L.l) && decide (L.l ≤ 10)))) = true
  rw [e2, inc_of ws, List.length_map]
  simp
  omega
section
variable {P : Program} {w : World} {K : PySem.W.Frag} {mg : Str → Option Value} {base : Heap} {f : Addr} {fd : FuncData}
abbrev s__law_land : Stmt := (top 31)
theorem sc__law_land : FnScope ["_law_script", "_law_by", "_law_value_here", "_law_ways", "_law_places", "_law_kind", "_law_at", "_law_number", "_law_one", "_law_other", "_law_pair"] ["_law_script", "_law_by"] (defScope s__law_land) := ⟨rfl, rfl, rfl, by decide +kernel, rfl, by decide +kernel, by decide +kernel⟩
def R_land (ds : List PyData) (d : PyData) : Prop := ∃ (ns : List Int) (o : Nat), ds = [.list (ns.map .int), .int o] ∧ d = landD (landI ns o)
theorem ok_land (F : FnP K "_law_land" s__law_land f fd) (G : Gi mg) (c__law_cell_at : Cal P w K mg base CX0 1 "_law_cell_at" (spD K R_cell_at)) (c__law_value : Cal P w K mg base CX0 2 "_law_value" (spD K R_value)) : FnOk P w K mg base CX0 3 f fd ["_law_script", "_law_by"] (spD K R_land) := by
  refine okD F sc__law_land (by rintro _ _ ⟨x, n, rfl, _⟩; rfl) fun cdv A outer s H E hr => ⟨_, (pss_cons (ps_par (i := 2) (j := 3) rfl sc__law_land.nd rfl rfl (by decide) rfl rfl (pa_cons (pe_d c__law_value hr (by decide) rfl (pa_cons (pe_d c__law_cell_at hr (by decide) rfl (pa_cons (pv 0) (pa_cons (pv 1) pa_nil))) (pa_cons pe_int pa_nil))) (pa_cons (pe_lst pa_nil) pa_nil)) rfl)
      (pss_cons (ps_par (i := 4) (j := 5) rfl sc__law_land.nd rfl rfl (by decide) rfl rfl (pa_cons (pe_op op_add pe_int (pe_op op_mod (pe_op op_add (pv 2) pe_int) pe_int)) (pa_cons (pe_op op_mod (pe_op op_fdiv (pv 2) pe_int) pe_int) pa_nil)) rfl)
      (pss_cons (ps_for PassesOwn.never rfl (pi_range1 rfl G.b_range (pa_cons (pe_ifExp (pt_cmpR (op_gt) (pv 4) pe_int (nomark _)) (pe_op op_mod (pe_op op_fdiv (pv 2) pe_int) pe_int) pe_int) pa_nil)) (pg_name (i := 6) sc__law_land.nd rfl (Or.inl rfl))
        (pss_cons (ps_set (i := 7) sc__law_land.nd rfl (Or.inl rfl) (pe_op op_fdiv (pe_d c__law_value hr (by decide) rfl (pa_cons (pe_op op_add (pe_d c__law_cell_at hr (by decide) rfl (pa_cons (pv 0) (pa_cons (pe_op op_add (pv 1) (pe_op op_mod (pv 6) pe_int)) pa_nil))) (pe_op op_mul pe_int (pv 6))) (pa_cons pe_int pa_nil))) pe_int))
      (pss_cons (ps_set (i := 8) sc__law_land.nd rfl (Or.inl rfl) (pe_op op_mod (pv 7) (pv 4)))
      (pss_cons (ps_set (i := 9) sc__law_land.nd rfl (Or.inl rfl) (pe_ifExp (pt_cmpR (op_eqk (K := K) rfl hr.units) (pv 5) pe_int (nomark _)) (pe_op op_mod (pe_op op_add (pv 8) pe_int) (pv 4)) (pe_op op_mod (pe_op op_add (pe_op op_add (pv 8) pe_int) (pe_op op_mod (pe_op op_fdiv (pv 7) pe_int) (pe_op op_sub (pv 4) pe_int))) (pv 4))))
      (pss_cons (ps_set (i := 10) sc__law_land.nd rfl (Or.inl rfl) (pe_tup (pa_cons (pe_callB (call_min2' rfl) rfl G.b_min (by decide +kernel) (pa_cons (pv 8) (pa_cons (pv 9) pa_nil))) (pa_cons (pe_callB (call_max2' rfl) rfl G.b_max (by decide +kernel) (pa_cons (pv 8) (pa_cons (pv 9) pa_nil))) pa_nil))))
      (pss_one (ps_if (pt_cmpR (op_notInk (K := K) rfl (hu65 hr)) (pv 10) (pv 3) rfl) (pss_one (ps_expr (pe_bm PySem.F.plainAttrs_list PySem.F.slot_list_append PySem.F.type_list_append mt_append (pv 3) (pa_cons (pv 10) pa_nil)))) pss_nil)))))))
      (pss_one (ps_ret (pe_tup (pa_cons (pv 4) (pa_cons (pe_callB (cr_sortedk (K := K) rfl) rfl G.b_sorted (by decide +kernel) (pa_cons (pv 3) pa_nil)) (pa_cons (pe_op op_add pe_int (pe_op op_mod (pe_op op_fdiv (pv 2) pe_int) pe_int)) pa_nil))))))))), ?_⟩
  rintro _ _ ⟨ns, o, rfl, rfl⟩
  intro σ Hs H e s D q
  have hv := value_nn (ns.getD o 0) 1
  -- _law_value_here, _law_ways = ..
  refine (yd_call (ya_cons (yd_call (ya_cons (yd_var rfl) (ya_cons (yd_var rfl) ya_nil)) ⟨_, _, rfl, rfl⟩) (ya_cons yd_int ya_nil)) ⟨_, _, rfl, by decide, by decide, rfl⟩ : YD K _ _ _) σ Hs H e s _ fun v Hs1 H1 g1 r1 => ?_
  refine ⟨Nat.zero_le _, fun p hp => ⟨_, _, rfl, ?_⟩⟩
  have hp1 : Hs1 p = none := same_none g1.c hp
  have hp0 : H p = none := same_none g1.b hp
  have g2 : Gr Hs H Hs1 (upd H1 p (.lst [])) := g1.trans (Gr.fresh g1.c hp)
  have e2 := ((e.mono g1.a).set 2 r1).del (x := some (.ref p)) 3
  have hσ2 : (((σ.set 2 (some v)).set 3 (some (.ref p)))[3]?) = some (some (.ref p)) := List.getElem?_set_self (by rw [List.length_set, e.1]; exact (by decide : 3 < 11))
  generalize (σ.set 2 (some v)).set 3 (some (.ref p)) = σ2 at e2 hσ2 ⊢
  generalize hV : valueI (ns.getD o 0) 1 = vv at e2 hv
  have hpl := places_bd vv
  have hcn := cnt_bd vv
  -- _law_places, _law_kind = ..
  refine (yn_par (ya_cons (yd_op yd_int (yd_op (yd_op (yd_var rfl) yd_int rd_I0) yd_int (rd_I (by decide))) rd_I0) (ya_cons (yd_op (yd_op (yd_var rfl) yd_int (rd_I ⟨by decide, by decide⟩)) yd_int (rd_I (by decide))) ya_nil)) : YN K _ _ _ _) σ2 Hs1 _ e2 g2.c _ fun σ3 Hs3 H3 g3 e3 n3 => ?_
  have hσ3 : σ3[3]? = some (some (.ref p)) := (n3 3 (by decide)).trans hσ2
  have g3' := g2.trans g3
  have hp3 : Hs3 p = none := g3.d p (by rw [upd_same]; trivial) hp1
  have hl3 : H3 p = some (.lst []) := g3.b _ _ upd_same
  -- the loop
  refine y_for (D := { D with nx := _ }) (ds := rgD 0 (cntI vv).toNat) (yi_rng1 (n := cntI vv) (ya_cons (yd_if (b := decide (1 < placesI vv)) (yt_test (yd_op (yd_var rfl) yd_int rd_B0)) (fun hb => YD.eq (yd_op (yd_op (yd_var rfl) yd_int (rd_I ⟨by decide, by decide⟩)) yd_int (rd_I (by decide))) ?_) (fun hb => YD.eq yd_int ?_)) ya_nil) (by omega) (by omega)) e3 g3.c fun Hs4 H4 g4 => ⟨fun i σ' Hs' H' => Gr Hs H Hs' H' ∧ Same Hs4 Hs' ∧ EnvD K Hs' σ' ([some (.list (ns.map .int)), some (.int o), some (.int vv), none, some (.int (placesI vv)), some (.int (kindI vv)), none, none, none, none, none] : Rho) ∧ σ'[3]? = some (some (.ref p)) ∧ Hs' p = none ∧ ∃ vs, H' p = some (.lst vs) ∧ RpAll K Hs' vs ((waysI vv ns o i).map dP), ⟨g3'.trans g4, Same.refl _, (e3.mono g4.a), hσ3, g4.d p (by rw [hl3]; trivial) hp3, [], g4.b _ _ hl3, .nil⟩, fun i σ' Hs' H' p => ⟨p.2.1, p.1.c⟩, ?_, ?_⟩
  · have := of_decide_eq_true hb
    unfold cntI
    rw [if_pos this]
  · have := of_decide_eq_false hb
    unfold cntI
    rw [if_neg this]
  · rintro i d σ' Hs' H' hd ⟨gr, s4, e4, hσ4, hp4, vs, hl4, ra⟩ x Hs5 H5 g5 rx
    have hi : i < (cntI vv).toNat := by
      have := (List.getElem?_eq_some_iff.mp hd).1
      rwa [rgD_len] at this
    rw [rgD_get hi] at hd
    cases hd
    have h1p : 1 < placesI vv := by
      by_cases h : 1 < placesI vv
      · exact h
      · unfold cntI at hi
        rw [if_neg h] at hi
        simp at hi
    have i0 : (0 : Int) + (i : Int) = (i : Int) := Int.zero_add _
    rw [i0] at rx
    have e5 := (e4.mono g5.a).set 6 rx
    have hσ5 : (σ'.set 6 (some x))[3]? = some (some (.ref p)) := by rw [List.getElem?_set_ne (by decide)]; exact hσ4
    show tSeq _ _ _ (σ'.set 6 (some x)) H5
    generalize σ'.set 6 (some x) = σ5 at e5 hσ5 ⊢
    have hp5 : Hs5 p = none := g5.d p (by rw [hl4]; trivial) hp4
    have hl5 : H5 p = some (.lst vs) := g5.b _ _ hl4
    -- number, one, other, pair
    have hmod : ((i : Int) % 4) = ((i % 4 : Nat) : Int) := by omega
    refine (yn_asg (YD.eq (yd_op (yd_call (ya_cons (yd_op (yd_call (ya_cons (yd_var rfl) (ya_cons (YD.eq (yd_op (yd_var rfl) (yd_op (yd_var rfl) yd_int (rd_I (by decide))) rd_I0) (d' := .int ((o + i % 4 : Nat) : Int)) ?_) ya_nil)) ⟨_, _, rfl, rfl⟩) (yd_op yd_int (yd_var rfl) (rd_I ?_)) rd_I0) (ya_cons yd_int ya_nil)) ⟨_, _, rfl, by decide, by decide, rfl⟩) yd_int (rd_I ⟨by decide, by decide⟩)) (d' := .int (numI ns o i)) rfl) yg_name : YN K _ _ _ _) σ5 Hs5 H5 e5 g5.c _ fun σ6 Hs6 H6 g6 e6 n6 => ?_
    · rw [hmod]
      rfl
    · exact .inl ⟨by decide, by decide⟩
    refine (yn_asg (YD.eq (yd_op (yd_var rfl) (yd_var rfl) (rd_I (by omega))) (d' := .int (oneI vv ns o i)) rfl) yg_name : YN K _ _ _ _) σ6 Hs6 H6 e6 g6.c _ fun σ7 Hs7 H7 g7 e7 n7 => ?_
    refine (yn_asg (yd_if (d := .int (otherI vv ns o i)) (b := decide (kindI vv = 1)) (YT.eq (yt_test (yd_op (yd_var rfl) yd_int (rd_eqD rfl rfl))) ?_) (fun hb => YD.eq (yd_op (yd_op (yd_var rfl) yd_int rd_I0) (yd_var rfl) (rd_I (by omega))) ?_) (fun hb => YD.eq (yd_op (yd_op (yd_op (yd_var rfl) yd_int rd_I0) (yd_op (yd_op (yd_var rfl) yd_int (rd_I ⟨by decide, by decide⟩)) (yd_op (yd_var rfl) yd_int rd_I0) (rd_I (by omega))) rd_I0) (yd_var rfl) (rd_I (by omega))) ?_)) yg_name : YN K _ _ _ _) σ7 Hs7 H7 e7 g7.c _ fun σ8 Hs8 H8 g8 e8 n8 => ?_
    · show (kindI vv == 1) = decide (kindI vv = 1)
      rfl
    · have := of_decide_eq_true hb
      unfold otherI
      rw [if_pos this]
    · have := of_decide_eq_false hb
      unfold otherI
      rw [if_neg this]
    refine (yn_asg (YD.eq (yd_tup (ya_cons (yd_cb (ya_cons (yd_var rfl) (ya_cons (yd_var rfl) ya_nil)) rc_min) (ya_cons (yd_cb (ya_cons (yd_var rfl) (ya_cons (yd_var rfl) ya_nil)) rc_max) ya_nil)) (Nat.le_of_ble_eq_true rfl)) (d' := dP (pairI vv ns o i)) rfl) yg_name : YN K _ _ _ _) σ8 Hs8 H8 e8 g8.c _ fun σ9 Hs9 H9 g9 e9 n9 => ?_
    have hσ9 : σ9[3]? = some (some (.ref p)) := (n9 3 (by decide)).trans ((n8 3 (by decide)).trans ((n7 3 (by decide)).trans ((n6 3 (by decide)).trans hσ5)))
    have G9 := ((g6.trans g7).trans g8).trans g9
    have hp9 : Hs9 p = none := G9.d p (by rw [hl5]; trivial) hp5
    have hl9 : H9 p = some (.lst vs) := G9.b _ _ hl5
    have ra9 := ra.mono (g5.a.trans G9.a)
    have gr9 := (gr.trans g5).trans G9
    -- if pair not in ways
    refine (yt_test (yd_op (yd_var rfl) (yd_var rfl) (rd_notInD (shp_pair _) (shp_pairs _))) : YT K _ _ _) σ9 (upd Hs9 p (.lst vs)) H9 (e9.own hσ9 hp9 ra9) (same_own G9.c hl9) _ fun Hsx H10 gx => ?_
    have g10 : Gr Hs9 H9 Hs9 H10 := Gr.back (same_new hp9) gx
    have hl10 : H10 p = some (.lst vs) := g10.b _ _ hl9
    rw [any_pairs]
    have hln : vs.length ≤ i := by
      rw [ra.len, List.length_map]
      exact ways_len _ _ _ _
    by_cases hm : pairI vv ns o i ∈ waysI vv ns o i
    · rw [decide_eq_true hm, if_neg (by decide)]
      refine ⟨Hs9, gr9.trans g10, s4.trans (g5.a.trans G9.a), (e9.sub ⟨rfl, rfl, rfl, rfl, rfl, trivial⟩), hσ9, hp9, vs, hl10, ?_⟩
      have : waysI vv ns o (i + 1) = waysI vv ns o i := by
        show (if _ then _ else _) = _
        rw [if_pos hm]
      rw [this]
      exact ra9
    · rw [decide_eq_false hm]
      rw [if_pos (show (!false) = true from rfl)]
      refine s_append (d := dP (pairI vv ns o i)) hσ9 hl10 (yd_var rfl) e9 g10.c (by omega) fun u Hs11 H11 g11 r11 => ?_
      have hp11 : Hs11 p = none := g11.d p (by rw [hl10]; trivial) hp9
      refine ⟨Hs11, ((gr9.trans g10).trans g11).mut hp0 hp11, s4.trans (g5.a.trans (G9.a.trans g11.a)), ((e9.mono g11.a).sub ⟨rfl, rfl, rfl, rfl, rfl, trivial⟩), hσ9, hp11, vs ++ [u], upd_same, ?_⟩
      have : waysI vv ns o (i + 1) = waysI vv ns o i ++ [pairI vv ns o i] := by
        show (if _ then _ else _) = _
        rw [if_neg hm]
      rw [this, List.map_append]
      exact (ra9.mono g11.a).snoc r11
  · rintro σ' Hs' H' ⟨gr, s4, e4, hσ4, hp4, vs, hl4, ra⟩
    rw [rgD_len] at ra
    have g5 := gr.settle hp0 hl4 hp4
    refine (yd_tup (ya_cons (yd_var rfl) (ya_cons (yd_cb (ya_cons (yd_var rfl) ya_nil) rc_sortedP) (ya_cons (yd_op yd_int (yd_op (yd_op (yd_var rfl) yd_int (rd_I ⟨by decide, by decide⟩)) yd_int (rd_I (by decide))) rd_I0) ya_nil))) (Nat.le_of_ble_eq_true rfl) : YD K _ _ _) σ' (upd Hs' p (.lst vs)) H' (e4.own hσ4 hp4 ra) (same_own gr.c hl4) _ fun v' Hs6 H6 g6 r6 => ?_
    refine q v' Hs6 H6 (g5.trans g6) ?_
    have : landD (landI ns o) = .tuple [.int (placesI vv), .list ((sortP (waysI vv ns o (cntI vv).toNat)).map dP), .int (1 + vv / 308 % 10)] := by
      unfold landI landD
      rw [hV]
    rw [this]
    exact r6
end
end SG
set_option Elab.async false
set_option linter.all false
set_option maxRecDepth 100000
set_option maxHeartbeats 4000000
namespace SG
open PySem PySem.Spec PyProof.Rows L2
/-! ### news -/
structure NewsS where
  n : Int
  l : Int
  heard : List ((Int × Int) × (Int × Int))
  struck : List (Int × Int)
def hT (h : List ((Int × Int) × (Int × Int))) : List ((Int × Int) × PyData) := h.map fun q => (q.1, dP q.2)
def sT (h : List (Int × Int)) : List ((Int × Int) × PyData) := h.map fun k => (k, .bool true)
def lookH (h : List ((Int × Int) × (Int × Int))) (k : Int × Int) : Option (Int × Int) := (h.find? fun q => decide (q.1 = k)).map (·.2)
theorem look_hT (k : Int × Int) : ∀ h : List ((Int × Int) × (Int × Int)), lookT (hT h) k = (lookH h k).map dP
  | [] => rfl
  | q :: r => by
    have ih := look_hT k r
    by_cases e : q.1 = k
    · simp [lookT, lookH, hT, List.find?_cons, e]
    · simp only [lookT, lookH, hT, List.map_cons, List.find?_cons, e, decide_false] at ih ⊢
      exact ih
theorem look_sT (k : Int × Int) : ∀ h : List (Int × Int), (lookT (sT h) k).isSome = decide (k ∈ h)
  | [] => rfl
  | q :: r => by
    have ih := look_sT k r
    by_cases e : q = k
    · subst e
      simp [lookT, sT, List.find?_cons]
    · simp only [lookT, sT, List.map_cons, List.find?_cons, e, decide_false] at ih ⊢
      rw [ih]
      have e' : ¬ k = q := fun z => e z.symm
      simp [e']
theorem put_hT {h : List ((Int × Int) × (Int × Int))} {k v : Int × Int} (hn : lookH h k = none) : putT (hT h) k (dP v) = hT (h ++ [(k, v)]) := by
  unfold putT
  rw [if_neg]
  · simp [hT]
  · intro z
    obtain ⟨q, hq, e⟩ := List.any_eq_true.mp z
    obtain ⟨r, hr, rfl⟩ := List.mem_map.mp hq
    have : lookH h k ≠ none := by
      unfold lookH
      rw [Ne, Option.map_eq_none_iff, List.find?_eq_none]
      intro hh
      exact hh r hr e
    exact this hn
def strikeS (s : List (Int × Int)) (k : Int × Int) : List (Int × Int) := if k ∈ s then s else s ++ [k]
theorem put_sT (s : List (Int × Int)) (k : Int × Int) : putT (sT s) k (.bool true) = sT (strikeS s k) := by
  unfold putT strikeS
  have e : ((sT s).any fun q => decide (q.1 = k)) = decide (k ∈ s) := by
    induction s with
    | nil => rfl
    | cons x s ih =>
      have : ((sT (x :: s)).any fun q => decide (q.1 = k)) = (decide (x = k) || (sT s).any fun q => decide (q.1 = k)) := rfl
      rw [this, ih]
      by_cases h : x = k
      · subst h; simp
      · have h' : ¬ k = x := fun z => h z.symm
        simp [h, h']
  rw [e]
  by_cases h : k ∈ s
  · rw [decide_eq_true h, if_pos rfl, if_pos h]
    unfold sT
    rw [List.map_map]
    apply List.map_congr_left
    intro x hx
    by_cases hx2 : x = k
    · simp [hx2]
    · simp [hx2]
  · rw [decide_eq_false h, if_neg (by decide), if_neg h]
    simp [sT]
/-- what stands, by hands and numbers -/
def stand (N : NewsS) : List (Int × Int) := (((sortP (N.heard.map (·.1))).filter fun k => !decide (k ∈ N.struck)).map fun k => (lookH N.heard k).getD (0, 0))
inductive Er where | badLand | badPlace | badTick | badHand | badOwn | unlike | tooMany
  deriving DecidableEq
def intOf : PyData → Int
  | .int i => i
  | _ => 0
theorem numIn_int {d : PyData} {a b : Int} (h : numIn d a b = true) : d = .int (intOf d) ∧ a ≤ intOf d ∧ intOf d ≤ b := by
  cases d with
  | int i => exact ⟨rfl, by simpa [numIn, intOf] using h⟩
  | _ => cases h
def srcF (a b : PyData) : Option Er := if numIn a 0 3 = true then (if numIn b 0 9 = true then none else some .badOwn) else some .badHand
def hearF (N : NewsS) (a b c d : PyData) : Except Er (Bool × NewsS) :=
  match srcF a b with
  | some e => .error e
  | none =>
    if numIn c 0 N.l = true then
      if numIn d 0 (N.n - 1) = true then
        match lookH N.heard (intOf a, intOf b) with
        | some v => if v = (intOf c, intOf d) then .ok (false, N) else .error .unlike
        | none => if 8 ≤ N.heard.length then .error .tooMany else .ok (true, { N with heard := N.heard ++ [((intOf a, intOf b), (intOf c, intOf d))] })
      else .error .badPlace
    else .error .badTick
def strikeF (N : NewsS) (a b : PyData) : Except Er (Bool × NewsS) :=
  match srcF a b with
  | some e => .error e
  | none => .ok (!decide ((intOf a, intOf b) ∈ N.struck), { N with struck := strikeS N.struck (intOf a, intOf b) })
def nfl (n l : Int) (dh dst : Addr) : List (Str × V) := putF "struck" (.ref dst) (putF "heard" (.ref dh) (putF "last" (.int l) (putF "places" (.int n) [])))
theorem n12 : ¬ (("last" : Str) = "places") := by decide +kernel
theorem n13 : ¬ (("heard" : Str) = "places") := by decide +kernel
theorem n14 : ¬ (("struck" : Str) = "places") := by decide +kernel
theorem n23 : ¬ (("heard" : Str) = "last") := by decide +kernel
theorem n24 : ¬ (("struck" : Str) = "last") := by decide +kernel
theorem n34 : ¬ (("struck" : Str) = "heard") := by decide +kernel
theorem nfl_places (n l : Int) (dh dst : Addr) : (nfl n l dh dst).lookup ("places" : Str) = some (.int n) := by
  unfold nfl
  rw [lookup_putF, if_neg (fun z => n14 z.symm), lookup_putF, if_neg (fun z => n13 z.symm), lookup_putF, if_neg (fun z => n12 z.symm), lookup_putF, if_pos rfl]
theorem nfl_last (n l : Int) (dh dst : Addr) : (nfl n l dh dst).lookup ("last" : Str) = some (.int l) := by
  unfold nfl
  rw [lookup_putF, if_neg (fun z => n24 z.symm), lookup_putF, if_neg (fun z => n23 z.symm), lookup_putF, if_pos rfl]
theorem nfl_heard (n l : Int) (dh dst : Addr) : (nfl n l dh dst).lookup ("heard" : Str) = some (.ref dh) := by
  unfold nfl
  rw [lookup_putF, if_neg (fun z => n34 z.symm), lookup_putF, if_pos rfl]
theorem nfl_struck (n l : Int) (dh dst : Addr) : (nfl n l dh dst).lookup ("struck" : Str) = some (.ref dst) := by
  unfold nfl
  rw [lookup_putF, if_pos rfl]
theorem nfl_no (n l : Int) (dh dst : Addr) {m : Str} (h1 : ¬ m = "places") (h2 : ¬ m = "last") (h3 : ¬ m = "heard") (h4 : ¬ m = "struck") : (nfl n l dh dst).lookup m = none := by
  unfold nfl
  rw [lookup_putF, if_neg h4, lookup_putF, if_neg h3, lookup_putF, if_neg h2, lookup_putF, if_neg h1]
  rfl
theorem nfl_len (n l : Int) (dh dst : Addr) : (nfl n l dh dst).length ≤ 4 := by
  have : ∀ (f : Str) (v : V) (fs : List (Str × V)), (putF f v fs).length ≤ fs.length + 1 := fun f v fs => by
    induction fs with
    | nil => exact Nat.le_refl _
    | cons x r ih =>
      obtain ⟨g, y⟩ := x
      show (if g = f then (g, v) :: r else (g, y) :: putF f v r).length ≤ _
      split
      · simp
      · simp only [List.length_cons]
        omega
  unfold nfl
  have h1 := this "places" (.int n) []
  have h2 := this "last" (.int l) (putF "places" (.int n) [])
  have h3 := this "heard" (.ref dh) (putF "last" (.int l) (putF "places" (.int n) []))
  have h4 := this "struck" (.ref dst) (putF "heard" (.ref dh) (putF "last" (.int l) (putF "places" (.int n) [])))
  simp only [List.length_nil] at h1
  omega
/-- what the class's facts are -/
structure NTxt (K : PySem.W.Frag) (C : Addr) : Prop where
  cl : Cls K C
  aP : NoAttr K C "places"
  aL : NoAttr K C "last"
  aH : NoAttr K C "heard"
  aS : NoAttr K C "struck"
structure NewsAt (K : PySem.W.Frag) (C : Addr) (Hs H : Hp) (p dh dst : Addr) (N : NewsS) : Prop where
  ob : ∃ dx, H p = some (.ins C dx (nfl N.n N.l dh dst))
  he : ∃ kvs, H dh = some (.dT kvs) ∧ RpT K Hs kvs (hT N.heard)
  st : ∃ kvs, H dst = some (.dT kvs) ∧ RpT K Hs kvs (sT N.struck)
  np : Hs p = none
  nh : Hs dh = none
  ns : Hs dst = none
  ne : dh ≠ dst
theorem NewsAt.gr {K : PySem.W.Frag} {C : Addr} {Hs H Hs2 H2 : Hp} {p dh dst : Addr} {N : NewsS} (h : NewsAt K C Hs H p dh dst N) (g : Gr Hs H Hs2 H2) : NewsAt K C Hs2 H2 p dh dst N := by
  obtain ⟨⟨dx, o⟩, ⟨k1, h1, r1⟩, ⟨k2, h2, r2⟩, a, b, c, d⟩ := h
  exact ⟨⟨dx, g.b _ _ o⟩, ⟨k1, g.b _ _ h1, r1.mono g.a⟩, ⟨k2, g.b _ _ h2, r2.mono g.a⟩, g.d _ (by rw [o]; trivial) a, g.d _ (by rw [h1]; trivial) b, g.d _ (by rw [h2]; trivial) c, d⟩
theorem NewsAt.grx {K : PySem.W.Frag} {C : Addr} {ms : List Addr} {Hs H Hs2 H2 : Hp} {p dh dst : Addr} {N : NewsS} (h : NewsAt K C Hs H p dh dst N) (g : GrX ms Hs H Hs2 H2) (n1 : p ∉ ms) (n2 : dh ∉ ms) (n3 : dst ∉ ms) : NewsAt K C Hs2 H2 p dh dst N := by
  obtain ⟨⟨dx, o⟩, ⟨k1, h1, r1⟩, ⟨k2, h2, r2⟩, a, b, c, d⟩ := h
  exact ⟨⟨dx, g.b _ _ n1 o⟩, ⟨k1, g.b _ _ n2 h1, r1.mono g.a⟩, ⟨k2, g.b _ _ n3 h2, r2.mono g.a⟩, g.d _ (by rw [o]; trivial) a, g.d _ (by rw [h1]; trivial) b, g.d _ (by rw [h2]; trivial) c, d⟩
def spInit (K : PySem.W.Frag) (C : Addr) (cs : Er → Addr) : Sp := fun vs H Q E => ∃ (Hs : Hp) (p dx : Addr) (v : V) (x : PyData), vs = [.ref p, v] ∧ Same Hs H ∧ Rp K Hs v x ∧ H p = some (.ins C dx []) ∧ Hs p = none ∧
  ((isLand x = false ∧ ∀ Hs2 H2, Gr Hs H Hs2 H2 → E (.ref (cs .badLand)) none H2) ∨ ∃ n ws l, x = .tuple [.int n, ws, .int l] ∧ isLand x = true ∧ ∀ Hs2 H2 dh dst, GrX [p] Hs H Hs2 H2 → H dh = none → H dst = none → NewsAt K C Hs2 H2 p dh dst ⟨n, l, [], []⟩ → Q .non H2)
def spHear (K : PySem.W.Frag) (C : Addr) (cs : Er → Addr) : Sp := fun vs H Q E => ∃ (Hs : Hp) (p dh dst : Addr) (N : NewsS) (ws : List V) (a b c d : PyData), vs = .ref p :: ws ∧ Same Hs H ∧ RpAll K Hs ws [a, b, c, d] ∧ NewsAt K C Hs H p dh dst N ∧ N.heard.length ≤ 100 ∧
  match hearF N a b c d with
  | .ok (r, N') => ∀ Hs2 H2, GrX [dh] Hs H Hs2 H2 → NewsAt K C Hs2 H2 p dh dst N' → Q (.bl r) H2
  | .error x => ∀ Hs2 H2, Gr Hs H Hs2 H2 → E (.ref (cs x)) none H2
def spStrike (K : PySem.W.Frag) (C : Addr) (cs : Er → Addr) : Sp := fun vs H Q E => ∃ (Hs : Hp) (p dh dst : Addr) (N : NewsS) (ws : List V) (a b : PyData), vs = .ref p :: ws ∧ Same Hs H ∧ RpAll K Hs ws [a, b] ∧ NewsAt K C Hs H p dh dst N ∧ N.struck.length ≤ 100 ∧
  match strikeF N a b with
  | .ok (r, N') => ∀ Hs2 H2, GrX [dst] Hs H Hs2 H2 → NewsAt K C Hs2 H2 p dh dst N' → Q (.bl r) H2
  | .error x => ∀ Hs2 H2, Gr Hs H Hs2 H2 → E (.ref (cs x)) none H2
def spStand (K : PySem.W.Frag) (C : Addr) : Sp := fun vs H Q _ => ∃ (Hs : Hp) (p dh dst : Addr) (N : NewsS), vs = [.ref p] ∧ Same Hs H ∧ NewsAt K C Hs H p dh dst N ∧ N.heard.length ≤ 100 ∧ ∀ a acc Hs2 H2, Gr Hs H Hs2 H2 → H a = none → Hs2 a = none → H2 a = some (.lst acc) → RpAll K Hs2 acc ((stand N).map dP) → Q (.ref a) H2
section
variable {P : Program} {w : World} {K : PySem.W.Frag} {mg : Str → Option Value} {base : Heap} {f C : Addr} {fd : FuncData} {cs : Er → Addr}
abbrev s_check_source : Stmt := (top 25)
theorem sc_check_source : FnScope ["hand", "own"] ["hand", "own"] (defScope s_check_source) := ⟨rfl, rfl, rfl, by decide +kernel, rfl, by decide +kernel, by decide +kernel⟩
def R_check_source (ds : List PyData) (d : PyData) : Prop := ∃ a b, ds = [a, b] ∧ srcF a b = none ∧ d = .none
def X_check_source (cs : Er → Addr) (ds : List PyData) (C' : Addr) : Prop := ∃ a b e, ds = [a, b] ∧ srcF a b = some e ∧ C' = cs e
theorem ok_check_source (F : FnP K "check_source" s_check_source f fd) (G : Gi mg) (x_BadHand : Xc K mg "BadHand" (cs .badHand)) (x_BadOwn : Xc K mg "BadOwn" (cs .badOwn)) (c_is_within : Cal P w K mg base CX0 2 "is_within" (spD K R_is_within)) : FnOk P w K mg base (L2.CX P w) 3 f fd ["hand", "own"] (spX K R_check_source (X_check_source cs)) := by
  refine okX F sc_check_source (by rintro _ _ ⟨x, n, rfl, _⟩; rfl) (by rintro _ _ ⟨x, n, e, rfl, _⟩; rfl) fun cdv A outer s H E hr => ⟨_, (pss_cons (ps_if (pt_not (pt_val (pe_d c_is_within hr (by decide) rfl (pa_cons (pv 0) (pa_cons pe_int (pa_cons (pe_gi rfl G.i_LAST_HAND) pa_nil)))))) (pss_one (ps_raise rfl (takes_of rfl rfl rfl rfl) (pmk_own PySem.F.excBase_ValueError x_BadHand.ex x_BadHand.mg x_BadHand.kp (raises_own x_BadHand.sub x_BadHand.ty) rfl))) pss_nil)
      (pss_one (ps_if (pt_not (pt_val (pe_d c_is_within hr (by decide) rfl (pa_cons (pv 1) (pa_cons pe_int (pa_cons (pe_gi rfl G.i_LAST_OWN) pa_nil)))))) (pss_one (ps_raise rfl (takes_of rfl rfl rfl rfl) (pmk_own PySem.F.excBase_ValueError x_BadOwn.ex x_BadOwn.mg x_BadOwn.kp (raises_own x_BadOwn.sub x_BadOwn.ty) rfl))) pss_nil))), ?_, ?_⟩
  · rintro _ _ ⟨a, b, rfl, hx, rfl⟩
    unfold srcF at hx
    split at hx
    · rename_i h1
      split at hx
      · rename_i h2
        exact .inr ⟨rfl, _, _, yn_seq (yn_ifF ((yt_not (yt_B (yd_call (ya_cons (yd_var rfl) (ya_cons yd_int (ya_cons yd_int ya_nil))) ⟨_, _, _, rfl, rfl⟩))).eq (by rw [h1]; rfl)) yn_next) (yn_ifF ((yt_not (yt_B (yd_call (ya_cons (yd_var rfl) (ya_cons yd_int (ya_cons yd_int ya_nil))) ⟨_, _, _, rfl, rfl⟩))).eq (by rw [h2]; rfl)) yn_next)⟩
      · cases hx
    · cases hx
  · rintro _ _ ⟨a, b, e, rfl, hx, rfl⟩
    unfold srcF at hx
    split at hx
    · rename_i h1
      split at hx
      · cases hx
      · rename_i h2
        cases hx
        have h2' : numIn b 0 9 = false := by simpa using h2
        exact ye_seq (yn_ifF ((yt_not (yt_B (yd_call (ya_cons (yd_var rfl) (ya_cons yd_int (ya_cons yd_int ya_nil))) ⟨_, _, _, rfl, rfl⟩))).eq (by rw [h1]; rfl)) yn_next) (ye_if (b := true) ((yt_not (yt_B (yd_call (ya_cons (yd_var rfl) (ya_cons yd_int (ya_cons yd_int ya_nil))) ⟨_, _, _, rfl, rfl⟩))).eq (by rw [h2']; rfl)) (fun _ => ye_raise) (fun h => nomatch h))
    · rename_i h1
      cases hx
      have h1' : numIn a 0 3 = false := by simpa using h1
      exact ye_seqE (ye_if (b := true) ((yt_not (yt_B (yd_call (ya_cons (yd_var rfl) (ya_cons yd_int (ya_cons yd_int ya_nil))) ⟨_, _, _, rfl, rfl⟩))).eq (by rw [h1']; rfl)) (fun _ => ye_raise) (fun h => nomatch h))
end
end SG
set_option Elab.async false
set_option linter.all false
set_option maxRecDepth 100000
set_option maxHeartbeats 4000000
namespace SG
open PySem PySem.Spec PyProof.Rows L2
section
variable {P : Program} {w : World} {K : PySem.W.Frag} {mg : Str → Option Value} {base : Heap} {f C : Addr} {fd : FuncData} {cs : Er → Addr}
abbrev FnM (K : PySem.W.Frag) (x q : Str) (st : Stmt) (f : Addr) (fd : FuncData) : Prop := FunD K x q (defArgs st) (defBody st) (defScope st) [] [] f fd
abbrev s_News___init__ : Stmt := (inClass (top 26) 0)
theorem sc_News___init__ : FnScope ["self", "land", "places", "ways", "last"] ["self", "land"] (defScope s_News___init__) := ⟨rfl, rfl, rfl, by decide +kernel, rfl, by decide +kernel, by decide +kernel⟩
theorem ok_init (F : FnM K "__init__" "News.__init__" s_News___init__ f fd) (G : Gi mg) (T : NTxt K C) (c_check_land : Cal P w K mg base (L2.CX P w) 6 "check_land" (spX K R_check_land (X_check_land (cs .badLand)))) : FnOk P w K mg base (L2.CX P w) 7 f fd ["self", "land"] (spInit K C cs) := by
  refine F.ok sc_News___init__ (fun vs H Q E h => ?_) (fun cdv A outer s H vs Q E hr h => ⟨_, (pss_cons (ps_expr (pe_dX c_check_land hr (by decide) (takes_of rfl rfl rfl rfl) rfl (pa_cons (pv 1) pa_nil)))
      (pss_cons (ps_asg (pv 1) (pg_tupk (K := K) (n := 3) rfl rfl (pgs_cons (pg_name (i := 2) sc_News___init__.nd rfl (Or.inl rfl)) (pgs_cons (pg_name (i := 3) sc_News___init__.nd rfl (Or.inl rfl)) (pgs_cons (pg_name (i := 4) sc_News___init__.nd rfl (Or.inl rfl)) pgs_nil)))))
      (pss_cons (ps_fld (pv 0) (pv 2) rfl)
      (pss_cons (ps_fld (pv 0) (pv 4) rfl)
      (pss_cons (ps_fld (pv 0) pe_dnewT rfl)
      (pss_one (ps_fld (pv 0) pe_dnewT rfl))))))), ?_⟩)
  · obtain ⟨Hs, p, dx, v, x, rfl, _⟩ := h
    rfl
  · obtain ⟨Hs, p, dx, v, x, rfl, hs, rv, hp, hps, h⟩ := h
    have e : EnvD K Hs (L2.start ["self", "land", "places", "ways", "last"] [.ref p, v]) [none, some x, none, none, none] := env_none (env_some rv (env_none (env_none (env_none env_nil))))
    have h0 : (L2.start ["self", "land", "places", "ways", "last"] [.ref p, v])[0]? = some (some (.ref p)) := rfl
    generalize L2.start ["self", "land", "places", "ways", "last"] [.ref p, v] = σ at e h0 ⊢
    rcases h with ⟨hx, q⟩ | ⟨n, ws, l, rfl, hx, q⟩
    · exact ye_seqE (ye_expr (yde_callX (ya_cons (yd_var rfl) ya_nil) ⟨_, rfl, hx, rfl⟩)) σ Hs H e hs q _
    · refine (yn_expr (yd_callX (ya_cons (yd_var rfl) ya_nil) ⟨_, rfl, hx, rfl⟩) : YN K _ _ _ _) σ Hs H e hs _ fun σ1 Hs1 H1 g1 e1 n1 => ?_
      refine (yn_asg (yd_var rfl) (yg_tup (ygs_cons yg_name (ygs_cons yg_name (ygs_cons yg_name ygs_nil))) rfl) : YN K _ _ _ _) σ1 Hs1 H1 e1 g1.c _ fun σ2 Hs2 H2 g2 e2 n2 => ?_
      have g := g1.trans g2
      have hσ0 : σ2[0]? = some (some (.ref p)) := (n2 0 (by decide)).trans ((n1 0 (by decide)).trans h0)
      obtain ⟨v2, hσ2, r2⟩ := e2.2 2 (.int n) rfl
      obtain ⟨v4, hσ4, r4⟩ := e2.2 4 (.int l) rfl
      cases r2
      cases r4
      have hp2 : H2 p = some (.ins C dx []) := g.b _ _ hp
      have hps2 : Hs2 p = none := g.d p (by rw [hp]; trivial) hps
      refine ⟨.int n, hσ2, .ref p, hσ0, p, C, dx, [], rfl, hp2, T.cl, T.aP, (by decide), ?_⟩
      refine ⟨.int l, hσ4, .ref p, hσ0, p, C, dx, _, rfl, upd_same, T.cl, T.aL, (by show 1 < 1000; decide), ?_⟩
      intro dh hdh
      have ndp : p ≠ dh := fun z => by rw [← z, upd_same] at hdh; cases hdh
      refine ⟨.ref p, hσ0, p, C, dx, _, rfl, (by rw [upd_ne ndp]; exact upd_same), T.cl, T.aH, ?_, ?_⟩
      · have := nfl_len n l dh dh
        have h3 : (putF "last" (V.int l) (putF "places" (V.int n) [])).length ≤ 2 := by
          show (if ("places" : Str) = "last" then _ else _ :: [_]).length ≤ 2
          split <;> simp
        exact Nat.lt_of_le_of_lt h3 (by decide)
      intro dst hdst
      have nsp : p ≠ dst := fun z => by rw [← z, upd_same] at hdst; cases hdst
      refine ⟨.ref p, hσ0, p, C, dx, _, rfl, (by rw [upd_ne nsp]; exact upd_same), T.cl, T.aS, ?_, ?_⟩
      · have : (putF "heard" (V.ref dh) (putF "last" (V.int l) (putF "places" (V.int n) []))).length ≤ 4 := by
          have h1 := nfl_len n l dh dh
          unfold nfl at h1
          have : ∀ (f : Str) (v : V) (fs : List (Str × V)), fs.length ≤ (putF f v fs).length := fun f v fs => by
            induction fs with
            | nil => exact Nat.zero_le _
            | cons x r ih =>
              obtain ⟨g, y⟩ := x
              show _ ≤ (if g = f then (g, v) :: r else (g, y) :: putF f v r).length
              split
              · simp
              · simp only [List.length_cons]
                omega
          exact Nat.le_trans (this _ _ _) h1
        exact Nat.lt_of_le_of_lt this (by decide)
      have k1 : GrX [p] Hs H Hs2 H2 := g.x
      have mp : p ∈ [p] := List.mem_singleton.mpr rfl
      have k2 := ((k1.put (o := .ins C dx (putF "places" (.int n) [])) mp hps2).put (o := .ins C dx (putF "last" (.int l) (putF "places" (.int n) []))) mp hps2).fresh (o := .dT []) hdh
      have hdh0 : H dh = none := ((k1.put (o := .ins C dx (putF "places" (.int n) [])) mp hps2).put (o := .ins C dx (putF "last" (.int l) (putF "places" (.int n) []))) mp hps2).none hdh
      have k3 := (k2.put (o := .ins C dx (putF "heard" (.ref dh) (putF "last" (.int l) (putF "places" (.int n) [])))) mp hps2).fresh (o := .dT []) hdst
      have hdst0 : H dst = none := (k2.put (o := .ins C dx (putF "heard" (.ref dh) (putF "last" (.int l) (putF "places" (.int n) [])))) mp hps2).none hdst
      have k4 := k3.put (o := .ins C dx (nfl n l dh dst)) mp hps2
      have nds : dh ≠ dst := fun z => by rw [← z, upd_ne ndp.symm, upd_same] at hdst; cases hdst
      have hsdh : Hs2 dh = none := same_none ((k1.put (o := .ins C dx (putF "places" (.int n) [])) mp hps2).put (o := .ins C dx (putF "last" (.int l) (putF "places" (.int n) []))) mp hps2).c hdh
      have hsds : Hs2 dst = none := same_none (k2.put (o := .ins C dx (putF "heard" (.ref dh) (putF "last" (.int l) (putF "places" (.int n) [])))) mp hps2).c hdst
      exact q Hs2 _ dh dst k4 hdh0 hdst0 ⟨⟨dx, upd_same⟩, ⟨[], by rw [upd_ne ndp.symm, upd_ne nds, upd_ne ndp.symm, upd_same], trivial⟩, ⟨[], by rw [upd_ne nsp.symm, upd_same], trivial⟩, hps2, hsdh, hsds, nds⟩
theorem bT {F : Bool → Hp → Prop} {b : Bool} {h : Hp} (e : b = true) (k : F true h) : F b h := e ▸ k
theorem bF {F : Bool → Hp → Prop} {b : Bool} {h : Hp} (e : b = false) (k : F false h) : F b h := e ▸ k
/-- check(x, self.f) -/
theorem s_chk {σ : L2.St} {Hs H : Hp} {p dx C' : Addr} {fs : List (Str × V)} {fl : Str} {i : Nat} {vi : V} {d : PyData} {m : Int} {R : List PyData → PyData → Prop} {X : List PyData → Addr → Prop} {E : XK} {D : Ends} (h0 : σ[0]? = some (some (.ref p))) (hi : σ[i]? = some (some vi)) (ri : Rp K Hs vi d)
    (ob : H p = some (.ins C' dx fs)) (cl : Cls K C') (na : NoAttr K C' fl) (lk : fs.lookup fl = some (.int m)) (s : Same Hs H)
    (k : (R [d, .int m] .none ∧ ∀ Hs2 H2, Gr Hs H Hs2 H2 → D.nx σ H2) ∨ (∃ Cx, X [d, .int m] Cx ∧ ∀ Hs2 H2, Gr Hs H Hs2 H2 → E (.ref Cx) none H2)) : tDrop (tCall (spX K R X) [] E (tCons (tVar i) (tCons (tFld K (tVar 0) fl) tNil))) D σ H := by
  refine ⟨vi, hi, .ref p, h0, p, C', dx, fs, .int m, rfl, ob, cl, na, lk, [d, .int m], Hs, s, .cons ri (.cons (.int m) .nil), ?_⟩
  rcases k with ⟨hR, q⟩ | ⟨Cx, hX, q⟩
  · exact .inl ⟨.none, hR, fun v Hs2 H2 g _ => q Hs2 H2 g⟩
  · exact .inr ⟨Cx, hX, q⟩
abbrev s_News_hear : Stmt := (inClass (top 26) 1)
theorem sc_News_hear : FnScope ["self", "hand", "own", "tick", "place", "source"] ["self", "hand", "own", "tick", "place"] (defScope s_News_hear) := ⟨rfl, rfl, rfl, by decide +kernel, rfl, by decide +kernel, by decide +kernel⟩
theorem ok_hear (F : FnM K "hear" "News.hear" s_News_hear f fd) (G : Gi mg) (T : NTxt K C) (x_Unlike : Xc K mg "Unlike" (cs .unlike)) (x_TooMany : Xc K mg "TooMany" (cs .tooMany))
    (c_check_source : Cal P w K mg base (L2.CX P w) 3 "check_source" (spX K R_check_source (X_check_source cs)))
    (c_check_tick : Cal P w K mg base (L2.CX P w) 3 "check_tick" (spX K R_check_tick (X_check_tick (cs .badTick))))
    (c_check_place : Cal P w K mg base (L2.CX P w) 3 "check_place" (spX K R_check_place (X_check_place (cs .badPlace)))) : FnOk P w K mg base (L2.CX P w) 4 f fd ["self", "hand", "own", "tick", "place"] (spHear K C cs) := by
  refine F.ok sc_News_hear (fun vs H Q E h => ?_) (fun cdv A outer s H vs Q E hr h => ⟨_, (pss_cons (ps_expr (pe_dX c_check_source hr (by decide) (takes_of rfl rfl rfl rfl) rfl (pa_cons (pv 1) (pa_cons (pv 2) pa_nil))))
      (pss_cons (ps_expr (pe_dX c_check_tick hr (by decide) (takes_of rfl rfl rfl rfl) rfl (pa_cons (pv 3) (pa_cons (pe_fldk (K := K) rfl (pv 0) rfl) pa_nil))))
      (pss_cons (ps_expr (pe_dX c_check_place hr (by decide) (takes_of rfl rfl rfl rfl) rfl (pa_cons (pv 4) (pa_cons (pe_fldk (K := K) rfl (pv 0) rfl) pa_nil))))
      (pss_cons (ps_set (i := 5) sc_News_hear.nd rfl (Or.inl rfl) (pe_tup (pa_cons (pv 1) (pa_cons (pv 2) pa_nil))))
      (pss_cons (ps_if (pt_cmp (pc_din (hu_of hr) (pv 5) (pe_fldk (K := K) rfl (pv 0) rfl))) (pss_cons (ps_if (pt_cmpR (op_nek (K := K) rfl hr.units) (pe_dget (hu_of hr) (pe_fldk (K := K) rfl (pv 0) rfl) (pv 5) (fun _ _ => rfl)) (pe_tup (pa_cons (pv 3) (pa_cons (pv 4) pa_nil))) (nomark _)) (pss_one (ps_raise rfl (takes_of rfl rfl rfl rfl) (pmk_own PySem.F.excBase_ValueError x_Unlike.ex x_Unlike.mg x_Unlike.kp (raises_own x_Unlike.sub x_Unlike.ty) rfl))) pss_nil)
      (pss_one (ps_ret pe_bl))) pss_nil)
      (pss_cons (ps_if (pt_cmpR (op_ge) (pe_callB call_len_dT rfl G.b_len boot_len (pa_cons (pe_fldk (K := K) rfl (pv 0) rfl) pa_nil)) (pe_gi rfl G.i_MOST_SIGHTINGS) (nomark _)) (pss_one (ps_raise rfl (takes_of rfl rfl rfl rfl) (pmk_own PySem.F.excBase_ValueError x_TooMany.ex x_TooMany.mg x_TooMany.kp (raises_own x_TooMany.sub x_TooMany.ty) rfl))) pss_nil)
      (pss_cons (ps_dput (hu_of hr) (pe_fldk (K := K) rfl (pv 0) rfl) (pv 5) (pe_tup (pa_cons (pv 3) (pa_cons (pv 4) pa_nil))) rfl)
      (pss_one (ps_ret pe_bl))))))))), ?_⟩)
  · obtain ⟨Hs, p, dh, dst, N, ws, a, b, c, d, rfl, _, hw, _⟩ := h
    simp [hw.len]
  · obtain ⟨Hs, p, dh, dst, N, ws, a, b, c, d, rfl, hs, hw, NA, hlen, q⟩ := h
    obtain ⟨v1, v2, v3, v4, rfl, r1, r2, r3, r4⟩ : ∃ v1 v2 v3 v4, ws = [v1, v2, v3, v4] ∧ Rp K Hs v1 a ∧ Rp K Hs v2 b ∧ Rp K Hs v3 c ∧ Rp K Hs v4 d := by
      cases hw with
      | cons r1 hw => cases hw with
        | cons r2 hw => cases hw with
          | cons r3 hw => cases hw with
            | cons r4 hw => cases hw; exact ⟨_, _, _, _, rfl, r1, r2, r3, r4⟩
    have e : EnvD K Hs (L2.start ["self", "hand", "own", "tick", "place", "source"] [.ref p, v1, v2, v3, v4]) [none, some a, some b, some c, some d, none] := env_none (env_some r1 (env_some r2 (env_some r3 (env_some r4 (env_none env_nil)))))
    have h0 : (L2.start ["self", "hand", "own", "tick", "place", "source"] [.ref p, v1, v2, v3, v4])[0]? = some (some (.ref p)) := rfl
    generalize L2.start ["self", "hand", "own", "tick", "place", "source"] [.ref p, v1, v2, v3, v4] = σ at e h0 ⊢
    unfold hearF at q
    cases hsrc : srcF a b with
    | some er =>
      rw [hsrc] at q
      exact ye_seqE (ye_expr (yde_callX (ya_cons (yd_var rfl) (ya_cons (yd_var rfl) ya_nil)) ⟨_, _, _, rfl, hsrc, rfl⟩)) σ Hs H e hs q _
    | none =>
      rw [hsrc] at q
      dsimp only at q
      have hab : numIn a 0 3 = true ∧ numIn b 0 9 = true := by
        unfold srcF at hsrc
        split at hsrc
        · rename_i h1
          split at hsrc
          · rename_i h2
            exact ⟨h1, h2⟩
          · cases hsrc
        · cases hsrc
      obtain ⟨ea, a0, a3⟩ := numIn_int hab.1
      obtain ⟨eb, b0, b9⟩ := numIn_int hab.2
      refine (yn_expr (yd_callX (ya_cons (yd_var rfl) (ya_cons (yd_var rfl) ya_nil)) ⟨_, _, rfl, hsrc, rfl⟩) : YN K _ _ _ _) σ Hs H e hs _ fun σ1 Hs1 H1 g1 e1 n1 => ?_
      have h01 : σ1[0]? = some (some (.ref p)) := (n1 0 (by decide)).trans h0
      have NA1 := NA.gr g1
      obtain ⟨⟨dx, ob1⟩, _⟩ := id NA1
      obtain ⟨u3, s3, t3⟩ := e1.2 3 c rfl
      by_cases hc : numIn c 0 N.l = true
      · rw [if_pos hc] at q
        refine s_chk h01 s3 t3 ob1 T.cl T.aL (nfl_last _ _ _ _) g1.c (.inl ⟨⟨_, _, rfl, hc, rfl⟩, fun Hs2 H2 g2 => ?_⟩)
        have NA2 := NA1.gr g2
        obtain ⟨⟨dx, ob2⟩, _⟩ := id NA2
        have e2 := e1.mono g2.a
        obtain ⟨u4, s4, t4⟩ := e2.2 4 d rfl
        by_cases hd : numIn d 0 (N.n - 1) = true
        · rw [if_pos hd] at q
          refine s_chk h01 s4 t4 ob2 T.cl T.aP (nfl_places _ _ _ _) g2.c (.inl ⟨⟨_, _, rfl, hd, rfl⟩, fun Hs3 H3 g3 => ?_⟩)
          have NA3 := NA2.gr g3
          have e3 := e2.mono g3.a
          -- source = (hand, own)
          refine (yn_asg (YD.eq (yd_tup (ya_cons (yd_var rfl) (ya_cons (yd_var rfl) ya_nil)) (Nat.le_of_ble_eq_true rfl)) (d' := dP (intOf a, intOf b)) (by rw [ea, eb]; rfl)) yg_name : YN K _ _ _ _) σ1 Hs3 H3 e3 g3.c _ fun σ4 Hs4 H4 g4 e4 n4 => ?_
          have NA4 := NA3.gr g4
          have G4 := ((g1.trans g2).trans g3).trans g4
          have h04 : σ4[0]? = some (some (.ref p)) := (n4 0 (by decide)).trans h01
          obtain ⟨u5, s5, t5⟩ := e4.2 5 (dP (intOf a, intOf b)) rfl
          obtain ⟨tk, rfl, htk⟩ := rp_pair t5
          obtain ⟨⟨dx4, ob4⟩, ⟨kvs, hdh4, rT4⟩, ⟨kvs2, hst4, sT4⟩, np4, nh4, ns4, nd4⟩ := id NA4
          have htk4 : H4 tk = some (.tup ((kp (intOf a, intOf b)).map kV)) := G4.c _ _ htk
          obtain ⟨l1, l2⟩ := rT4.look (intOf a, intOf b)
          rw [look_hT] at l1 l2
          obtain ⟨ec, c0, cl⟩ := numIn_int hc
          obtain ⟨ed, d0, dl⟩ := numIn_int hd
          -- if source in self.heard
          refine ⟨.ref tk, s5, .ref p, h04, p, C, dx4, _, .ref dh, rfl, ob4, T.cl, T.aH, nfl_heard _ _ _ _, dh, _, rfl, DGet.t (k := kp (intOf a, intOf b)) hdh4 htk4, _, rfl, ?_⟩
          cases hlk : lookH N.heard (intOf a, intOf b) with
          | some v =>
            rw [hlk] at q l1
            obtain ⟨vv, hvv, rvv⟩ := l1 (dP v) rfl
            rw [hvv]
            refine iteT ?_
            -- self.heard[source] != (tick, place)
            obtain ⟨w3, q3, z3⟩ := e4.2 3 c rfl
            obtain ⟨w4, q4, z4⟩ := e4.2 4 d rfl
            refine ⟨.ref p, h04, p, C, dx4, _, .ref dh, rfl, ob4, T.cl, T.aH, nfl_heard _ _ _ _, .ref tk, s5, dh, vv, rfl, by rw [← hvv]; exact DGet.t (k := kp (intOf a, intOf b)) hdh4 htk4, w3, q3, w4, q4, by show 2 ≤ sizeLine; decide, fun tp htp => ?_⟩
            have g5 : Gr Hs4 H4 (upd Hs4 tp (.tup [w3, w4])) (upd H4 tp (.tup [w3, w4])) := Gr.new G4.c htp
            have rt : Rp K (upd Hs4 tp (.tup [w3, w4])) (.ref tp) (dP (intOf c, intOf d)) := by
              have := rp_tup (K := K) (H := H4) (same_none G4.c htp) (RpAll.cons z3 (RpAll.cons z4 RpAll.nil))
              rw [ec, ed] at this
              exact this
            refine ⟨dP v, dP (intOf c, intOf d), ((rvv.mono g5.a).mono g5.c).shape (shp_pair _), (rt.mono g5.c).shape (shp_pair _), shp_pair _, shp_pair _, _, rfl, ?_⟩
            have G5 := G4.trans g5
            by_cases hv : v = (intOf c, intOf d)
            · dsimp only at q
              rw [if_pos hv] at q
              rw [eqv_pair, decide_eq_true hv]
              exact iteF (q _ _ G5.x (NA.gr G5))
            · dsimp only at q
              rw [if_neg hv] at q
              rw [eqv_pair, decide_eq_false hv]
              exact iteT (q _ _ G5)
          | none =>
            rw [hlk] at q l2
            rw [l2 rfl]
            refine iteF ?_
            -- if len(self.heard) >= 8
            refine ⟨.ref p, h04, p, C, dx4, _, .ref dh, rfl, ob4, T.cl, T.aH, nfl_heard _ _ _ _, dh, kvs, rfl, hdh4, _, _, rfl, rfl, _, rfl, ?_⟩
            have hkl : kvs.length = N.heard.length := by rw [rT4.len, hT, List.length_map]
            by_cases h8 : 8 ≤ N.heard.length
            · dsimp only at q
              rw [if_pos h8] at q
              rw [show decide ((8 : Int) ≤ ((kvs.length : Nat) : Int)) = true from decide_eq_true (by omega)]
              exact iteT (q _ _ G4)
            · dsimp only at q
              rw [if_neg h8] at q
              rw [show decide ((8 : Int) ≤ ((kvs.length : Nat) : Int)) = false from decide_eq_false (by omega)]
              refine iteF ?_
              -- self.heard[source] = (tick, place)
              obtain ⟨w3, q3, z3⟩ := e4.2 3 c rfl
              obtain ⟨w4, q4, z4⟩ := e4.2 4 d rfl
              refine ⟨w3, q3, w4, q4, by show 2 ≤ sizeLine; decide, fun tp htp => ?_⟩
              have g5 : Gr Hs4 H4 (upd Hs4 tp (.tup [w3, w4])) (upd H4 tp (.tup [w3, w4])) := Gr.new G4.c htp
              have rt : Rp K (upd Hs4 tp (.tup [w3, w4])) (.ref tp) (dP (intOf c, intOf d)) := by
                have := rp_tup (K := K) (H := H4) (same_none G4.c htp) (RpAll.cons z3 (RpAll.cons z4 RpAll.nil))
                rw [ec, ed] at this
                exact this
              have G5 := G4.trans g5
              have NA5 := NA4.gr g5
              obtain ⟨⟨dx5, ob5⟩, ⟨kvs5, hdh5, rT5⟩, ⟨kvs25, hst5, sT5⟩, np5, nh5, ns5, nd5⟩ := id NA5
              have hkl5 : kvs5.length = N.heard.length := by rw [rT5.len, hT, List.length_map]
              refine ⟨.ref p, h04, p, C, dx5, _, .ref dh, rfl, ob5, T.cl, T.aH, nfl_heard _ _ _ _, .ref tk, s5, dh, _, rfl, DPut.t (k := kp (intOf a, intOf b)) hdh5 (g5.b _ _ htk4) (sz_lt (by omega)), ?_⟩
              have npd : p ≠ dh := ne_of ob5 hdh5 (by intro z; cases z)
              refine q _ _ ((G5.x (ms := [dh])).put (List.mem_singleton.mpr rfl) nh5) ⟨⟨dx5, by rw [upd_ne npd]; exact ob5⟩, ⟨_, upd_same, ?_⟩, ⟨kvs25, by rw [upd_ne nd5.symm]; exact hst5, sT5⟩, np5, nh5, ns5, nd5⟩
              rw [← put_hT hlk]
              exact rT5.put rt
        · rw [if_neg hd] at q
          exact s_chk h01 s4 t4 ob2 T.cl T.aP (nfl_places _ _ _ _) g2.c (.inr ⟨_, ⟨_, _, rfl, by simpa using hd, rfl⟩, fun Hs3 H3 g3 => q Hs3 H3 ((g1.trans g2).trans g3)⟩)
      · rw [if_neg hc] at q
        exact s_chk h01 s3 t3 ob1 T.cl T.aL (nfl_last _ _ _ _) g1.c (.inr ⟨_, ⟨_, _, rfl, by simpa using hc, rfl⟩, fun Hs3 H3 g3 => q Hs3 H3 (g1.trans g3)⟩)
abbrev s_News_strike : Stmt := (inClass (top 26) 2)
theorem sc_News_strike : FnScope ["self", "hand", "own", "source", "new"] ["self", "hand", "own"] (defScope s_News_strike) := ⟨rfl, rfl, rfl, by decide +kernel, rfl, by decide +kernel, by decide +kernel⟩
theorem ok_strike (F : FnM K "strike" "News.strike" s_News_strike f fd) (G : Gi mg) (T : NTxt K C)
    (c_check_source : Cal P w K mg base (L2.CX P w) 3 "check_source" (spX K R_check_source (X_check_source cs))) : FnOk P w K mg base (L2.CX P w) 4 f fd ["self", "hand", "own"] (spStrike K C cs) := by
  refine F.ok sc_News_strike (fun vs H Q E h => ?_) (fun cdv A outer s H vs Q E hr h => ⟨_, (pss_cons (ps_expr (pe_dX c_check_source hr (by decide) (takes_of rfl rfl rfl rfl) rfl (pa_cons (pv 1) (pa_cons (pv 2) pa_nil))))
      (pss_cons (ps_set (i := 3) sc_News_strike.nd rfl (Or.inl rfl) (pe_tup (pa_cons (pv 1) (pa_cons (pv 2) pa_nil))))
      (pss_cons (ps_set (i := 4) sc_News_strike.nd rfl (Or.inl rfl) (pe_cmp (pc_dnotin (hu_of hr) (pv 3) (pe_fldk (K := K) rfl (pv 0) rfl))))
      (pss_cons (ps_dput (hu_of hr) (pe_fldk (K := K) rfl (pv 0) rfl) (pv 3) pe_bl rfl)
      (pss_one (ps_ret (pv 4))))))), ?_⟩)
  · obtain ⟨Hs, p, dh, dst, N, ws, a, b, rfl, _, hw, _⟩ := h
    simp [hw.len]
  · obtain ⟨Hs, p, dh, dst, N, ws, a, b, rfl, hs, hw, NA, hlen, q⟩ := h
    obtain ⟨v1, v2, rfl, r1, r2⟩ : ∃ v1 v2, ws = [v1, v2] ∧ Rp K Hs v1 a ∧ Rp K Hs v2 b := by
      cases hw with
      | cons r1 hw => cases hw with
        | cons r2 hw => cases hw; exact ⟨_, _, rfl, r1, r2⟩
    have e : EnvD K Hs (L2.start ["self", "hand", "own", "source", "new"] [.ref p, v1, v2]) [none, some a, some b, none, none] := env_none (env_some r1 (env_some r2 (env_none (env_none env_nil))))
    have h0 : (L2.start ["self", "hand", "own", "source", "new"] [.ref p, v1, v2])[0]? = some (some (.ref p)) := rfl
    generalize L2.start ["self", "hand", "own", "source", "new"] [.ref p, v1, v2] = σ at e h0 ⊢
    unfold strikeF at q
    cases hsrc : srcF a b with
    | some er =>
      rw [hsrc] at q
      exact ye_seqE (ye_expr (yde_callX (ya_cons (yd_var rfl) (ya_cons (yd_var rfl) ya_nil)) ⟨_, _, _, rfl, hsrc, rfl⟩)) σ Hs H e hs q _
    | none =>
      rw [hsrc] at q
      dsimp only at q
      have hab : numIn a 0 3 = true ∧ numIn b 0 9 = true := by
        unfold srcF at hsrc
        split at hsrc
        · rename_i h1
          split at hsrc
          · rename_i h2
            exact ⟨h1, h2⟩
          · cases hsrc
        · cases hsrc
      obtain ⟨ea, a0, a3⟩ := numIn_int hab.1
      obtain ⟨eb, b0, b9⟩ := numIn_int hab.2
      refine (yn_expr (yd_callX (ya_cons (yd_var rfl) (ya_cons (yd_var rfl) ya_nil)) ⟨_, _, rfl, hsrc, rfl⟩) : YN K _ _ _ _) σ Hs H e hs _ fun σ1 Hs1 H1 g1 e1 n1 => ?_
      refine (yn_asg (YD.eq (yd_tup (ya_cons (yd_var rfl) (ya_cons (yd_var rfl) ya_nil)) (Nat.le_of_ble_eq_true rfl)) (d' := dP (intOf a, intOf b)) (by rw [ea, eb]; rfl)) yg_name : YN K _ _ _ _) σ1 Hs1 H1 e1 g1.c _ fun σ4 Hs4 H4 g4 e4 n4 => ?_
      have G4 := g1.trans g4
      have NA4 := NA.gr G4
      have h04 : σ4[0]? = some (some (.ref p)) := (n4 0 (by decide)).trans ((n1 0 (by decide)).trans h0)
      obtain ⟨u5, s5, t5⟩ := e4.2 3 (dP (intOf a, intOf b)) rfl
      obtain ⟨tk, rfl, htk⟩ := rp_pair t5
      obtain ⟨⟨dx4, ob4⟩, ⟨kvs, hdh4, rT4⟩, ⟨kvs2, hst4, sT4⟩, np4, nh4, ns4, nd4⟩ := id NA4
      have htk4 : H4 tk = some (.tup ((kp (intOf a, intOf b)).map kV)) := G4.c _ _ htk
      have hkl : kvs2.length = N.struck.length := by rw [sT4.len, sT, List.length_map]
      have l4 : σ4.length = 5 := e4.1
      refine ⟨.ref tk, s5, .ref p, h04, p, C, dx4, _, .ref dst, rfl, ob4, T.cl, T.aS, nfl_struck _ _ _ _, dst, _, rfl, DGet.t (k := kp (intOf a, intOf b)) hst4 htk4, ?_⟩
      rw [sT4.isSome, look_sT]
      have f0 : ∀ x, (σ4.set 4 x)[0]? = some (some (.ref p)) := fun x => by rw [List.getElem?_set_ne (by decide)]; exact h04
      have f3 : ∀ x, (σ4.set 4 x)[3]? = some (some (.ref tk)) := fun x => by rw [List.getElem?_set_ne (by decide)]; exact s5
      refine ⟨.ref p, f0 _, p, C, dx4, _, .ref dst, rfl, ob4, T.cl, T.aS, nfl_struck _ _ _ _, .ref tk, f3 _, dst, _, rfl, DPut.t (k := kp (intOf a, intOf b)) hst4 htk4 (sz_lt (by omega)), ?_⟩
      refine ⟨_, List.getElem?_set_self (by omega), ?_⟩
      have npd : p ≠ dst := ne_of ob4 hst4 (by intro z; cases z)
      refine q Hs4 _ ((G4.x (ms := [dst])).put (List.mem_singleton.mpr rfl) ns4) ⟨⟨dx4, by rw [upd_ne npd]; exact ob4⟩, ⟨kvs, by rw [upd_ne nd4]; exact hdh4, rT4⟩, ⟨_, upd_same, ?_⟩, np4, nh4, ns4, nd4⟩
      rw [← put_sT]
      exact sT4.put (.bl true)
abbrev s_News_sightings : Stmt := (inClass (top 26) 3)
theorem sc_News_sightings : FnScope ["self", "source"] ["self"] (defScope s_News_sightings) := ⟨rfl, rfl, rfl, by decide +kernel, rfl, by decide +kernel, by decide +kernel⟩
theorem mem_look {h : List ((Int × Int) × (Int × Int))} {k : Int × Int} (hm : k ∈ h.map (·.1)) : ∃ v, lookH h k = some v := by
  obtain ⟨q, hq, rfl⟩ := List.mem_map.mp hm
  cases e : lookH h q.1 with
  | some v => exact ⟨v, rfl⟩
  | none =>
    unfold lookH at e
    rw [Option.map_eq_none_iff, List.find?_eq_none] at e
    exact absurd (decide_eq_true rfl) (e q hq)
theorem ok_stand (F : FnM K "sightings" "News.sightings" s_News_sightings f fd) (G : Gi mg) (T : NTxt K C) : FnOk P w K mg base CX0 1 f fd ["self"] (spStand K C) := by
  refine F.ok sc_News_sightings (fun vs H Q E h => ?_) (fun cdv A outer s H vs Q E hr h => ⟨_, (pss_one (ps_ret (pe_lc (own := [("source", 1)]) rfl sc_News_sightings.nd (pi_listk (K := K) rfl (pe_callB (call_sortedDT rfl) rfl G.b_sorted (by decide +kernel) (pa_cons (pe_fldk (K := K) rfl (pv 0) rfl) pa_nil))) (blkOk_by (N := ["self", "source"]) (sc := defScope s_News_sightings) (by decide +kernel)) (fun _ _ _ _ _ => (pg_name (i := 1) sc_News_sightings.nd rfl (Or.inl rfl))) (fun _ _ _ _ _ => (pts_one (pt_cmp (pc_dnotin (hu_of hr) (pv 1) (pe_fldk (K := K) rfl (pv 0) rfl))))) (fun _ _ _ _ _ => (pe_dget (hu_of hr) (pe_fldk (K := K) rfl (pv 0) rfl) (pv 1) (fun _ _ => rfl)))))), ?_⟩)
  · obtain ⟨Hs, p, dh, dst, N, rfl, _⟩ := h
    rfl
  · obtain ⟨Hs, p, dh, dst, N, rfl, hs, NA, hlen, q⟩ := h
    have e : EnvD K Hs (L2.start ["self", "source"] [.ref p]) [none, none] := env_none (env_none env_nil)
    have h0 : (L2.start ["self", "source"] [.ref p])[0]? = some (some (.ref p)) := rfl
    generalize L2.start ["self", "source"] [.ref p] = σ at e h0 ⊢
    have eh : (hT N.heard).map (·.1) = N.heard.map (·.1) := by
      unfold hT
      rw [List.map_map]
      rfl
    show tLc _ _ _ _ _ σ H Q
    refine lc_atU (xs := sortP (N.heard.map (·.1))) dP (fun k => !decide (k ∈ N.struck)) (fun k => dP ((lookH N.heard k).getD (0, 0))) (fun k => [none, some (dP k)]) e hs (fun R hR => ?_) ?_ (by decide) (fun k _ => yg_name) (fun k hk σ' Hs' H' g e' n' R hR => ?_) (fun k hk hb σ' Hs' H' g e' n' R hR => ?_) fun la acc Hs2 H2 g ha hb hc r => q la acc Hs2 H2 g ha hb hc ?_
    · obtain ⟨⟨dx, ob⟩, ⟨kvs, hdh, rT⟩, _⟩ := id NA
      refine ⟨.ref p, h0, p, C, dx, _, .ref dh, rfl, ob, T.cl, T.aH, nfl_heard _ _ _ _, ?_⟩
      show rSortedDT [.ref dh] H (fun x H1 => ∃ a, x = V.ref a ∧ (∃ xs, SqL K H1 a xs) ∧ R (Itl K a) H1)
      refine rc_sortedDT hdh rT hs fun pl ys hpl ry => ?_
      rw [eh] at ry
      obtain ⟨Hs', g', ry'⟩ := rp_settle ry hs
      have g2 : Gr Hs H (upd Hs' pl (.lst ys)) (upd H pl (.lst ys)) := g'.trans (Gr.new g'.c hpl)
      exact ⟨pl, rfl, ⟨ys, .inl (.inl upd_same)⟩, hR _ _ _ g2 (walk_lst upd_same (ry'.mono (same_new (same_none g'.c hpl))))⟩
    · rw [sortP_len, List.length_map]
      omega
    · have h0' : σ'[0]? = some (some (.ref p)) := (n' 0 (by decide)).trans h0
      obtain ⟨⟨dx, ob⟩, ⟨kvs, hdh, rT⟩, ⟨kvs2, hst, sT4⟩, _⟩ := NA.gr g
      obtain ⟨u, su, tu⟩ := e'.2 1 (dP k) rfl
      obtain ⟨tk, rfl, htk⟩ := rp_pair tu
      refine ⟨.ref tk, su, .ref p, h0', p, C, dx, _, .ref dst, rfl, ob, T.cl, T.aS, nfl_struck _ _ _ _, dst, _, rfl, DGet.t (k := kp k) hst (g.c _ _ htk), _, rfl, ?_⟩
      rw [sT4.isSome, look_sT]
      exact hR Hs' H' (Gr.refl g.c)
    · have h0' : σ'[0]? = some (some (.ref p)) := (n' 0 (by decide)).trans h0
      obtain ⟨⟨dx, ob⟩, ⟨kvs, hdh, rT⟩, ⟨kvs2, hst, sT4⟩, _⟩ := NA.gr g
      obtain ⟨u, su, tu⟩ := e'.2 1 (dP k) rfl
      obtain ⟨tk, rfl, htk⟩ := rp_pair tu
      obtain ⟨v, hv⟩ := mem_look (sortP_mem.mp hk)
      obtain ⟨l1, _⟩ := rT.look k
      rw [look_hT, hv] at l1
      obtain ⟨vv, hvv, rvv⟩ := l1 (dP v) rfl
      refine ⟨.ref p, h0', p, C, dx, _, .ref dh, rfl, ob, T.cl, T.aH, nfl_heard _ _ _ _, .ref tk, su, dh, vv, rfl, by rw [← hvv]; exact DGet.t (k := kp k) hdh (g.c _ _ htk), ?_⟩
      refine hR vv Hs' H' (Gr.refl g.c) ?_
      rw [hv]
      exact rvv
    · have : (stand N).map dP = ((sortP (N.heard.map (·.1))).filter fun k => !decide (k ∈ N.struck)).map fun k => dP ((lookH N.heard k).getD (0, 0)) := by
        unfold stand
        rw [List.map_map]
        rfl
      rw [this]
      exact r
end
end SG
set_option Elab.async false
set_option linter.all false
set_option maxRecDepth 100000
set_option maxHeartbeats 4000000
namespace SG
open PySem PySem.Spec PyProof.Rows L2
/-! ### deeds -/
inductive Deed where
  | hear (k v : Int × Int)
  | strike (k : Int × Int)
def deedD : Deed → PyData
  | .hear k v => .tuple [.str "hear", .int k.1, .int k.2, .int v.1, .int v.2]
  | .strike k => .tuple [.str "strike", .int k.1, .int k.2]
abbrev Hd := List ((Int × Int) × (Int × Int))
def runD (h : Hd) (s : List (Int × Int)) : Deed → PyData × Hd × List (Int × Int)
  | .hear k v => match lookH h k with
    | some u => if u = v then (.bool false, h, s) else (.int (-1), h, s)
    | none => if 8 ≤ h.length then (.int (-2), h, s) else (.bool true, h ++ [(k, v)], s)
  | .strike k => (.bool (!decide (k ∈ s)), h, strikeS s k)
def Deed.ok (n l : Int) : Deed → Prop
  | .hear k v => (0 ≤ k.1 ∧ k.1 ≤ 3) ∧ (0 ≤ k.2 ∧ k.2 ≤ 9) ∧ (0 ≤ v.1 ∧ v.1 ≤ l) ∧ (0 ≤ v.2 ∧ v.2 ≤ n - 1)
  | .strike k => (0 ≤ k.1 ∧ k.1 ≤ 3) ∧ (0 ≤ k.2 ∧ k.2 ≤ 9)
theorem lookH_snoc_nd {h : Hd} {k v : Int × Int} (nd : (h.map (·.1)).Nodup) (hn : lookH h k = none) : ((h ++ [(k, v)]).map (·.1)).Nodup := by
  rw [List.map_append]
  refine nd_snoc nd fun hm => ?_
  obtain ⟨u, hu⟩ := mem_look hm
  rw [hn] at hu
  cases hu
theorem run_nd {h : Hd} {s : List (Int × Int)} (d : Deed) (nd : (h.map (·.1)).Nodup) : ((runD h s d).2.1.map (·.1)).Nodup := by
  cases d with
  | strike k => exact nd
  | hear k v =>
    cases e : lookH h k with
    | some u =>
      simp only [runD, e]
      split
      · exact nd
      · exact nd
    | none =>
      simp only [runD, e]
      split
      · exact nd
      · exact lookH_snoc_nd nd e
theorem run_len {h : Hd} {s : List (Int × Int)} (d : Deed) (hl : h.length ≤ 8) : (runD h s d).2.1.length ≤ 8 := by
  cases d with
  | strike k => exact hl
  | hear k v =>
    cases e : lookH h k with
    | some u =>
      simp only [runD, e]
      split
      · exact hl
      · exact hl
    | none =>
      simp only [runD, e]
      split
      · exact hl
      · show (h ++ [(k, v)]).length ≤ 8
        rw [List.length_append, List.length_singleton]
        omega
theorem strike_len (s : List (Int × Int)) (k : Int × Int) : (strikeS s k).length ≤ s.length + 1 := by
  unfold strikeS
  split
  · omega
  · rw [List.length_append, List.length_singleton]
    omega
theorem run_slen {h : Hd} {s : List (Int × Int)} (d : Deed) : (runD h s d).2.2.length ≤ s.length + 1 := by
  cases d with
  | strike k => exact strike_len s k
  | hear k v =>
    cases e : lookH h k with
    | some u =>
      simp only [runD, e]
      split
      · exact Nat.le_succ _
      · exact Nat.le_succ _
    | none =>
      simp only [runD, e]
      split
      · exact Nat.le_succ _
      · exact Nat.le_succ _
/-- a key's entries hold what is looked up -/
theorem look_all : ∀ {h : Hd} {k v : Int × Int}, (h.map (·.1)).Nodup → lookH h k = some v → ∀ q ∈ h, q.1 = k → q.2 = v
  | [], _, _, _, h, q, hq, _ => nomatch hq
  | x :: r, k, v, nd, h, q, hq, e => by
    obtain ⟨n1, n2⟩ := List.nodup_cons.mp nd
    by_cases hx : x.1 = k
    · have hv : x.2 = v := by simpa [lookH, List.find?_cons, hx] using h
      rcases List.mem_cons.mp hq with rfl | hq
      · exact hv
      · exact absurd (List.mem_map.mpr ⟨q, hq, e.trans hx.symm⟩) n1
    · have h' : lookH r k = some v := by simpa [lookH, List.find?_cons, hx] using h
      rcases List.mem_cons.mp hq with rfl | hq
      · exact absurd e hx
      · exact look_all n2 h' q hq e
theorem put_same {h : Hd} {k v : Int × Int} (nd : (h.map (·.1)).Nodup) (hl : lookH h k = some v) : putT (hT h) k (dP v) = hT h := by
  unfold putT
  have ha : ((hT h).any fun q => decide (q.1 = k)) = true := by
    unfold lookH at hl
    obtain ⟨q, hq, _⟩ := Option.map_eq_some_iff.mp hl
    have h1 := List.find?_some hq
    have h2 := List.mem_of_find?_eq_some hq
    exact List.any_eq_true.mpr ⟨(q.1, dP q.2), List.mem_map.mpr ⟨q, h2, rfl⟩, h1⟩
  rw [if_pos ha]
  unfold hT
  rw [List.map_map]
  apply List.map_congr_left
  intro q hq
  show (if q.1 = k then (q.1, dP v) else (q.1, dP q.2)) = (q.1, dP q.2)
  split
  · rename_i e
    rw [look_all nd hl q hq e]
  · rfl
/-! ### the law's two dicts -/
structure TwoAt (K : PySem.W.Frag) (Hs H : Hp) (dk dq : Addr) (h : Hd) (s : List (Int × Int)) : Prop where
  kd : ∃ kvs, H dk = some (.dT kvs) ∧ RpT K Hs kvs (hT h)
  sd : ∃ kvs, H dq = some (.dT kvs) ∧ RpT K Hs kvs (sT s)
  nk : Hs dk = none
  nq : Hs dq = none
  ne : dk ≠ dq
theorem TwoAt.gr {K : PySem.W.Frag} {Hs H Hs2 H2 : Hp} {dk dq : Addr} {h : Hd} {s : List (Int × Int)} (t : TwoAt K Hs H dk dq h s) (g : Gr Hs H Hs2 H2) : TwoAt K Hs2 H2 dk dq h s := by
  obtain ⟨⟨k1, h1, r1⟩, ⟨k2, h2, r2⟩, b, c, d⟩ := t
  exact ⟨⟨k1, g.b _ _ h1, r1.mono g.a⟩, ⟨k2, g.b _ _ h2, r2.mono g.a⟩, g.d _ (by rw [h1]; trivial) b, g.d _ (by rw [h2]; trivial) c, d⟩
theorem TwoAt.grx {K : PySem.W.Frag} {ms : List Addr} {Hs H Hs2 H2 : Hp} {dk dq : Addr} {h : Hd} {s : List (Int × Int)} (t : TwoAt K Hs H dk dq h s) (g : GrX ms Hs H Hs2 H2) (n1 : dk ∉ ms) (n2 : dq ∉ ms) : TwoAt K Hs2 H2 dk dq h s := by
  obtain ⟨⟨k1, h1, r1⟩, ⟨k2, h2, r2⟩, b, c, d⟩ := t
  exact ⟨⟨k1, g.b _ _ n1 h1, r1.mono g.a⟩, ⟨k2, g.b _ _ n2 h2, r2.mono g.a⟩, g.d _ (by rw [h1]; trivial) b, g.d _ (by rw [h2]; trivial) c, d⟩
def spDue (K : PySem.W.Frag) : Sp := fun vs H Q _ => ∃ (Hs : Hp) (dk dq : Addr) (h : Hd) (s : List (Int × Int)) (d : Deed) (v : V), vs = [.ref dk, .ref dq, v] ∧ Same Hs H ∧ Rp K Hs v (deedD d) ∧ TwoAt K Hs H dk dq h s ∧ (h.map (·.1)).Nodup ∧ h.length ≤ 8 ∧ s.length ≤ 100 ∧
  ∀ u Hs2 H2, GrX [dk, dq] Hs H Hs2 H2 → TwoAt K Hs2 H2 dk dq (runD h s d).2.1 (runD h s d).2.2 → Rp K Hs2 u (runD h s d).1 → Q u H2
def spStood (K : PySem.W.Frag) : Sp := fun vs H Q _ => ∃ (Hs : Hp) (dk dq : Addr) (h : Hd) (s : List (Int × Int)), vs = [.ref dk, .ref dq] ∧ Same Hs H ∧ TwoAt K Hs H dk dq h s ∧ h.length ≤ 100 ∧
  ∀ u Hs2 H2, Gr Hs H Hs2 H2 → Rp K Hs2 u (.list ((stand ⟨0, 0, h, s⟩).map dP)) → Q u H2
/-- a copy of a land: its list may still change -/
def spCopied (K : PySem.W.Frag) : Sp := fun vs H Q _ => ∃ (Hs : Hp) (L : Land) (v : V), vs = [v] ∧ Same Hs H ∧ Rp K Hs v (landD L) ∧ L.ws.length ≤ 100 ∧
  ∀ t q us Hs2 H2, Gr Hs H Hs2 H2 → H q = none → Hs2 q = none → H2 t = some (.tup [.int L.n, .ref q, .int L.l]) → Hs2 t = none → H2 q = some (.lst us) → RpAll K Hs2 us (L.ws.map dP) → Q (.ref t) H2
section
variable {P : Program} {w : World} {K : PySem.W.Frag} {mg : Str → Option Value} {base : Heap} {f C : Addr} {fd : FuncData} {cs : Er → Addr}
abbrev s__law_copied : Stmt := (top 32)
theorem sc__law_copied : FnScope ["_law_land_here"] ["_law_land_here"] (defScope s__law_copied) := ⟨rfl, rfl, rfl, by decide +kernel, rfl, by decide +kernel, by decide +kernel⟩
theorem ok_copied (F : FnP K "_law_copied" s__law_copied f fd) (G : Gi mg) : FnOk P w K mg base CX0 1 f fd ["_law_land_here"] (spCopied K) := by
  refine F.ok sc__law_copied (fun vs H Q E h => ?_) (fun cdv A outer s H vs Q E hr h => ⟨_, (pss_one (ps_ret (pe_tup (pa_cons (pe_ix (ix_k (K := K) rfl) (pv 0) pe_int (fun _ _ => rfl)) (pa_cons (pe_callTy (call_listk (K := K) rfl) rfl G.b_list (by decide +kernel) (pa_cons (pe_ix (ix_k (K := K) rfl) (pv 0) pe_int (fun _ _ => rfl)) pa_nil)) (pa_cons (pe_ix (ix_k (K := K) rfl) (pv 0) pe_int (fun _ _ => rfl)) pa_nil)))))), ?_⟩)
  · obtain ⟨Hs, L, v, rfl, _⟩ := h
    rfl
  · obtain ⟨Hs, L, v, rfl, hs, rv, hl, q⟩ := h
    have e : EnvD K Hs (L2.start ["_law_land_here"] [v]) [some (landD L)] := env_some rv env_nil
    generalize L2.start ["_law_land_here"] [v] = σ at e ⊢
    refine (yd_op (yd_var rfl) yd_int (rd_ixT rfl) : YD K _ _ (.int L.n)) σ Hs H e hs _ fun v1 Hs1 H1 g1 r1 => ?_
    cases r1
    refine (yd_op (yd_var rfl) yd_int (rd_ixT rfl) : YD K _ _ (.list (L.ws.map dP))) σ Hs1 H1 (e.mono g1.a) g1.c _ fun v2 Hs2 H2 g2 r2 => ?_
    cases r2 with
    | @lst al us _ h2 ra =>
      refine ⟨_, _, rfl, .inl (sqL_mono g2.c h2), fun ql hql => ?_⟩
      have G2 := g1.trans g2
      have g3 : Gr Hs2 H2 Hs2 (upd H2 ql (.lst us)) := Gr.fresh g2.c hql
      refine (yd_op (yd_var rfl) yd_int (rd_ixT rfl) : YD K _ _ (.int L.l)) σ Hs2 _ (e.mono G2.a) g3.c _ fun v4 Hs4 H4 g4 r4 => ?_
      cases r4
      refine ⟨by show 3 ≤ sizeLine; decide, fun t ht => ?_⟩
      have hq4 : H4 ql = some (.lst us) := g4.b _ _ upd_same
      have ntq : ql ≠ t := ne_of_none hq4 ht
      refine q t ql _ Hs4 _ (((G2.trans g3).trans g4).trans (Gr.fresh g4.c ht)) (same_none G2.b hql) (g4.d _ (by rw [upd_same]; trivial) (same_none g2.c hql)) upd_same (same_none g4.c ht) (by rw [upd_ne ntq]; exact hq4) (ra.mono g4.a)
abbrev s__law_stand : Stmt := (top 33)
theorem sc__law_stand : FnScope ["_law_known", "_law_struck", "_law_key"] ["_law_known", "_law_struck"] (defScope s__law_stand) := ⟨rfl, rfl, rfl, by decide +kernel, rfl, by decide +kernel, by decide +kernel⟩
theorem ok_stood (F : FnP K "_law_stand" s__law_stand f fd) (G : Gi mg) : FnOk P w K mg base CX0 1 f fd ["_law_known", "_law_struck"] (spStood K) := by
  refine F.ok sc__law_stand (fun vs H Q E h => ?_) (fun cdv A outer s H vs Q E hr h => ⟨_, (pss_one (ps_ret (pe_lc (own := [("_law_key", 2)]) rfl sc__law_stand.nd (pi_listk (K := K) rfl (pe_callB (cr_sortedk (K := K) rfl) rfl G.b_sorted (by decide +kernel) (pa_cons (pe_callTy (call_listDT rfl) rfl G.b_list (by decide +kernel) (pa_cons (pv 0) pa_nil)) pa_nil))) (blkOk_by (N := ["_law_known", "_law_struck", "_law_key"]) (sc := defScope s__law_stand) (by decide +kernel)) (fun _ _ _ _ _ => (pg_name (i := 2) sc__law_stand.nd rfl (Or.inl rfl))) (fun _ _ _ _ _ => (pts_one (pt_cmp (pc_dnotin (hu_of hr) (pv 2) (pv 1))))) (fun _ _ _ _ _ => (pe_dget (hu_of hr) (pv 0) (pv 2) (fun _ _ => rfl)))))), ?_⟩)
  · obtain ⟨Hs, dk, dq, h, s, rfl, _⟩ := h
    rfl
  · obtain ⟨Hs, dk, dq, h, st, rfl, hs, TA, hlen, q⟩ := h
    have e : EnvD K Hs (L2.start ["_law_known", "_law_struck", "_law_key"] [.ref dk, .ref dq]) [none, none, none] := env_none (env_none (env_none env_nil))
    have h0 : (L2.start ["_law_known", "_law_struck", "_law_key"] [.ref dk, .ref dq])[0]? = some (some (.ref dk)) := rfl
    have h1 : (L2.start ["_law_known", "_law_struck", "_law_key"] [.ref dk, .ref dq])[1]? = some (some (.ref dq)) := rfl
    generalize L2.start ["_law_known", "_law_struck", "_law_key"] [.ref dk, .ref dq] = σ at e h0 h1 ⊢
    have eh : (hT h).map (·.1) = h.map (·.1) := by
      unfold hT
      rw [List.map_map]
      rfl
    show tLc _ _ _ _ _ σ H Q
    refine lc_atU (xs := sortP (h.map (·.1))) dP (fun k => !decide (k ∈ st)) (fun k => dP ((lookH h k).getD (0, 0))) (fun k => [none, none, some (dP k)]) e hs (fun R hR => ?_) ?_ (by decide) (fun k _ => yg_name) (fun k hk σ' Hs' H' g e' n' R hR => ?_) (fun k hk hb σ' Hs' H' g e' n' R hR => ?_) fun la acc Hs2 H2 g ha hb hc r => q _ (upd Hs2 la (.lst acc)) H2 (g.settle ha hc hb) ?_
    · obtain ⟨⟨kvs, hdk, rT⟩, _⟩ := id TA
      refine ⟨.ref dk, h0, ?_⟩
      show rListDT [.ref dk] H (fun x H1 => rSortedPO K [x] H1 fun x H1 => ∃ a, x = V.ref a ∧ (∃ xs, SqL K H1 a xs) ∧ R (Itl K a) H1)
      refine ⟨dk, kvs, rfl, .inl hdk, fun pl bs hpl isk => ?_⟩
      obtain ⟨Hs', g', ry'⟩ := rp_settle (keys_of rT isk) hs
      rw [eh] at ry'
      have g2 : Gr Hs H (upd Hs' pl (.lst (bs.map V.ref))) (upd H pl (.lst (bs.map V.ref))) := g'.trans (Gr.new g'.c hpl)
      refine rc_sortedP [.ref pl] _ _ g2.c (.cons (rp_lst (H := H) (same_none g'.c hpl) ry') .nil) _ fun u Hs3 H3 g3 r3 => ?_
      cases r3 with
      | lst h3 ra3 => exact ⟨_, rfl, ⟨_, sqL_mono g3.c h3⟩, hR _ _ _ (g2.trans g3) (walk_lst h3 ra3)⟩
    · rw [sortP_len, List.length_map]
      omega
    · have h1' : σ'[1]? = some (some (.ref dq)) := (n' 1 (by decide)).trans h1
      obtain ⟨⟨kvs, hdk, rT⟩, ⟨kvs2, hst, sT4⟩, _⟩ := TA.gr g
      obtain ⟨u, su, tu⟩ := e'.2 2 (dP k) rfl
      obtain ⟨tk, rfl, htk⟩ := rp_pair tu
      refine ⟨.ref tk, su, .ref dq, h1', dq, _, rfl, DGet.t (k := kp k) hst (g.c _ _ htk), _, rfl, ?_⟩
      rw [sT4.isSome, look_sT]
      exact hR Hs' H' (Gr.refl g.c)
    · have h0' : σ'[0]? = some (some (.ref dk)) := (n' 0 (by decide)).trans h0
      obtain ⟨⟨kvs, hdk, rT⟩, ⟨kvs2, hst, sT4⟩, _⟩ := TA.gr g
      obtain ⟨u, su, tu⟩ := e'.2 2 (dP k) rfl
      obtain ⟨tk, rfl, htk⟩ := rp_pair tu
      obtain ⟨v, hv⟩ := mem_look (sortP_mem.mp hk)
      obtain ⟨l1, _⟩ := rT.look k
      rw [look_hT, hv] at l1
      obtain ⟨vv, hvv, rvv⟩ := l1 (dP v) rfl
      refine ⟨.ref dk, h0', .ref tk, su, dk, vv, rfl, by rw [← hvv]; exact DGet.t (k := kp k) hdk (g.c _ _ htk), ?_⟩
      refine hR vv Hs' H' (Gr.refl g.c) ?_
      rw [hv]
      exact rvv
    · have : (stand ⟨0, 0, h, st⟩).map dP = ((sortP (h.map (·.1))).filter fun k => !decide (k ∈ st)).map fun k => dP ((lookH h k).getD (0, 0)) := by
        unfold stand
        rw [List.map_map]
        rfl
      rw [this]
      exact rp_lst (H := H2) hb r
end
end SG
set_option Elab.async false
set_option linter.all false
set_option maxRecDepth 100000
set_option maxHeartbeats 4000000
namespace SG
open PySem PySem.Spec PyProof.Rows L2
theorem sh_hear : SeqAt.shaped (.str "hear") = true := by decide +kernel
theorem sh_strike : SeqAt.shaped (.str "strike") = true := by decide +kernel
theorem ev_hs : PyData.eqv (.str "hear") (.str "strike") = false := by decide +kernel
theorem ev_sh : PyData.eqv (.str "strike") (.str "hear") = false := by decide +kernel
theorem ev_ss : PyData.eqv (.str "strike") (.str "strike") = true := by decide +kernel
theorem ev_hh : PyData.eqv (.str "hear") (.str "hear") = true := by decide +kernel
section
variable {P : Program} {w : World} {K : PySem.W.Frag} {mg : Str → Option Value} {base : Heap} {f C : Addr} {fd : FuncData} {cs : Er → Addr}
abbrev s__law_due : Stmt := (top 35)
theorem sc__law_due : FnScope ["_law_known", "_law_struck", "_law_deed", "_law_key", "_law_new"] ["_law_known", "_law_struck", "_law_deed"] (defScope s__law_due) := ⟨rfl, rfl, rfl, by decide +kernel, rfl, by decide +kernel, by decide +kernel⟩
theorem ok_due (F : FnP K "_law_due" s__law_due f fd) (G : Gi mg) : FnOk P w K mg base CX0 1 f fd ["_law_known", "_law_struck", "_law_deed"] (spDue K) := by
  refine F.ok sc__law_due (fun vs H Q E h => ?_) (fun cdv A outer s H vs Q E hr h => ⟨_, (pss_cons (ps_set (i := 3) sc__law_due.nd rfl (Or.inl rfl) (pe_slice (sl_tupk (K := K) rfl) (pv 2) (po_some pe_int) (po_some pe_int)))
      (pss_cons (ps_if (pt_cmpR (op_eqk (K := K) rfl hr.units) (pe_ix (ix_k (K := K) rfl) (pv 2) pe_int (fun _ _ => rfl)) pe_str (nomark _)) (pss_cons (ps_set (i := 4) sc__law_due.nd rfl (Or.inl rfl) (pe_cmp (pc_dnotin (hu_of hr) (pv 3) (pv 1))))
      (pss_cons (ps_dput (hu_of hr) (pv 1) (pv 3) pe_bl rfl)
      (pss_one (ps_ret (pv 4))))) pss_nil)
      (pss_cons (ps_if (pt_cmpR (op_nek (K := K) rfl hr.units) (pe_dget2 (hu_of hr) (pv 0) (pv 3) (pe_slice (sl_tupk (K := K) rfl) (pv 2) (po_some pe_int) po_none) ⟨rfl, rfl, rfl, rfl⟩) (pe_slice (sl_tupk (K := K) rfl) (pv 2) (po_some pe_int) po_none) (nomark _)) (pss_one (ps_ret (pe_un un_neg pe_int))) pss_nil)
      (pss_cons (ps_if (PW.pt (pw_and (pt_cmp (pc_dnotin (hu_of hr) (pv 3) (pv 0))) (pw_and1 (pt_cmpR (op_eqk (K := K) rfl hr.units) (pe_callB call_len_dT rfl G.b_len boot_len (pa_cons (pv 0) pa_nil)) pe_int (nomark _))))) (pss_one (ps_ret (pe_un un_neg pe_int))) pss_nil)
      (pss_cons (ps_set (i := 4) sc__law_due.nd rfl (Or.inl rfl) (pe_cmp (pc_dnotin (hu_of hr) (pv 3) (pv 0))))
      (pss_cons (ps_dput (hu_of hr) (pv 0) (pv 3) (pe_slice (sl_tupk (K := K) rfl) (pv 2) (po_some pe_int) po_none) rfl)
      (pss_one (ps_ret (pv 4))))))))), ?_⟩)
  · obtain ⟨Hs, dk, dq, h, s, d, v, rfl, _⟩ := h
    rfl
  · obtain ⟨Hs, dk, dq, h, st, d, v, rfl, hs, rv, TA, nd, h8, hst, q⟩ := h
    have e : EnvD K Hs (L2.start ["_law_known", "_law_struck", "_law_deed", "_law_key", "_law_new"] [.ref dk, .ref dq, v]) [none, none, some (deedD d), none, none] := env_none (env_none (env_some rv (env_none (env_none env_nil))))
    have h0 : (L2.start ["_law_known", "_law_struck", "_law_deed", "_law_key", "_law_new"] [.ref dk, .ref dq, v])[0]? = some (some (.ref dk)) := rfl
    have h1 : (L2.start ["_law_known", "_law_struck", "_law_deed", "_law_key", "_law_new"] [.ref dk, .ref dq, v])[1]? = some (some (.ref dq)) := rfl
    generalize L2.start ["_law_known", "_law_struck", "_law_deed", "_law_key", "_law_new"] [.ref dk, .ref dq, v] = σ at e h0 h1 ⊢
    cases d with
    | strike k =>
      refine (yn_asg (YD.eq (yd_slA (yd_var rfl) (yo_some yd_int) (yo_some yd_int)) (d' := dP k) (congrArg PyData.tuple (cutD_ft (xs := [.str "strike", .int k.1, .int k.2]) 1 3))) yg_name : YN K _ _ _ _) σ Hs H e hs _ fun σ1 Hs1 H1 g1 e1 n1 => ?_
      refine (yt_test (yd_op (yd_op (yd_var rfl) yd_int (rd_ixT rfl)) yd_str (rd_eqD sh_strike sh_strike)) : YT K _ _ _) σ1 Hs1 H1 e1 g1.c _ fun Hs2 H2 g2 => ?_
      rw [ev_ss]
      refine iteT ?_
      have G2 := g1.trans g2
      obtain ⟨⟨kvs, hdk, rT⟩, ⟨kvs2, hdq, rS⟩, nk, nq, ne⟩ := TA.gr G2
      have h11 : σ1[1]? = some (some (.ref dq)) := (n1 1 (by decide)).trans h1
      obtain ⟨u, su, tu⟩ := e1.2 3 (dP k) rfl
      obtain ⟨tk, rfl, htk⟩ := rp_pair tu
      have htk2 : H2 tk = some (.tup ((kp k).map kV)) := g2.b _ _ (g1.c _ _ htk)
      have l1 : σ1.length = 5 := e1.1
      have hkl : kvs2.length = st.length := by rw [rS.len, sT, List.length_map]
      refine ⟨.ref tk, su, .ref dq, h11, dq, _, rfl, DGet.t (k := kp k) hdq htk2, ?_⟩
      rw [rS.isSome, look_sT]
      have f1 : ∀ x, (σ1.set 4 x)[1]? = some (some (.ref dq)) := fun x => by rw [List.getElem?_set_ne (by decide)]; exact h11
      have f3 : ∀ x, (σ1.set 4 x)[3]? = some (some (.ref tk)) := fun x => by rw [List.getElem?_set_ne (by decide)]; exact su
      refine ⟨.ref dq, f1 _, .ref tk, f3 _, dq, _, rfl, DPut.t (k := kp k) hdq htk2 (sz_lt (by omega)), ?_⟩
      refine ⟨_, List.getElem?_set_self (by omega), ?_⟩
      refine q _ Hs2 _ ((G2.x (ms := [dk, dq])).put (by simp) nq) ⟨⟨kvs, by rw [upd_ne ne]; exact hdk, rT⟩, ⟨_, upd_same, ?_⟩, nk, nq, ne⟩ (.bl _)
      show RpT K Hs2 _ (sT (strikeS st k))
      rw [← put_sT]
      exact rS.put (.bl true)
    | hear k v =>
      have c3 : cutD [PyData.str "hear", .int k.1, .int k.2, .int v.1, .int v.2] (some 3) none = [.int v.1, .int v.2] := cutD_from (xs := [.str "hear", .int k.1, .int k.2, .int v.1, .int v.2]) 3
      refine (yn_asg (YD.eq (yd_slA (yd_var rfl) (yo_some yd_int) (yo_some yd_int)) (d' := dP k) (congrArg PyData.tuple (cutD_ft (xs := [.str "hear", .int k.1, .int k.2, .int v.1, .int v.2]) 1 3))) yg_name : YN K _ _ _ _) σ Hs H e hs _ fun σ1 Hs1 H1 g1 e1 n1 => ?_
      refine (yt_test (yd_op (yd_op (yd_var rfl) yd_int (rd_ixT rfl)) yd_str (rd_eqD sh_hear sh_strike)) : YT K _ _ _) σ1 Hs1 H1 e1 g1.c _ fun Hs2 H2 g2 => ?_
      rw [ev_hs]
      refine iteF ?_
      have G2 := g1.trans g2
      have h01 : σ1[0]? = some (some (.ref dk)) := (n1 0 (by decide)).trans h0
      obtain ⟨u, su, tu⟩ := e1.2 3 (dP k) rfl
      obtain ⟨tk, rfl, htk⟩ := rp_pair tu
      have hk : ∀ {Hs' H' : Hp}, Gr Hs1 H1 Hs' H' → H' tk = some (.tup ((kp k).map kV)) := fun g => g.b _ _ (g1.c _ _ htk)
      -- known.get(key, deed[3:]) != deed[3:]
      obtain ⟨⟨kvs, hdk, rT⟩, _⟩ := TA.gr G2
      refine ⟨.ref dk, h01, dk, rfl, .inr ⟨kvs, .inl hdk⟩, .ref tk, su, ?_⟩
      refine (YD.eq (yd_slA (yd_var rfl) (yo_some yd_int) yo_none) (congrArg PyData.tuple c3) : YD K _ _ (dP v)) σ1 Hs2 H2 (e1.mono g2.a) g2.c _ fun z Hs3 H3 g3 rz => ?_
      have G3 := G2.trans g3
      obtain ⟨⟨kvs3, hdk3, rT3⟩, _⟩ := TA.gr G3
      refine ⟨_, DGet.t (k := kp k) hdk3 (hk (g2.trans g3)), ?_⟩
      obtain ⟨l1, l2⟩ := rT3.look k
      rw [look_hT] at l1 l2
      have rgot : Rp K Hs3 ((valV kvs3 (kp k)).getD z) (dP ((lookH h k).getD v)) := by
        cases hl : lookH h k with
        | none => rw [hl] at l2; rw [l2 rfl]; exact rz
        | some y =>
          rw [hl] at l1
          obtain ⟨vv, e2, r2⟩ := l1 (dP y) rfl
          rw [e2]
          exact r2
      refine (YD.eq (yd_slA (yd_var rfl) (yo_some yd_int) yo_none) (congrArg PyData.tuple c3) : YD K _ _ (dP v)) σ1 Hs3 H3 (e1.mono (g2.a.trans g3.a)) g3.c _ fun z2 Hs4 H4 g4 rz2 => ?_
      have G4 := G3.trans g4
      refine ⟨dP ((lookH h k).getD v), dP v, ((rgot.mono g4.a).mono g4.c).shape (shp_pair _), (rz2.mono g4.c).shape (shp_pair _), shp_pair _, shp_pair _, _, rfl, ?_⟩
      rw [eqv_pair]
      have un : RU K (rU fun i => .int (-i)) (.int 1) (.int (-1)) := ru_neg
      have un2 : RU K (rU fun i => .int (-i)) (.int 2) (.int (-2)) := ru_neg
      by_cases hne : (lookH h k).getD v = v
      · rw [decide_eq_true hne]
        refine iteF ?_
        obtain ⟨⟨kvs4, hdk4, rT4⟩, ⟨kvs42, hdq4, rS4⟩, nk4, nq4, ne4⟩ := TA.gr G4
        have hkl : kvs4.length = h.length := by rw [rT4.len, hT, List.length_map]
        have htk4 := hk ((g2.trans g3).trans g4)
        obtain ⟨l41, l42⟩ := rT4.look k
        rw [look_hT] at l41 l42
        refine ⟨.ref tk, su, .ref dk, h01, dk, _, rfl, DGet.t (k := kp k) hdk4 htk4, _, rfl, ?_⟩
        have l1l : σ1.length = 5 := e1.1
        have f0 : ∀ x, (σ1.set 4 x)[0]? = some (some (.ref dk)) := fun x => by rw [List.getElem?_set_ne (by decide)]; exact h01
        have f3 : ∀ x, (σ1.set 4 x)[3]? = some (some (.ref tk)) := fun x => by rw [List.getElem?_set_ne (by decide)]; exact su
        -- what follows the two tests
        have fin : ∀ r : PyData × Hd × List (Int × Int), runD h st (.hear k v) = r → (∀ b, r.1 = .bool b → b = !(lookH h k).isSome ∧ putT (hT h) k (dP v) = hT r.2.1 ∧ r.2.2 = st → (tSeq (tAsg (tDNotIn (tVar 3) (tVar 0)) (gName 4)) (tSeq (sDPut (tVar 0) (tVar 3) (tSl (rSlA K) (tVar 2) (tPart (tC (.int 3))) tNoPart)) (tRet (tVar 4)))) { nx := fun _ H' => Q .non H', rt := Q } σ1 H4) := by
          rintro r hr b hb ⟨hb2, hput, hst2⟩
          refine ⟨.ref tk, su, .ref dk, h01, dk, _, rfl, DGet.t (k := kp k) hdk4 htk4, ?_⟩
          refine (YD.eq (yd_slA (yd_var rfl) (yo_some yd_int) yo_none) (congrArg PyData.tuple c3) : YD K _ _ (dP v)) (σ1.set 4 _) Hs4 H4 (((e1.mono ((g2.a.trans g3.a).trans g4.a))).del 4) G4.c _ fun z5 Hs5 H5 g5 rz5 => ?_
          obtain ⟨⟨kvs5, hdk5, rT5⟩, ⟨kvs52, hdq5, rS5⟩, nk5, nq5, ne5⟩ := TA.gr (G4.trans g5)
          have hkl5 : kvs5.length = h.length := by rw [rT5.len, hT, List.length_map]
          refine ⟨.ref dk, f0 _, .ref tk, f3 _, dk, _, rfl, DPut.t (k := kp k) hdk5 (hk (((g2.trans g3).trans g4).trans g5)) (sz_lt (by omega)), ?_⟩
          refine ⟨_, List.getElem?_set_self (by omega), ?_⟩
          refine q _ Hs5 _ (((G4.trans g5).x (ms := [dk, dq])).put (by simp) nk5) ?_ ?_
          · rw [hr]
            refine ⟨⟨_, upd_same, ?_⟩, ⟨kvs52, by rw [upd_ne ne5.symm]; exact hdq5, by rw [hst2]; exact rS5⟩, nk5, nq5, ne5⟩
            rw [← hput]
            exact rT5.put rz5
          · rw [hr, hb, hb2, rT4.isSome, look_hT]
            cases lookH h k <;> exact .bl _
        cases hl : lookH h k with
        | some y =>
          rw [hl] at l41 hne
          have hy : y = v := hne
          obtain ⟨vv, e2, _⟩ := l41 (dP y) rfl
          rw [e2]
          refine iteF (iteF ?_)
          refine fin _ rfl false ?_ ?_
          · simp only [runD, hl]
            rw [if_pos hy]
          · simp only [runD, hl]
            rw [if_pos hy]
            subst hy
            exact ⟨rfl, put_same nd hl, rfl⟩
        | none =>
          rw [hl] at l42
          rw [l42 rfl]
          refine iteT ?_
          refine ⟨.ref dk, h01, dk, kvs4, rfl, hdk4, .int (kvs4.length : Nat), .int 8, .int _, .int _, rfl, rfl, _, rfl, ?_⟩
          rw [show PyData.eqv (.int ((kvs4.length : Nat) : Int)) (.int 8) = decide (h.length = 8) by
            show (((kvs4.length : Nat) : Int) == 8) = _
            rw [hkl]
            by_cases hh : h.length = 8
            · rw [hh]; rfl
            · rw [decide_eq_false hh]
              exact beq_eq_false_iff_ne.mpr (by omega)]
          by_cases hh : h.length = 8
          · rw [decide_eq_true hh]
            refine iteT ?_
            refine (yd_un yd_int un2 : YD K _ _ _) σ1 Hs4 H4 (e1.mono ((g2.a.trans g3.a).trans g4.a)) G4.c _ fun v6 Hs6 H6 g6 r6 => ?_
            have er : runD h st (.hear k v) = (.int (-2), h, st) := by
              simp only [runD, hl]
              rw [if_pos (by omega)]
            refine q _ Hs6 H6 (G4.trans g6).x ?_ ?_
            · rw [er]
              exact TA.gr (G4.trans g6)
            · rw [er]
              exact r6
          · rw [decide_eq_false hh]
            refine iteF ?_
            refine fin _ rfl true ?_ ?_
            · simp only [runD, hl]
              rw [if_neg (by omega)]
            · simp only [runD, hl]
              rw [if_neg (by omega)]
              exact ⟨rfl, put_hT hl, rfl⟩
      · rw [decide_eq_false hne]
        refine iteT ?_
        refine (yd_un yd_int un : YD K _ _ _) σ1 Hs4 H4 (e1.mono ((g2.a.trans g3.a).trans g4.a)) G4.c _ fun v6 Hs6 H6 g6 r6 => ?_
        have er : runD h st (.hear k v) = (.int (-1), h, st) := by
          cases hl : lookH h k with
          | none => rw [hl] at hne; exact absurd rfl hne
          | some y =>
            rw [hl] at hne
            simp only [runD, hl]
            rw [if_neg (show ¬ y = v from hne)]
        refine q _ Hs6 H6 (G4.trans g6).x ?_ ?_
        · rw [er]
          exact TA.gr (G4.trans g6)
        · rw [er]
          exact r6
end
end SG
set_option Elab.async false
set_option linter.all false
set_option maxRecDepth 100000
set_option maxHeartbeats 4000000
namespace SG
open PySem PySem.Spec PyProof.Rows L2
theorem pss_ex {X : Cx} {α : Type} {Pp : α → Prop} {T : α → TS} {sts : List Stmt} (h : ∀ x, Pp x → PSs X sts (T x)) : PSs X sts (fun D σ H => ∃ x, Pp x ∧ T x D σ H) := ⟨fun pins s σ H D I ⟨x, px, hx⟩ => (h x px).run pins s σ H D I hx⟩
/-- what is known of the errors together: cS is SightError's class -/
structure ErF (K : PySem.W.Frag) (cS : Addr) (cs : Er → Addr) : Prop where
  ec : ∀ x, ExcC K (cs x)
  kit : ∀ x y, PySem.W.kitOne K (.ref (cs x)) (.ref (cs y)) = some (decide (x = y))
  exm : ∀ x, PySem.W.exmOne K (.ref (cs x)) (.ref cS) = some true
def spTold (K : PySem.W.Frag) (C : Addr) : Sp := fun vs H Q _ => ∃ (Hs : Hp) (p dh dst : Addr) (N : NewsS) (d : Deed) (v : V), vs = [.ref p, v] ∧ Same Hs H ∧ Rp K Hs v (deedD d) ∧ NewsAt K C Hs H p dh dst N ∧ d.ok N.n N.l ∧ N.heard.length ≤ 100 ∧ N.struck.length ≤ 100 ∧
  ∀ u Hs2 H2, GrX [dh, dst] Hs H Hs2 H2 → NewsAt K C Hs2 H2 p dh dst ⟨N.n, N.l, (runD N.heard N.struck d).2.1, (runD N.heard N.struck d).2.2⟩ → Rp K Hs2 u (runD N.heard N.struck d).1 → Q u H2
theorem numIn_of {i a b : Int} (h : a ≤ i ∧ i ≤ b) : numIn (.int i) a b = true := by
  simp [numIn]
  exact h
section
variable {P : Program} {w : World} {K : PySem.W.Frag} {mg : Str → Option Value} {base : Heap} {f C cS fH fS : Addr} {fd fdH fdS : FuncData} {cs : Er → Addr}
abbrev s__law_told : Stmt := (top 34)
theorem sc__law_told : FnScope ["_law_news", "_law_deed", "error", "_law_sorts"] ["_law_news", "_law_deed"] (defScope s__law_told) := ⟨rfl, rfl, rfl, by decide +kernel, rfl, by decide +kernel, by decide +kernel⟩
/-- the suite: which class it is of -/
def tSuite (K : PySem.W.Frag) (cs : Er → Addr) (D a : Addr) : TS := tAsg (tLst (tCons (tCB (rIsE K D a) (tCons (tVar 2) (tCons (tC (.ref (cs .unlike))) tNil))) (tCons (tCB (rIsE K D a) (tCons (tVar 2) (tCons (tC (.ref (cs .tooMany))) tNil))) (tCons (tCB (rIsE K D a) (tCons (tVar 2) (tCons (tC (.ref (cs .badTick))) tNil))) tNil)))) (gName 3)
def tBack (K : PySem.W.Frag) : TS := tRet (tIf (tTest (tOp (rEqD K) (tVar 3) (tLst (tCons (tC (.bl true)) (tCons (tC (.bl false)) (tCons (tC (.bl false)) tNil)))))) (tUn (rU fun i => .int (-i)) (tC (.int 1))) (tIf (tTest (tOp (rEqD K) (tVar 3) (tLst (tCons (tC (.bl false)) (tCons (tC (.bl true)) (tCons (tC (.bl false)) tNil)))))) (tUn (rU fun i => .int (-i)) (tC (.int 2))) (tUn (rU fun i => .int (-i)) (tC (.int 3)))))
theorem ok_told (F : FnP K "_law_told" s__law_told f fd) (G : Gi mg) (T : NTxt K C) (xS : mg "SightError" = some (.ref cS)) (x_Unlike : Xc K mg "Unlike" (cs .unlike)) (x_TooMany : Xc K mg "TooMany" (cs .tooMany)) (x_BadTick : Xc K mg "BadTick" (cs .badTick)) (EF : ErF K cS cs)
    (mH : Meth K C "hear" fH) (FH : FnOk P w K mg base (L2.CX P w) 4 fH fdH ["self", "hand", "own", "tick", "place"] (spHear K C cs)) (bH : Binds K fdH ["self", "hand", "own", "tick", "place"] [])
    (mS : Meth K C "strike" fS) (FS : FnOk P w K mg base (L2.CX P w) 4 fS fdS ["self", "hand", "own"] (spStrike K C cs)) (bS : Binds K fdS ["self", "hand", "own"] []) : FnOk P w K mg base CX0 5 f fd ["_law_news", "_law_deed"] (spTold K C) := by
  refine F.ok sc__law_told (fun vs H Q E h => ?_) (fun cdv A outer s H vs Q E hr h => ⟨_, PSs.nox (pss_cons (ps_try_as (i := 2) (c := .ref cS) (ts := fun a cls d D σ H => ∃ Dx, (cls = .ref Dx ∧ d = none ∧ ExcC K Dx) ∧ tSuite K cs Dx a D σ H) rfl rfl sc__law_told.nd rfl rfl ⟨rfl, by decide, .inl xS⟩ takes0
      (fun W pn xe tk _ => pss_one (ps_ret (pe_ifExp (pt_cmpR (op_eqk (K := K) rfl hr.units) (pe_ix (ix_k (K := K) rfl) (pv 1) pe_int (fun _ _ => rfl)) pe_str (nomark _))
        (pe_methE (E := WE W) (pv 0) T.cl mH FH (hr.mono (by decide)) bH (fun σ => passAt tk σ) (pa_cons (pe_ix (ix_k (K := K) rfl) (pv 1) pe_int (fun _ _ => rfl)) (pa_cons (pe_ix (ix_k (K := K) rfl) (pv 1) pe_int (fun _ _ => rfl)) (pa_cons (pe_ix (ix_k (K := K) rfl) (pv 1) pe_int (fun _ _ => rfl)) (pa_cons (pe_ix (ix_k (K := K) rfl) (pv 1) pe_int (fun _ _ => rfl)) pa_nil)))))
        (pe_methE (E := WE W) (pv 0) T.cl mS FS (hr.mono (by decide)) bS (fun σ => passAt tk σ) (pa_cons (pe_ix (ix_k (K := K) rfl) (pv 1) pe_int (fun _ _ => rfl)) (pa_cons (pe_ix (ix_k (K := K) rfl) (pv 1) pe_int (fun _ _ => rfl)) pa_nil))))))
      (fun a oe cls d pn hz hf => pss_ex fun Dx hD => by
        obtain ⟨rfl, rfl, ec⟩ := hD
        exact pss_one (ps_set (i := 3) sc__law_told.nd rfl (Or.inl rfl) (pe_lst (pa_cons (pe_callB (call_isE ec hz hf) rfl G.b_isinstance boot_isinstance (pa_cons (pv 2) (pa_cons (pe_glob rfl x_Unlike.mg rfl) pa_nil))) (pa_cons (pe_callB (call_isE ec hz hf) rfl G.b_isinstance boot_isinstance (pa_cons (pv 2) (pa_cons (pe_glob rfl x_TooMany.mg rfl) pa_nil))) (pa_cons (pe_callB (call_isE ec hz hf) rfl G.b_isinstance boot_isinstance (pa_cons (pv 2) (pa_cons (pe_glob rfl x_BadTick.mg rfl) pa_nil))) pa_nil)))))))
      (pss_one (ps_ret (pe_ifExp (pt_cmpR (op_eqk (K := K) rfl hr.units) (pv 3) (pe_lst (pa_cons pe_bl (pa_cons pe_bl (pa_cons pe_bl pa_nil)))) (nomark _)) (pe_un un_neg pe_int) (pe_ifExp (pt_cmpR (op_eqk (K := K) rfl hr.units) (pv 3) (pe_lst (pa_cons pe_bl (pa_cons pe_bl (pa_cons pe_bl pa_nil)))) (nomark _)) (pe_un un_neg pe_int) (pe_un un_neg pe_int)))))), ?_⟩)
  · obtain ⟨Hs, p, dh, dst, N, d, v, rfl, _⟩ := h
    rfl
  · obtain ⟨Hs, p, dh, dst, N, d, v, rfl, hs, rv, NA, ok, hl1, hl2, q⟩ := h
    have e : EnvD K Hs (L2.start ["_law_news", "_law_deed", "error", "_law_sorts"] [.ref p, v]) [none, some (deedD d), none, none] := env_none (env_some rv (env_none (env_none env_nil)))
    have h0 : (L2.start ["_law_news", "_law_deed", "error", "_law_sorts"] [.ref p, v])[0]? = some (some (.ref p)) := rfl
    generalize L2.start ["_law_news", "_law_deed", "error", "_law_sorts"] [.ref p, v] = σ at e h0 ⊢
    have l4 : σ.length = 4 := e.1
    have un1 : RU K (rU fun i => .int (-i)) (.int 1) (.int (-1)) := ru_neg
    have un2 : RU K (rU fun i => .int (-i)) (.int 2) (.int (-2)) := ru_neg
    -- behind an error
    have hand : ∀ (x : Er) (r : Int), ((x = .unlike ∧ r = -1) ∨ (x = .tooMany ∧ r = -2)) → (∀ u Hs2 H2, Gr Hs H Hs2 H2 → Rp K Hs2 u (.int r) → Q u H2) → ∀ Hs2 H2, Gr Hs H Hs2 H2 →
        wAs K (.ref cS) 2 (fun a cls d D σ H => ∃ Dx, (cls = .ref Dx ∧ d = none ∧ ExcC K Dx) ∧ tSuite K cs Dx a D σ H) (fun _ _ _ _ => False)
          { nx := tBack K { nx := fun _ H' => Q .non H', rt := Q }, rt := Q } (.ref (cs x)) none σ H2 := by
      intro x r hx hq Hs2 H2 g
      refine ⟨true, EF.exm x, fun _ a ha => ⟨cs x, ⟨rfl, rfl, EF.ec x⟩, ?_⟩, fun z => nomatch z⟩
      have s2 : (σ.set 2 (some (.ref a)))[2]? = some (some (.ref a)) := List.getElem?_set_self (by omega)
      refine ⟨.ref a, s2, .ref (cs .unlike), .ref (cs .unlike), _, rfl, (fun u r => r), EF.kit x .unlike, .ref a, s2, .ref (cs .tooMany), .ref (cs .tooMany), _, rfl, (fun u r => r), EF.kit x .tooMany, .ref a, s2, .ref (cs .badTick), .ref (cs .badTick), _, rfl, (fun u r => r), EF.kit x .badTick, by show 3 ≤ sizeLine; decide, fun pl hpl => ?_⟩
      have g3 := Gr.new (o := .lst [.bl (decide (x = .unlike)), .bl (decide (x = .tooMany)), .bl (decide (x = .badTick))]) g.c hpl
      have rl : Rp K _ (.ref pl) (.list [.bool (decide (x = .unlike)), .bool (decide (x = .tooMany)), .bool (decide (x = .badTick))]) := rp_lst (K := K) (H := H2) (same_none g.c hpl) (.cons (.bl _) (.cons (.bl _) (.cons (.bl _) .nil)))
      have e3 : EnvD K _ (((σ.set 2 (some (.ref a))).set 3 (some (.ref pl))).set 2 none) [none, some (deedD d), none, some (.list [.bool (decide (x = .unlike)), .bool (decide (x = .tooMany)), .bool (decide (x = .badTick))])] := ((((e.mono g.a).mono g3.a).del (x := some (.ref a)) 2).set 3 rl).del (x := none) 2
      have sh : ∀ a b c : Bool, SeqAt.shaped (.list [.bool a, .bool b, .bool c]) = true := fun a b c => rfl
      show tBack K { nx := fun _ H' => Q .non H', rt := Q } (((σ.set 2 (some (.ref a))).set 3 (some (.ref pl))).set 2 none) (upd H2 pl (.lst [.bl (decide (x = .unlike)), .bl (decide (x = .tooMany)), .bl (decide (x = .badTick))]))
      rcases hx with ⟨rfl, rfl⟩ | ⟨rfl, rfl⟩
      · refine (yr_ret (yd_if (b := true) (yt_test (yd_op (yd_var rfl) (yd_lst (ya_cons yd_bl (ya_cons yd_bl (ya_cons yd_bl ya_nil))) (Nat.le_of_ble_eq_true rfl)) (rd_eqD (sh _ _ _) (sh _ _ _)))) (fun _ => yd_un yd_int un1) (fun h => nomatch h)) : YR K (tBack K) _ _) _ _ _ e3 g3.c _ fun u Hs4 H4 g4 r4 => hq u Hs4 H4 ((g.trans g3).trans g4) r4
      · refine (yr_ret (yd_if (b := false) (yt_test (yd_op (yd_var rfl) (yd_lst (ya_cons yd_bl (ya_cons yd_bl (ya_cons yd_bl ya_nil))) (Nat.le_of_ble_eq_true rfl)) (rd_eqD (sh _ _ _) (sh _ _ _)))) (fun h => nomatch h) (fun _ => yd_if (b := true) (yt_test (yd_op (yd_var rfl) (yd_lst (ya_cons yd_bl (ya_cons yd_bl (ya_cons yd_bl ya_nil))) (Nat.le_of_ble_eq_true rfl)) (rd_eqD (sh _ _ _) (sh _ _ _)))) (fun _ => yd_un yd_int un2) (fun h => nomatch h))) : YR K (tBack K) _ _) _ _ _ e3 g3.c _ fun u Hs4 H4 g4 r4 => hq u Hs4 H4 ((g.trans g3).trans g4) r4
    cases d with
    | strike k =>
      obtain ⟨ok1, ok2⟩ := ok
      refine (yt_test (yd_op (yd_op (yd_var rfl) yd_int (rd_ixT rfl)) yd_str (rd_eqD sh_strike sh_hear)) : YT K _ _ _) σ Hs H e hs _ fun Hs1 H1 g1 => ?_
      rw [ev_sh]
      refine iteF ?_
      obtain ⟨⟨dx, ob⟩, _⟩ := id (NA.gr g1)
      refine ⟨.ref p, h0, p, dx, _, rfl, ob, nfl_no _ _ _ _ (by decide +kernel) (by decide +kernel) (by decide +kernel) (by decide +kernel), ?_⟩
      refine (ya_cons (yd_op (yd_var rfl) yd_int (rd_ixT rfl)) (ya_cons (yd_op (yd_var rfl) yd_int (rd_ixT rfl)) ya_nil) : YA K _ _ [.int k.1, .int k.2]) σ Hs1 H1 (e.mono g1.a) g1.c _ fun ws Hs2 H2 g2 rw => ?_
      have G2 := g1.trans g2
      refine ⟨Hs2, p, dh, dst, N, ws, .int k.1, .int k.2, rfl, G2.c, rw, NA.gr G2, hl2, ?_⟩
      have hsrc : srcF (.int k.1) (.int k.2) = none := by
        unfold srcF
        rw [if_pos (numIn_of ok1), if_pos (numIn_of ok2)]
      have er : strikeF N (.int k.1) (.int k.2) = .ok (!decide (k ∈ N.struck), { N with struck := strikeS N.struck k }) := by
        unfold strikeF
        rw [hsrc]
        rfl
      rw [er]
      intro Hs3 H3 g3 NA3
      exact q _ Hs3 H3 ((G2.x (ms := [dh, dst])).trans (g3.mono (by simp))) NA3 (.bl _)
    | hear k v =>
      obtain ⟨ok1, ok2, ok3, ok4⟩ := ok
      refine (yt_test (yd_op (yd_op (yd_var rfl) yd_int (rd_ixT rfl)) yd_str (rd_eqD sh_hear sh_hear)) : YT K _ _ _) σ Hs H e hs _ fun Hs1 H1 g1 => ?_
      rw [ev_hh]
      refine iteT ?_
      obtain ⟨⟨dx, ob⟩, _⟩ := id (NA.gr g1)
      refine ⟨.ref p, h0, p, dx, _, rfl, ob, nfl_no _ _ _ _ (by decide +kernel) (by decide +kernel) (by decide +kernel) (by decide +kernel), ?_⟩
      refine (ya_cons (yd_op (yd_var rfl) yd_int (rd_ixT rfl)) (ya_cons (yd_op (yd_var rfl) yd_int (rd_ixT rfl)) (ya_cons (yd_op (yd_var rfl) yd_int (rd_ixT rfl)) (ya_cons (yd_op (yd_var rfl) yd_int (rd_ixT rfl)) ya_nil))) : YA K _ _ [.int k.1, .int k.2, .int v.1, .int v.2]) σ Hs1 H1 (e.mono g1.a) g1.c _ fun ws Hs2 H2 g2 rw => ?_
      have G2 := g1.trans g2
      refine ⟨Hs2, p, dh, dst, N, ws, .int k.1, .int k.2, .int v.1, .int v.2, rfl, G2.c, rw, NA.gr G2, hl1, ?_⟩
      have hsrc : srcF (.int k.1) (.int k.2) = none := by
        unfold srcF
        rw [if_pos (numIn_of ok1), if_pos (numIn_of ok2)]
      have er : hearF N (.int k.1) (.int k.2) (.int v.1) (.int v.2) = (match lookH N.heard k with
        | some u => if u = v then .ok (false, N) else .error .unlike
        | none => if 8 ≤ N.heard.length then .error .tooMany else .ok (true, { N with heard := N.heard ++ [(k, v)] })) := by
        unfold hearF
        rw [hsrc]
        dsimp only
        rw [if_pos (numIn_of ok3), if_pos (numIn_of ok4)]
        rfl
      rw [er]
      cases hlk : lookH N.heard k with
      | some u =>
        dsimp only
        by_cases hu : u = v
        · rw [if_pos hu]
          intro Hs3 H3 g3 NA3
          have rr : runD N.heard N.struck (.hear k v) = (.bool false, N.heard, N.struck) := by
            simp only [runD, hlk]
            rw [if_pos hu]
          rw [rr] at q
          exact q _ Hs3 H3 ((G2.x (ms := [dh, dst])).trans (g3.mono (by simp))) NA3 (.bl _)
        · rw [if_neg hu]
          have rr : runD N.heard N.struck (.hear k v) = (.int (-1), N.heard, N.struck) := by
            simp only [runD, hlk]
            rw [if_neg hu]
          rw [rr] at q
          intro Hs3 H3 g3
          exact hand .unlike (-1) (.inl ⟨rfl, rfl⟩) (fun u Hs4 H4 g4 r4 => q u Hs4 H4 g4.x (NA.gr g4) r4) Hs3 H3 (G2.trans g3)
      | none =>
        dsimp only
        by_cases h8 : 8 ≤ N.heard.length
        · rw [if_pos h8]
          have rr : runD N.heard N.struck (.hear k v) = (.int (-2), N.heard, N.struck) := by
            simp only [runD, hlk]
            rw [if_pos h8]
          rw [rr] at q
          intro Hs3 H3 g3
          exact hand .tooMany (-2) (.inr ⟨rfl, rfl⟩) (fun u Hs4 H4 g4 r4 => q u Hs4 H4 g4.x (NA.gr g4) r4) Hs3 H3 (G2.trans g3)
        · rw [if_neg h8]
          intro Hs3 H3 g3 NA3
          have rr : runD N.heard N.struck (.hear k v) = (.bool true, N.heard ++ [(k, v)], N.struck) := by
            simp only [runD, hlk]
            rw [if_neg h8]
          rw [rr] at q
          exact q _ Hs3 H3 ((G2.x (ms := [dh, dst])).trans (g3.mono (by simp))) NA3 (.bl _)
end
end SG
set_option Elab.async false
set_option linter.all false
set_option maxRecDepth 100000
set_option maxHeartbeats 4000000
namespace SG
open PySem PySem.Spec PyProof.Rows L2
/-! ### the same in another turn -/
def hearOf : Deed → Option ((Int × Int) × (Int × Int))
  | .hear k v => some (k, v)
  | .strike _ => none
def strikeOf : Deed → Option (Int × Int)
  | .hear _ _ => none
  | .strike k => some k
def runAll (h : Hd) (s : List (Int × Int)) : List Deed → Hd × List (Int × Int)
  | [] => (h, s)
  | d :: r => runAll (runD h s d).2.1 (runD h s d).2.2 r
theorem runAll_append : ∀ (l : List Deed) (m : List Deed) (h : Hd) (s : List (Int × Int)), runAll h s (l ++ m) = runAll (runAll h s l).1 (runAll h s l).2 m
  | [], _, _, _ => rfl
  | d :: r, m, h, s => runAll_append r m _ _
theorem look_none {h : Hd} {k : Int × Int} (hn : k ∉ h.map (·.1)) : lookH h k = none := by
  unfold lookH
  rw [Option.map_eq_none_iff, List.find?_eq_none]
  intro q hq e
  exact hn (List.mem_map.mpr ⟨q, hq, of_decide_eq_true e⟩)
/-- new deeds, all unlike: each is taken -/
theorem runAll_new : ∀ (l : List Deed) (h : Hd) (s : List (Int × Int)), ((h ++ l.filterMap hearOf).map (·.1)).Nodup → (h ++ l.filterMap hearOf).length ≤ 8 → (s ++ l.filterMap strikeOf).Nodup →
    runAll h s l = (h ++ l.filterMap hearOf, s ++ l.filterMap strikeOf)
  | [], h, s, _, _, _ => by simp [runAll]
  | .hear k v :: r, h, s, n1, n2, n3 => by
    have e1 : (Deed.hear k v :: r).filterMap hearOf = (k, v) :: r.filterMap hearOf := rfl
    have e2 : (Deed.hear k v :: r).filterMap strikeOf = r.filterMap strikeOf := rfl
    rw [e1] at n1 n2
    rw [e2] at n3
    have hk : k ∉ h.map (·.1) := fun hm => by
      rw [List.map_append, List.nodup_append] at n1
      exact n1.2.2 k hm k (by simp) rfl
    have hr : runD h s (.hear k v) = (.bool true, h ++ [(k, v)], s) := by
      simp only [runD, look_none hk]
      rw [if_neg]
      simp only [List.length_append, List.length_cons] at n2
      omega
    show runAll (runD h s (.hear k v)).2.1 (runD h s (.hear k v)).2.2 r = _
    rw [hr, e1, e2]
    have := runAll_new r (h ++ [(k, v)]) s (by simpa using n1) (by simpa using n2) n3
    simpa using this
  | .strike k :: r, h, s, n1, n2, n3 => by
    have e1 : (Deed.strike k :: r).filterMap hearOf = r.filterMap hearOf := rfl
    have e2 : (Deed.strike k :: r).filterMap strikeOf = k :: r.filterMap strikeOf := rfl
    rw [e1] at n1 n2
    rw [e2] at n3
    have hk : k ∉ s := fun hm => by
      rw [List.nodup_append] at n3
      exact n3.2.2 k hm k (by simp) rfl
    show runAll h (strikeS s k) r = _
    rw [e1, e2]
    have es : strikeS s k = s ++ [k] := by
      unfold strikeS
      rw [if_neg hk]
    rw [es]
    have := runAll_new r h (s ++ [k]) n1 n2 (by simpa using n3)
    simpa using this
theorem look_mem {h : Hd} (nd : (h.map (·.1)).Nodup) {q : (Int × Int) × (Int × Int)} (hq : q ∈ h) : lookH h q.1 = some q.2 := by
  obtain ⟨v, hv⟩ := mem_look (List.mem_map.mpr ⟨q, hq, rfl⟩)
  rw [look_all nd hv q hq rfl]
  exact hv
/-- deeds that were done already change nothing -/
theorem runAll_old : ∀ (l : List Deed) (h : Hd) (s : List (Int × Int)), (h.map (·.1)).Nodup → (∀ q ∈ l.filterMap hearOf, q ∈ h) → (∀ k ∈ l.filterMap strikeOf, k ∈ s) → runAll h s l = (h, s)
  | [], h, s, _, _, _ => rfl
  | .hear k v :: r, h, s, nd, n1, n2 => by
    have hm : (k, v) ∈ h := n1 (k, v) (by simp [hearOf])
    have hr : runD h s (.hear k v) = (.bool false, h, s) := by
      have hl : lookH h k = some v := look_mem nd hm
      simp only [runD, hl]
      exact if_pos True.intro
    show runAll (runD h s (.hear k v)).2.1 (runD h s (.hear k v)).2.2 r = _
    rw [hr]
    exact runAll_old r h s nd (fun q hq => n1 q (show q ∈ (k, v) :: r.filterMap hearOf from List.mem_cons_of_mem _ hq)) (fun q hq => n2 q (show q ∈ r.filterMap strikeOf from hq))
  | .strike k :: r, h, s, nd, n1, n2 => by
    have hm : k ∈ s := n2 k (by simp [strikeOf])
    show runAll h (strikeS s k) r = _
    have es : strikeS s k = s := by
      unfold strikeS
      rw [if_pos hm]
    rw [es]
    exact runAll_old r h s nd (fun q hq => n1 q (show q ∈ r.filterMap hearOf from hq)) (fun q hq => n2 q (show q ∈ k :: r.filterMap strikeOf from List.mem_cons_of_mem _ hq))
theorem sort_perm {l m : List (Int × Int)} (h : l.Perm m) : sortP l = sortP m := srt_uniq (sortP_srt l) (sortP_srt m) (((sortP_perm l).trans h).trans (sortP_perm m).symm)
theorem stand_perm {n l n' l' : Int} {h h' : Hd} {s s' : List (Int × Int)} (nd : (h.map (·.1)).Nodup) (hp : h'.Perm h) (sp : s'.Perm s) : stand ⟨n', l', h', s'⟩ = stand ⟨n, l, h, s⟩ := by
  have nd' : (h'.map (·.1)).Nodup := (hp.map _).nodup_iff.mpr nd
  unfold stand
  dsimp only
  rw [sort_perm (hp.map _)]
  have e1 : ((sortP (h.map (·.1))).filter fun k => !decide (k ∈ s')) = (sortP (h.map (·.1))).filter fun k => !decide (k ∈ s) := by
    apply List.filter_congr
    intro k _
    rw [decide_eq_decide.mpr sp.mem_iff]
  rw [e1]
  apply List.map_congr_left
  intro k hk
  have hk2 : k ∈ h.map (·.1) := sortP_mem.mp (List.mem_filter.mp hk).1
  obtain ⟨q, hq, rfl⟩ := List.mem_map.mp hk2
  rw [look_mem nd hq, look_mem nd' (hp.mem_iff.mpr hq)]
def isTrueD : PyData → Bool
  | .bool true => true
  | _ => false
/-- what the deeds kept so far are -/
structure Kept (D : List Deed) (h : Hd) (s : List (Int × Int)) : Prop where
  hp : (D.filterMap hearOf).Perm h
  sp : (D.filterMap strikeOf).Perm s
  nd : (h.map (·.1)).Nodup
  sn : s.Nodup
  h8 : h.length ≤ 8
theorem ins_perm {α : Type} (l : List α) (i : Nat) (x : α) : (l.take i ++ [x] ++ l.drop i).Perm (x :: l) := by
  rw [List.append_assoc]
  exact (List.perm_middle (a := x) (l₁ := l.take i) (l₂ := l.drop i)).trans (by rw [List.take_append_drop])
theorem strike_nd {s : List (Int × Int)} (k : Int × Int) (h : s.Nodup) : (strikeS s k).Nodup := by
  unfold strikeS
  split
  · exact h
  · rename_i hk
    exact nd_snoc h hk
theorem Kept.turn {D : List Deed} {h : Hd} {s : List (Int × Int)} (K : Kept D h s) (d : Deed) (i : Nat) : Kept (if isTrueD (runD h s d).1 = true then D.take i ++ [d] ++ D.drop i else D) (runD h s d).2.1 (runD h s d).2.2 := by
  obtain ⟨hp, sp, nd, sn, h8⟩ := K
  cases d with
  | hear k v =>
    cases e : lookH h k with
    | some u =>
      have hr : (runD h s (.hear k v)).2 = (h, s) ∧ ¬ isTrueD (runD h s (.hear k v)).1 = true := by
        simp only [runD, e]
        split <;> exact ⟨rfl, fun z => nomatch z⟩
      rw [if_neg hr.2, hr.1]
      exact ⟨hp, sp, nd, sn, h8⟩
    | none =>
      by_cases hl : 8 ≤ h.length
      · have hr : runD h s (.hear k v) = (.int (-2), h, s) := by
          simp only [runD, e]
          rw [if_pos hl]
        rw [hr, if_neg (fun z => nomatch z)]
        exact ⟨hp, sp, nd, sn, h8⟩
      · have hr : runD h s (.hear k v) = (.bool true, h ++ [(k, v)], s) := by
          simp only [runD, e]
          rw [if_neg hl]
        rw [hr, if_pos (show isTrueD (PyData.bool true) = true from rfl)]
        refine ⟨?_, ?_, lookH_snoc_nd nd e, sn, ?_⟩
        · refine ((ins_perm D i (.hear k v)).filterMap hearOf).trans ?_
          show ((k, v) :: D.filterMap hearOf).Perm _
          exact (hp.cons (k, v)).trans (List.perm_append_singleton (k, v) h).symm
        · exact ((ins_perm D i (.hear k v)).filterMap strikeOf).trans sp
        · show (h ++ [(k, v)]).length ≤ 8
          rw [List.length_append, List.length_singleton]
          omega
  | strike k =>
    show Kept (if isTrueD (PyData.bool (!decide (k ∈ s))) = true then _ else _) h (strikeS s k)
    by_cases hk : k ∈ s
    · rw [decide_eq_true hk, if_neg (fun z => nomatch z)]
      have es : strikeS s k = s := by
        unfold strikeS
        rw [if_pos hk]
      rw [es]
      exact ⟨hp, sp, nd, sn, h8⟩
    · rw [decide_eq_false hk, if_pos (show isTrueD (PyData.bool !false) = true from rfl)]
      have es : strikeS s k = s ++ [k] := by
        unfold strikeS
        rw [if_neg hk]
      rw [es]
      refine ⟨((ins_perm D i (.strike k)).filterMap hearOf).trans hp, ?_, nd, nd_snoc sn hk, h8⟩
      refine ((ins_perm D i (.strike k)).filterMap strikeOf).trans ?_
      show (k :: D.filterMap strikeOf).Perm _
      exact (sp.cons k).trans (List.perm_append_singleton k s).symm
theorem Kept.done {D : List Deed} {h : Hd} {s : List (Int × Int)} (K : Kept D h s) : runAll [] [] (D ++ D.take 4) = (D.filterMap hearOf, D.filterMap strikeOf) := by
  obtain ⟨hp, sp, nd, sn, h8⟩ := K
  have nd' : ((D.filterMap hearOf).map (·.1)).Nodup := (hp.map _).nodup_iff.mpr nd
  rw [runAll_append, runAll_new D [] [] (by simpa using nd') (by rw [List.nil_append, hp.length_eq]; exact h8) (by rw [List.nil_append]; exact sp.nodup_iff.mpr sn)]
  rw [List.nil_append, List.nil_append]
  have sub : ∀ d, d ∈ D.take 4 → d ∈ D := fun d hd => List.mem_of_mem_take hd
  refine runAll_old _ _ _ nd' (fun q hq => ?_) (fun k hk => ?_)
  · obtain ⟨d, hd, e⟩ := List.mem_filterMap.mp hq
    exact List.mem_filterMap.mpr ⟨d, sub d hd, e⟩
  · obtain ⟨d, hd, e⟩ := List.mem_filterMap.mp hk
    exact List.mem_filterMap.mpr ⟨d, sub d hd, e⟩
/-! ### all that changes in the law -/
structure MS (K : PySem.W.Frag) (C : Addr) (Hs H : Hp) (p1 h1 s1 p2 h2 s2 dk dq ql : Addr) (N1 N2 : NewsS) (h : Hd) (s : List (Int × Int)) (D : List Deed) : Prop where
  n1 : NewsAt K C Hs H p1 h1 s1 N1
  n2 : NewsAt K C Hs H p2 h2 s2 N2
  tw : TwoAt K Hs H dk dq h s
  ls : ∃ us, H ql = some (.lst us) ∧ RpAll K Hs us (D.map deedD)
  nl : Hs ql = none
  nd : [h1, s1, h2, s2, dk, dq].Nodup
section
variable {K : PySem.W.Frag} {C : Addr} {Hs H Hs2 H2 : Hp} {p1 h1 s1 p2 h2 s2 dk dq ql a : Addr} {N1 N2 N' : NewsS} {h h' : Hd} {s s' : List (Int × Int)} {D D' : List Deed}
theorem MS.gr (m : MS K C Hs H p1 h1 s1 p2 h2 s2 dk dq ql N1 N2 h s D) (g : Gr Hs H Hs2 H2) : MS K C Hs2 H2 p1 h1 s1 p2 h2 s2 dk dq ql N1 N2 h s D := by
  obtain ⟨a, b, c, ⟨us, e, r⟩, n, d⟩ := m
  exact ⟨a.gr g, b.gr g, c.gr g, ⟨us, g.b _ _ e, r.mono g.a⟩, g.d _ (by rw [e]; trivial) n, d⟩
theorem MS.told1 (m : MS K C Hs H p1 h1 s1 p2 h2 s2 dk dq ql N1 N2 h s D) (g : GrX [h1, s1] Hs H Hs2 H2) (n' : NewsAt K C Hs2 H2 p1 h1 s1 N') : MS K C Hs2 H2 p1 h1 s1 p2 h2 s2 dk dq ql N' N2 h s D := by
  obtain ⟨a, b, c, ⟨us, e, r⟩, n, d⟩ := m
  obtain ⟨_, ⟨k1, e1, _⟩, ⟨k2, e2, _⟩, _⟩ := id a
  obtain ⟨⟨dx, o2⟩, _⟩ := id b
  simp only [List.nodup_cons, List.mem_cons, not_or, List.not_mem_nil, not_false_eq_true, and_true, List.nodup_nil] at d
  have nl : ql ∉ [h1, s1] := by
    simp only [List.mem_cons, List.not_mem_nil, or_false, not_or]
    exact ⟨ne_of e e1 (by intro z; cases z), ne_of e e2 (by intro z; cases z)⟩
  refine ⟨n', b.grx g ?_ ?_ ?_, c.grx g ?_ ?_, ⟨us, g.b _ _ nl e, r.mono g.a⟩, g.d _ (by rw [e]; trivial) n, ?_⟩
  · simp only [List.mem_cons, List.not_mem_nil, or_false, not_or]
    exact ⟨ne_of o2 e1 (by intro z; cases z), ne_of o2 e2 (by intro z; cases z)⟩
  · simp only [List.mem_cons, List.not_mem_nil, or_false, not_or]; exact ⟨fun z => d.1.2.1 z.symm, fun z => d.2.1.1 z.symm⟩
  · simp only [List.mem_cons, List.not_mem_nil, or_false, not_or]; exact ⟨fun z => d.1.2.2.1 z.symm, fun z => d.2.1.2.1 z.symm⟩
  · simp only [List.mem_cons, List.not_mem_nil, or_false, not_or]; exact ⟨fun z => d.1.2.2.2.1 z.symm, fun z => d.2.1.2.2.1 z.symm⟩
  · simp only [List.mem_cons, List.not_mem_nil, or_false, not_or]; exact ⟨fun z => d.1.2.2.2.2 z.symm, fun z => d.2.1.2.2.2 z.symm⟩
  · simp only [List.nodup_cons, List.mem_cons, not_or, List.not_mem_nil, not_false_eq_true, and_true, List.nodup_nil]
    exact d
theorem MS.told2 (m : MS K C Hs H p1 h1 s1 p2 h2 s2 dk dq ql N1 N2 h s D) (g : GrX [h2, s2] Hs H Hs2 H2) (n' : NewsAt K C Hs2 H2 p2 h2 s2 N') : MS K C Hs2 H2 p1 h1 s1 p2 h2 s2 dk dq ql N1 N' h s D := by
  obtain ⟨a, b, c, ⟨us, e, r⟩, n, d⟩ := m
  obtain ⟨_, ⟨k1, e1, _⟩, ⟨k2, e2, _⟩, _⟩ := id b
  obtain ⟨⟨dx, o2⟩, _⟩ := id a
  simp only [List.nodup_cons, List.mem_cons, not_or, List.not_mem_nil, not_false_eq_true, and_true, List.nodup_nil] at d
  have nl : ql ∉ [h2, s2] := by
    simp only [List.mem_cons, List.not_mem_nil, or_false, not_or]
    exact ⟨ne_of e e1 (by intro z; cases z), ne_of e e2 (by intro z; cases z)⟩
  refine ⟨a.grx g ?_ ?_ ?_, n', c.grx g ?_ ?_, ⟨us, g.b _ _ nl e, r.mono g.a⟩, g.d _ (by rw [e]; trivial) n, ?_⟩
  · simp only [List.mem_cons, List.not_mem_nil, or_false, not_or]
    exact ⟨ne_of o2 e1 (by intro z; cases z), ne_of o2 e2 (by intro z; cases z)⟩
  · simp only [List.mem_cons, List.not_mem_nil, or_false, not_or]; exact ⟨d.1.2.1, d.1.2.2.1⟩
  · simp only [List.mem_cons, List.not_mem_nil, or_false, not_or]; exact ⟨d.2.1.1, d.2.1.2.1⟩
  · simp only [List.mem_cons, List.not_mem_nil, or_false, not_or]; exact ⟨fun z => d.2.2.1.2.1 z.symm, fun z => d.2.2.2.1.1 z.symm⟩
  · simp only [List.mem_cons, List.not_mem_nil, or_false, not_or]; exact ⟨fun z => d.2.2.1.2.2 z.symm, fun z => d.2.2.2.1.2 z.symm⟩
  · simp only [List.nodup_cons, List.mem_cons, not_or, List.not_mem_nil, not_false_eq_true, and_true, List.nodup_nil]
    exact d
theorem MS.due (m : MS K C Hs H p1 h1 s1 p2 h2 s2 dk dq ql N1 N2 h s D) (g : GrX [dk, dq] Hs H Hs2 H2) (n' : TwoAt K Hs2 H2 dk dq h' s') : MS K C Hs2 H2 p1 h1 s1 p2 h2 s2 dk dq ql N1 N2 h' s' D := by
  obtain ⟨a, b, c, ⟨us, e, r⟩, n, d⟩ := m
  obtain ⟨⟨k1, e1, _⟩, ⟨k2, e2, _⟩, _⟩ := id c
  obtain ⟨⟨dx, o1⟩, _⟩ := id a
  obtain ⟨⟨dx2, o2⟩, _⟩ := id b
  simp only [List.nodup_cons, List.mem_cons, not_or, List.not_mem_nil, not_false_eq_true, and_true, List.nodup_nil] at d
  have nl : ql ∉ [dk, dq] := by
    simp only [List.mem_cons, List.not_mem_nil, or_false, not_or]
    exact ⟨ne_of e e1 (by intro z; cases z), ne_of e e2 (by intro z; cases z)⟩
  refine ⟨a.grx g ?_ ?_ ?_, b.grx g ?_ ?_ ?_, n', ⟨us, g.b _ _ nl e, r.mono g.a⟩, g.d _ (by rw [e]; trivial) n, ?_⟩
  · simp only [List.mem_cons, List.not_mem_nil, or_false, not_or]
    exact ⟨ne_of o1 e1 (by intro z; cases z), ne_of o1 e2 (by intro z; cases z)⟩
  · simp only [List.mem_cons, List.not_mem_nil, or_false, not_or]; exact ⟨d.1.2.2.2.1, d.1.2.2.2.2⟩
  · simp only [List.mem_cons, List.not_mem_nil, or_false, not_or]; exact ⟨d.2.1.2.2.1, d.2.1.2.2.2⟩
  · simp only [List.mem_cons, List.not_mem_nil, or_false, not_or]
    exact ⟨ne_of o2 e1 (by intro z; cases z), ne_of o2 e2 (by intro z; cases z)⟩
  · simp only [List.mem_cons, List.not_mem_nil, or_false, not_or]; exact ⟨d.2.2.1.2.1, d.2.2.1.2.2⟩
  · simp only [List.mem_cons, List.not_mem_nil, or_false, not_or]; exact d.2.2.2.1
  · simp only [List.nodup_cons, List.mem_cons, not_or, List.not_mem_nil, not_false_eq_true, and_true, List.nodup_nil]
    exact d
/-- a list is changed: the kept deeds, or another one -/
theorem MS.lst {us : List V} {o : HO} (m : MS K C Hs H p1 h1 s1 p2 h2 s2 dk dq ql N1 N2 h s D) (ha : H a = some (.lst us)) (hl : a ≠ ql ∨ ∃ us', o = .lst us' ∧ RpAll K Hs us' (D'.map deedD)) (hD : a ≠ ql → D' = D) : MS K C Hs (upd H a o) p1 h1 s1 p2 h2 s2 dk dq ql N1 N2 h s D' := by
  obtain ⟨⟨⟨x1, a1⟩, ⟨k1, a2, a3⟩, ⟨k2, a4, a5⟩, a6, a7, a8, a9⟩, ⟨⟨x2, b1⟩, ⟨l1, b2, b3⟩, ⟨l2, b4, b5⟩, b6, b7, b8, b9⟩, ⟨⟨m1, c1, c2⟩, ⟨m2, c3, c4⟩, c5, c6, c7⟩, ⟨vs, e, r⟩, n, d⟩ := m
  have q : ∀ {b u}, H b = some u → (∀ us, u ≠ .lst us) → upd H a o b = some u := fun {b u} hb hu => by
    rw [upd_ne (ne_of hb ha (hu us))]
    exact hb
  refine ⟨⟨⟨x1, q a1 (fun _ z => nomatch z)⟩, ⟨k1, q a2 (fun _ z => nomatch z), a3⟩, ⟨k2, q a4 (fun _ z => nomatch z), a5⟩, a6, a7, a8, a9⟩, ⟨⟨x2, q b1 (fun _ z => nomatch z)⟩, ⟨l1, q b2 (fun _ z => nomatch z), b3⟩, ⟨l2, q b4 (fun _ z => nomatch z), b5⟩, b6, b7, b8, b9⟩, ⟨⟨m1, q c1 (fun _ z => nomatch z), c2⟩, ⟨m2, q c3 (fun _ z => nomatch z), c4⟩, c5, c6, c7⟩, ?_, n, d⟩
  by_cases hq : a = ql
  · rcases hl with hl | ⟨us', rfl, hr⟩
    · exact absurd hq hl
    · exact ⟨us', by rw [hq]; exact upd_same, hr⟩
  · rw [hD hq]
    exact ⟨vs, by rw [upd_ne (Ne.symm hq)]; exact e, r⟩
end
end SG
set_option Elab.async false
set_option linter.all false
set_option maxRecDepth 100000
set_option maxHeartbeats 4000000
namespace SG
open PySem PySem.Spec PyProof.Rows L2
theorem cutV_to {xs : List V} (j : Nat) : cutV xs none (some (j : Int)) = xs.take j := by
  unfold cutV
  rw [HT.sIx_none, show HT.sIx xs.length xs.length (some (j : Int)) = min j xs.length from HT.sIx_nat xs.length xs.length j, List.drop_zero, Nat.sub_zero]
  rcases Nat.le_total j xs.length with h | h
  · rw [Nat.min_eq_left h]
  · rw [Nat.min_eq_right h, List.take_of_length_le (Nat.le_refl _), List.take_of_length_le h]
theorem NewsAt.empty {K : PySem.W.Frag} {C : Addr} {Hs Hs0 H : Hp} {p dh dst : Addr} {n l : Int} (m : NewsAt K C Hs H p dh dst ⟨n, l, [], []⟩) (s : Same Hs0 Hs) : NewsAt K C Hs0 H p dh dst ⟨n, l, [], []⟩ := by
  obtain ⟨o, ⟨k1, h1, r1⟩, ⟨k2, h2, r2⟩, a, b, c, d⟩ := m
  have e1 : k1 = [] := by
    cases k1 with
    | nil => rfl
    | cons x r => exact False.elim r1
  have e2 : k2 = [] := by
    cases k2 with
    | nil => rfl
    | cons x r => exact False.elim r2
  subst e1 e2
  exact ⟨o, ⟨[], h1, trivial⟩, ⟨[], h2, trivial⟩, same_none s a, same_none s b, same_none s c, d⟩
/-- the deed of a cell -/
def numb (c : Int) (i : Nat) : Int := valueI c ((i % 4 : Nat) : Int) / 3
def deedOf (L : Land) (c : Int) (i : Nat) : Deed := if 0 < numb c i / 12 % 4 then .hear (numb c i % 4, numb c i / 4 % 3) (numb c i / 48 % (L.l + 1), numb c i / 528 % L.n) else .strike (numb c i % 4, numb c i / 4 % 3)
theorem deed_ok {L : Land} (g : GoodLand L) (c : Int) (i : Nat) : (deedOf L c i).ok L.n L.l := by
  have h1 := g.n1
  have h2 := g.l1
  unfold deedOf
  split
  · refine ⟨⟨?_, ?_⟩, ⟨?_, ?_⟩, ⟨Int.emod_nonneg _ (by omega), ?_⟩, ⟨Int.emod_nonneg _ (by omega), ?_⟩⟩
    · show 0 ≤ numb c i % 4; omega
    · show numb c i % 4 ≤ 3; omega
    · show 0 ≤ numb c i / 4 % 3; omega
    · show numb c i / 4 % 3 ≤ 9; omega
    · have := Int.emod_lt_of_pos (numb c i / 48) (show 0 < L.l + 1 by omega)
      show numb c i / 48 % (L.l + 1) ≤ L.l
      omega
    · have := Int.emod_lt_of_pos (numb c i / 528) (show 0 < L.n by omega)
      show numb c i / 528 % L.n ≤ L.n - 1
      omega
  · refine ⟨⟨?_, ?_⟩, ⟨?_, ?_⟩⟩
    · show 0 ≤ numb c i % 4; omega
    · show numb c i % 4 ≤ 3; omega
    · show 0 ≤ numb c i / 4 % 3; omega
    · show numb c i / 4 % 3 ≤ 9; omega
theorem run_scal (h : Hd) (s : List (Int × Int)) (d : Deed) : (∃ b, (runD h s d).1 = .bool b) ∨ (∃ i, (runD h s d).1 = .int i ∧ (i = -1 ∨ i = -2)) := by
  cases d with
  | strike k => exact .inl ⟨_, rfl⟩
  | hear k v =>
    cases e : lookH h k with
    | some u =>
      simp only [runD, e]
      split
      · exact .inl ⟨_, rfl⟩
      · exact .inr ⟨_, rfl, .inl rfl⟩
    | none =>
      simp only [runD, e]
      split
      · exact .inr ⟨_, rfl, .inr rfl⟩
      · exact .inl ⟨_, rfl⟩
theorem eqv_refl_pairs : ∀ ps : List (Int × Int), PyData.eqv (.list (ps.map dP)) (.list (ps.map dP)) = true
  | [] => rfl
  | p :: ps => by
    have ih := eqv_refl_pairs ps
    show (PyData.eqv (dP p) (dP p) && PyData.eqvAll (ps.map dP) (ps.map dP)) = true
    rw [eqv_pair, decide_eq_true rfl]
    exact ih
theorem runAll_len : ∀ (l : List Deed) (h : Hd) (s : List (Int × Int)), (runAll h s l).1.length ≤ h.length + l.length ∧ (runAll h s l).2.length ≤ s.length + l.length
  | [], h, s => ⟨Nat.le_refl _, Nat.le_refl _⟩
  | d :: r, h, s => by
    obtain ⟨a, b⟩ := runAll_len r (runD h s d).2.1 (runD h s d).2.2
    have h1 : (runD h s d).2.1.length ≤ h.length + 1 := by
      cases d with
      | strike k => exact Nat.le_succ _
      | hear k v =>
        cases e : lookH h k with
        | some u =>
          simp only [runD, e]
          split <;> exact Nat.le_succ _
        | none =>
          simp only [runD, e]
          split
          · exact Nat.le_succ _
          · show (h ++ [(k, v)]).length ≤ _
            rw [List.length_append, List.length_singleton]
            omega
    have h2 := run_slen (h := h) (s := s) d
    rw [List.length_cons]
    show (runAll (runD h s d).2.1 (runD h s d).2.2 r).1.length ≤ _ ∧ (runAll (runD h s d).2.1 (runD h s d).2.2 r).2.length ≤ _
    omega
def spLaw (K : PySem.W.Frag) : Sp := fun vs H Q _ => ∃ (a : Addr) (ns : List Int), vs = [.ref a] ∧ SqL K H a (ns.map V.int) ∧ ns.length ≤ 63 ∧ ∀ H', Q (.bl true) H'
theorem nd6 {h1 s1 h2 s2 dk dq : Addr} (a : h1 ≠ s1) (b : h2 ≠ s2) (c : dk ≠ dq) (d1 : h1 ≠ h2) (d2 : h1 ≠ s2) (d3 : s1 ≠ h2) (d4 : s1 ≠ s2) (e1 : h1 ≠ dk) (e2 : h1 ≠ dq) (e3 : s1 ≠ dk) (e4 : s1 ≠ dq) (f1 : h2 ≠ dk) (f2 : h2 ≠ dq) (f3 : s2 ≠ dk) (f4 : s2 ≠ dq) : [h1, s1, h2, s2, dk, dq].Nodup := by
  simp only [List.nodup_cons, List.mem_cons, not_or, List.not_mem_nil, not_false_eq_true, and_true, List.nodup_nil]
  exact ⟨⟨a, d1, d2, e1, e2⟩, ⟨d3, d4, e3, e4⟩, ⟨b, f1, f2⟩, ⟨f3, f4⟩, c⟩
section
variable {P : Program} {w : World} {K : PySem.W.Frag} {mg : Str → Option Value} {base : Heap} {f C fI fH fS fT : Addr} {fd fdI fdH fdS fdT : FuncData} {cs : Er → Addr}
theorem make_in {C : Addr} {sp : Sp} {dvs : List V} {E : XK} {t : TA} {g : TG} {D : Ends} {σ : L2.St} {H : Hp} (h : t σ H fun vs H1 => ∀ x dx, H1 x = none → H1 dx = none → dx ≠ x → sp (.ref x :: (vs ++ dvs)) (upd (upd H1 dx (.own x)) x (.ins C dx [])) (fun v H2 => v = .non ∧ g (.ref x) σ H2 D.nx) E) : tAsg (tMake C sp dvs E t) g D σ H := h
theorem or_in {t u : TT} {σ : L2.St} {H : Hp} {Q : Bool → Hp → Prop} (h : t σ H fun c H1 => if c = true then Q true H1 else u σ H1 Q) : tOr t u σ H Q := h
theorem NewsAt.own {Hs H : Hp} {p dh dst ql : Addr} {us : List V} {N : NewsS} (m : NewsAt K C Hs H p dh dst N) (hql : H ql = some (.lst us)) (nl : Hs ql = none) : NewsAt K C (upd Hs ql (.lst us)) H p dh dst N := by
  obtain ⟨⟨dx, o⟩, ⟨k1, h1, r1⟩, ⟨k2, h2, r2⟩, a, b, c, d⟩ := m
  have q : ∀ {x u}, H x = some u → (∀ us, u ≠ .lst us) → Hs x = none → upd Hs ql (.lst us) x = none := fun {x u} hx hu hn => by
    rw [upd_ne (ne_of hx hql (hu us))]
    exact hn
  exact ⟨⟨dx, o⟩, ⟨k1, h1, r1.mono (same_new nl)⟩, ⟨k2, h2, r2.mono (same_new nl)⟩, q o (fun _ z => nomatch z) a, q h1 (fun _ z => nomatch z) b, q h2 (fun _ z => nomatch z) c, d⟩
theorem env_free {Hs : Hp} {σ : L2.St} (l16 : σ.length = 16) : EnvD K Hs σ [none, none, none, none, none, none, none, none, none, none, none, none, none, none, none, none] := ⟨l16, fun i d hd => by
  have hm := List.mem_of_getElem? hd
  simp at hm⟩
/-- if due is True: deeds.insert(.., deed) -/
theorem s_ins {D0 : Ends} {σ : L2.St} {Hs H : Hp} {ρ : Rho} {c : Int} {vd u2 : V} {dd : Deed} {rd : PyData} {p1 h1 t1 p2 h2 t2 dk dq ql : Addr} {N1 N2 : NewsS} {h : Hd} {st : List (Int × Int)} {D : List Deed}
    (e : EnvD K Hs σ ρ) (s : Same Hs H) (r9 : (ρ.set 4 (some (.list (D.map deedD))))[9]? = some (some (.int c))) (r4 : (ρ.set 4 (some (.list (D.map deedD))))[4]? = some (some (.list (D.map deedD)))) (q4 : σ[4]? = some (some (.ref ql))) (q11 : σ[11]? = some (some vd)) (rvd : Rp K Hs vd (deedD dd)) (q13 : σ[13]? = some (some u2)) (ru : Rp K Hs u2 rd)
    (hsc : (∃ b, rd = .bool b) ∨ (∃ j, rd = .int j ∧ (j = -1 ∨ j = -2))) (m : MS K C Hs H p1 h1 t1 p2 h2 t2 dk dq ql N1 N2 h st D) (hD : D.length ≤ 100)
    (k : ∀ H2 j, Same Hs H2 → MS K C Hs H2 p1 h1 t1 p2 h2 t2 dk dq ql N1 N2 h st (if isTrueD rd = true then D.take j ++ [dd] ++ D.drop j else D) → D0.nx σ H2) :
    tIfS (tTest (tOp (rIsX false) (tVar 13) (tC (.bl true)))) (tDrop (tBM K "list" rInsert (tVar 4) (tCons (tOp (rI (fun x j => 0 < j) fun i j => V.int (i % j)) (tCall (spD K R_value) [] E0 (tCons (tVar 9) (tCons (tC (V.int 6)) tNil))) (tOp (rI0 fun i j => V.int (i + j)) (tCB (rLenS K) (tCons (tVar 4) tNil)) (tC (V.int 1)))) (tCons (tVar 11) tNil)))) tNext D0 σ H := by
  have hu : (∃ b, rd = .bool b ∧ u2 = .bl b) ∨ (∃ i, rd = .int i ∧ u2 = .int i) := by
    rcases hsc with ⟨b, rfl⟩ | ⟨j, rfl, _⟩
    · cases ru
      exact .inl ⟨b, rfl, rfl⟩
    · cases ru
      exact .inr ⟨j, rfl, rfl⟩
  have htr : decide (u2 = .bl true) = isTrueD rd := by
    rcases hu with ⟨b, rfl, rfl⟩ | ⟨i, rfl, rfl⟩
    · cases b <;> rfl
    · rfl
  refine ⟨u2, q13, true, rfl, ?_, isTrueD rd, ?_, ?_⟩
  · rcases hu with ⟨b, rfl, rfl⟩ | ⟨i, rfl, rfl⟩
    · exact .inl ⟨b, rfl⟩
    · exact .inr (.inl ⟨i, rfl⟩)
  · show V.bl (if false = true then _ else decide (u2 = .bl true)) = _
    rw [if_neg (by decide), htr]
  cases htd : isTrueD rd with
  | false =>
    refine iteF ?_
    refine k H 0 s ?_
    rw [htd, if_neg (by decide)]
    exact m
  | true =>
    refine iteT ?_
    obtain ⟨us, hql, ra⟩ := m.ls
    have hlu : us.length = D.length := by rw [ra.len, List.length_map]
    have hp : (0 : Int) < ((D.map deedD).length : Int) + 1 := by omega
    refine ⟨.ref ql, q4, .inl ⟨rfl, us, .inl (.inl hql)⟩, ?_⟩
    refine (yd_op (yd_call (R := R_value) (ya_cons (yd_var r9) (ya_cons yd_int ya_nil)) ⟨c, 6, rfl, by decide, by decide, rfl⟩) (yd_op (yd_cb (ya_cons (yd_var r4) ya_nil) rc_lenL) yd_int rd_I0) (rd_I hp) : YD K _ _ _) σ (upd Hs ql (.lst us)) H (e.own q4 m.nl ra) (same_own s hql) _ fun vi Hsx H3 gx ri => ?_
    cases ri
    have g3 : Gr Hs H Hs H3 := Gr.back (same_new m.nl) gx
    have i0 : 0 ≤ valueI c 6 % (((D.map deedD).length : Int) + 1) := Int.emod_nonneg _ (by omega)
    have i1 : valueI c 6 % (((D.map deedD).length : Int) + 1) < ((D.map deedD).length : Int) + 1 := Int.emod_lt_of_pos _ hp
    rw [List.length_map] at i0 i1 ⊢
    generalize hix : valueI c 6 % ((D.length : Int) + 1) = ix at i0 i1
    refine ⟨vd, q11, ql, us, ix, vd, rfl, rfl, g3.b _ _ hql, sz_lt (by omega), i0, by omega, ?_⟩
    have m3 := (m.gr g3).lst (a := ql) (us := us) (o := .lst (us.take ix.toNat ++ [vd] ++ us.drop ix.toNat)) (D' := D.take ix.toNat ++ [dd] ++ D.drop ix.toNat) (g3.b _ _ hql) (.inr ⟨_, rfl, ?_⟩) (fun z => absurd rfl z)
    · refine k _ ix.toNat (fun b x e => ?_) ?_
      · rw [upd_ne (ne_of_none e m.nl)]
        exact g3.c b x e
      · rw [htd, if_pos rfl]
        exact m3
    · rw [List.map_append, List.map_append, List.map_take, List.map_drop]
      exact ((ra.take _).snoc rvd).append (ra.drop _)
/-- for again in range(2): seen = news.sightings(); .. -/
theorem s_seen {D0 : Ends} {σ : L2.St} {Hs H : Hp} {p1 h1 t1 p2 h2 t2 dk dq ql : Addr} {n l : Int} {N2 : NewsS} {h : Hd} {st : List (Int × Int)} {D : List Deed} (T : NTxt K C)
    (s : Same Hs H) (l16 : σ.length = 16) (q2 : σ[2]? = some (some (.ref dk))) (q3 : σ[3]? = some (some (.ref dq))) (q6 : σ[6]? = some (some (.ref p1)))
    (m : MS K C Hs H p1 h1 t1 p2 h2 t2 dk dq ql ⟨n, l, h, st⟩ N2 h st D) (hh : h.length ≤ 8)
    (k : ∀ σ' Hs2 H2, Same Hs Hs2 → Same Hs2 H2 → σ'.length = 16 → (∀ i, i ∉ [14, 15] → σ'[i]? = σ[i]?) → MS K C Hs2 H2 p1 h1 t1 p2 h2 t2 dk dq ql ⟨n, l, h, st⟩ N2 h st D → D0.nx σ' H2) :
    tFor (iRng1 (tCons (tC (.int 2)) tNil)) (gName 14) (tSeq (tAsg (tMeth C "sightings" (spStand K C) [] E0 (tVar 6) tNil) (gName 15)) (tSeq (tIfS (tOr (tNot (tB (tCB (rIsi K) (tCons (tVar 15) (tCons (tC (.ty "list")) tNil))))) (tTest (tOp (rNeD K) (tVar 15) (tCall (spStood K) [] E0 (tCons (tVar 2) (tCons (tVar 3) tNil)))))) (tRet (tC (.bl false))) tNext) (tDrop (tBM K "list" rAppend (tVar 15) (tCons (tTup tNil) tNil))))) D0 σ H := by
  have eN : EnvD K Hs σ (List.replicate 16 none) := ⟨by rw [l16, List.length_replicate], fun i d hd => by
    rw [List.getElem?_replicate] at hd
    split at hd <;> cases hd⟩
  refine y_for (ds := rgD 0 2) (yi_rng1 (n := 2) (ya_cons yd_int ya_nil) (by decide) (by decide)) eN s fun Hs1 H1 g1 => ⟨fun i σ' Hs' H' => Same Hs1 Hs' ∧ Same Hs' H' ∧ σ'.length = 16 ∧ (∀ i, i ∉ [14, 15] → σ'[i]? = σ[i]?) ∧ MS K C Hs' H' p1 h1 t1 p2 h2 t2 dk dq ql ⟨n, l, h, st⟩ N2 h st D, ⟨Same.refl _, g1.c, l16, fun _ _ => rfl, m.gr g1⟩, fun i σ' Hs' H' p => ⟨p.1, p.2.1⟩, ?_, ?_⟩
  · rintro i d σ' Hs' H' hd ⟨sa, sb, l1, n1, m1⟩ x Hs2 H2 g rx
    have m2 := m1.gr g
    have l2 : (σ'.set 14 (some x)).length = 16 := by rw [List.length_set]; exact l1
    have a2 : (σ'.set 14 (some x))[2]? = some (some (.ref dk)) := by rw [List.getElem?_set_ne (by decide), n1 2 (by decide)]; exact q2
    have a3 : (σ'.set 14 (some x))[3]? = some (some (.ref dq)) := by rw [List.getElem?_set_ne (by decide), n1 3 (by decide)]; exact q3
    have a6 : (σ'.set 14 (some x))[6]? = some (some (.ref p1)) := by rw [List.getElem?_set_ne (by decide), n1 6 (by decide)]; exact q6
    have n2 : ∀ i, i ∉ [14, 15] → (σ'.set 14 (some x))[i]? = σ[i]? := fun j hj => by
      rw [List.getElem?_set_ne (fun z => hj (by simp [← z]))]
      exact n1 j hj
    show tSeq _ _ _ (σ'.set 14 (some x)) H2
    generalize σ'.set 14 (some x) = σ2 at l2 a2 a3 a6 n2 ⊢
    obtain ⟨⟨dx, ob⟩, _⟩ := id m2.n1
    refine ⟨.ref p1, a6, p1, dx, _, rfl, ob, nfl_no _ _ _ _ (by decide +kernel) (by decide +kernel) (by decide +kernel) (by decide +kernel), Hs2, p1, h1, t1, ⟨n, l, h, st⟩, rfl, g.c, m2.n1, by show h.length ≤ 100; omega, fun la acc Hs3 H3 g3 hla hlas hlac ra => ?_⟩
    have m3 := m2.gr g3
    obtain ⟨us, hql, _⟩ := m2.ls
    have nlq : la ≠ ql := (ne_of_none hql hla).symm
    have b15 : (σ2.set 15 (some (.ref la)))[15]? = some (some (.ref la)) := List.getElem?_set_self (by omega)
    have b2 : (σ2.set 15 (some (.ref la)))[2]? = some (some (.ref dk)) := by rw [List.getElem?_set_ne (by decide)]; exact a2
    have b3 : (σ2.set 15 (some (.ref la)))[3]? = some (some (.ref dq)) := by rw [List.getElem?_set_ne (by decide)]; exact a3
    have l3 : (σ2.set 15 (some (.ref la))).length = 16 := by rw [List.length_set]; exact l2
    have n3 : ∀ i, i ∉ [14, 15] → (σ2.set 15 (some (.ref la)))[i]? = σ[i]? := fun j hj => by
      rw [List.getElem?_set_ne (fun z => hj (by simp [← z]))]
      exact n2 j hj
    dsimp only [gName]
    generalize σ2.set 15 (some (.ref la)) = σ3 at l3 b15 b2 b3 n3 ⊢
    have eN3 : EnvD K Hs3 σ3 (List.replicate 16 none) := ⟨by rw [l3, List.length_replicate], fun i d hd => by
      rw [List.getElem?_replicate] at hd
      split at hd <;> cases hd⟩
    -- isinstance(seen, list)
    refine or_in ?_
    refine (yt_not (yt_B (yd_isi (yd_var (i := 15) rfl) (kit_list _))) : YT K _ _ _) σ3 (upd Hs3 la (.lst acc)) H3 (eN3.own b15 hlas ra) (same_own g3.c hlac) _ fun Hsx H4 gx => ?_
    have g4 : Gr Hs3 H3 Hs3 H4 := Gr.back (same_new hlas) gx
    refine iteF ?_
    have m4 := m3.gr g4
    refine ⟨.ref la, b15, .ref dk, b2, .ref dq, b3, Hs3, dk, dq, h, st, rfl, g4.c, m4.tw, by omega, fun u Hs5 H5 g5 ru => ?_⟩
    have hla5 : H5 la = some (.lst acc) := g5.b _ _ (g4.b _ _ hlac)
    have hls5 : Hs5 la = none := g5.d _ (by rw [g4.b _ _ hlac]; trivial) hlas
    have rl : Rp K (upd Hs5 la (.lst acc)) (.ref la) (.list ((stand ⟨n, l, h, st⟩).map dP)) := rp_lst (H := H5) hls5 (ra.mono g5.a)
    refine ⟨_, _, (rl.mono (same_own g5.c hla5)).shape (shp_pairs _), (ru.mono g5.c).shape (shp_pairs _), shp_pairs _, shp_pairs _, false, ?_, ?_⟩
    · show V.bl (!PyData.eqv (.list ((stand ⟨n, l, h, st⟩).map dP)) (.list ((stand ⟨n, l, h, st⟩).map dP))) = _
      rw [eqv_refl_pairs]
      rfl
    · refine iteF ?_
      have m5 := m4.gr g5
      have hal : acc.length ≤ 8 := by
        rw [ra.len, List.length_map]
        unfold stand
        rw [List.length_map]
        refine Nat.le_trans (List.length_filter_le _ _) ?_
        rw [sortP_len, List.length_map]
        exact hh
      refine s_append (d := .tuple []) b15 hla5 (yd_tup ya_nil (by decide)) (eN3.mono g5.a) g5.c (by omega) fun v Hs6 H6 g6 r6 => ?_
      have hla6 := g6.b _ _ hla5
      have hls6 : Hs6 la = none := g6.d _ (by rw [hla5]; trivial) hls5
      refine ⟨Hs6, sa.trans (g.a.trans (g3.a.trans (g5.a.trans g6.a))), fun b y e => ?_, l3, n3, (m5.gr g6).lst (a := la) (us := acc) hla6 (.inl nlq) (fun _ => rfl)⟩
      rw [upd_ne (ne_of_none e hls6)]
      exact g6.c b y e
  · rintro σ' Hs' H' ⟨sa, sb, l1, n1, m1⟩
    exact k σ' Hs' H' (g1.a.trans sa) sb l1 n1 m1
abbrev lawN : List Str := ["_law_script", "_law_land_here", "_law_known", "_law_struck", "_law_deeds", "_law_handed", "_law_news", "_law_other", "_law_at", "_law_cell", "_law_number", "_law_deed", "_law_told_here", "_law_due_here", "_law_again", "_law_seen"]
abbrev s_law : Stmt := (top 36)
theorem sc_law : FnScope ["_law_script", "_law_land_here", "_law_known", "_law_struck", "_law_deeds", "_law_handed", "_law_news", "_law_other", "_law_at", "_law_cell", "_law_number", "_law_deed", "_law_told_here", "_law_due_here", "_law_again", "_law_seen"] ["_law_script"] (defScope s_law) := ⟨rfl, rfl, rfl, by decide +kernel, rfl, by decide +kernel, by decide +kernel⟩
theorem ok_law (F : FnP K "law" s_law f fd) (G : Gi mg) (T : NTxt K C) (xN : mg "News" = some (.ref C)) (M : Mk K C fI)
    (FI : FnOk P w K mg base (L2.CX P w) 7 fI fdI ["self", "land"] (spInit K C cs)) (bI : Binds K fdI ["self", "land"] [])
    (mH : Meth K C "hear" fH) (FH : FnOk P w K mg base (L2.CX P w) 4 fH fdH ["self", "hand", "own", "tick", "place"] (spHear K C cs)) (bH : Binds K fdH ["self", "hand", "own", "tick", "place"] [])
    (mS : Meth K C "strike" fS) (FS : FnOk P w K mg base (L2.CX P w) 4 fS fdS ["self", "hand", "own"] (spStrike K C cs)) (bS : Binds K fdS ["self", "hand", "own"] [])
    (mT : Meth K C "sightings" fT) (FT : FnOk P w K mg base CX0 1 fT fdT ["self"] (spStand K C)) (bT : Binds K fdT ["self"] [])
    (c__law_value : Cal P w K mg base CX0 2 "_law_value" (spD K R_value)) (c__law_land : Cal P w K mg base CX0 3 "_law_land" (spD K R_land)) (c__law_copied : Cal P w K mg base CX0 1 "_law_copied" (spCopied K))
    (c__law_stand : Cal P w K mg base CX0 1 "_law_stand" (spStood K)) (c__law_told : Cal P w K mg base CX0 5 "_law_told" (spTold K C)) (c__law_due : Cal P w K mg base CX0 1 "_law_due" (spDue K)) : FnOk P w K mg base CX0 9 f fd ["_law_script"] (spLaw K) := by
  refine F.ok sc_law (fun vs H Q E h => ?_) (fun cdv A outer s H vs Q E hr h => ⟨_, PSs.nox (pss_cons (ps_set (i := 0) sc_law.nd rfl (Or.inl rfl) (pe_slice (sl_listk (K := K) rfl) (pv 0) po_none (po_some pe_int)))
      (pss_cons (ps_asg (pe_tup (pa_cons (pe_d c__law_land hr (by decide) rfl (pa_cons (pv 0) (pa_cons pe_int pa_nil))) (pa_cons pe_dnewT (pa_cons pe_dnewT (pa_cons (pe_lst pa_nil) pa_nil))))) (pg_tupk (K := K) (n := 4) rfl rfl (pgs_cons (pg_name (i := 1) sc_law.nd rfl (Or.inl rfl)) (pgs_cons (pg_name (i := 2) sc_law.nd rfl (Or.inl rfl)) (pgs_cons (pg_name (i := 3) sc_law.nd rfl (Or.inl rfl)) (pgs_cons (pg_name (i := 4) sc_law.nd rfl (Or.inl rfl)) pgs_nil))))))
      (pss_cons (ps_set (i := 5) sc_law.nd rfl (Or.inl rfl) (pe_d c__law_copied hr (by decide) rfl (pa_cons (pv 1) pa_nil)))
      (pss_cons (ps_par (i := 6) (j := 7) rfl sc_law.nd rfl rfl (by decide) rfl rfl (pa_cons (pe_make M FI (hr.mono (by decide)) rfl xN bI .nil passL (pa_cons (pv 5) pa_nil)) (pa_cons (pe_make M FI (hr.mono (by decide)) rfl xN bI .nil passL (pa_cons (pv 1) pa_nil)) pa_nil)) rfl)
      (pss_cons (ps_expr (pe_bm PySem.F.plainAttrs_list PySem.F.slot_list_append PySem.F.type_list_append mt_append (pe_ix (ix_k (K := K) rfl) (pv 5) pe_int (fun _ _ => rfl)) (pa_cons (pe_tup (pa_cons pe_int (pa_cons pe_int pa_nil))) pa_nil)))
      (pss_cons (ps_for PassesOwn.never rfl (pi_enumk (K := K) rfl rfl G.b_enumerate (pa_cons (pv 0) pa_nil)) (pg_tupk (K := K) (n := 2) rfl rfl (pgs_cons (pg_name (i := 8) sc_law.nd rfl (Or.inl rfl)) (pgs_cons (pg_name (i := 9) sc_law.nd rfl (Or.inl rfl)) pgs_nil)))
        (pss_cons (ps_set (i := 10) sc_law.nd rfl (Or.inl rfl) (pe_op op_fdiv (pe_d c__law_value hr (by decide) rfl (pa_cons (pv 9) (pa_cons (pe_op op_mod (pv 8) pe_int) pa_nil))) pe_int))
      (pss_cons (ps_set (i := 11) sc_law.nd rfl (Or.inl rfl) (pe_tup (pa_cons pe_str (pa_cons (pe_op op_mod (pv 10) pe_int) (pa_cons (pe_op op_mod (pe_op op_fdiv (pv 10) pe_int) pe_int) pa_nil)))))
      (pss_cons (ps_if (pt_cmpR (op_gt) (pe_op op_mod (pe_op op_fdiv (pv 10) pe_int) pe_int) pe_int (nomark _)) (pss_one (ps_set (i := 11) sc_law.nd rfl (Or.inl rfl) (pe_tup (pa_cons pe_str (pa_cons (pe_op op_mod (pv 10) pe_int) (pa_cons (pe_op op_mod (pe_op op_fdiv (pv 10) pe_int) pe_int) (pa_cons (pe_op op_mod (pe_op op_fdiv (pv 10) pe_int) (pe_op op_add (pe_ix (ix_k (K := K) rfl) (pv 1) pe_int (fun _ _ => rfl)) pe_int)) (pa_cons (pe_op op_mod (pe_op op_fdiv (pv 10) pe_int) (pe_ix (ix_k (K := K) rfl) (pv 1) pe_int (fun _ _ => rfl))) pa_nil)))))))) pss_nil)
      (pss_cons (ps_par (i := 12) (j := 13) rfl sc_law.nd rfl rfl (by decide) rfl rfl (pa_cons (pe_d c__law_told hr (by decide) rfl (pa_cons (pv 6) (pa_cons (pv 11) pa_nil))) (pa_cons (pe_d c__law_due hr (by decide) rfl (pa_cons (pv 2) (pa_cons (pv 3) (pa_cons (pv 11) pa_nil)))) pa_nil)) rfl)
      (pss_cons (ps_if (PW.pt (pw_or (pt_cmpR (op_nek (K := K) rfl hr.units) (pv 12) (pv 13) (nomark _)) (pw_or1 (pt_cmpR (op_nek (K := K) rfl hr.units) (pe_callB (call_isik (K := K) rfl) rfl G.b_isinstance boot_isinstance (pa_cons (pv 12) (pa_cons (pe_ty (n := "bool") rfl G.b_bool (by decide +kernel)) pa_nil))) (pe_callB (call_isik (K := K) rfl) rfl G.b_isinstance boot_isinstance (pa_cons (pv 13) (pa_cons (pe_ty (n := "bool") rfl G.b_bool (by decide +kernel)) pa_nil))) (nomark _))))) (pss_one (ps_ret pe_bl)) pss_nil)
      (pss_cons (ps_if (pt_cmpR op_isX (pv 13) pe_bl (nomark _)) (pss_one (ps_expr (pe_bm PySem.F.plainAttrs_list PySem.F.slot_list_insert PySem.F.type_list_insert mt_ins (pv 4) (pa_cons (pe_op op_mod (pe_d c__law_value hr (by decide) rfl (pa_cons (pv 9) (pa_cons pe_int pa_nil))) (pe_op op_add (pe_callB (call_lenk (K := K) rfl) rfl G.b_len boot_len (pa_cons (pv 4) pa_nil)) pe_int)) (pa_cons (pv 11) pa_nil))))) pss_nil)
      (pss_one (ps_for PassesOwn.never rfl (pi_range1 rfl G.b_range (pa_cons pe_int pa_nil)) (pg_name (i := 14) sc_law.nd rfl (Or.inl rfl))
        (pss_cons (ps_set (i := 15) sc_law.nd rfl (Or.inl rfl) (pe_meth0 (pv 6) T.cl mT FT (hr.mono (by decide)) bT .nil pass0))
      (pss_cons (ps_if (PW.pt (pw_or (pt_not (pt_val (pe_callB (call_isik (K := K) rfl) rfl G.b_isinstance boot_isinstance (pa_cons (pv 15) (pa_cons (pe_ty (n := "list") rfl G.b_list (by decide +kernel)) pa_nil))))) (pw_or1 (pt_cmpR (op_nek (K := K) rfl hr.units) (pv 15) (pe_d c__law_stand hr (by decide) rfl (pa_cons (pv 2) (pa_cons (pv 3) pa_nil))) (nomark _))))) (pss_one (ps_ret pe_bl)) pss_nil)
      (pss_one (ps_expr (pe_bm PySem.F.plainAttrs_list PySem.F.slot_list_append PySem.F.type_list_append mt_append (pv 15) (pa_cons (pe_tup pa_nil) pa_nil)))))))))))))))
      (pss_cons (ps_for PassesOwn.never rfl (pi_listk (K := K) rfl (pe_op op_cat (pv 4) (pe_slice (sl_listk (K := K) rfl) (pv 4) po_none (po_some pe_int)))) (pg_name (i := 11) sc_law.nd rfl (Or.inl rfl))
        (pss_one (ps_expr (pe_d c__law_told hr (by decide) rfl (pa_cons (pv 7) (pa_cons (pv 11) pa_nil))))))
      (pss_cons (ps_if (pt_cmpR (op_nek (K := K) rfl hr.units) (pe_meth0 (pv 7) T.cl mT FT (hr.mono (by decide)) bT .nil pass0) (pe_meth0 (pv 6) T.cl mT FT (hr.mono (by decide)) bT .nil pass0) (nomark _)) (pss_one (ps_ret pe_bl)) pss_nil)
      (pss_cons (ps_set (i := 6) sc_law.nd rfl (Or.inl rfl) (pe_make M FI (hr.mono (by decide)) rfl xN bI .nil passL (pa_cons (pe_tup (pa_cons pe_int (pa_cons (pe_lst (pa_cons (pe_tup (pa_cons pe_int (pa_cons pe_int pa_nil))) pa_nil)) (pa_cons pe_int pa_nil)))) pa_nil)))
      (pss_cons (ps_set (i := 12) sc_law.nd rfl (Or.inl rfl) (pe_lst (pa_cons (pe_meth (pv 6) T.cl mS FS (hr.mono (by decide)) bS .nil passL (pa_cons pe_int (pa_cons pe_int pa_nil))) (pa_cons (pe_meth (pv 6) T.cl mH FH (hr.mono (by decide)) bH .nil passL (pa_cons pe_int (pa_cons pe_int (pa_cons pe_int (pa_cons pe_int pa_nil))))) (pa_cons (pe_meth (pv 6) T.cl mH FH (hr.mono (by decide)) bH .nil passL (pa_cons pe_int (pa_cons pe_int (pa_cons pe_int (pa_cons pe_int pa_nil))))) (pa_cons (pe_meth (pv 6) T.cl mS FS (hr.mono (by decide)) bS .nil passL (pa_cons pe_int (pa_cons pe_int pa_nil))) (pa_cons (pe_meth (pv 6) T.cl mH FH (hr.mono (by decide)) bH .nil passL (pa_cons pe_int (pa_cons pe_int (pa_cons pe_int (pa_cons pe_int pa_nil))))) pa_nil)))))))
      (pss_one (ps_ret (pe_and (pe_cmpR (op_eqk (K := K) rfl hr.units) (pv 12) (pe_lst (pa_cons pe_bl (pa_cons pe_bl (pa_cons pe_bl (pa_cons pe_bl (pa_cons pe_bl pa_nil)))))) (nomark _)) (pe_one (pe_cmpR (op_eqk (K := K) rfl hr.units) (pe_meth0 (pv 6) T.cl mT FT (hr.mono (by decide)) bT .nil pass0) (pe_lst (pa_cons (pe_tup (pa_cons pe_int (pa_cons pe_int pa_nil))) pa_nil)) (nomark _)))))))))))))))), ?_⟩)
  · obtain ⟨a, ns, rfl, _⟩ := h
    rfl
  · obtain ⟨a, ns, rfl, hS, hlen, q⟩ := h
    have l0 : (L2.start lawN [.ref a]).length = 16 := rfl
    have e0 : EnvD K (fun _ => none) (L2.start lawN [.ref a]) [none, none, none, none, none, none, none, none, none, none, none, none, none, none, none, none] := env_none (env_none (env_none (env_none (env_none (env_none (env_none (env_none (env_none (env_none (env_none (env_none (env_none (env_none (env_none (env_none env_nil)))))))))))))))
    have h0 : (L2.start lawN [.ref a])[0]? = some (some (.ref a)) := rfl
    show tSeq _ _ _ (L2.start lawN [.ref a]) H
    generalize L2.start lawN [.ref a] = σ at e0 h0 l0 ⊢
    -- script[:63]
    refine ⟨.ref a, h0, 63, rfl, a, _, rfl, hS, fun p hp => ?_⟩
    have ec : cutV (ns.map V.int) none (some 63) = ns.map V.int := by
      rw [show cutV (ns.map V.int) none (some 63) = (ns.map V.int).take 63 from cutV_to 63]
      exact List.take_of_length_le (by rw [List.length_map]; exact hlen)
    rw [ec]
    have s1 : Same (upd (fun _ => none) p (.lst (ns.map V.int))) (upd H p (.lst (ns.map V.int))) := fun b x e => by
      by_cases hb : b = p
      · subst hb
        rw [upd_same] at e ⊢
        exact e
      · rw [upd_ne hb] at e
        cases e
    have e1 : EnvD K _ (σ.set 0 (some (.ref p))) _ := (e0.mono (same_new (p := p) (o := .lst (ns.map V.int)) rfl)).set 0 (rp_lst (K := K) (H := H) (p := p) (Hs := fun _ => none) rfl (RpAll.ints ns))
    have l1 : (σ.set 0 (some (.ref p))).length = 16 := by rw [List.length_set]; exact l0
    show tSeq _ _ _ (σ.set 0 (some (.ref p))) (upd H p (.lst (ns.map V.int)))
    generalize (upd (fun _ => none) p (.lst (ns.map V.int)) : Hp) = Hs1 at s1 e1
    generalize upd H p (.lst (ns.map V.int)) = H1 at s1 ⊢
    generalize σ.set 0 (some (.ref p)) = σ1 at e1 l1 ⊢
    clear hS h0 e0 l0
    -- land, {}, {}, []
    have gl := land_good ns 0
    generalize hL : landI ns 0 = L at gl
    refine (yd_call (ya_cons (yd_var rfl) (ya_cons yd_int ya_nil)) ⟨ns, 0, rfl, by rw [hL]⟩ : YD K _ _ (landD L)) σ1 Hs1 H1 e1 s1 _ fun v1 Hs2 H2 g2 r2 => ?_
    intro dk hdk
    intro dq hdq
    refine ⟨Nat.zero_le _, fun ql hql => ⟨by show 4 ≤ sizeLine; decide, fun t0 ht0 => ⟨t0, _, rfl, .inl (.inl upd_same), rfl, _, _, rfl, _, _, rfl, _, _, rfl, _, _, rfl, rfl, ?_⟩⟩⟩
    have ndq : dk ≠ dq := fun z => by rw [← z, upd_same] at hdq; cases hdq
    have nk1 : H2 dq = none := by rw [upd_ne ndq.symm] at hdq; exact hdq
    have nql : ql ≠ dk ∧ ql ≠ dq := ⟨fun z => (by rw [z, upd_ne ndq, upd_same] at hql; cases hql), fun z => (by rw [z, upd_same] at hql; cases hql)⟩
    have nq1 : H2 ql = none := by rw [upd_ne nql.2, upd_ne nql.1] at hql; exact hql
    have nt : t0 ≠ ql ∧ t0 ≠ dq ∧ t0 ≠ dk := ⟨fun z => (by rw [z, upd_same] at ht0; cases ht0), fun z => (by rw [z, upd_ne nql.2.symm, upd_same] at ht0; cases ht0), fun z => (by rw [z, upd_ne nql.1.symm, upd_ne ndq, upd_same] at ht0; cases ht0)⟩
    have nt1 : H2 t0 = none := by rw [upd_ne nt.1, upd_ne nt.2.1, upd_ne nt.2.2] at ht0; exact ht0
    have e2 : EnvD K Hs2 ((((σ1.set 1 (some v1)).set 2 (some (.ref dk))).set 3 (some (.ref dq))).set 4 (some (.ref ql))) _ := ((((e1.mono g2.a).set 1 r2).del 2).del 3).del 4
    have hdk3 : (upd (upd (upd (upd H2 dk (.dT [])) dq (.dT [])) ql (.lst [])) t0 (.tup [v1, .ref dk, .ref dq, .ref ql])) dk = some (.dT []) := by rw [upd_ne nt.2.2.symm, upd_ne nql.1.symm, upd_ne ndq, upd_same]
    have hdq3 : (upd (upd (upd (upd H2 dk (.dT [])) dq (.dT [])) ql (.lst [])) t0 (.tup [v1, .ref dk, .ref dq, .ref ql])) dq = some (.dT []) := by rw [upd_ne nt.2.1.symm, upd_ne nql.2.symm, upd_same]
    have hql3 : (upd (upd (upd (upd H2 dk (.dT [])) dq (.dT [])) ql (.lst [])) t0 (.tup [v1, .ref dk, .ref dq, .ref ql])) ql = some (.lst []) := by rw [upd_ne nt.1.symm, upd_same]
    have s3 : Same Hs2 (upd (upd (upd (upd H2 dk (.dT [])) dq (.dT [])) ql (.lst [])) t0 (.tup [v1, .ref dk, .ref dq, .ref ql])) := fun b x e => by
      have hb := g2.c b x e
      rw [upd_ne (ne_of_none hb nt1), upd_ne (ne_of_none hb nq1), upd_ne (ne_of_none hb nk1), upd_ne (ne_of_none hb hdk)]
      exact hb
    have ns2 : Hs2 dk = none ∧ Hs2 dq = none ∧ Hs2 ql = none := ⟨same_none g2.c hdk, same_none g2.c nk1, same_none g2.c nq1⟩
    have l2 : ((((σ1.set 1 (some v1)).set 2 (some (.ref dk))).set 3 (some (.ref dq))).set 4 (some (.ref ql))).length = 16 := by simp [l1]
    have z1 : ((((σ1.set 1 (some v1)).set 2 (some (.ref dk))).set 3 (some (.ref dq))).set 4 (some (.ref ql)))[1]? = some (some v1) := by
      rw [List.getElem?_set_ne (by decide), List.getElem?_set_ne (by decide), List.getElem?_set_ne (by decide), List.getElem?_set_self (by omega)]
    have z2 : ((((σ1.set 1 (some v1)).set 2 (some (.ref dk))).set 3 (some (.ref dq))).set 4 (some (.ref ql)))[2]? = some (some (.ref dk)) := by
      rw [List.getElem?_set_ne (by decide), List.getElem?_set_ne (by decide), List.getElem?_set_self (by simp [l1])]
    have z3 : ((((σ1.set 1 (some v1)).set 2 (some (.ref dk))).set 3 (some (.ref dq))).set 4 (some (.ref ql)))[3]? = some (some (.ref dq)) := by
      rw [List.getElem?_set_ne (by decide), List.getElem?_set_self (by simp [l1])]
    have z4 : ((((σ1.set 1 (some v1)).set 2 (some (.ref dk))).set 3 (some (.ref dq))).set 4 (some (.ref ql)))[4]? = some (some (.ref ql)) := List.getElem?_set_self (by simp [l1])
    show tSeq _ _ _ ((((σ1.set 1 (some v1)).set 2 (some (.ref dk))).set 3 (some (.ref dq))).set 4 (some (.ref ql))) (upd (upd (upd (upd H2 dk (.dT [])) dq (.dT [])) ql (.lst [])) t0 (.tup [v1, .ref dk, .ref dq, .ref ql]))
    generalize (((σ1.set 1 (some v1)).set 2 (some (.ref dk))).set 3 (some (.ref dq))).set 4 (some (.ref ql)) = σ2 at e2 l2 z1 z2 z3 z4 ⊢
    generalize upd (upd (upd (upd H2 dk (.dT [])) dq (.dT [])) ql (.lst [])) t0 (.tup [v1, .ref dk, .ref dq, .ref ql]) = H3 at hdk3 hdq3 hql3 s3 ⊢
    -- a copy
    refine ⟨v1, z1, Hs2, L, v1, rfl, s3, r2, by have := gl.wl; omega, fun t q0 us Hs4 H4 g4 hq0 hqs ht hts hq4 ra => ?_⟩
    have nqq : ql ≠ q0 := ne_of_none hql3 hq0
    have y5 : (σ2.set 5 (some (.ref t)))[5]? = some (some (.ref t)) := List.getElem?_set_self (by omega)
    have y1 : (σ2.set 5 (some (.ref t)))[1]? = some (some v1) := by rw [List.getElem?_set_ne (by decide)]; exact z1
    have y2 : (σ2.set 5 (some (.ref t)))[2]? = some (some (.ref dk)) := by rw [List.getElem?_set_ne (by decide)]; exact z2
    have y3 : (σ2.set 5 (some (.ref t)))[3]? = some (some (.ref dq)) := by rw [List.getElem?_set_ne (by decide)]; exact z3
    have y4 : (σ2.set 5 (some (.ref t)))[4]? = some (some (.ref ql)) := by rw [List.getElem?_set_ne (by decide)]; exact z4
    have e4 : EnvD K Hs4 (σ2.set 5 (some (.ref t))) _ := (e2.mono g4.a).del 5
    have l4 : (σ2.set 5 (some (.ref t))).length = 16 := by rw [List.length_set]; exact l2
    show tSeq _ _ _ (σ2.set 5 (some (.ref t))) H4
    generalize σ2.set 5 (some (.ref t)) = σ4 at e4 l4 y1 y2 y3 y4 y5 ⊢
    clear e2 l2 z1 z2 z3 z4
    have hdk4 := g4.b _ _ hdk3
    have hdq4 := g4.b _ _ hdq3
    have hql4 := g4.b _ _ hql3
    have ks4 : Hs4 dk = none ∧ Hs4 dq = none ∧ Hs4 ql = none := ⟨g4.d _ (by rw [hdk3]; trivial) ns2.1, g4.d _ (by rw [hdq3]; trivial) ns2.2.1, g4.d _ (by rw [hql3]; trivial) ns2.2.2⟩
    -- News(handed)
    have nqt : q0 ≠ t := ne_of hq4 ht (by intro z; cases z)
    refine ⟨.ref t, y5, fun p1 dx1 hp1 hdx1 nx1 => ?_⟩
    have nH4 : ∀ {b u}, H4 b = some u → (upd (upd H4 dx1 (.own p1)) p1 (.ins C dx1 [])) b = some u := fun {b u} hb => by
      rw [upd_ne (ne_of_none hb hp1), upd_ne (ne_of_none hb hdx1)]
      exact hb
    have sA : Same (upd (upd Hs4 q0 (.lst us)) t (.tup [.int L.n, .ref q0, .int L.l])) H4 := same_own (same_own g4.c hq4) ht
    have sB : Same Hs4 (upd (upd Hs4 q0 (.lst us)) t (.tup [.int L.n, .ref q0, .int L.l])) := fun b x e => by
      rw [upd_ne (ne_of_none e hts), upd_ne (ne_of_none e hqs)]
      exact e
    refine ⟨upd (upd Hs4 q0 (.lst us)) t (.tup [.int L.n, .ref q0, .int L.l]), p1, dx1, .ref t, landD L, rfl, fun b x e => nH4 (sA b x e), ?_, upd_same, same_none sA hp1, .inr ⟨L.n, .list (L.ws.map dP), L.l, rfl, isLand_good gl, fun Hs5 H5 h1 t1 gx hh1 ht1 NA1 => ⟨rfl, ?_⟩⟩⟩
    · exact .tup upd_same (.cons (.int _) (.cons (.lst (by rw [upd_ne nqt]; exact upd_same) (ra.mono sB)) (.cons (.int _) .nil)))
    have k5 : ∀ {b u}, H4 b = some u → H5 b = some u := fun {b u} hb => gx.b _ _ (by
      simp only [List.mem_singleton]
      exact ne_of_none hb hp1) (nH4 hb)
    -- News(land)
    refine ⟨v1, y1, fun p2 dx2 hp2 hdx2 nx2 => ?_⟩
    have nH5 : ∀ {b u}, H5 b = some u → (upd (upd H5 dx2 (.own p2)) p2 (.ins C dx2 [])) b = some u := fun {b u} hb => by
      rw [upd_ne (ne_of_none hb hp2), upd_ne (ne_of_none hb hdx2)]
      exact hb
    refine ⟨Hs5, p2, dx2, v1, landD L, rfl, fun b x e => nH5 (gx.c b x e), (r2.mono g4.a).mono (sB.trans gx.a), upd_same, same_none gx.c hp2, .inr ⟨L.n, .list (L.ws.map dP), L.l, rfl, isLand_good gl, fun Hs6 H6 h2 t2 gx2 hh2 ht2 NA2 => ⟨rfl, ?_⟩⟩⟩
    have k6 : ∀ {b u}, H5 b = some u → H6 b = some u := fun {b u} hb => gx2.b _ _ (by
      simp only [List.mem_singleton]
      exact ne_of_none hb hp2) (nH5 hb)
    have s46 : Same Hs4 Hs6 := sB.trans (gx.a.trans gx2.a)
    obtain ⟨⟨dxa, oa⟩, ⟨ka, ha, rka⟩, ⟨kb, hb, rkb⟩, npa, nha, nsa, nea⟩ := id NA1
    have NA1' : NewsAt K C Hs6 H6 p1 h1 t1 ⟨L.n, L.l, [], []⟩ := ⟨⟨dxa, k6 oa⟩, ⟨ka, k6 ha, rka.mono gx2.a⟩, ⟨kb, k6 hb, rkb.mono gx2.a⟩, gx2.d _ (by rw [nH5 oa]; trivial) npa, gx2.d _ (by rw [nH5 ha]; trivial) nha, gx2.d _ (by rw [nH5 hb]; trivial) nsa, nea⟩
    have nd0 : [h1, t1, h2, t2, dk, dq].Nodup := nd6 nea NA2.ne ndq (ne_of_none (nH5 ha) hh2) (ne_of_none (nH5 ha) ht2) (ne_of_none (nH5 hb) hh2) (ne_of_none (nH5 hb) ht2)
      (ne_of_none (nH4 hdk4) hh1).symm (ne_of_none (nH4 hdq4) hh1).symm (ne_of_none (nH4 hdk4) ht1).symm (ne_of_none (nH4 hdq4) ht1).symm
      (ne_of_none (nH5 (k5 hdk4)) hh2).symm (ne_of_none (nH5 (k5 hdq4)) hh2).symm (ne_of_none (nH5 (k5 hdk4)) ht2).symm (ne_of_none (nH5 (k5 hdq4)) ht2).symm
    have m6 : MS K C Hs4 H6 p1 h1 t1 p2 h2 t2 dk dq ql ⟨L.n, L.l, [], []⟩ ⟨L.n, L.l, [], []⟩ [] [] [] := ⟨NA1'.empty s46, NA2.empty s46, ⟨⟨[], k6 (k5 hdk4), trivial⟩, ⟨[], k6 (k5 hdq4), trivial⟩, ks4.1, ks4.2.1, ndq⟩, ⟨[], k6 (k5 hql4), .nil⟩, ks4.2.2, nd0⟩
    have hq6 : H6 q0 = some (.lst us) := k6 (k5 hq4)
    have ht6 : H6 t = some (.tup [.int L.n, .ref q0, .int L.l]) := k6 (k5 ht)
    have s6 : Same Hs4 H6 := s46.trans gx2.c
    have hus : us.length ≤ 10 := by
      rw [ra.len, List.length_map]
      exact gl.wl
    have x5 : ((σ4.set 6 (some (.ref p1))).set 7 (some (.ref p2)))[5]? = some (some (.ref t)) := by rw [List.getElem?_set_ne (by decide), List.getElem?_set_ne (by decide)]; exact y5
    have x2 : ((σ4.set 6 (some (.ref p1))).set 7 (some (.ref p2)))[2]? = some (some (.ref dk)) := by rw [List.getElem?_set_ne (by decide), List.getElem?_set_ne (by decide)]; exact y2
    have x3 : ((σ4.set 6 (some (.ref p1))).set 7 (some (.ref p2)))[3]? = some (some (.ref dq)) := by rw [List.getElem?_set_ne (by decide), List.getElem?_set_ne (by decide)]; exact y3
    have x4 : ((σ4.set 6 (some (.ref p1))).set 7 (some (.ref p2)))[4]? = some (some (.ref ql)) := by rw [List.getElem?_set_ne (by decide), List.getElem?_set_ne (by decide)]; exact y4
    have x6 : ((σ4.set 6 (some (.ref p1))).set 7 (some (.ref p2)))[6]? = some (some (.ref p1)) := by rw [List.getElem?_set_ne (by decide), List.getElem?_set_self (by omega)]
    have x7 : ((σ4.set 6 (some (.ref p1))).set 7 (some (.ref p2)))[7]? = some (some (.ref p2)) := List.getElem?_set_self (by simp [l4])
    have e6 : EnvD K Hs4 ((σ4.set 6 (some (.ref p1))).set 7 (some (.ref p2))) [some (.list (ns.map .int)), some (landD L), none, none, none, none, none, none, none, none, none, none, none, none, none, none] := (e4.del 6).del 7
    refine ⟨_, _, rfl, ?_⟩
    show tSeq _ _ _ ((σ4.set 6 (some (.ref p1))).set 7 (some (.ref p2))) H6
    generalize (σ4.set 6 (some (.ref p1))).set 7 (some (.ref p2)) = σ6 at e6 x2 x3 x4 x5 x6 x7 ⊢
    -- handed[1].append((0, 0))
    refine ⟨.ref t, x5, .inr (.inl ⟨t, _, 1, .ref q0, rfl, rfl, .inl (.inl ht6), rfl, .inl ⟨rfl, us, .inl (.inl hq6)⟩, by show 2 ≤ sizeLine; decide, fun tt htt => ⟨q0, us, _, rfl, rfl, by rw [upd_ne (ne_of_none hq6 htt)]; exact hq6, sz_lt (by omega), ?_⟩⟩)⟩
    have g7 : Gr Hs4 H6 Hs4 (upd H6 tt (.tup [.int 0, .int 0])) := Gr.fresh s6 htt
    have m7 := (m6.gr g7).lst (a := q0) (D' := []) (o := .lst (us ++ [.ref tt])) (us := us) (by rw [upd_ne (ne_of_none hq6 htt)]; exact hq6) (.inl nqq.symm) (fun _ => rfl)
    have s7 : Same Hs4 (upd (upd H6 tt (.tup [.int 0, .int 0])) q0 (.lst (us ++ [.ref tt]))) := fun b x e => by
      rw [upd_ne (ne_of_none e hqs)]
      exact g7.c b x e
    show tSeq _ _ _ σ6 (upd (upd H6 tt (.tup [.int 0, .int 0])) q0 (.lst (us ++ [.ref tt])))
    generalize upd (upd H6 tt (.tup [.int 0, .int 0])) q0 (.lst (us ++ [.ref tt])) = H7 at m7 s7 ⊢
    clear m6 hq6 ht6 s6 x5 y5 g7 ra hus k6 k5 nH5 nH4 sA sB NA1' NA1 NA2 gx gx2
    -- the deeds
    have un0 : Kept [] [] [] := ⟨.nil, .nil, List.nodup_nil, List.nodup_nil, Nat.zero_le _⟩
    refine y_for (D := { nx := _, rt := Q }) (yi_enum (ya_cons (yd_var rfl) ya_nil)) e6 s7 fun Hs8 H8 g8 => ⟨fun i σ' Hs' H' => Same Hs8 Hs' ∧ Same Hs' H' ∧ EnvD K Hs' σ' [some (.list (ns.map .int)), some (landD L), none, none, none, none, none, none, none, none, none, none, none, none, none, none] ∧ σ'[2]? = some (some (.ref dk)) ∧ σ'[3]? = some (some (.ref dq)) ∧ σ'[4]? = some (some (.ref ql)) ∧ σ'[6]? = some (some (.ref p1)) ∧ σ'[7]? = some (some (.ref p2)) ∧
      ∃ h s D, MS K C Hs' H' p1 h1 t1 p2 h2 t2 dk dq ql ⟨L.n, L.l, h, s⟩ ⟨L.n, L.l, [], []⟩ h s D ∧ Kept D h s ∧ s.length ≤ i ∧ D.length ≤ i ∧ ∀ d ∈ D, d.ok L.n L.l,
      ⟨Same.refl _, g8.c, e6.mono g8.a, x2, x3, x4, x6, x7, [], [], [], m7.gr g8, un0, Nat.le_refl _, Nat.le_refl _, fun d hd => nomatch hd⟩, fun i σ' Hs' H' p => ⟨p.1, p.2.1⟩, ?_, ?_⟩
    · rintro i d σ' Hs' H' hd ⟨sa, sb, e1, w2, w3, w4, w6, w7, h, s, D, m, kd, hsl, hDl, hok⟩ x Hs2 H2 g rx
      obtain ⟨ec, hec, rfl⟩ := enumD_get.mp hd
      rw [List.getElem?_map] at hec
      obtain ⟨c, hc, rfl⟩ := Option.map_eq_some_iff.mp hec
      have hi : i < 63 := by
        have := (List.getElem?_eq_some_iff.mp hc).1
        omega
      refine (yg_tup (ygs_cons yg_name (ygs_cons yg_name ygs_nil)) rfl : YG K _ _ _ _ _) σ' Hs2 H2 x (e1.mono g.a) g.c rx _ fun σ2 e2 l2 n2 => ?_
      have hmod : ((i : Int) % 4) = ((i % 4 : Nat) : Int) := by omega
      have hm4 : i % 4 < 4 := Nat.mod_lt _ (by decide)
      -- number
      refine (yn_asg (YD.eq (yd_op (yd_call (ya_cons (yd_var rfl) (ya_cons (YD.eq (yd_op (yd_var rfl) yd_int (rd_I (by decide))) (d' := .int ((i % 4 : Nat) : Int)) (by rw [hmod])) ya_nil)) ⟨c, _, rfl, by omega, by omega, rfl⟩) yd_int (rd_I ⟨by decide, by decide⟩)) (d' := .int (numb c i)) rfl) yg_name : YN K _ _ _ _) σ2 Hs2 H2 e2 g.c _ fun σ3 Hs3 H3 g3 e3 n3 => ?_
      -- deed
      refine (yn_asg (YD.eq (yd_tup (ya_cons yd_str (ya_cons (yd_op (yd_var rfl) yd_int (rd_I (by decide))) (ya_cons (yd_op (yd_op (yd_var rfl) yd_int (rd_I ⟨by decide, by decide⟩)) yd_int (rd_I (by decide))) ya_nil))) (Nat.le_of_ble_eq_true rfl)) (d' := deedD (.strike (numb c i % 4, numb c i / 4 % 3))) rfl) yg_name : YN K _ _ _ _) σ3 Hs3 H3 e3 g3.c _ fun σ4 Hs4 H4 g4 e4 n4 => ?_
      have gn1 := gl.n1
      have gl1 := gl.l1
      refine (yn_if (ρ1 := [some (.list (ns.map .int)), some (landD L), none, none, none, none, none, none, some (.int (i : Nat)), some (.int c), some (.int (numb c i)), some (deedD (deedOf L c i)), none, none, none, none]) (b := decide (0 < numb c i / 12 % 4)) (yt_test (yd_op (yd_op (yd_op (yd_var rfl) yd_int (rd_I ⟨by decide, by decide⟩)) yd_int (rd_I (by decide))) yd_int rd_B0)) (fun hb => yn_asg (YD.eq (yd_tup (ya_cons yd_str (ya_cons (yd_op (yd_var rfl) yd_int (rd_I (by decide))) (ya_cons (yd_op (yd_op (yd_var rfl) yd_int (rd_I ⟨by decide, by decide⟩)) yd_int (rd_I (by decide))) (ya_cons (yd_op (yd_op (yd_var rfl) yd_int (rd_I ⟨by decide, by decide⟩)) (yd_op (yd_op (yd_var rfl) yd_int (rd_ixT rfl)) yd_int rd_I0) (rd_I (by omega))) (ya_cons (yd_op (yd_op (yd_var rfl) yd_int (rd_I ⟨by decide, by decide⟩)) (yd_op (yd_var rfl) yd_int (rd_ixT rfl)) (rd_I (by omega))) ya_nil))))) (Nat.le_of_ble_eq_true rfl)) (d' := deedD (deedOf L c i)) ?_) yg_name) (fun hb => yn_sub yn_next ?_) : YN K _ _ _ _) σ4 Hs4 H4 e4 g4.c _ fun σ5 Hs5 H5 g5 e5 n5 => ?_
      · unfold deedOf
        rw [if_pos (of_decide_eq_true hb)]
        rfl
      · have hde : deedD (deedOf L c i) = deedD (.strike (numb c i % 4, numb c i / 4 % 3)) := by
          unfold deedOf
          rw [if_neg (of_decide_eq_false hb)]
        exact ⟨rfl, rfl, rfl, rfl, rfl, hde, trivial⟩
      have G5 := ((g.trans g3).trans g4).trans g5
      have n25 : ∀ j, j ∉ [8, 9, 10, 11] → σ5[j]? = σ'[j]? := fun j hj => by
        have hj2 : j ≠ 8 ∧ j ≠ 9 ∧ j ≠ 10 ∧ j ≠ 11 := by simpa using hj
        rw [n5 j (by simp; exact hj2.2.2.2), n4 j (by simp; exact hj2.2.2.2), n3 j (by simp; exact hj2.2.2.1), n2 j (by simp; exact ⟨hj2.1, hj2.2.1⟩)]
      have w2' := (n25 2 (by decide)).trans w2
      have w3' := (n25 3 (by decide)).trans w3
      have w4' := (n25 4 (by decide)).trans w4
      have w6' := (n25 6 (by decide)).trans w6
      have w7' := (n25 7 (by decide)).trans w7
      have l5 : σ5.length = 16 := e5.1
      obtain ⟨vd, s11, rvd⟩ := e5.2 11 (deedD (deedOf L c i)) rfl
      have hdo := deed_ok gl c i
      generalize hdd : deedOf L c i = dd at rvd e5 hdo
      have m5 := m.gr G5
      obtain ⟨khp, ksp, knd, ksn, kh8⟩ := id kd
      -- told, due
      refine ⟨.ref p1, w6', vd, s11, Hs5, p1, h1, t1, ⟨L.n, L.l, h, s⟩, dd, vd, rfl, G5.c, rvd, m5.n1, hdo, by show h.length ≤ 100; omega, by show s.length ≤ 100; omega, fun u1 Hs6 H6 gx NA' ru1 => ?_⟩
      have m6 := m5.told1 gx NA'
      refine ⟨.ref dk, w2', .ref dq, w3', vd, s11, Hs6, dk, dq, h, s, dd, vd, rfl, gx.c, rvd.mono gx.a, m6.tw, knd, kh8, by omega, fun u2 Hs7 H7' gx2 TW' ru2 => ⟨u1, u2, rfl, ?_⟩⟩
      have m7' := m6.due gx2 TW'
      have kt := fun j => kd.turn dd j
      have e7 : EnvD K Hs7 ((σ5.set 12 (some u1)).set 13 (some u2)) _ := ((e5.mono (gx.a.trans gx2.a)).set 12 (ru1.mono gx2.a)).set 13 ru2
      have q13 : ((σ5.set 12 (some u1)).set 13 (some u2))[13]? = some (some u2) := List.getElem?_set_self (by simp [l5])
      have q11 : ((σ5.set 12 (some u1)).set 13 (some u2))[11]? = some (some vd) := by rw [List.getElem?_set_ne (by decide), List.getElem?_set_ne (by decide)]; exact s11
      have q2 : ((σ5.set 12 (some u1)).set 13 (some u2))[2]? = some (some (.ref dk)) := by rw [List.getElem?_set_ne (by decide), List.getElem?_set_ne (by decide)]; exact w2'
      have q3 : ((σ5.set 12 (some u1)).set 13 (some u2))[3]? = some (some (.ref dq)) := by rw [List.getElem?_set_ne (by decide), List.getElem?_set_ne (by decide)]; exact w3'
      have q4 : ((σ5.set 12 (some u1)).set 13 (some u2))[4]? = some (some (.ref ql)) := by rw [List.getElem?_set_ne (by decide), List.getElem?_set_ne (by decide)]; exact w4'
      have q6 : ((σ5.set 12 (some u1)).set 13 (some u2))[6]? = some (some (.ref p1)) := by rw [List.getElem?_set_ne (by decide), List.getElem?_set_ne (by decide)]; exact w6'
      have q7 : ((σ5.set 12 (some u1)).set 13 (some u2))[7]? = some (some (.ref p2)) := by rw [List.getElem?_set_ne (by decide), List.getElem?_set_ne (by decide)]; exact w7'
      have rvd7 := rvd.mono (gx.a.trans gx2.a)
      show tSeq _ _ _ ((σ5.set 12 (some u1)).set 13 (some u2)) H7'
      generalize (σ5.set 12 (some u1)).set 13 (some u2) = σ7 at e7 q2 q3 q4 q6 q7 q11 q13 ⊢
      have sgx2 := gx2.c
      have s8b : Same Hs8 Hs7 := sa.trans (G5.a.trans (gx.a.trans gx2.a))
      clear e1 e2 e3 e4 n2 n3 n4 n5 n25 w2 w3 w4 w6 w7 w2' w3' w4' w6' w7' m5 m6 gx gx2 TW' NA' m g3 g4 g5 G5
      have hrl := run_len (h := h) (s := s) dd kh8
      have hrs := run_slen (h := h) (s := s) dd
      generalize hres : runD h s dd = res at *
      obtain ⟨rd, h', s'⟩ := res
      dsimp only at *
      have hsc : (∃ b, rd = .bool b) ∨ (∃ j, rd = .int j ∧ (j = -1 ∨ j = -2)) := by
        have := run_scal h s dd
        rw [hres] at this
        exact this
      have hsh : SeqAt.shaped rd = true := by
        rcases hsc with ⟨b, rfl⟩ | ⟨j, rfl, _⟩ <;> rfl
      have hee : PyData.eqv rd rd = true := by
        rcases hsc with ⟨b, rfl⟩ | ⟨j, rfl, _⟩
        · show (b == b) = true
          exact beq_self_eq_true b
        · show (j == j) = true
          exact beq_self_eq_true j
      -- told != due ..
      refine (YT.eq (yt_or (yt_test (yd_op (yd_var rfl) (yd_var rfl) (rd_neD hsh hsh))) fun _ => yt_test (yd_op (yd_isi (yd_var rfl) (kit_bool _)) (yd_isi (yd_var rfl) (kit_bool _)) (rd_neD rfl rfl))) (b' := false) (by
        rw [hee]
        show (!true || !(isBool rd == isBool rd)) = false
        rw [beq_self_eq_true]
        rfl) : YT K _ _ _) σ7 Hs7 H7' e7 sgx2 _ fun Hs9 H9 g9 => ?_
      refine iteF ?_
      refine s_ins (e7.mono g9.a) g9.c rfl rfl q4 q11 (rvd7.mono g9.a) q13 (ru2.mono g9.a) hsc (m7'.gr g9) (by omega) fun H10 j s10 m10 => ?_
      have k10 := kt j
      refine s_seen T s10 e7.1 q2 q3 q6 m10 hrl fun σ11 Hs11 H11 sx sy l11 n11 m11 => ?_
      refine ⟨Hs11, s8b.trans (g9.a.trans sx), sy, ?_, (n11 2 (by decide)).trans q2, (n11 3 (by decide)).trans q3, (n11 4 (by decide)).trans q4, (n11 6 (by decide)).trans q6, (n11 7 (by decide)).trans q7, h', s', _, m11, k10, by omega, ?_, ?_⟩
      · have e11 := (e7.mono g9.a).mono sx
        refine ⟨l11, fun j d hd => ?_⟩
        have hj : j = 0 ∨ j = 1 := by
          match j, hd with
          | 0, _ => exact .inl rfl
          | 1, _ => exact .inr rfl
          | j + 2, hd =>
            exfalso
            have : ([none, none, none, none, none, none, none, none, none, none, none, none, none, none] : Rho)[j]? = some (some d) := hd
            have hm := List.mem_of_getElem? this
            simp at hm
        rcases hj with rfl | rfl
        · rw [n11 0 (by decide)]
          exact e11.2 0 d hd
        · rw [n11 1 (by decide)]
          exact e11.2 1 d hd
      · split
        · simp only [List.length_append, List.length_take, List.length_drop, List.length_singleton]
          omega
        · omega
      · intro d hd
        split at hd
        · rcases List.mem_append.mp hd with hd | hd
          · rcases List.mem_append.mp hd with hd | hd
            · exact hok d (List.mem_of_mem_take hd)
            · rw [List.mem_singleton.mp hd]
              exact hdo
          · exact hok d (List.mem_of_mem_drop hd)
        · exact hok d hd
    · rintro σ' Hs' H' ⟨sa, sb, e1, w2, w3, w4, w6, w7, h, s, D, m, kd, hsl, hDl, hok⟩
      rw [enumD_len, List.length_map] at hsl hDl
      obtain ⟨us, hql9, ra9⟩ := m.ls
      have hnd := m.nd
      simp only [List.nodup_cons, List.mem_cons, not_or, List.not_mem_nil, not_false_eq_true, and_true, List.nodup_nil] at hnd
      have eo := e1.own w4 m.nl ra9
      have so := same_own sb hql9
      have NB1 := m.n1.own hql9 m.nl
      have NB2 := m.n2.own hql9 m.nl
      have hdl : ((D.map deedD).length : Nat) ≤ 63 := by rw [List.length_map]; omega
      have el : (D.map deedD ++ cutD (D.map deedD) none (some 4)) = (D ++ D.take 4).map deedD := by
        rw [show cutD (D.map deedD) none (some 4) = (D.map deedD).take 4 from cutD_to 4, List.map_append, List.map_take]
      have hl2 : (D ++ D.take 4).length ≤ 67 := by
        rw [List.length_append, List.length_take]
        omega
      refine y_for (D := { nx := _, rt := Q }) (ds := (D ++ D.take 4).map deedD) (YI.eq (yi_list (yd_op (yd_var rfl) (yd_slL (yd_var rfl) yo_none (yo_some yd_int)) (rd_cat ?_))) el) eo so fun Hs9 H9 g9 => ⟨fun j σ2 Hs2 H2 => Same Hs9 Hs2 ∧ Same Hs2 H2 ∧ σ2.length = 16 ∧ σ2[6]? = some (some (.ref p1)) ∧ σ2[7]? = some (some (.ref p2)) ∧ NewsAt K C Hs2 H2 p1 h1 t1 ⟨L.n, L.l, h, s⟩ ∧ NewsAt K C Hs2 H2 p2 h2 t2 ⟨L.n, L.l, (runAll [] [] ((D ++ D.take 4).take j)).1, (runAll [] [] ((D ++ D.take 4).take j)).2⟩,
        ⟨Same.refl _, g9.c, e1.1, w6, w7, NB1.gr g9, NB2.gr g9⟩, fun j σ2 Hs2 H2 p => ⟨p.1, p.2.1⟩, ?_, ?_⟩
      · have : (cutD (D.map deedD) none (some 4)).length ≤ 4 := by
          rw [show cutD (D.map deedD) none (some 4) = (D.map deedD).take 4 from cutD_to 4, List.length_take]
          omega
        omega
      · rintro j d σ2 Hs2 H2 hd ⟨sc, sd, l2, v6, v7, NC1, NC2⟩ x Hs3 H3 g3 rx
        rw [List.getElem?_map] at hd
        obtain ⟨dd, hdd, rfl⟩ := Option.map_eq_some_iff.mp hd
        have hdo : dd.ok L.n L.l := by
          have hm := List.mem_of_getElem? hdd
          rcases List.mem_append.mp hm with hm | hm
          · exact hok dd hm
          · exact hok dd (List.mem_of_mem_take hm)
        have et : (D ++ D.take 4).take (j + 1) = (D ++ D.take 4).take j ++ [dd] := by rw [List.take_add_one, hdd]; rfl
        have hj : j < 67 := by
          have := (List.getElem?_eq_some_iff.mp hdd).1
          omega
        have hln := runAll_len ((D ++ D.take 4).take j) [] []
        have htk : ((D ++ D.take 4).take j).length ≤ 67 := by
          rw [List.length_take]
          omega
        simp only [List.length_nil, Nat.zero_add] at hln
        have v7' : (σ2.set 11 (some x))[7]? = some (some (.ref p2)) := by rw [List.getElem?_set_ne (by decide)]; exact v7
        have v6' : (σ2.set 11 (some x))[6]? = some (some (.ref p1)) := by rw [List.getElem?_set_ne (by decide)]; exact v6
        have v11 : (σ2.set 11 (some x))[11]? = some (some x) := List.getElem?_set_self (by omega)
        have NC1' := NC1.gr g3
        have NC2' := NC2.gr g3
        obtain ⟨⟨dxa, oa⟩, ⟨ka, ha, _⟩, ⟨kb, hb, _⟩, _⟩ := id NC1'
        obtain ⟨⟨dxb, ob⟩, ⟨kc, hc, _⟩, ⟨kd', hd', _⟩, _⟩ := id NC2'
        refine ⟨.ref p2, v7', x, v11, Hs3, p2, h2, t2, _, dd, x, rfl, g3.c, rx, NC2', hdo, by dsimp only; omega, by dsimp only; omega, fun u Hs4 H4 gx NA' ru => ⟨Hs4, sc.trans (g3.a.trans gx.a), gx.c, by rw [List.length_set]; exact l2, v6', v7', NC1'.grx gx ?_ ?_ ?_, ?_⟩⟩
        · simp only [List.mem_cons, List.not_mem_nil, or_false, not_or]
          exact ⟨ne_of oa hc (by intro z; cases z), ne_of oa hd' (by intro z; cases z)⟩
        · simp only [List.mem_cons, List.not_mem_nil, or_false, not_or]
          exact ⟨hnd.1.2.1, hnd.1.2.2.1⟩
        · simp only [List.mem_cons, List.not_mem_nil, or_false, not_or]
          exact ⟨hnd.2.1.1, hnd.2.1.2.1⟩
        · rw [et, runAll_append]
          exact NA'
      · rintro σ2 Hs2 H2 ⟨sc, sd, l2, v6, v7, NC1, NC2⟩
        rw [List.length_map, List.take_of_length_le (Nat.le_refl _), kd.done] at NC2
        dsimp only at NC2
        obtain ⟨khp, ksp, knd, ksn, kh8⟩ := id kd
        have hst : stand ⟨L.n, L.l, D.filterMap hearOf, D.filterMap strikeOf⟩ = stand ⟨L.n, L.l, h, s⟩ := stand_perm knd khp ksp
        have hl8 : (D.filterMap hearOf).length ≤ 8 := by rw [khp.length_eq]; exact kh8
        -- other.sightings() != news.sightings()
        obtain ⟨⟨dxb, ob⟩, _⟩ := id NC2
        refine ⟨.ref p2, v7, p2, dxb, _, rfl, ob, nfl_no _ _ _ _ (by decide +kernel) (by decide +kernel) (by decide +kernel) (by decide +kernel), Hs2, p2, h2, t2, _, rfl, sd, NC2, by dsimp only; omega, fun la acc Hs3 H3 g3 hla hlas hlac rl => ?_⟩
        obtain ⟨⟨dxa, oa⟩, _⟩ := id (NC1.gr g3)
        refine ⟨.ref p1, v6, p1, dxa, _, rfl, oa, nfl_no _ _ _ _ (by decide +kernel) (by decide +kernel) (by decide +kernel) (by decide +kernel), Hs3, p1, h1, t1, _, rfl, g3.c, NC1.gr g3, by dsimp only; omega, fun lb acc2 Hs4 H4 g4 hlb hlbs hlbc rl2 => ?_⟩
        have hla4 : H4 la = some (.lst acc) := g4.b _ _ hlac
        have hls4 : Hs4 la = none := g4.d _ (by rw [hlac]; trivial) hlas
        have r1 : Rp K (upd Hs4 la (.lst acc)) (.ref la) (.list ((stand ⟨L.n, L.l, D.filterMap hearOf, D.filterMap strikeOf⟩).map dP)) := rp_lst (H := H4) hls4 (rl.mono g4.a)
        have r2' : Rp K (upd Hs4 lb (.lst acc2)) (.ref lb) (.list ((stand ⟨L.n, L.l, h, s⟩).map dP)) := rp_lst (H := H4) hlbs rl2
        refine ⟨_, _, (r1.mono (same_own g4.c hla4)).shape (shp_pairs _), (r2'.mono (same_own g4.c hlbc)).shape (shp_pairs _), shp_pairs _, shp_pairs _, false, ?_, ?_⟩
        · rw [hst, eqv_refl_pairs]
          rfl
        refine iteF ?_
        -- the last news
        have ef : EnvD K Hs4 σ2 _ := env_free l2
        dsimp only [tNext]
        refine make_in ?_
        refine (ya_cons (YD.eq (yd_tup (ya_cons yd_int (ya_cons (yd_lst (ya_cons (yd_tup (ya_cons yd_int (ya_cons yd_int ya_nil)) (by decide)) ya_nil) (by decide)) (ya_cons yd_int ya_nil))) (by decide)) (d' := landD ⟨2, [(0, 1)], 5⟩) rfl) ya_nil : YA K _ _ _) σ2 Hs4 H4 ef g4.c _ fun vs Hs5 H5 g5 rv => ?_
        obtain ⟨vl, rfl, rvl⟩ : ∃ vl, vs = [vl] ∧ Rp K Hs5 vl (landD ⟨2, [(0, 1)], 5⟩) := by
          cases rv with
          | cons r1 r2 => cases r2; exact ⟨_, rfl, r1⟩
        intro p3 dx3 hp3 hdx3 nx3
        refine ⟨Hs5, p3, dx3, vl, _, rfl, fun b x e => ?_, rvl, upd_same, same_none g5.c hp3, .inr ⟨2, .list [dP (0, 1)], 5, rfl, by decide, fun Hs6 H6 h3 t3 gx3 hh3 ht3 NA3 => ⟨rfl, ?_⟩⟩⟩
        · have hb := g5.c b x e
          rw [upd_ne (ne_of_none hb hp3), upd_ne (ne_of_none hb hdx3)]
          exact hb
        have l3 : (σ2.set 6 (some (.ref p3))).length = 16 := by rw [List.length_set]; exact l2
        have u6 : (σ2.set 6 (some (.ref p3)))[6]? = some (some (.ref p3)) := List.getElem?_set_self (by omega)
        dsimp only [gName]
        generalize σ2.set 6 (some (.ref p3)) = σ3 at l3 u6 ⊢
        have no : ∀ {n l : Int} {a b : Addr} {m : Str}, m = "hear" ∨ m = "strike" ∨ m = "sightings" → (nfl n l a b).lookup m = none := fun {n l a b m} hm => by
          rcases hm with rfl | rfl | rfl <;> exact nfl_no _ _ _ _ (by decide +kernel) (by decide +kernel) (by decide +kernel) (by decide +kernel)
        have sf1 : strikeF ⟨2, 5, [], []⟩ (.int 3) (.int 9) = .ok (true, ⟨2, 5, [], [(3, 9)]⟩) := rfl
        have hf1 : hearF ⟨2, 5, [], [(3, 9)]⟩ (.int 3) (.int 9) (.int 5) (.int 1) = .ok (true, ⟨2, 5, [((3, 9), (5, 1))], [(3, 9)]⟩) := rfl
        have hf2 : hearF ⟨2, 5, [((3, 9), (5, 1))], [(3, 9)]⟩ (.int 0) (.int 9) (.int 0) (.int 0) = .ok (true, ⟨2, 5, [((3, 9), (5, 1)), ((0, 9), (0, 0))], [(3, 9)]⟩) := rfl
        have sf2 : strikeF ⟨2, 5, [((3, 9), (5, 1)), ((0, 9), (0, 0))], [(3, 9)]⟩ (.int 3) (.int 9) = .ok (false, ⟨2, 5, [((3, 9), (5, 1)), ((0, 9), (0, 0))], [(3, 9)]⟩) := rfl
        have hf3 : hearF ⟨2, 5, [((3, 9), (5, 1)), ((0, 9), (0, 0))], [(3, 9)]⟩ (.int 3) (.int 9) (.int 5) (.int 1) = .ok (false, ⟨2, 5, [((3, 9), (5, 1)), ((0, 9), (0, 0))], [(3, 9)]⟩) := rfl
        obtain ⟨⟨dc, oc⟩, _⟩ := id NA3
        refine ⟨.ref p3, u6, p3, dc, _, rfl, oc, no (.inr (.inl rfl)), Hs6, p3, h3, t3, _, [.int 3, .int 9], .int 3, .int 9, rfl, gx3.c, .cons (.int _) (.cons (.int _) .nil), NA3, by decide, ?_⟩
        rw [sf1]
        intro HsA HA gA NAA
        obtain ⟨⟨dc, oc⟩, _⟩ := id NAA
        refine ⟨.ref p3, u6, p3, dc, _, rfl, oc, no (.inl rfl), HsA, p3, h3, t3, _, [.int 3, .int 9, .int 5, .int 1], .int 3, .int 9, .int 5, .int 1, rfl, gA.c, .cons (.int _) (.cons (.int _) (.cons (.int _) (.cons (.int _) .nil))), NAA, by decide, ?_⟩
        rw [hf1]
        intro HsB HB gB NAB
        obtain ⟨⟨dc, oc⟩, _⟩ := id NAB
        refine ⟨.ref p3, u6, p3, dc, _, rfl, oc, no (.inl rfl), HsB, p3, h3, t3, _, [.int 0, .int 9, .int 0, .int 0], .int 0, .int 9, .int 0, .int 0, rfl, gB.c, .cons (.int _) (.cons (.int _) (.cons (.int _) (.cons (.int _) .nil))), NAB, by decide, ?_⟩
        rw [hf2]
        intro HsC HC gC NAC
        obtain ⟨⟨dc, oc⟩, _⟩ := id NAC
        refine ⟨.ref p3, u6, p3, dc, _, rfl, oc, no (.inr (.inl rfl)), HsC, p3, h3, t3, _, [.int 3, .int 9], .int 3, .int 9, rfl, gC.c, .cons (.int _) (.cons (.int _) .nil), NAC, by decide, ?_⟩
        rw [sf2]
        intro HsD HD gD NAD
        obtain ⟨⟨dc, oc⟩, _⟩ := id NAD
        refine ⟨.ref p3, u6, p3, dc, _, rfl, oc, no (.inl rfl), HsD, p3, h3, t3, _, [.int 3, .int 9, .int 5, .int 1], .int 3, .int 9, .int 5, .int 1, rfl, gD.c, .cons (.int _) (.cons (.int _) (.cons (.int _) (.cons (.int _) .nil))), NAD, by decide, ?_⟩
        rw [hf3]
        intro HsE HE gE NAE
        refine ⟨by show 5 ≤ sizeLine; decide, fun pl hpl => ?_⟩
        have gF := Gr.new (o := .lst [.bl true, .bl true, .bl true, .bl false, .bl false]) gE.c hpl
        have rF : Rp K _ (.ref pl) (.list [.bool true, .bool true, .bool true, .bool false, .bool false]) := rp_lst (K := K) (H := HE) (same_none gE.c hpl) (.cons (.bl _) (.cons (.bl _) (.cons (.bl _) (.cons (.bl _) (.cons (.bl _) .nil)))))
        have NAF := NAE.gr gF
        have eF := ((env_free (K := K) (Hs := HsE) l3).mono gF.a).set 12 rF
        have i6 : (σ3.set 12 (some (.ref pl)))[6]? = some (some (.ref p3)) := by rw [List.getElem?_set_ne (by decide)]; exact u6
        have sF := gF.c
        dsimp only [gName]
        generalize σ3.set 12 (some (.ref pl)) = σ4' at eF i6 ⊢
        refine (YD.eq (yd_op (yd_var (i := 12) rfl) (yd_lst (ya_cons yd_bl (ya_cons yd_bl (ya_cons yd_bl (ya_cons yd_bl (ya_cons yd_bl ya_nil))))) (by decide)) (rd_eqD rfl rfl)) (d' := .bool true) rfl : YD K _ _ _) σ4' _ _ eF sF _ fun vb HsG HG gG rG => ?_
        cases rG
        refine ⟨true, rfl, ?_⟩
        rw [if_pos rfl]
        have NAG := NAF.gr gG
        obtain ⟨⟨dc, oc⟩, _⟩ := id NAG
        refine ⟨.ref p3, i6, p3, dc, _, rfl, oc, no (.inr (.inr rfl)), HsG, p3, h3, t3, _, rfl, gG.c, NAG, by decide, fun lc acc3 HsI HI gI hlc hlcs hlcc rl3 => ?_⟩
        refine (yd_lst (ya_cons (YD.eq (yd_tup (ya_cons yd_int (ya_cons yd_int ya_nil)) (by decide)) (d' := dP (0, 0)) rfl) ya_nil) (by decide) : YD K _ _ (.list [dP (0, 0)])) σ4' HsI HI (eF.mono (gG.a.trans gI.a)) gI.c _ fun vj HsJ HJ gJ rJ => ?_
        have hlcJ : HJ lc = some (.lst acc3) := gJ.b _ _ hlcc
        have hlsJ : HsJ lc = none := gJ.d _ (by rw [hlcc]; trivial) hlcs
        have est : stand ⟨2, 5, [((3, 9), (5, 1)), ((0, 9), (0, 0))], [(3, 9)]⟩ = [(0, 0)] := by decide
        rw [est] at rl3
        have rK : Rp K (upd HsJ lc (.lst acc3)) (.ref lc) (.list [dP (0, 0)]) := rp_lst (H := HJ) hlsJ (rl3.mono gJ.a)
        refine ⟨.list [dP (0, 0)], .list [dP (0, 0)], (rK.mono (same_own gJ.c hlcJ)).shape rfl, (rJ.mono gJ.c).shape rfl, rfl, rfl, ?_⟩
        exact q _
end
end SG
set_option Elab.async false
set_option linter.all false
set_option maxRecDepth 100000
set_option maxHeartbeats 4000000
namespace SG
open PySem PySem.Spec PyProof.Rows L2
/-! ### the head's facts, and one Bool more -/
abbrev AlM : Type := He.AlD × Bool
def obsM (n : Nat) (fa : List He.Fa) (fn : List He.DefD) (ex : PySem.W.Frag → Bool) (g : Addr → Option Obj) : AlM := (He.obsD fa fn (He.frG g (He.asD g n)), ex (He.frG g (He.asD g n)))
structure SaysM (fa : List He.Fa) (fn : List He.DefD) (ex : PySem.W.Frag → Bool) (K : PySem.W.Frag) : Prop where
  d : He.SaysD fa fn K
  more : ex K = true
def hookM (n : Nat) (fa : List He.Fa) (fn : List He.DefD) (ex : PySem.W.Frag → Bool) : PySem.W.Hook where
  α := AlM
  obs := fun s => obsM n fa fn ex s.heap.get?
  val := fun _ => (He.valD fn, true)
  says := fun _ h => ∃ K : PySem.W.Frag, K.In h ∧ SaysM fa fn ex K
  of := fun _ _ e => ⟨_, He.frG_in, ⟨congrArg (fun z : AlM => z.1) e, congrArg (fun z : AlM => z.2) e⟩⟩
  keeps := fun _ _ _ ⟨K, hK, c⟩ k => ⟨K, PySem.W.Frag.In.keeps hK k, c⟩
theorem obsM_eq {n : Nat} {fa : List He.Fa} {fn : List He.DefD} {ex : PySem.W.Frag → Bool} {g : Addr → Option Obj} {s : Shared} (h : ∀ a, g a = s.heap.get? a) : obsM n fa fn ex g = (hookM n fa fn ex).obs s := by
  have e : g = s.heap.get? := funext h
  rw [e] <;> rfl
def excCB (K : PySem.W.Frag) (D : Addr) : Bool := He.eqO (PySem.W.findIn K (.ref D) "__getattribute__") (some (some (.builtin "BaseException.__getattribute__"))) && (He.eqO (PySem.W.findIn K (.ref D) "__getattr__") (some none) &&
  (decide (PySem.W.subIn K (.ref D) (.type "BaseException") = some true) && (PySem.W.hasDictIn K D && (He.eqO (PySem.W.findIn K (.ref D) "__class__") (some (some (.builtin "object.__class__"))) &&
  (He.eqO (PySem.W.specialIn K (.builtin "object.__class__") "__get__") (some (some (.builtin "getset_descriptor.__get__"))) && (decide (PySem.W.takesIn K (.builtin "object.__class__") = some true) && decide (PySem.W.mroIn K D (.type "object") = some true)))))))
theorem excCB_ok {K : PySem.W.Frag} {D : Addr} (h : excCB K D = true) : ExcC K D := by
  obtain ⟨c1, h⟩ := He.ba h
  obtain ⟨c2, h⟩ := He.ba h
  obtain ⟨c3, h⟩ := He.ba h
  obtain ⟨c4, h⟩ := He.ba h
  obtain ⟨c5, h⟩ := He.ba h
  obtain ⟨c6, h⟩ := He.ba h
  obtain ⟨c7, c8⟩ := He.ba h
  exact ⟨He.eqO_ok c1, He.eqO_ok c2, of_decide_eq_true c3, c4, He.eqO_ok c5, He.eqO_ok c6, of_decide_eq_true c7, of_decide_eq_true c8⟩
/-- own errors by names: each one's facts; of two whether one is the other; each a SightError -/
def errB (xs : List Str) (base : Str) (K : PySem.W.Frag) : Bool := (xs.all fun x => excCB K (He.ga K x)) && ((xs.all fun x => xs.all fun y => decide (PySem.W.kitOne K (.ref (He.ga K x)) (.ref (He.ga K y)) = some (decide (x = y)))) &&
  xs.all fun x => decide (PySem.W.exmOne K (.ref (He.ga K x)) (.ref (He.ga K base)) = some true))
theorem errB_ec {xs : List Str} {b x : Str} {K : PySem.W.Frag} (h : errB xs b K = true) (hx : x ∈ xs) : ExcC K (He.ga K x) := excCB_ok (List.all_eq_true.mp (He.ba h).1 x hx)
theorem errB_kit {xs : List Str} {b x y : Str} {K : PySem.W.Frag} (h : errB xs b K = true) (hx : x ∈ xs) (hy : y ∈ xs) : PySem.W.kitOne K (.ref (He.ga K x)) (.ref (He.ga K y)) = some (decide (x = y)) := of_decide_eq_true (List.all_eq_true.mp (List.all_eq_true.mp (He.ba (He.ba h).2).1 x hx) y hy)
theorem errB_exm {xs : List Str} {b x : Str} {K : PySem.W.Frag} (h : errB xs b K = true) (hx : x ∈ xs) : PySem.W.exmOne K (.ref (He.ga K x)) (.ref (He.ga K b)) = some true := of_decide_eq_true (List.all_eq_true.mp (He.ba (He.ba h).2).2 x hx)
theorem xc_of {K : PySem.W.Frag} {h : Heap} {mg : Str → Option Value} (X : K.In h) (G : h.Ns mainGlobals mg) {x : Str} (m : (He.Fa.glo x).ok K = true) (c : (He.Fa.exc x).ok K = true) : Xc K mg x (He.ga K x) := by
  obtain ⟨c1, c2, c3, c4⟩ := He.exc_ok c
  exact ⟨He.glo_ok X G m, c1, c2, c3, c4⟩
end SG
set_option Elab.async false
set_option linter.all false
set_option maxRecDepth 100000
set_option maxHeartbeats 0
namespace SG
open PySem PySem.Spec PyProof.Rows L2
/-! ### the head -/
def erN : Er → Str
  | .badLand => "BadLand"
  | .badPlace => "BadPlace"
  | .badTick => "BadTick"
  | .badHand => "BadHand"
  | .badOwn => "BadOwn"
  | .unlike => "Unlike"
  | .tooMany => "TooMany"
def erL : List Str := ["BadLand", "BadPlace", "BadTick", "BadHand", "BadOwn", "Unlike", "TooMany"]
theorem er_in (x : Er) : erN x ∈ erL := by cases x <;> decide
theorem er_ne (x y : Er) : decide (erN x = erN y) = decide (x = y) := by cases x <;> cases y <;> decide
def d_is_number : He.DefD := ⟨("is_number", none), "is_number", "is_number", defArgs (top 14), defBody (top 14), defScope (top 14), [], []⟩
def d_is_within : He.DefD := ⟨("is_within", none), "is_within", "is_within", defArgs (top 15), defBody (top 15), defScope (top 15), [], []⟩
def d_is_way : He.DefD := ⟨("is_way", none), "is_way", "is_way", defArgs (top 16), defBody (top 16), defScope (top 16), [], []⟩
def d_are_ways : He.DefD := ⟨("are_ways", none), "are_ways", "are_ways", defArgs (top 17), defBody (top 17), defScope (top 17), [], []⟩
def d_is_land : He.DefD := ⟨("is_land", none), "is_land", "is_land", defArgs (top 18), defBody (top 18), defScope (top 18), [], []⟩
def d_check_land : He.DefD := ⟨("check_land", none), "check_land", "check_land", defArgs (top 19), defBody (top 19), defScope (top 19), [], []⟩
def d_check_place : He.DefD := ⟨("check_place", none), "check_place", "check_place", defArgs (top 20), defBody (top 20), defScope (top 20), [], []⟩
def d_check_tick : He.DefD := ⟨("check_tick", none), "check_tick", "check_tick", defArgs (top 21), defBody (top 21), defScope (top 21), [], []⟩
def d_check_source : He.DefD := ⟨("check_source", none), "check_source", "check_source", defArgs (top 25), defBody (top 25), defScope (top 25), [], []⟩
def d_News___init__ : He.DefD := ⟨("News", some "__init__"), "__init__", "News.__init__", defArgs (inClass (top 26) 0), defBody (inClass (top 26) 0), defScope (inClass (top 26) 0), [], []⟩
def d_News_hear : He.DefD := ⟨("News", some "hear"), "hear", "News.hear", defArgs (inClass (top 26) 1), defBody (inClass (top 26) 1), defScope (inClass (top 26) 1), [], []⟩
def d_News_strike : He.DefD := ⟨("News", some "strike"), "strike", "News.strike", defArgs (inClass (top 26) 2), defBody (inClass (top 26) 2), defScope (inClass (top 26) 2), [], []⟩
def d_News_sightings : He.DefD := ⟨("News", some "sightings"), "sightings", "News.sightings", defArgs (inClass (top 26) 3), defBody (inClass (top 26) 3), defScope (inClass (top 26) 3), [], []⟩
def d__law_cell_at : He.DefD := ⟨("_law_cell_at", none), "_law_cell_at", "_law_cell_at", defArgs (top 28), defBody (top 28), defScope (top 28), [], []⟩
def d__law_draw : He.DefD := ⟨("_law_draw", none), "_law_draw", "_law_draw", defArgs (top 29), defBody (top 29), defScope (top 29), [], []⟩
def d__law_value : He.DefD := ⟨("_law_value", none), "_law_value", "_law_value", defArgs (top 30), defBody (top 30), defScope (top 30), [], []⟩
def d__law_land : He.DefD := ⟨("_law_land", none), "_law_land", "_law_land", defArgs (top 31), defBody (top 31), defScope (top 31), [], []⟩
def d__law_copied : He.DefD := ⟨("_law_copied", none), "_law_copied", "_law_copied", defArgs (top 32), defBody (top 32), defScope (top 32), [], []⟩
def d__law_stand : He.DefD := ⟨("_law_stand", none), "_law_stand", "_law_stand", defArgs (top 33), defBody (top 33), defScope (top 33), [], []⟩
def d__law_told : He.DefD := ⟨("_law_told", none), "_law_told", "_law_told", defArgs (top 34), defBody (top 34), defScope (top 34), [], []⟩
def d__law_due : He.DefD := ⟨("_law_due", none), "_law_due", "_law_due", defArgs (top 35), defBody (top 35), defScope (top 35), [], []⟩
def d_law : He.DefD := ⟨("law", none), "law", "law", defArgs (top 36), defBody (top 36), defScope (top 36), [], []⟩
def fn : List He.DefD := [d_is_number, d_is_within, d_is_way, d_are_ways, d_is_land, d_check_land, d_check_place, d_check_tick, d_check_source, d_News___init__, d_News_hear, d_News_strike, d_News_sightings, d__law_cell_at, d__law_draw, d__law_value, d__law_land, d__law_copied, d__law_stand, d__law_told, d__law_due, d_law]
def fa : List He.Fa := [.glo "SightError", .glo "BadLand", .glo "BadPlace", .glo "BadTick", .glo "BadHand", .glo "BadOwn", .glo "Unlike", .glo "TooMany", .glo "is_number", .glo "is_within", .glo "is_way", .glo "are_ways", .glo "is_land", .glo "check_land", .glo "check_place", .glo "check_tick", .glo "check_source", .glo "News", .glo "_law_cell_at", .glo "_law_draw", .glo "_law_value", .glo "_law_land", .glo "_law_copied", .glo "_law_stand", .glo "_law_told", .glo "_law_due", .glo "law", .int "MOST_PLACES" 7, .int "MOST_WAYS" 10, .int "MOST_LAST" 10, .int "MOST_SIGHTINGS" 8, .int "LAST_HAND" 3, .int "LAST_OWN" 9, .free "len", .free "isinstance", .free "all", .free "any", .free "min", .free "max", .free "sorted", .free "abs", .free "sum", .free "int", .free "bool", .free "tuple", .free "list", .free "range", .free "zip", .free "enumerate", .free "reversed", .free "set", .free "dict", .exc "SightError", .exc "BadLand", .exc "BadPlace", .exc "BadTick", .exc "BadHand", .exc "BadOwn", .exc "Unlike", .exc "TooMany", .cls "News", .noat "News" "places", .noat "News" "last", .noat "News" "heard", .noat "News" "struck", .mkr "News", .meth "News" "hear", .meth "News" "strike", .meth "News" "sightings"]
def names : List PySem.Str := (["SightError", "BadLand", "BadPlace", "BadTick", "BadHand", "BadOwn", "Unlike", "TooMany", "MOST_PLACES", "MOST_WAYS", "MOST_LAST", "MOST_SIGHTINGS", "is_number", "is_within", "is_way", "are_ways", "is_land", "check_land", "check_place", "check_tick", "LAST_HAND", "LAST_OWN", "check_source", "News", "_law_cell_at", "_law_draw", "_law_value", "_law_land", "_law_copied", "_law_stand"] : List PySem.Str) ++ (["_law_told", "_law_due"] : List PySem.Str)
def exq : PySem.W.Frag → Bool := fun K => errB erL "SightError" K
abbrev Rw : PySem.W.OpenRow := PySem.W.OpenLaw.row PySem.Challenge.rw_sightings_k06_whole_news
abbrev hk : PySem.W.Hook := hookM 5 fa fn exq
def ob (s : PySem.W.SharedT) : AlM := obsM 5 fa fn exq (HandSHeadRun.getT s)
theorem ob_eq (s : PySem.W.SharedT) : ob s = hk.obs s.abs := obsM_eq (HandSHeadRun.getT_eq s)
theorem run (w : World) : HandSHeadRun.RunEq Rw (PySem.W.view Rw.prog [36]) hk ob 4000 names w := by
  intro os
  kernel_rfl
theorem facts {P : Program} {w : World} {K : PySem.W.Frag} {h : Heap} {mg : Str → Option Value} {f : Addr} (X : K.In h) (G : h.Ns mainGlobals mg) (hfa : mg ("law" : Str) = some (.ref f)) (c : SaysM fa fn exq K) :
    ∃ fd : FuncData, (∀ (s : Shared) (v : Value), BindsTo s fd ⟨[v], []⟩ [("_law_script", v)]) ∧ ∀ base : Heap, K.In base → base.Ns mainGlobals mg → FnOk P w K mg base CX0 9 f fd ["_law_script"] (spLaw K) := by
  obtain ⟨fd_is_number, F_is_number⟩ := c.d.def_ 0 (d := d_is_number) rfl
  replace F_is_number : FnP K "is_number" (top 14) (He.ga K "is_number") fd_is_number := F_is_number
  have m_is_number : mg "is_number" = some (.ref (He.ga K "is_number")) := He.glo_ok X G (c.d.fact 8 (f := .glo "is_number") rfl)
  obtain ⟨fd_is_within, F_is_within⟩ := c.d.def_ 1 (d := d_is_within) rfl
  replace F_is_within : FnP K "is_within" (top 15) (He.ga K "is_within") fd_is_within := F_is_within
  have m_is_within : mg "is_within" = some (.ref (He.ga K "is_within")) := He.glo_ok X G (c.d.fact 9 (f := .glo "is_within") rfl)
  obtain ⟨fd_is_way, F_is_way⟩ := c.d.def_ 2 (d := d_is_way) rfl
  replace F_is_way : FnP K "is_way" (top 16) (He.ga K "is_way") fd_is_way := F_is_way
  have m_is_way : mg "is_way" = some (.ref (He.ga K "is_way")) := He.glo_ok X G (c.d.fact 10 (f := .glo "is_way") rfl)
  obtain ⟨fd_are_ways, F_are_ways⟩ := c.d.def_ 3 (d := d_are_ways) rfl
  replace F_are_ways : FnP K "are_ways" (top 17) (He.ga K "are_ways") fd_are_ways := F_are_ways
  have m_are_ways : mg "are_ways" = some (.ref (He.ga K "are_ways")) := He.glo_ok X G (c.d.fact 11 (f := .glo "are_ways") rfl)
  obtain ⟨fd_is_land, F_is_land⟩ := c.d.def_ 4 (d := d_is_land) rfl
  replace F_is_land : FnP K "is_land" (top 18) (He.ga K "is_land") fd_is_land := F_is_land
  have m_is_land : mg "is_land" = some (.ref (He.ga K "is_land")) := He.glo_ok X G (c.d.fact 12 (f := .glo "is_land") rfl)
  obtain ⟨fd_check_land, F_check_land⟩ := c.d.def_ 5 (d := d_check_land) rfl
  replace F_check_land : FnP K "check_land" (top 19) (He.ga K "check_land") fd_check_land := F_check_land
  have m_check_land : mg "check_land" = some (.ref (He.ga K "check_land")) := He.glo_ok X G (c.d.fact 13 (f := .glo "check_land") rfl)
  obtain ⟨fd_check_place, F_check_place⟩ := c.d.def_ 6 (d := d_check_place) rfl
  replace F_check_place : FnP K "check_place" (top 20) (He.ga K "check_place") fd_check_place := F_check_place
  have m_check_place : mg "check_place" = some (.ref (He.ga K "check_place")) := He.glo_ok X G (c.d.fact 14 (f := .glo "check_place") rfl)
  obtain ⟨fd_check_tick, F_check_tick⟩ := c.d.def_ 7 (d := d_check_tick) rfl
  replace F_check_tick : FnP K "check_tick" (top 21) (He.ga K "check_tick") fd_check_tick := F_check_tick
  have m_check_tick : mg "check_tick" = some (.ref (He.ga K "check_tick")) := He.glo_ok X G (c.d.fact 15 (f := .glo "check_tick") rfl)
  obtain ⟨fd_check_source, F_check_source⟩ := c.d.def_ 8 (d := d_check_source) rfl
  replace F_check_source : FnP K "check_source" (top 25) (He.ga K "check_source") fd_check_source := F_check_source
  have m_check_source : mg "check_source" = some (.ref (He.ga K "check_source")) := He.glo_ok X G (c.d.fact 16 (f := .glo "check_source") rfl)
  obtain ⟨fd_News___init__, F_News___init__⟩ := c.d.def_ 9 (d := d_News___init__) rfl
  replace F_News___init__ : FnM K "__init__" "News.__init__" (inClass (top 26) 0) (He.ma K (He.ga K "News") "__init__") fd_News___init__ := F_News___init__
  obtain ⟨fd_News_hear, F_News_hear⟩ := c.d.def_ 10 (d := d_News_hear) rfl
  replace F_News_hear : FnM K "hear" "News.hear" (inClass (top 26) 1) (He.ma K (He.ga K "News") "hear") fd_News_hear := F_News_hear
  obtain ⟨fd_News_strike, F_News_strike⟩ := c.d.def_ 11 (d := d_News_strike) rfl
  replace F_News_strike : FnM K "strike" "News.strike" (inClass (top 26) 2) (He.ma K (He.ga K "News") "strike") fd_News_strike := F_News_strike
  obtain ⟨fd_News_sightings, F_News_sightings⟩ := c.d.def_ 12 (d := d_News_sightings) rfl
  replace F_News_sightings : FnM K "sightings" "News.sightings" (inClass (top 26) 3) (He.ma K (He.ga K "News") "sightings") fd_News_sightings := F_News_sightings
  obtain ⟨fd__law_cell_at, F__law_cell_at⟩ := c.d.def_ 13 (d := d__law_cell_at) rfl
  replace F__law_cell_at : FnP K "_law_cell_at" (top 28) (He.ga K "_law_cell_at") fd__law_cell_at := F__law_cell_at
  have m__law_cell_at : mg "_law_cell_at" = some (.ref (He.ga K "_law_cell_at")) := He.glo_ok X G (c.d.fact 18 (f := .glo "_law_cell_at") rfl)
  obtain ⟨fd__law_draw, F__law_draw⟩ := c.d.def_ 14 (d := d__law_draw) rfl
  replace F__law_draw : FnP K "_law_draw" (top 29) (He.ga K "_law_draw") fd__law_draw := F__law_draw
  have m__law_draw : mg "_law_draw" = some (.ref (He.ga K "_law_draw")) := He.glo_ok X G (c.d.fact 19 (f := .glo "_law_draw") rfl)
  obtain ⟨fd__law_value, F__law_value⟩ := c.d.def_ 15 (d := d__law_value) rfl
  replace F__law_value : FnP K "_law_value" (top 30) (He.ga K "_law_value") fd__law_value := F__law_value
  have m__law_value : mg "_law_value" = some (.ref (He.ga K "_law_value")) := He.glo_ok X G (c.d.fact 20 (f := .glo "_law_value") rfl)
  obtain ⟨fd__law_land, F__law_land⟩ := c.d.def_ 16 (d := d__law_land) rfl
  replace F__law_land : FnP K "_law_land" (top 31) (He.ga K "_law_land") fd__law_land := F__law_land
  have m__law_land : mg "_law_land" = some (.ref (He.ga K "_law_land")) := He.glo_ok X G (c.d.fact 21 (f := .glo "_law_land") rfl)
  obtain ⟨fd__law_copied, F__law_copied⟩ := c.d.def_ 17 (d := d__law_copied) rfl
  replace F__law_copied : FnP K "_law_copied" (top 32) (He.ga K "_law_copied") fd__law_copied := F__law_copied
  have m__law_copied : mg "_law_copied" = some (.ref (He.ga K "_law_copied")) := He.glo_ok X G (c.d.fact 22 (f := .glo "_law_copied") rfl)
  obtain ⟨fd__law_stand, F__law_stand⟩ := c.d.def_ 18 (d := d__law_stand) rfl
  replace F__law_stand : FnP K "_law_stand" (top 33) (He.ga K "_law_stand") fd__law_stand := F__law_stand
  have m__law_stand : mg "_law_stand" = some (.ref (He.ga K "_law_stand")) := He.glo_ok X G (c.d.fact 23 (f := .glo "_law_stand") rfl)
  obtain ⟨fd__law_told, F__law_told⟩ := c.d.def_ 19 (d := d__law_told) rfl
  replace F__law_told : FnP K "_law_told" (top 34) (He.ga K "_law_told") fd__law_told := F__law_told
  have m__law_told : mg "_law_told" = some (.ref (He.ga K "_law_told")) := He.glo_ok X G (c.d.fact 24 (f := .glo "_law_told") rfl)
  obtain ⟨fd__law_due, F__law_due⟩ := c.d.def_ 20 (d := d__law_due) rfl
  replace F__law_due : FnP K "_law_due" (top 35) (He.ga K "_law_due") fd__law_due := F__law_due
  have m__law_due : mg "_law_due" = some (.ref (He.ga K "_law_due")) := He.glo_ok X G (c.d.fact 25 (f := .glo "_law_due") rfl)
  obtain ⟨fd_law, F_law⟩ := c.d.def_ 21 (d := d_law) rfl
  replace F_law : FnP K "law" (top 36) (He.ga K "law") fd_law := F_law
  have m_law : mg "law" = some (.ref (He.ga K "law")) := He.glo_ok X G (c.d.fact 26 (f := .glo "law") rfl)
  have x_SightError : Xc K mg "SightError" (He.ga K "SightError") := xc_of X G (c.d.fact 0 (f := .glo "SightError") rfl) (c.d.fact 52 (f := .exc "SightError") rfl)
  have x_BadLand : Xc K mg "BadLand" (He.ga K "BadLand") := xc_of X G (c.d.fact 1 (f := .glo "BadLand") rfl) (c.d.fact 53 (f := .exc "BadLand") rfl)
  have x_BadPlace : Xc K mg "BadPlace" (He.ga K "BadPlace") := xc_of X G (c.d.fact 2 (f := .glo "BadPlace") rfl) (c.d.fact 54 (f := .exc "BadPlace") rfl)
  have x_BadTick : Xc K mg "BadTick" (He.ga K "BadTick") := xc_of X G (c.d.fact 3 (f := .glo "BadTick") rfl) (c.d.fact 55 (f := .exc "BadTick") rfl)
  have x_BadHand : Xc K mg "BadHand" (He.ga K "BadHand") := xc_of X G (c.d.fact 4 (f := .glo "BadHand") rfl) (c.d.fact 56 (f := .exc "BadHand") rfl)
  have x_BadOwn : Xc K mg "BadOwn" (He.ga K "BadOwn") := xc_of X G (c.d.fact 5 (f := .glo "BadOwn") rfl) (c.d.fact 57 (f := .exc "BadOwn") rfl)
  have x_Unlike : Xc K mg "Unlike" (He.ga K "Unlike") := xc_of X G (c.d.fact 6 (f := .glo "Unlike") rfl) (c.d.fact 58 (f := .exc "Unlike") rfl)
  have x_TooMany : Xc K mg "TooMany" (He.ga K "TooMany") := xc_of X G (c.d.fact 7 (f := .glo "TooMany") rfl) (c.d.fact 59 (f := .exc "TooMany") rfl)
  have m_News : mg "News" = some (.ref (He.ga K "News")) := He.glo_ok X G (c.d.fact 17 (f := .glo "News") rfl)
  have GG : Gi mg := ⟨⟨He.free_ok X G (c.d.fact 33 (f := .free "len") rfl), He.free_ok X G (c.d.fact 34 (f := .free "isinstance") rfl), He.free_ok X G (c.d.fact 35 (f := .free "all") rfl), He.free_ok X G (c.d.fact 36 (f := .free "any") rfl), He.free_ok X G (c.d.fact 37 (f := .free "min") rfl), He.free_ok X G (c.d.fact 38 (f := .free "max") rfl), He.free_ok X G (c.d.fact 39 (f := .free "sorted") rfl), He.free_ok X G (c.d.fact 40 (f := .free "abs") rfl), He.free_ok X G (c.d.fact 41 (f := .free "sum") rfl), He.free_ok X G (c.d.fact 42 (f := .free "int") rfl), He.free_ok X G (c.d.fact 43 (f := .free "bool") rfl), He.free_ok X G (c.d.fact 44 (f := .free "tuple") rfl), He.free_ok X G (c.d.fact 45 (f := .free "list") rfl), He.free_ok X G (c.d.fact 46 (f := .free "range") rfl), He.free_ok X G (c.d.fact 47 (f := .free "zip") rfl), He.free_ok X G (c.d.fact 48 (f := .free "enumerate") rfl), He.free_ok X G (c.d.fact 49 (f := .free "reversed") rfl), He.free_ok X G (c.d.fact 50 (f := .free "set") rfl), He.free_ok X G (c.d.fact 51 (f := .free "dict") rfl)⟩, He.int_ok X G (c.d.fact 27 (f := .int "MOST_PLACES" 7) rfl), He.int_ok X G (c.d.fact 28 (f := .int "MOST_WAYS" 10) rfl), He.int_ok X G (c.d.fact 29 (f := .int "MOST_LAST" 10) rfl), He.int_ok X G (c.d.fact 30 (f := .int "MOST_SIGHTINGS" 8) rfl), He.int_ok X G (c.d.fact 31 (f := .int "LAST_HAND" 3) rfl), He.int_ok X G (c.d.fact 32 (f := .int "LAST_OWN" 9) rfl)⟩
  have cls_News := He.cls_ok (c.d.fact 60 (f := .cls "News") rfl)
  have noat_News_places := He.noat_ok (c.d.fact 61 (f := .noat "News" "places") rfl)
  have noat_News_last := He.noat_ok (c.d.fact 62 (f := .noat "News" "last") rfl)
  have noat_News_heard := He.noat_ok (c.d.fact 63 (f := .noat "News" "heard") rfl)
  have noat_News_struck := He.noat_ok (c.d.fact 64 (f := .noat "News" "struck") rfl)
  have mkr_News := He.mkr_ok (c.d.fact 65 (f := .mkr "News") rfl)
  have meth_News_hear := He.meth_ok (c.d.fact 66 (f := .meth "News" "hear") rfl)
  have meth_News_strike := He.meth_ok (c.d.fact 67 (f := .meth "News" "strike") rfl)
  have meth_News_sightings := He.meth_ok (c.d.fact 68 (f := .meth "News" "sightings") rfl)
  have e := hfa.symm.trans m_law
  cases e
  have b := FunD.bindsA (ps := ["_law_script"]) F_law fun _ _ _ _ _ _ us hl => match us, hl with | [_], _ => rfl
  have T : NTxt K (He.ga K "News") := ⟨cls_News, noat_News_places, noat_News_last, noat_News_heard, noat_News_struck⟩
  have EF : ErF K (He.ga K "SightError") (fun x => He.ga K (erN x)) := ⟨fun x => errB_ec c.more (er_in x), fun x y => by rw [← er_ne]; exact errB_kit c.more (er_in x) (er_in y), fun x => errB_exm c.more (er_in x)⟩
  refine ⟨fd_law, fun s v => b s [v] rfl, fun base _ _ => ?_⟩
  have c_is_number := cal_of F_is_number m_is_number (ok_is_number (P := P) (w := w) (base := base) F_is_number GG) fun _ _ _ _ _ _ us hl => match us, hl with | [_], _ => rfl
  have c_is_within := cal_of F_is_within m_is_within (ok_is_within (P := P) (w := w) (base := base) F_is_within GG c_is_number) fun _ _ _ _ _ _ us hl => match us, hl with | [_, _, _], _ => rfl
  have c_is_way := cal_of F_is_way m_is_way (ok_is_way (P := P) (w := w) (base := base) F_is_way GG c_is_within) fun _ _ _ _ _ _ us hl => match us, hl with | [_, _], _ => rfl
  have c_are_ways := cal_of F_are_ways m_are_ways (ok_are_ways (P := P) (w := w) (base := base) F_are_ways GG c_is_way) fun _ _ _ _ _ _ us hl => match us, hl with | [_, _], _ => rfl
  have c_is_land := cal_of F_is_land m_is_land (ok_is_land (P := P) (w := w) (base := base) F_is_land GG c_is_within c_are_ways) fun _ _ _ _ _ _ us hl => match us, hl with | [_], _ => rfl
  have c_check_land := cal_of F_check_land m_check_land (ok_check_land (P := P) (w := w) (base := base) F_check_land GG x_BadLand c_is_land) fun _ _ _ _ _ _ us hl => match us, hl with | [_], _ => rfl
  have c_check_place := cal_of F_check_place m_check_place (ok_check_place (P := P) (w := w) (base := base) F_check_place GG x_BadPlace c_is_within) fun _ _ _ _ _ _ us hl => match us, hl with | [_, _], _ => rfl
  have c_check_tick := cal_of F_check_tick m_check_tick (ok_check_tick (P := P) (w := w) (base := base) F_check_tick GG x_BadTick c_is_within) fun _ _ _ _ _ _ us hl => match us, hl with | [_, _], _ => rfl
  have c_check_source := cal_of F_check_source m_check_source (ok_check_source (P := P) (w := w) (base := base) (cs := fun x => He.ga K (erN x)) F_check_source GG x_BadHand x_BadOwn c_is_within) fun _ _ _ _ _ _ us hl => match us, hl with | [_, _], _ => rfl
  have FI := ok_init (P := P) (w := w) (base := base) (cs := fun x => He.ga K (erN x)) F_News___init__ GG T c_check_land
  have bI : Binds K fd_News___init__ ["self", "land"] [] := F_News___init__.bindsN fun _ _ _ _ _ _ us hl => match us, hl with | [_, _], _ => rfl
  have FH := ok_hear (P := P) (w := w) (base := base) (cs := fun x => He.ga K (erN x)) F_News_hear GG T x_Unlike x_TooMany c_check_source c_check_tick c_check_place
  have bH : Binds K fd_News_hear ["self", "hand", "own", "tick", "place"] [] := F_News_hear.bindsN fun _ _ _ _ _ _ us hl => match us, hl with | [_, _, _, _, _], _ => rfl
  have FS := ok_strike (P := P) (w := w) (base := base) (cs := fun x => He.ga K (erN x)) F_News_strike GG T c_check_source
  have bS : Binds K fd_News_strike ["self", "hand", "own"] [] := F_News_strike.bindsN fun _ _ _ _ _ _ us hl => match us, hl with | [_, _, _], _ => rfl
  have FT := ok_stand (P := P) (w := w) (base := base) F_News_sightings GG T
  have bT : Binds K fd_News_sightings ["self"] [] := F_News_sightings.bindsN fun _ _ _ _ _ _ us hl => match us, hl with | [_], _ => rfl
  have c__law_cell_at := cal_of F__law_cell_at m__law_cell_at (ok_cell_at (P := P) (w := w) (base := base) F__law_cell_at GG) fun _ _ _ _ _ _ us hl => match us, hl with | [_, _], _ => rfl
  have c__law_draw := cal_of F__law_draw m__law_draw (ok_draw (P := P) (w := w) (base := base) F__law_draw GG) fun _ _ _ _ _ _ us hl => match us, hl with | [_, _, _], _ => rfl
  have c__law_value := cal_of F__law_value m__law_value (ok_value (P := P) (w := w) (base := base) F__law_value GG c__law_draw) fun _ _ _ _ _ _ us hl => match us, hl with | [_, _], _ => rfl
  have c__law_land := cal_of F__law_land m__law_land (ok_land (P := P) (w := w) (base := base) F__law_land GG c__law_cell_at c__law_value) fun _ _ _ _ _ _ us hl => match us, hl with | [_, _], _ => rfl
  have c__law_copied := cal_of F__law_copied m__law_copied (ok_copied (P := P) (w := w) (base := base) F__law_copied GG) fun _ _ _ _ _ _ us hl => match us, hl with | [_], _ => rfl
  have c__law_stand := cal_of F__law_stand m__law_stand (ok_stood (P := P) (w := w) (base := base) F__law_stand GG) fun _ _ _ _ _ _ us hl => match us, hl with | [_, _], _ => rfl
  have c__law_due := cal_of F__law_due m__law_due (ok_due (P := P) (w := w) (base := base) F__law_due GG) fun _ _ _ _ _ _ us hl => match us, hl with | [_, _, _], _ => rfl
  have c__law_told := cal_of F__law_told m__law_told (ok_told (P := P) (w := w) (base := base) (cs := fun x => He.ga K (erN x)) F__law_told GG T x_SightError.mg x_Unlike x_TooMany x_BadTick EF meth_News_hear FH bH meth_News_strike FS bS) fun _ _ _ _ _ _ us hl => match us, hl with | [_, _], _ => rfl
  exact ok_law F_law GG T m_News mkr_News FI bI meth_News_hear FH bH meth_News_strike FS bS meth_News_sightings FT bT c__law_value c__law_land c__law_copied c__law_stand c__law_told c__law_due
end SG
open PySem PySem.W PySem.Calls PyProof.Rows
theorem PySem.Challenge.cw_sightings_k06_whole_news_holds : PySem.Challenge.rw_sightings_k06_whole_news.Holds := by
  w_on; o_law
  refine HandSHeadRun.head_any (r := OpenLaw.row PySem.Challenge.rw_sightings_k06_whole_news) (q := view (OpenLaw.row PySem.Challenge.rw_sightings_k06_whole_news).prog [36]) (H := SG.hk) (ob := SG.ob) (M := 4000) (loose := SG.names) (d := HandSHeadRun.topDef (OpenLaw.row PySem.Challenge.rw_sightings_k06_whole_news).prog 36) (kwd := []) SG.ob_eq
    (by kernel_rfl) (fun s => by kernel_rfl) SG.run (by kernel_rfl) (by kernel_rfl) (by kernel_rfl) (by rfl) (by first | assumption | decide +kernel) (by decide +kernel) ⟨rfl, rfl, rfl, rfl, rfl, by decide +kernel⟩ ?hw ?hc
  case hw => w_witness2
  case hc =>
    refine L2.walk_ofE (l := PySem.Challenge.rw_sightings_k06_whole_news) (n := 63) (k := 9) (x := "_law_script") (CX := L2.CX0) rfl (by decide) (by kernel_rfl) ⟨rfl, by decide, by decide⟩ ?F (fun _ _ _ _ z => z)
    intro w mg fa h Y G hmg0
    obtain ⟨K, KX, c⟩ := Y
    have hmg : mg ("law" : PySem.Str) = some (.ref fa) := by
      have e : (HandSHeadRun.topDef (OpenLaw.row PySem.Challenge.rw_sightings_k06_whole_news).prog 36).name = ("law" : PySem.Str) := by kernel_rfl
      rw [← e]
      exact hmg0
    obtain ⟨fd, hb, hF⟩ := SG.facts (P := (PySem.Challenge.rw_sightings_k06_whole_news).prog) (w := w) KX G hmg c
    exact ⟨K, fd, SG.spLaw K, KX, hb, fun H a ns hl _ hS => ⟨a, ns, rfl, hS, hl, fun _ => rfl⟩, hF⟩
