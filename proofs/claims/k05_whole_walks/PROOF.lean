import PyProof.Rows.All
import Wide.All
import OpenK.AllK
import Wide.FinOn
import KE.KStateDown
import Lean
import HandS.ForMost
import HandS.ForExc
import HandS.Deep
import HandS.IsInst
import HandS.TupAny
import HandS.TupLen
import HandS.Conv
import HandS.SortRule
import HandS.ExcIs
import HandS.Style
import HandS.Flow
import HandS.Wide
import HandS.Defaults
import HandS.More
import HandS.Iter
import HandS.Star
import KE.DataCmp
import HandS.SetFor
import HandS.Zip
import HandS.Head0
import HandS.Head1
import HandS.Head2
import HandS.HeadEnd
import HandS.HeadHook1
import HandS.HeadHook2
import PySem.Challenge.RW_sightings_k05_whole_walks
import HandS.WordsExc
import HandS.ExcOwn
import HandS.Exc
import PyProof.P3Eq
import HandS.Ends
import HandS.Words
set_option Elab.async false
set_option linter.all false
set_option maxRecDepth 100000
set_option maxHeartbeats 4000000
namespace SG
open PySem PySem.Spec PyProof.Rows L2

/-! ### the settled part of the heap -/
def Mu : Option HO → Prop
  | none => False
  | some (.tup _) => False
  | some _ => True
theorem Mu.same {H H1 : Hp} {x : Addr} (s : Same H H1) (h : Mu (H x)) : Mu (H1 x) := by
  cases e : H x with
  | none => rw [e] at h; exact h.elim
  | some o => rw [s x o e, ← e]; exact h
structure Gr (Hs H Hs2 H2 : Hp) : Prop where
  a : Same Hs Hs2
  b : Same H H2
  c : Same Hs2 H2
  d : ∀ x, Mu (H x) → Hs x = none → Hs2 x = none
theorem same_none {H H' : Hp} {p : Addr} (s : Same H H') (h : H' p = none) : H p = none := s.free h
theorem same_new {H : Hp} {p : Addr} {o : HO} (h : H p = none) : Same H (upd H p o) := fun b x e => by
  rw [upd_ne (ne_of_none e h)]
  exact e
section
variable {Hs H Hs1 H1 Hs2 H2 : Hp} {p : Addr} {o : HO}
theorem Gr.refl (s : Same Hs H) : Gr Hs H Hs H := ⟨Same.refl _, Same.refl _, s, fun _ _ h => h⟩
theorem Gr.trans (g : Gr Hs H Hs1 H1) (k : Gr Hs1 H1 Hs2 H2) : Gr Hs H Hs2 H2 :=
  ⟨g.a.trans k.a, g.b.trans k.b, k.c, fun x h1 h2 => k.d x (h1.same g.b) (g.d x h1 h2)⟩
theorem Gr.new (s : Same Hs H) (hp : H p = none) : Gr Hs H (upd Hs p o) (upd H p o) where
  a := same_new (same_none s hp)
  b := same_new hp
  c := fun b x e => by
    by_cases hb : b = p
    · subst hb
      rw [upd_same] at e ⊢
      exact e
    · rw [upd_ne hb] at e ⊢
      exact s b x e
  d := fun x h1 h2 => by
    have : x ≠ p := fun z => by rw [z, hp] at h1; exact h1
    rw [upd_ne this]
    exact h2
/-- a new object that may still change -/
theorem Gr.fresh (s : Same Hs H) (hp : H p = none) : Gr Hs H Hs (upd H p o) :=
  ⟨Same.refl _, same_new hp, s.trans (same_new hp), fun _ _ h => h⟩
/-- a changing object changes -/
theorem Gr.mut (g : Gr Hs H Hs1 H1) (h0 : H p = none) (hs : Hs1 p = none) : Gr Hs H Hs1 (upd H1 p o) where
  a := g.a
  b := fun b x e => by
    rw [upd_ne (ne_of_none e h0)]
    exact g.b b x e
  c := fun b x e => by
    rw [upd_ne (ne_of_none e hs)]
    exact g.c b x e
  d := g.d
/-- it is settled -/
theorem Gr.settle (g : Gr Hs H Hs1 H1) (h0 : H p = none) (h1 : H1 p = some o) (hs : Hs1 p = none) : Gr Hs H (upd Hs1 p o) H1 where
  a := g.a.trans (same_new hs)
  b := g.b
  c := fun b x e => by
    by_cases hb : b = p
    · subst hb
      rw [upd_same] at e
      rw [h1]
      exact e
    · rw [upd_ne hb] at e
      exact g.c b x e
  d := fun x h2 h3 => by
    have : x ≠ p := fun z => by rw [z, h0] at h2; exact h2
    rw [upd_ne this]
    exact g.d x h2 h3
/-- what was settled for a while is let go again -/
theorem Gr.back (s : Same Hs Hs1) (g : Gr Hs1 H Hs2 H2) : Gr Hs H Hs H2 :=
  ⟨Same.refl _, g.b, s.trans (g.a.trans g.c), fun _ _ h => h⟩
/-- a tuple is settled -/
theorem Gr.tup {xs : List V} (s : Same Hs H) (h : H p = some (.tup xs)) : Gr Hs H (upd Hs p (.tup xs)) H where
  a := fun b x e => by
    by_cases hb : b = p
    · subst hb
      have := s b x e
      rw [h] at this
      rw [upd_same]
      exact this
    · rw [upd_ne hb]
      exact e
  b := Same.refl _
  c := fun b x e => by
    by_cases hb : b = p
    · subst hb
      rw [upd_same] at e
      rw [h]
      exact e
    · rw [upd_ne hb] at e
      exact s b x e
  d := fun x h1 h2 => by
    have : x ≠ p := fun z => by rw [z, h] at h1; exact h1
    rw [upd_ne this]
    exact h2
end

/-! ### data -/
section
variable {K : PySem.W.Frag}
theorem sqL_mono {H H' : Hp} {a : Addr} {xs : List V} (e : Same H H') (h : H a = some (.lst xs)) : SqL K H' a xs := .inl (.inl (e _ _ h))
theorem sqT_mono {H H' : Hp} {a : Addr} {xs : List V} (e : Same H H') (h : H a = some (.tup xs)) : SqT K H' a xs := .inl (.inl (e _ _ h))
mutual
inductive Rp (K : PySem.W.Frag) (H : Hp) : V → PyData → Prop
  | non : Rp K H .non .none
  | bl (b : Bool) : Rp K H (.bl b) (.bool b)
  | int (i : Int) : Rp K H (.int i) (.int i)
  | str (x : Str) : Rp K H (.str x) (.str x)
  | lst {a : Addr} {xs : List V} {ds : List PyData} : H a = some (.lst xs) → RpAll K H xs ds → Rp K H (.ref a) (.list ds)
  | tup {a : Addr} {xs : List V} {ds : List PyData} : H a = some (.tup xs) → RpAll K H xs ds → Rp K H (.ref a) (.tuple ds)
  | dct {a : Addr} : H a = some (.dK []) → Rp K H (.ref a) (.dict [])
inductive RpAll (K : PySem.W.Frag) (H : Hp) : List V → List PyData → Prop
  | nil : RpAll K H [] []
  | cons {v : V} {vs : List V} {d : PyData} {ds : List PyData} : Rp K H v d → RpAll K H vs ds → RpAll K H (v :: vs) (d :: ds)
end
mutual
theorem Rp.mono {H H' : Hp} (e : Same H H') : ∀ {v : V} {d : PyData}, Rp K H v d → Rp K H' v d
  | _, _, .non => .non
  | _, _, .bl b => .bl b
  | _, _, .int b => .int b
  | _, _, .str b => .str b
  | _, _, .lst s a => .lst (e _ _ s) (RpAll.mono e a)
  | _, _, .tup s a => .tup (e _ _ s) (RpAll.mono e a)
  | _, _, .dct h => .dct (e _ _ h)
theorem RpAll.mono {H H' : Hp} (e : Same H H') : ∀ {v : List V} {d : List PyData}, RpAll K H v d → RpAll K H' v d
  | _, _, .nil => .nil
  | _, _, .cons a b => .cons (Rp.mono e a) (RpAll.mono e b)
end
mutual
theorem Rp.dp {H : Hp} : ∀ {v : V} {d : PyData}, d.canLay0 = true → Rp K H v d → Dp K H v d
  | _, _, _, .non => .non
  | _, _, _, .bl b => .bl b
  | _, _, _, .int b => .int b
  | _, _, _, .str b => .str b
  | _, .list ds, c, .lst s a => .lst (.inl (.inl s)) (RpAll.dp (show PyData.canLayAll0 ds = true from c) a)
  | _, .tuple ds, c, .tup s a => .tup (.inl (.inl s)) (RpAll.dp (show PyData.canLayAll0 ds = true from c) a)
  | _, _, c, .dct h => nomatch c
theorem RpAll.dp {H : Hp} : ∀ {v : List V} {d : List PyData}, PyData.canLayAll0 d = true → RpAll K H v d → DpAll K H v d
  | _, _, _, .nil => .nil
  | _, d :: ds, c, .cons a b => .cons (Rp.dp (Bool.and_eq_true_iff.mp (show (d.canLay0 && PyData.canLayAll0 ds) = true from c)).1 a) (RpAll.dp (Bool.and_eq_true_iff.mp (show (d.canLay0 && PyData.canLayAll0 ds) = true from c)).2 b)
end
theorem Rp.shape {H : Hp} {v : V} {d : PyData} (c : SeqAt.shaped d = true) (h : Rp K H v d) : Dp K H v d := h.dp (SeqAt.canLay_of_shaped c)
theorem RpAll.len {H : Hp} : ∀ {v : List V} {d : List PyData}, RpAll K H v d → v.length = d.length
  | _, _, .nil => rfl
  | _, _, .cons _ b => congrArg (· + 1) (RpAll.len b)
theorem RpAll.get {H : Hp} : ∀ {vs : List V} {ds : List PyData} {i : Nat} {v : V}, RpAll K H vs ds → vs[i]? = some v → ∃ d, ds[i]? = some d ∧ Rp K H v d
  | _, _, 0, _, .cons a _, e => by simp at e; subst e; exact ⟨_, rfl, a⟩
  | _, _, i + 1, _, .cons _ b, e => by simpa using RpAll.get (i := i) b (by simpa using e)
theorem RpAll.getD {H : Hp} : ∀ {vs : List V} {ds : List PyData} {i : Nat} {d : PyData}, RpAll K H vs ds → ds[i]? = some d → ∃ v, vs[i]? = some v ∧ Rp K H v d
  | _, _, 0, _, .cons a _, e => by simp at e; subst e; exact ⟨_, rfl, a⟩
  | _, _, i + 1, _, .cons _ b, e => by simpa using RpAll.getD (i := i) b (by simpa using e)
theorem RpAll.append {H : Hp} : ∀ {vs ws : List V} {ds es : List PyData}, RpAll K H vs ds → RpAll K H ws es → RpAll K H (vs ++ ws) (ds ++ es)
  | _, _, _, _, .nil, h => h
  | _, _, _, _, .cons a b, h => .cons a (RpAll.append b h)
theorem RpAll.snoc {H : Hp} {vs : List V} {ds : List PyData} {v : V} {d : PyData} (h : RpAll K H vs ds) (a : Rp K H v d) : RpAll K H (vs ++ [v]) (ds ++ [d]) := h.append (.cons a .nil)
theorem RpAll.drop {H : Hp} : ∀ {vs : List V} {ds : List PyData} (n : Nat), RpAll K H vs ds → RpAll K H (vs.drop n) (ds.drop n)
  | _, _, 0, h => h
  | _, _, _ + 1, .nil => .nil
  | _, _, n + 1, .cons _ b => RpAll.drop n b
theorem RpAll.take {H : Hp} : ∀ {vs : List V} {ds : List PyData} (n : Nat), RpAll K H vs ds → RpAll K H (vs.take n) (ds.take n)
  | _, _, 0, _ => .nil
  | _, _, _ + 1, .nil => .nil
  | _, _, n + 1, .cons a b => .cons a (RpAll.take n b)
theorem RpAll.ints {H : Hp} : ∀ ns : List Int, RpAll K H (ns.map V.int) (ns.map PyData.int)
  | [] => .nil
  | n :: ns => .cons (.int n) (RpAll.ints ns)
theorem RpAll.ints_eq {H : Hp} : ∀ {vs : List V} {ns : List Int}, RpAll K H vs (ns.map PyData.int) → vs = ns.map V.int
  | _, [], .nil => rfl
  | _, n :: ns, .cons (.int _) b => congrArg (V.int n :: ·) (RpAll.ints_eq b)
theorem RpAll.bools_eq {H : Hp} : ∀ {vs : List V} {ns : List Bool}, RpAll K H vs (ns.map PyData.bool) → vs = ns.map V.bl
  | _, [], .nil => rfl
  | _, n :: ns, .cons (.bl _) b => congrArg (V.bl n :: ·) (RpAll.bools_eq b)
/-- scalars stand in every heap -/
def scalD : PyData → Bool
  | .none | .bool _ | .int _ | .str _ => true
  | _ => false
theorem Rp.scal {H H' : Hp} {v : V} {d : PyData} (h : Rp K H v d) (c : scalD d = true) : Rp K H' v d := by
  cases h with
  | non => exact .non
  | bl b => exact .bl b
  | int i => exact .int i
  | str x => exact .str x
  | lst _ _ => cases c
  | tup _ _ => cases c
  | dct _ => cases c
end

/-! ### the slots -/
abbrev Rho := List (Option PyData)
def EnvD (K : PySem.W.Frag) (Hs : Hp) (σ : L2.St) (ρ : Rho) : Prop := σ.length = ρ.length ∧ ∀ (i : Nat) (d : PyData), ρ[i]? = some (some d) → ∃ v, σ[i]? = some (some v) ∧ Rp K Hs v d
section
variable {K : PySem.W.Frag} {Hs Hs2 : Hp} {σ : L2.St} {ρ : Rho}
theorem EnvD.mono (e : Same Hs Hs2) (h : EnvD K Hs σ ρ) : EnvD K Hs2 σ ρ := ⟨h.1, fun i d q => by
  obtain ⟨v, h1, h2⟩ := h.2 i d q
  exact ⟨v, h1, h2.mono e⟩⟩
theorem EnvD.set {v : V} {d : PyData} (i : Nat) (h : EnvD K Hs σ ρ) (r : Rp K Hs v d) : EnvD K Hs (σ.set i (some v)) (ρ.set i (some d)) := by
  refine ⟨by rw [List.length_set, List.length_set]; exact h.1, fun j e q => ?_⟩
  by_cases hj : j = i
  · subst hj
    have hl : j < ρ.length := by
      have := (List.getElem?_eq_some_iff.mp q).1
      rwa [List.length_set] at this
    rw [List.getElem?_set_self hl] at q
    have := Option.some.inj (Option.some.inj q)
    subst this
    exact ⟨v, List.getElem?_set_self (by have := h.1; omega), r⟩
  · rw [List.getElem?_set_ne (Ne.symm hj)] at q
    obtain ⟨w, h1, h2⟩ := h.2 j e q
    exact ⟨w, by rw [List.getElem?_set_ne (Ne.symm hj)]; exact h1, h2⟩
theorem EnvD.del {x : Option V} (i : Nat) (h : EnvD K Hs σ ρ) : EnvD K Hs (σ.set i x) (ρ.set i none) := by
  refine ⟨by rw [List.length_set, List.length_set]; exact h.1, fun j e q => ?_⟩
  by_cases hj : j = i
  · subst hj
    have hl : j < ρ.length := by
      have := (List.getElem?_eq_some_iff.mp q).1
      rwa [List.length_set] at this
    rw [List.getElem?_set_self hl] at q
    cases q
  · rw [List.getElem?_set_ne (Ne.symm hj)] at q
    obtain ⟨w, h1, h2⟩ := h.2 j e q
    exact ⟨w, by rw [List.getElem?_set_ne (Ne.symm hj)]; exact h1, h2⟩
def wipeD (ρ : Rho) : List Nat → Rho
  | [] => ρ
  | v :: vs => (wipeD ρ vs).set v none
theorem EnvD.wipe (h : EnvD K Hs σ ρ) : ∀ vs : List Nat, EnvD K Hs (wipe σ vs) (wipeD ρ vs)
  | [] => h
  | v :: vs => (EnvD.wipe h vs).del v
theorem wipe_get {σ : L2.St} : ∀ {vs : List Nat} {i : Nat}, i ∈ vs → i < σ.length → (wipe σ vs)[i]? = some none
  | v :: vs, i, h, hl => by
    show ((L2.wipe σ vs).set v none)[i]? = some none
    by_cases e : i = v
    · subst e
      exact List.getElem?_set_self (by rw [wipe_length]; exact hl)
    · rw [List.getElem?_set_ne (Ne.symm e)]
      exact wipe_get (by
        rcases List.mem_cons.mp h with z | z
        · exact absurd z e
        · exact z) hl
theorem wipe_ext {σ τ : L2.St} {vs : List Nat} (hl : σ.length = τ.length) (h : ∀ i, i ∉ vs → σ[i]? = τ[i]?) : wipe σ vs = wipe τ vs := by
  apply List.ext_getElem?
  intro i
  by_cases hi : i ∈ vs
  · by_cases hb : i < σ.length
    · rw [wipe_get hi hb, wipe_get hi (by omega)]
    · have e1 : (wipe σ vs)[i]? = none := List.getElem?_eq_none (by rw [wipe_length]; omega)
      have e2 : (wipe τ vs)[i]? = none := List.getElem?_eq_none (by rw [wipe_length]; omega)
      rw [e1, e2]
  · rw [wipe_out hi, wipe_out hi]
    exact h i hi
end
end SG
set_option Elab.async false
set_option linter.all false
set_option maxRecDepth 100000
set_option maxHeartbeats 4000000
namespace SG
open PySem PySem.Spec PyProof.Rows L2

/-! ### what evaluates to what -/
def YD (K : PySem.W.Frag) (te : TE) (ρ : Rho) (d : PyData) : Prop := ∀ (σ : L2.St) (Hs H : Hp), EnvD K Hs σ ρ → Same Hs H → ∀ Q : VK, (∀ v Hs2 H2, Gr Hs H Hs2 H2 → Rp K Hs2 v d → Q v H2) → te σ H Q
def YT (K : PySem.W.Frag) (tt : TT) (ρ : Rho) (b : Bool) : Prop := ∀ (σ : L2.St) (Hs H : Hp), EnvD K Hs σ ρ → Same Hs H → ∀ Q : Bool → Hp → Prop, (∀ Hs2 H2, Gr Hs H Hs2 H2 → Q b H2) → tt σ H Q
def YA (K : PySem.W.Frag) (ta : TA) (ρ : Rho) (ds : List PyData) : Prop := ∀ (σ : L2.St) (Hs H : Hp), EnvD K Hs σ ρ → Same Hs H → ∀ Q : List V → Hp → Prop, (∀ vs Hs2 H2, Gr Hs H Hs2 H2 → RpAll K Hs2 vs ds → Q vs H2) → ta σ H Q
def YO (K : PySem.W.Frag) (to : TO) (ρ : Rho) (o : Option Int) : Prop := ∀ (σ : L2.St) (Hs H : Hp), EnvD K Hs σ ρ → Same Hs H → ∀ Q : Option Int → Hp → Prop, (∀ Hs2 H2, Gr Hs H Hs2 H2 → Q o H2) → to σ H Q
def RD (K : PySem.W.Frag) (r : R2) (x y z : PyData) : Prop := ∀ (v w : V) (Hs H : Hp), Same Hs H → Rp K Hs v x → Rp K Hs w y → ∀ Q : VK, (∀ u Hs2 H2, Gr Hs H Hs2 H2 → Rp K Hs2 u z → Q u H2) → r v w H Q
def RU (K : PySem.W.Frag) (r : V → Hp → VK → Prop) (x z : PyData) : Prop := ∀ (v : V) (Hs H : Hp), Same Hs H → Rp K Hs v x → ∀ Q : VK, (∀ u Hs2 H2, Gr Hs H Hs2 H2 → Rp K Hs2 u z → Q u H2) → r v H Q
def RC (K : PySem.W.Frag) (r : List V → Hp → VK → Prop) (xs : List PyData) (z : PyData) : Prop := ∀ (vs : List V) (Hs H : Hp), Same Hs H → RpAll K Hs vs xs → ∀ Q : VK, (∀ u Hs2 H2, Gr Hs H Hs2 H2 → Rp K Hs2 u z → Q u H2) → r vs H Q
section
variable {K : PySem.W.Frag} {ρ : Rho} {ta tb tc te : TE} {t u : TT} {x y z d : PyData} {r r' : R2} {a b : Bool}
theorem YD.eq {d' : PyData} (h : YD K te ρ d) (e : d = d') : YD K te ρ d' := e ▸ h
theorem YT.eq {b' : Bool} (h : YT K t ρ b) (e : b = b') : YT K t ρ b' := e ▸ h
theorem YA.eq {ta : TA} {ds ds' : List PyData} (h : YA K ta ρ ds) (e : ds = ds') : YA K ta ρ ds' := e ▸ h
theorem yd_var {i : Nat} (h : ρ[i]? = some (some d)) : YD K (tVar i) ρ d := fun σ Hs H e s Q q => by
  obtain ⟨v, h1, h2⟩ := e.2 i d h
  exact ⟨v, h1, q v Hs H (Gr.refl s) h2⟩
theorem yd_int {i : Int} : YD K (tC (.int i)) ρ (.int i) := fun σ Hs H e s Q q => q _ Hs H (Gr.refl s) (.int i)
theorem yd_bl {i : Bool} : YD K (tC (.bl i)) ρ (.bool i) := fun σ Hs H e s Q q => q _ Hs H (Gr.refl s) (.bl i)
theorem yd_non : YD K (tC .non) ρ .none := fun σ Hs H e s Q q => q _ Hs H (Gr.refl s) .non
theorem yd_str {x : Str} : YD K (tC (.str x)) ρ (.str x) := fun σ Hs H e s Q q => q _ Hs H (Gr.refl s) (.str x)
theorem yd_op (ha : YD K ta ρ x) (hb : YD K tb ρ y) (hr : RD K r x y z) : YD K (tOp r ta tb) ρ z := fun σ Hs H e s Q q =>
  ha σ Hs H e s _ fun v Hs1 H1 g1 r1 => hb σ Hs1 H1 (e.mono g1.a) g1.c _ fun w Hs2 H2 g2 r2 => hr v w Hs2 H2 g2.c (r1.mono g2.a) r2 Q fun u Hs3 H3 g3 r3 => q u Hs3 H3 ((g1.trans g2).trans g3) r3
theorem yd_un {r : V → Hp → VK → Prop} (ha : YD K ta ρ x) (hr : RU K r x z) : YD K (tUn r ta) ρ z := fun σ Hs H e s Q q =>
  ha σ Hs H e s _ fun v Hs1 H1 g1 r1 => hr v Hs1 H1 g1.c r1 Q fun u Hs3 H3 g3 r3 => q u Hs3 H3 (g1.trans g3) r3
theorem rd_I0 {f : Int → Int → Int} {i j : Int} : RD K (rI0 fun i j => .int (f i j)) (.int i) (.int j) (.int (f i j)) := fun v w Hs H s h1 h2 Q q => by
  cases h1; cases h2
  exact ⟨i, j, rfl, rfl, q _ Hs H (Gr.refl s) (.int _)⟩
theorem rd_B0 {f : Int → Int → Bool} {i j : Int} : RD K (rI0 fun i j => .bl (f i j)) (.int i) (.int j) (.bool (f i j)) := fun v w Hs H s h1 h2 Q q => by
  cases h1; cases h2
  exact ⟨i, j, rfl, rfl, q _ Hs H (Gr.refl s) (.bl _)⟩
theorem rd_I {C : Int → Int → Prop} {f : Int → Int → Int} {i j : Int} (hc : C i j) : RD K (rI C fun i j => .int (f i j)) (.int i) (.int j) (.int (f i j)) := fun v w Hs H s h1 h2 Q q => by
  cases h1; cases h2
  exact ⟨i, j, rfl, rfl, hc, q _ Hs H (Gr.refl s) (.int _)⟩
theorem ru_neg {i : Int} : RU K (rU fun i => .int (-i)) (.int i) (.int (-i)) := fun v Hs H s h1 Q q => by
  cases h1
  exact ⟨i, rfl, q _ Hs H (Gr.refl s) (.int _)⟩
theorem rd_eqD (h1 : SeqAt.shaped x = true) (h2 : SeqAt.shaped y = true) : RD K (rEqD K) x y (.bool (PyData.eqv x y)) := fun v w Hs H s a b Q q =>
  ⟨x, y, (a.mono s).shape h1, (b.mono s).shape h2, h1, h2, q _ Hs H (Gr.refl s) (.bl _)⟩
theorem rd_neD (h1 : SeqAt.shaped x = true) (h2 : SeqAt.shaped y = true) : RD K (rNeD K) x y (.bool (!PyData.eqv x y)) := fun v w Hs H s a b Q q =>
  ⟨x, y, (a.mono s).shape h1, (b.mono s).shape h2, h1, h2, q _ Hs H (Gr.refl s) (.bl _)⟩
theorem rd_inD {ds : List PyData} (h1 : SeqAt.shaped x = true) (h2 : SeqAt.shaped (.list ds) = true) : RD K (rInD K) x (.list ds) (.bool (ds.any fun z => PyData.eqv z x)) := fun v w Hs H s a b Q q =>
  ⟨x, ds, (a.mono s).shape h1, (b.mono s).shape h2, h1, h2, q _ Hs H (Gr.refl s) (.bl _)⟩
theorem rd_notInD {ds : List PyData} (h1 : SeqAt.shaped x = true) (h2 : SeqAt.shaped (.list ds) = true) : RD K (rNotInD K) x (.list ds) (.bool (!ds.any fun z => PyData.eqv z x)) := fun v w Hs H s a b Q q =>
  ⟨x, ds, (a.mono s).shape h1, (b.mono s).shape h2, h1, h2, q _ Hs H (Gr.refl s) (.bl _)⟩
theorem atI_rp {Hs : Hp} {vs : List V} {ds : List PyData} {i : Int} (h : RpAll K Hs vs ds) (e : atI ds i = some d) : ∃ v, atI vs i = some v ∧ Rp K Hs v d := by
  unfold atI at e ⊢
  rw [h.len]
  cases q : ixN ds.length i with
  | none => rw [q] at e; cases e
  | some j =>
    rw [q] at e
    exact h.getD e
theorem rd_ixL {ds : List PyData} {i : Int} (h : atI ds i = some d) : RD K (rIx K) (.list ds) (.int i) d := fun v w Hs H s h1 h2 Q q => by
  cases h1 with
  | lst hs ha =>
    cases h2
    obtain ⟨u, e, ru⟩ := atI_rp ha h
    exact .inl ⟨_, _, i, u, rfl, rfl, sqL_mono s hs, e, q u Hs H (Gr.refl s) ru⟩
theorem rd_ixT {ds : List PyData} {i : Int} (h : atI ds i = some d) : RD K (rIx K) (.tuple ds) (.int i) d := fun v w Hs H s h1 h2 Q q => by
  cases h1 with
  | tup hs ha =>
    cases h2
    obtain ⟨u, e, ru⟩ := atI_rp ha h
    exact .inr (.inl ⟨_, _, i, u, rfl, rfl, sqT_mono s hs, e, q u Hs H (Gr.refl s) ru⟩)
theorem yd_chain (ha : YD K ta ρ x) (hb : YD K tb ρ y) (hr : RD K r x y (.bool a)) (hc : a = true → YD K tc ρ z) (hr2 : a = true → RD K r' y z (.bool b)) : YD K (tChain r r' ta tb tc) ρ (.bool (a && b)) := fun σ Hs H e s Q q =>
  ha σ Hs H e s _ fun v Hs1 H1 g1 r1 => hb σ Hs1 H1 (e.mono g1.a) g1.c _ fun w Hs2 H2 g2 r2 => hr v w Hs2 H2 g2.c (r1.mono g2.a) r2 _ fun k Hs3 H3 g3 r3 => by
    cases r3
    refine ⟨a, rfl, ?_⟩
    have g := (g1.trans g2).trans g3
    cases a with
    | true => exact hc rfl σ Hs3 H3 (e.mono g.a) g.c _ fun w2 Hs4 H4 g4 r4 => hr2 rfl w w2 Hs4 H4 g4.c (r2.mono (g3.a.trans g4.a)) r4 Q fun u Hs5 H5 g5 r5 => q u Hs5 H5 ((g.trans g4).trans g5) r5
    | false => exact q _ Hs3 H3 g (.bl _)
theorem ya_nil : YA K tNil ρ [] := fun σ Hs H e s Q q => q [] Hs H (Gr.refl s) .nil
theorem ya_cons {tr : TA} {ds : List PyData} (h : YD K ta ρ x) (hr : YA K tr ρ ds) : YA K (tCons ta tr) ρ (x :: ds) := fun σ Hs H e s Q q =>
  h σ Hs H e s _ fun v Hs1 H1 g1 r1 => hr σ Hs1 H1 (e.mono g1.a) g1.c _ fun vs Hs2 H2 g2 r2 => q _ Hs2 H2 (g1.trans g2) (.cons (r1.mono g2.a) r2)
theorem sz_of {n : Nat} (h : n ≤ 100000) : n ≤ sizeLine := Nat.le_trans h (by decide)
theorem sz_lt {n : Nat} (h : n < 100000) : n < sizeLine := Nat.lt_of_lt_of_le h (by decide)
theorem rp_lst {Hs H : Hp} {p : Addr} {vs : List V} {ds : List PyData} (hp : Hs p = none) (h : RpAll K Hs vs ds) : Rp K (upd Hs p (.lst vs)) (.ref p) (.list ds) := .lst upd_same (h.mono (same_new hp))
theorem rp_tup {Hs H : Hp} {p : Addr} {vs : List V} {ds : List PyData} (hp : Hs p = none) (h : RpAll K Hs vs ds) : Rp K (upd Hs p (.tup vs)) (.ref p) (.tuple ds) := .tup upd_same (h.mono (same_new hp))
theorem yd_tup {tr : TA} {ds : List PyData} (h : YA K tr ρ ds) (hl : ds.length ≤ 100000) : YD K (tTup tr) ρ (.tuple ds) := fun σ Hs H e s Q q =>
  h σ Hs H e s _ fun vs Hs1 H1 g1 r1 => ⟨sz_of (by rw [r1.len]; exact hl), fun p hp => q _ _ _ (g1.trans (Gr.new g1.c hp)) (rp_tup (H := H1) (same_none g1.c hp) r1)⟩
theorem yd_lst {tr : TA} {ds : List PyData} (h : YA K tr ρ ds) (hl : ds.length ≤ 100000) : YD K (tLst tr) ρ (.list ds) := fun σ Hs H e s Q q =>
  h σ Hs H e s _ fun vs Hs1 H1 g1 r1 => ⟨sz_of (by rw [r1.len]; exact hl), fun p hp => q _ _ _ (g1.trans (Gr.new g1.c hp)) (rp_lst (H := H1) (same_none g1.c hp) r1)⟩
theorem yt_test (h : YD K te ρ (.bool b)) : YT K (tTest te) ρ b := fun σ Hs H e s Q q => h σ Hs H e s _ fun v Hs1 H1 g1 r1 => by
  cases r1
  exact ⟨b, rfl, q Hs1 H1 g1⟩
theorem yt_B (h : YD K te ρ (.bool b)) : YT K (tB te) ρ b := fun σ Hs H e s Q q => h σ Hs H e s _ fun v Hs1 H1 g1 r1 => by
  cases r1
  exact ⟨b, rfl, q Hs1 H1 g1⟩
theorem yt_and (h1 : YT K t ρ a) (h2 : a = true → YT K u ρ b) : YT K (tAnd t u) ρ (a && b) := fun σ Hs H e s Q q => h1 σ Hs H e s _ fun Hs1 H1 g1 => by
  cases a with
  | true => exact h2 rfl σ Hs1 H1 (e.mono g1.a) g1.c Q fun Hs2 H2 g2 => q Hs2 H2 (g1.trans g2)
  | false => exact q Hs1 H1 g1
theorem yt_or (h1 : YT K t ρ a) (h2 : a = false → YT K u ρ b) : YT K (tOr t u) ρ (a || b) := fun σ Hs H e s Q q => h1 σ Hs H e s _ fun Hs1 H1 g1 => by
  cases a with
  | false => exact h2 rfl σ Hs1 H1 (e.mono g1.a) g1.c Q fun Hs2 H2 g2 => q Hs2 H2 (g1.trans g2)
  | true => exact q Hs1 H1 g1
theorem yt_not (h1 : YT K t ρ a) : YT K (tNot t) ρ (!a) := fun σ Hs H e s Q q => h1 σ Hs H e s _ fun Hs1 H1 g1 => q Hs1 H1 g1
theorem yd_and (h1 : YD K ta ρ (.bool a)) (h2 : a = true → YD K tb ρ (.bool b)) : YD K (tAndV ta tb) ρ (.bool (a && b)) := fun σ Hs H e s Q q => h1 σ Hs H e s _ fun v Hs1 H1 g1 r1 => by
  cases r1
  refine ⟨a, rfl, ?_⟩
  cases a with
  | true => exact h2 rfl σ Hs1 H1 (e.mono g1.a) g1.c Q fun w Hs2 H2 g2 r2 => q w Hs2 H2 (g1.trans g2) r2
  | false => exact q _ Hs1 H1 g1 (.bl _)
theorem yd_or (h1 : YD K ta ρ (.bool a)) (h2 : a = false → YD K tb ρ (.bool b)) : YD K (tOrV ta tb) ρ (.bool (a || b)) := fun σ Hs H e s Q q => h1 σ Hs H e s _ fun v Hs1 H1 g1 r1 => by
  cases r1
  refine ⟨a, rfl, ?_⟩
  cases a with
  | false => exact h2 rfl σ Hs1 H1 (e.mono g1.a) g1.c Q fun w Hs2 H2 g2 r2 => q w Hs2 H2 (g1.trans g2) r2
  | true => exact q _ Hs1 H1 g1 (.bl _)
theorem yd_not (h1 : YD K ta ρ (.bool a)) : YD K (tNotV ta) ρ (.bool (!a)) := fun σ Hs H e s Q q => h1 σ Hs H e s _ fun v Hs1 H1 g1 r1 => by
  cases r1
  exact ⟨a, rfl, q _ Hs1 H1 g1 (.bl _)⟩
theorem yd_if (h : YT K t ρ b) (h1 : b = true → YD K ta ρ d) (h2 : b = false → YD K tb ρ d) : YD K (tIf t ta tb) ρ d := fun σ Hs H e s Q q => h σ Hs H e s _ fun Hs1 H1 g1 => by
  cases b with
  | true => exact h1 rfl σ Hs1 H1 (e.mono g1.a) g1.c Q fun w Hs2 H2 g2 r2 => q w Hs2 H2 (g1.trans g2) r2
  | false => exact h2 rfl σ Hs1 H1 (e.mono g1.a) g1.c Q fun w Hs2 H2 g2 r2 => q w Hs2 H2 (g1.trans g2) r2
theorem yt_yes : YT K tYes ρ true := fun σ Hs H e s Q q => q Hs H (Gr.refl s)
theorem yd_isN (h : YD K ta ρ x) (hb : b = (match x with | .none => true | _ => false)) : YD K (tIsN ta) ρ (.bool b) := fun σ Hs H e s Q q => h σ Hs H e s _ fun v Hs1 H1 g1 r1 => by
  have e : decide (v = V.non) = b := by rw [hb]; cases r1 <;> rfl
  rw [e]
  exact q _ Hs1 H1 g1 (.bl _)
theorem yd_notN (h : YD K ta ρ x) (hb : b = (match x with | .none => false | _ => true)) : YD K (tNotN ta) ρ (.bool b) := fun σ Hs H e s Q q => h σ Hs H e s _ fun v Hs1 H1 g1 r1 => by
  have e : (!decide (v = V.non)) = b := by rw [hb]; cases r1 <;> rfl
  rw [e]
  exact q _ Hs1 H1 g1 (.bl _)
theorem yd_cb {r : List V → Hp → VK → Prop} {tr : TA} {ds : List PyData} (h : YA K tr ρ ds) (hr : RC K r ds z) : YD K (tCB r tr) ρ z := fun σ Hs H e s Q q =>
  h σ Hs H e s _ fun vs Hs1 H1 g1 r1 => hr vs Hs1 H1 g1.c r1 Q fun u Hs2 H2 g2 r2 => q u Hs2 H2 (g1.trans g2) r2
/-! slices -/
theorem yo_none : YO K tNoPart ρ none := fun σ Hs H e s Q q => q Hs H (Gr.refl s)
theorem yo_some {i : Int} (h : YD K te ρ (.int i)) : YO K (tPart te) ρ (some i) := fun σ Hs H e s Q q => h σ Hs H e s _ fun v Hs1 H1 g1 r1 => by
  cases r1
  exact ⟨i, rfl, q Hs1 H1 g1⟩
def cutD (xs : List PyData) (lo hi : Option Int) : List PyData := (xs.drop (HT.sIx xs.length 0 lo)).take (HT.sIx xs.length xs.length hi - HT.sIx xs.length 0 lo)
theorem cut_rp {Hs : Hp} {vs : List V} {ds : List PyData} {lo hi : Option Int} (h : RpAll K Hs vs ds) : RpAll K Hs (cutV vs lo hi) (cutD ds lo hi) := by
  unfold cutV cutD
  rw [h.len]
  exact (h.drop _).take _
theorem yd_slL {to1 to2 : TO} {ds : List PyData} {lo hi : Option Int} (h : YD K te ρ (.list ds)) (h1 : YO K to1 ρ lo) (h2 : YO K to2 ρ hi) : YD K (tSl (rSlL K) te to1 to2) ρ (.list (cutD ds lo hi)) := fun σ Hs H e s Q q =>
  h σ Hs H e s _ fun v Hs1 H1 g1 r1 => h1 σ Hs1 H1 (e.mono g1.a) g1.c _ fun Hs2 H2 g2 => h2 σ Hs2 H2 (e.mono (g1.a.trans g2.a)) g2.c _ fun Hs3 H3 g3 => by
    cases r1 with
    | lst hs ha => exact ⟨_, _, rfl, sqL_mono (g2.a.trans (g3.a.trans g3.c)) hs, fun p hp => q _ _ _ (((g1.trans g2).trans g3).trans (Gr.new g3.c hp)) (rp_lst (H := H3) (same_none g3.c hp) (cut_rp (ha.mono (g2.a.trans g3.a))))⟩
theorem yd_slA {to1 to2 : TO} {ds : List PyData} {lo hi : Option Int} (h : YD K te ρ (.tuple ds)) (h1 : YO K to1 ρ lo) (h2 : YO K to2 ρ hi) : YD K (tSl (rSlA K) te to1 to2) ρ (.tuple (cutD ds lo hi)) := fun σ Hs H e s Q q =>
  h σ Hs H e s _ fun v Hs1 H1 g1 r1 => h1 σ Hs1 H1 (e.mono g1.a) g1.c _ fun Hs2 H2 g2 => h2 σ Hs2 H2 (e.mono (g1.a.trans g2.a)) g2.c _ fun Hs3 H3 g3 => by
    cases r1 with
    | tup hs ha =>
      have G := (g1.trans g2).trans g3
      refine ⟨_, _, rfl, sqT_mono (g2.a.trans (g3.a.trans g3.c)) hs, fun hw => ?_, fun _ p hp => q _ _ _ (G.trans (Gr.new g3.c hp)) (rp_tup (H := H3) (same_none g3.c hp) (cut_rp (ha.mono (g2.a.trans g3.a))))⟩
      have e2 : cutD ds lo hi = ds := by
        unfold cutD
        rw [← ha.len, hw.1, hw.2, List.drop_zero, Nat.sub_zero, ha.len, List.take_length]
      exact q _ Hs3 H3 G (by rw [e2]; exact .tup ((g2.a.trans g3.a) _ _ hs) (ha.mono (g2.a.trans g3.a)))
end

/-! ### statements -/
def YR (K : PySem.W.Frag) (ts : TS) (ρ : Rho) (d : PyData) : Prop := ∀ (σ : L2.St) (Hs H : Hp), EnvD K Hs σ ρ → Same Hs H → ∀ D : Ends, (∀ v Hs2 H2, Gr Hs H Hs2 H2 → Rp K Hs2 v d → D.rt v H2) → ts D σ H
def YN (K : PySem.W.Frag) (ts : TS) (sl : List Nat) (ρ ρ' : Rho) : Prop := ∀ (σ : L2.St) (Hs H : Hp), EnvD K Hs σ ρ → Same Hs H → ∀ D : Ends, (∀ σ' Hs2 H2, Gr Hs H Hs2 H2 → EnvD K Hs2 σ' ρ' → (∀ i, i ∉ sl → σ'[i]? = σ[i]?) → D.nx σ' H2) → ts D σ H
/-- binding a target -/
def YG (K : PySem.W.Frag) (g : TG) (sl : List Nat) (ρ : Rho) (d : PyData) (ρ' : Rho) : Prop := ∀ (σ : L2.St) (Hs H : Hp) (v : V), EnvD K Hs σ ρ → Same Hs H → Rp K Hs v d → ∀ Q : L2.St → Hp → Prop, (∀ σ', EnvD K Hs σ' ρ' → σ'.length = σ.length → (∀ i, i ∉ sl → σ'[i]? = σ[i]?) → Q σ' H) → g v σ H Q
def YGs (K : PySem.W.Frag) (g : TGs) (sl : List Nat) (ρ : Rho) (ds : List PyData) (ρ' : Rho) : Prop := ∀ (σ : L2.St) (Hs H : Hp) (vs : List V), EnvD K Hs σ ρ → Same Hs H → RpAll K Hs vs ds → ∀ Q : L2.St → Hp → Prop, (∀ σ', EnvD K Hs σ' ρ' → σ'.length = σ.length → (∀ i, i ∉ sl → σ'[i]? = σ[i]?) → Q σ' H) → g vs σ H Q
section
variable {K : PySem.W.Frag} {ρ ρ1 ρ2 : Rho} {te : TE} {t u : TS} {c : TT} {d : PyData} {b : Bool} {sl sl2 : List Nat}
theorem YR.eq {d' : PyData} (h : YR K t ρ d) (e : d = d') : YR K t ρ d' := e ▸ h
theorem yr_ret (h : YD K te ρ d) : YR K (tRet te) ρ d := fun σ Hs H e s D q => h σ Hs H e s _ q
theorem yr_seq (h : YN K t sl ρ ρ1) (k : YR K u ρ1 d) : YR K (tSeq t u) ρ d := fun σ Hs H e s D q =>
  h σ Hs H e s _ fun σ1 Hs1 H1 g1 e1 _ => k σ1 Hs1 H1 e1 g1.c D fun v Hs2 H2 g2 r => q v Hs2 H2 (g1.trans g2) r
theorem yr_seqR (h : YR K t ρ d) : YR K (tSeq t u) ρ d := fun σ Hs H e s D q => h σ Hs H e s _ q
theorem yr_next (h : YR K u ρ d) : YR K (tSeq tNext u) ρ d := fun σ Hs H e s D q => h σ Hs H e s D q
theorem yr_if (h : YT K c ρ b) (h1 : b = true → YR K t ρ d) (h2 : b = false → YR K u ρ d) : YR K (tIfS c t u) ρ d := fun σ Hs H e s D q => h σ Hs H e s _ fun Hs1 H1 g1 => by
  cases b with
  | true => exact h1 rfl σ Hs1 H1 (e.mono g1.a) g1.c D fun w Hs2 H2 g2 r2 => q w Hs2 H2 (g1.trans g2) r2
  | false => exact h2 rfl σ Hs1 H1 (e.mono g1.a) g1.c D fun w Hs2 H2 g2 r2 => q w Hs2 H2 (g1.trans g2) r2
theorem yr_ifs {u2 : TS} (h : YT K c ρ b) (h1 : b = true → YR K (tSeq t u2) ρ d) (h2 : b = false → YR K (tSeq u u2) ρ d) : YR K (tSeq (tIfS c t u) u2) ρ d := fun σ Hs H e s D q => h σ Hs H e s _ fun Hs1 H1 g1 => by
  cases b with
  | true => exact h1 rfl σ Hs1 H1 (e.mono g1.a) g1.c D fun w Hs2 H2 g2 r2 => q w Hs2 H2 (g1.trans g2) r2
  | false => exact h2 rfl σ Hs1 H1 (e.mono g1.a) g1.c D fun w Hs2 H2 g2 r2 => q w Hs2 H2 (g1.trans g2) r2
theorem yn_if (h : YT K c ρ b) (h1 : b = true → YN K t sl ρ ρ1) (h2 : b = false → YN K u sl2 ρ ρ1) : YN K (tIfS c t u) (sl ++ sl2) ρ ρ1 := fun σ Hs H e s D q => h σ Hs H e s _ fun Hs1 H1 g1 => by
  cases b with
  | true => exact h1 rfl σ Hs1 H1 (e.mono g1.a) g1.c D fun w Hs2 H2 g2 r2 n2 => q w Hs2 H2 (g1.trans g2) r2 fun i hi => n2 i fun z => hi (List.mem_append_left _ z)
  | false => exact h2 rfl σ Hs1 H1 (e.mono g1.a) g1.c D fun w Hs2 H2 g2 r2 n2 => q w Hs2 H2 (g1.trans g2) r2 fun i hi => n2 i fun z => hi (List.mem_append_right _ z)
theorem yn_ifF (h : YT K c ρ false) (h2 : YN K u sl ρ ρ1) : YN K (tIfS c t u) sl ρ ρ1 := fun σ Hs H e s D q => h σ Hs H e s _ fun Hs1 H1 g1 => h2 σ Hs1 H1 (e.mono g1.a) g1.c D fun w Hs2 H2 g2 r2 n2 => q w Hs2 H2 (g1.trans g2) r2 n2
theorem yn_ifT (h : YT K c ρ true) (h2 : YN K t sl ρ ρ1) : YN K (tIfS c t u) sl ρ ρ1 := fun σ Hs H e s D q => h σ Hs H e s _ fun Hs1 H1 g1 => h2 σ Hs1 H1 (e.mono g1.a) g1.c D fun w Hs2 H2 g2 r2 n2 => q w Hs2 H2 (g1.trans g2) r2 n2
theorem yn_next : YN K tNext [] ρ ρ := fun σ Hs H e s D q => q σ Hs H (Gr.refl s) e fun _ _ => rfl
theorem yn_seq (h : YN K t sl ρ ρ1) (k : YN K u sl2 ρ1 ρ2) : YN K (tSeq t u) (sl ++ sl2) ρ ρ2 := fun σ Hs H e s D q =>
  h σ Hs H e s _ fun σ1 Hs1 H1 g1 e1 n1 => k σ1 Hs1 H1 e1 g1.c D fun v Hs2 H2 g2 r n2 => q v Hs2 H2 (g1.trans g2) r fun i hi => (n2 i fun z => hi (List.mem_append_right _ z)).trans (n1 i fun z => hi (List.mem_append_left _ z))
theorem yn_asg {g : TG} (h : YD K te ρ d) (k : YG K g sl ρ d ρ1) : YN K (tAsg te g) sl ρ ρ1 := fun σ Hs H e s D q =>
  h σ Hs H e s _ fun v Hs1 H1 g1 r1 => k σ Hs1 H1 v (e.mono g1.a) g1.c r1 _ fun σ' e' _ n' => q σ' Hs1 H1 g1 e' n'
theorem yg_name {i : Nat} : YG K (gName i) [i] ρ d (ρ.set i (some d)) := fun σ Hs H v e s r Q q => q _ (e.set i r) (by rw [List.length_set]) fun j hj => by
  rw [List.getElem?_set_ne (fun z => hj (by rw [z]; exact List.mem_singleton.mpr rfl))]
theorem ygs_nil : YGs K gNil [] ρ [] ρ := fun σ Hs H vs e s r Q q => by
  cases r
  exact ⟨rfl, q σ e rfl fun _ _ => rfl⟩
theorem ygs_cons {g : TG} {gs : TGs} {sl sl' : List Nat} {ds : List PyData} (h : YG K g sl ρ d ρ1) (k : YGs K gs sl' ρ1 ds ρ2) : YGs K (gCons g gs) (sl ++ sl') ρ (d :: ds) ρ2 := fun σ Hs H vs e s r Q q => by
  cases r with
  | cons r1 r2 =>
    refine ⟨_, _, rfl, h σ Hs H _ e s r1 _ fun σ1 e1 l1 n1 => k σ1 Hs H _ e1 s r2 _ fun σ2 e2 l2 n2 => q σ2 e2 (l2.trans l1) fun i hi => ?_⟩
    rw [n2 i (fun z => hi (List.mem_append_right _ z)), n1 i (fun z => hi (List.mem_append_left _ z))]
theorem yg_tup {n : Nat} {gs : TGs} {sl : List Nat} {ds : List PyData} (k : YGs K gs sl ρ ds ρ1) (hn : ds.length = n) : YG K (gTup K n gs) sl ρ (.tuple ds) ρ1 := fun σ Hs H v e s r Q q => by
  cases r with
  | tup hs ha => exact ⟨_, _, rfl, sqT_mono s hs, by rw [ha.len]; exact hn, k σ Hs H _ e s ha Q q⟩
/-- a, b = x, y -/
theorem yn_par {i j : Nat} {ta : TA} {d1 d2 : PyData} (h : YA K ta ρ [d1, d2]) : YN K (tPar i j ta) [i, j] ρ ((ρ.set i (some d1)).set j (some d2)) := fun σ Hs H e s D q =>
  h σ Hs H e s _ fun vs Hs1 H1 g1 r1 => by
    cases r1 with
    | cons r1 r2 => cases r2 with
      | cons r2 r3 => cases r3; exact ⟨_, _, rfl, q _ Hs1 H1 g1 (((e.mono g1.a).set i r1).set j r2) fun k hk => by
        rw [List.getElem?_set_ne (fun z => hk (by simp [z])), List.getElem?_set_ne (fun z => hk (by simp [z]))]⟩
end

/-! ### what is walked -/
def WalkD (K : PySem.W.Frag) (J : It) (Hs1 : Hp) (ds : List PyData) : Prop := ∀ (i : Nat) (Hs2 H2 : Hp), Same Hs1 Hs2 → Same Hs2 H2 →
  (∀ d, ds[i]? = some d → J.go i H2 ∧ ∀ x H', J.yld i H2 x H' → ∃ Hs3, Gr Hs2 H2 Hs3 H' ∧ Rp K Hs3 x d) ∧ (ds.length ≤ i → J.stop i H2)
def YI (K : PySem.W.Frag) (wi : TI) (ρ : Rho) (ds : List PyData) : Prop := ∀ (σ : L2.St) (Hs H : Hp), EnvD K Hs σ ρ → Same Hs H → ∀ R : It → Hp → Prop, (∀ J Hs1 H1, Gr Hs H Hs1 H1 → WalkD K J Hs1 ds → R J H1) → wi σ H R
section
variable {K : PySem.W.Frag} {ρ ρ1 ρ2 : Rho} {te : TE} {d : PyData} {ds : List PyData}
theorem walk_lst {a : Addr} {xs : List V} {Hs : Hp} (h : Hs a = some (.lst xs)) (k : RpAll K Hs xs ds) : WalkD K (Itl K a) Hs ds := fun i Hs2 H2 s1 s2 => by
  have h2 : SqL K H2 a xs := sqL_mono (s1.trans s2) h
  refine ⟨fun d e => ?_, fun hl => ⟨xs, h2, by rw [k.len]; exact hl⟩⟩
  obtain ⟨v, e1, r⟩ := k.getD e
  refine ⟨⟨xs, v, h2, e1⟩, fun x H' y => ?_⟩
  obtain ⟨rfl, y⟩ := y
  have : v = x := Option.some.inj (e1.symm.trans (y xs h2))
  subst this
  exact ⟨Hs2, Gr.refl s2, r.mono s1⟩
theorem walk_tup {a : Addr} {xs : List V} {Hs : Hp} (h : Hs a = some (.tup xs)) (k : RpAll K Hs xs ds) : WalkD K (Itt K a) Hs ds := fun i Hs2 H2 s1 s2 => by
  have h2 : SqT K H2 a xs := sqT_mono (s1.trans s2) h
  refine ⟨fun d e => ?_, fun hl => ⟨xs, h2, by rw [k.len]; exact hl⟩⟩
  obtain ⟨v, e1, r⟩ := k.getD e
  refine ⟨⟨xs, v, h2, e1⟩, fun x H' y => ?_⟩
  obtain ⟨rfl, y⟩ := y
  have : v = x := Option.some.inj (e1.symm.trans (y xs h2))
  subst this
  exact ⟨Hs2, Gr.refl s2, r.mono s1⟩
theorem yi_list (h : YD K te ρ (.list ds)) : YI K (iList K te) ρ ds := fun σ Hs H e s R q => h σ Hs H e s _ fun v Hs1 H1 g1 r1 => by
  cases r1 with
  | lst hs ha => exact ⟨_, rfl, ⟨_, sqL_mono g1.c hs⟩, q _ Hs1 H1 g1 (walk_lst hs ha)⟩
theorem yi_tup (h : YD K te ρ (.tuple ds)) : YI K (iTup K te) ρ ds := fun σ Hs H e s R q => h σ Hs H e s _ fun v Hs1 H1 g1 r1 => by
  cases r1 with
  | tup hs ha => exact ⟨_, rfl, ⟨_, sqT_mono g1.c hs⟩, q _ Hs1 H1 g1 (walk_tup hs ha)⟩
def rgD (lo : Int) (n : Nat) : List PyData := (List.range n).map fun (i : Nat) => .int (lo + (i : Int))
theorem rgD_get {lo : Int} {n i : Nat} (h : i < n) : (rgD lo n)[i]? = some (.int (lo + (i : Int))) := by
  unfold rgD
  rw [List.getElem?_map, List.getElem?_range h]
  rfl
theorem rgD_len {lo : Int} {n : Nat} : (rgD lo n).length = n := by
  unfold rgD
  rw [List.length_map, List.length_range]
theorem walk_rng {lo : Int} {n : Nat} {Hs : Hp} : WalkD K (Itr lo n) Hs (rgD lo n) := fun i Hs2 H2 s1 s2 => by
  refine ⟨fun d e => ?_, fun hl => by rw [rgD_len] at hl; exact hl⟩
  have hi : i < n := by
    have := (List.getElem?_eq_some_iff.mp e).1
    rwa [rgD_len] at this
  rw [rgD_get hi] at e
  refine ⟨hi, fun x H' y => ?_⟩
  obtain ⟨rfl, rfl⟩ := y
  cases Option.some.inj e
  exact ⟨Hs2, Gr.refl s2, .int _⟩
theorem yi_rng1 {ta : TA} {n : Int} (h : YA K ta ρ [.int n]) (h1 : n < 2 ^ 62) (h0 : -(2 ^ 62) ≤ n) : YI K (iRng1 ta) ρ (rgD 0 n.toNat) := fun σ Hs H e s R q => h σ Hs H e s _ fun vs Hs1 H1 g1 r1 => by
  cases r1 with
  | cons r1 r2 => cases r2; cases r1; exact ⟨n, rfl, h0, h1, q _ Hs1 H1 g1 walk_rng⟩
theorem yi_rng2 {ta : TA} {m n : Int} (h : YA K ta ρ [.int m, .int n]) (hb : -(2 ^ 62) ≤ m ∧ m < 2 ^ 62 ∧ -(2 ^ 62) ≤ n ∧ n < 2 ^ 62) : YI K (iRng2 ta) ρ (rgD m (n - m).toNat) := fun σ Hs H e s R q => h σ Hs H e s _ fun vs Hs1 H1 g1 r1 => by
  cases r1 with
  | cons r1 r2 => cases r2 with
    | cons r2 r3 => cases r3; cases r1; cases r2; exact ⟨m, n, rfl, hb, q _ Hs1 H1 g1 walk_rng⟩
def enumD (ds : List PyData) : List PyData := (List.range ds.length).zipWith (fun i d => .tuple [.int (i : Nat), d]) ds
theorem enumD_get {i : Nat} {d : PyData} : (enumD ds)[i]? = some d ↔ ∃ e, ds[i]? = some e ∧ d = .tuple [.int (i : Nat), e] := by
  unfold enumD
  rw [List.getElem?_zipWith]
  constructor
  · intro h
    cases e : ds[i]? with
    | none => rw [e] at h; cases h1 : (List.range ds.length)[i]? <;> rw [h1] at h <;> cases h
    | some x =>
      rw [e, List.getElem?_range (List.getElem?_eq_some_iff.mp e).1] at h
      exact ⟨x, rfl, (Option.some.inj h).symm⟩
  · rintro ⟨e, h, rfl⟩
    rw [h, List.getElem?_range (List.getElem?_eq_some_iff.mp h).1]
theorem enumD_len : (enumD ds).length = ds.length := by
  unfold enumD
  rw [List.length_zipWith, List.length_range, Nat.min_self]
theorem yi_enum {ta : TA} (h : YA K ta ρ [.list ds]) : YI K (iEnum K ta) ρ (enumD ds) := fun σ Hs H e s R q => h σ Hs H e s _ fun vs Hs1 H1 g1 r1 => by
  cases r1 with
  | cons r1 r2 =>
    cases r2
    cases r1 with
    | lst hs ha =>
      refine ⟨_, _, rfl, sqL_mono g1.c hs, q _ Hs1 H1 g1 fun i Hs2 H2 s1 s2 => ?_⟩
      have h2 := sqL_mono (K := K) (s1.trans s2) hs
      refine ⟨fun d e => ?_, fun hl => ⟨_, h2, by rw [ha.len]; rwa [enumD_len] at hl⟩⟩
      obtain ⟨x, ex, rfl⟩ := enumD_get.mp e
      obtain ⟨v, e1, r⟩ := ha.getD ex
      refine ⟨⟨_, v, h2, e1⟩, fun y H' yl => ?_⟩
      obtain ⟨T, z, rfl, hT, rfl, fz⟩ := yl
      have : v = z := Option.some.inj (e1.symm.trans (fz _ h2))
      subst this
      exact ⟨_, Gr.new s2 hT, rp_tup (H := H2) (same_none s2 hT) (.cons (.int _) (.cons (r.mono s1) .nil))⟩
def zipD (ds es : List PyData) : List PyData := ds.zipWith (fun d e => .tuple [d, e]) es
theorem yi_zip {ta : TA} {es : List PyData} (h : YA K ta ρ [.list ds, .list es]) : YI K (iZip K ta) ρ (zipD ds es) := fun σ Hs H e s R q => h σ Hs H e s _ fun vs Hs1 H1 g1 r1 => by
  cases r1 with
  | cons r1 r2 =>
    cases r2 with
    | cons r2 r3 =>
      cases r3
      cases r1 with
      | lst hs ha =>
        cases r2 with
        | lst ks ka =>
          refine ⟨_, _, _, _, rfl, sqL_mono g1.c hs, sqL_mono g1.c ks, q _ Hs1 H1 g1 fun i Hs2 H2 s1 s2 => ?_⟩
          have h2 := sqL_mono (K := K) (s1.trans s2) hs
          have k2 := sqL_mono (K := K) (s1.trans s2) ks
          refine ⟨fun d e => ?_, fun hl => ⟨_, _, h2, k2, ?_⟩⟩
          · unfold zipD at e
            rw [List.getElem?_zipWith] at e
            cases e1 : ds[i]? with
            | none => rw [e1] at e; cases e2 : es[i]? <;> rw [e2] at e <;> cases e
            | some x =>
              cases e2 : es[i]? with
              | none => rw [e1, e2] at e; cases e
              | some y =>
                rw [e1, e2] at e
                cases Option.some.inj e
                obtain ⟨v, f1, r⟩ := ha.getD e1
                obtain ⟨w, f2, r'⟩ := ka.getD e2
                refine ⟨⟨_, _, v, w, h2, k2, f1, f2⟩, fun z H' yl => ?_⟩
                obtain ⟨T, z1, z2, rfl, hT, rfl, fz1, fz2⟩ := yl
                have : v = z1 := Option.some.inj (f1.symm.trans (fz1 _ h2))
                subst this
                have : w = z2 := Option.some.inj (f2.symm.trans (fz2 _ k2))
                subst this
                exact ⟨_, Gr.new s2 hT, rp_tup (H := H2) (same_none s2 hT) (.cons (r.mono s1) (.cons (r'.mono s1) .nil))⟩
          · unfold zipD at hl
            rw [List.length_zipWith] at hl
            rw [ha.len, ka.len]
            omega
end

/-! ### comprehensions -/
section
variable {K : PySem.W.Frag} {ρ : Rho}
/-- [e for g in wi if tt]: b and f tell of each one whether it is taken, and what it gives -/
theorem yd_lcM {α : Type} {wi : TI} {g : TG} {tt : TT} {te : TE} {vs sl : List Nat} {xs : List α} (mk : α → PyData) (b : α → Bool) (f : α → PyData) (ρ' : α → Rho) (hi : YI K wi ρ (xs.map mk)) (hl : xs.length ≤ 50000) (hsl : ∀ i ∈ sl, i ∈ vs)
    (hg : ∀ d ∈ xs, YG K g sl (wipeD ρ vs) (mk d) (ρ' d)) (ht : ∀ d ∈ xs, YT K tt (ρ' d) (b d)) (he : ∀ d ∈ xs, b d = true → YD K te (ρ' d) (f d)) : YD K (tLc wi g tt te vs) ρ (.list ((xs.filter b).map f)) := by
  intro σ Hs H e s Q q
  refine hi σ Hs H e s _ fun J Hs1 H1 g1 wk D hD => ?_
  have hD1 : Hs1 D = none := same_none g1.c hD
  have hD0 : H D = none := same_none g1.b hD
  -- after i turns
  refine ⟨fun i m H' => i + m = xs.length ∧ ∃ Hs' acc, Gr Hs H Hs' H' ∧ Same Hs1 Hs' ∧ Hs' D = none ∧ H' D = some (.lst acc) ∧ RpAll K Hs' acc (((xs.take i).filter b).map f), ⟨xs.length, by omega, Hs1, [], (g1.trans (Gr.fresh g1.c hD)), Same.refl _, hD1, upd_same, .nil⟩, ?_⟩
  rintro i m H' ⟨him, Hs', acc, gr, s1, hDs, hDl, ra⟩
  obtain ⟨w1, w2⟩ := wk i Hs' H' s1 gr.c
  by_cases hlt : i < xs.length
  · right
    have hd : xs[i]? = some xs[i] := List.getElem?_eq_getElem hlt
    have hm : xs[i] ∈ xs := List.getElem_mem hlt
    obtain ⟨go, yl⟩ := w1 (mk xs[i]) (by rw [List.getElem?_map, hd]; rfl)
    have et : xs.take (i + 1) = xs.take i ++ [xs[i]] := by rw [List.take_add_one, hd]; rfl
    refine ⟨go, fun H'' => i + 1 + (m - 1) = xs.length ∧ ∃ Hs' acc, Gr Hs H Hs' H'' ∧ Same Hs1 Hs' ∧ Hs' D = none ∧ H'' D = some (.lst acc) ∧ RpAll K Hs' acc (((xs.take (i + 1)).filter b).map f), fun H'' nx => ⟨m - 1, by omega, nx⟩, fun x H2 hy => ?_⟩
    obtain ⟨Hs2, gr2, rx⟩ := yl x H2 hy
    have hDH' : Mu (H' D) := by rw [hDl]; trivial
    have hDs2 : Hs2 D = none := gr2.d D hDH' hDs
    refine hg _ hm (wipe σ vs) Hs2 H2 x ((e.mono (gr.a.trans gr2.a)).wipe vs) gr2.c rx _ fun σ2 e2 l2 n2 => ⟨?_, ?_⟩
    · have : wipe σ2 vs = wipe (wipe σ vs) vs := wipe_ext l2 fun j hj => n2 j fun z => hj (hsl j z)
      rw [this]
      exact wipe_ext (wipe_length _ _) fun j hj => wipe_out hj
    · refine ht _ hm σ2 Hs2 H2 e2 gr2.c _ fun Hs3 H3 gr3 => ?_
      have hDH2 : Mu (H2 D) := hDH'.same gr2.b
      have hDs3 : Hs3 D = none := gr3.d D hDH2 hDs2
      have hl3 : H3 D = some (.lst acc) := gr3.b _ _ (gr2.b _ _ hDl)
      cases hb : b xs[i] with
      | true =>
        rw [if_pos rfl]
        refine he _ hm hb σ2 Hs3 H3 (e2.mono gr3.a) gr3.c _ fun y Hs4 H4 gr4 ry => ?_
        have hDH3 : Mu (H3 D) := by rw [hl3]; trivial
        have hDs4 : Hs4 D = none := gr4.d D hDH3 hDs3
        have hl4 : H4 D = some (.lst acc) := gr4.b _ _ hl3
        have hal : acc.length ≤ xs.length := by
          rw [ra.len, List.length_map]
          exact Nat.le_trans (List.length_filter_le _ _) (by rw [List.length_take]; omega)
        refine ⟨acc, hl4, sz_lt (by omega), by omega, Hs4, acc ++ [y], (((gr.trans gr2).trans gr3).trans gr4).mut hD0 hDs4, (s1.trans (gr2.a.trans (gr3.a.trans gr4.a))), hDs4, upd_same, ?_⟩
        rw [et, List.filter_append, List.map_append]
        have : ([xs[i]].filter b).map f = [f xs[i]] := by simp [hb]
        rw [this]
        exact (ra.mono (gr2.a.trans (gr3.a.trans gr4.a))).snoc ry
      | false =>
        rw [if_neg (by decide)]
        refine ⟨by omega, Hs3, acc, (gr.trans gr2).trans gr3, s1.trans (gr2.a.trans gr3.a), hDs3, hl3, ?_⟩
        rw [et, List.filter_append, List.map_append]
        have : ([xs[i]].filter b).map f = [] := by simp [hb]
        rw [this, List.append_nil]
        exact ra.mono (gr2.a.trans gr3.a)
  · left
    refine ⟨w2 (by rw [List.length_map]; omega), ?_⟩
    have hei : xs.take i = xs := List.take_of_length_le (by omega)
    rw [hei] at ra
    refine q _ (upd Hs' D (.lst acc)) H' (gr.settle hD0 hDl hDs) (rp_lst (H := H') hDs ra)
/-- .. without a test -/
theorem yd_lc0 {α : Type} {wi : TI} {g : TG} {te : TE} {vs sl : List Nat} {xs : List α} (mk : α → PyData) (f : α → PyData) (ρ' : α → Rho) (hi : YI K wi ρ (xs.map mk)) (hl : xs.length ≤ 50000) (hsl : ∀ i ∈ sl, i ∈ vs)
    (hg : ∀ d ∈ xs, YG K g sl (wipeD ρ vs) (mk d) (ρ' d)) (he : ∀ d ∈ xs, YD K te (ρ' d) (f d)) : YD K (tLc wi g tYes te vs) ρ (.list (xs.map f)) :=
  (yd_lcM mk (fun _ => true) f ρ' hi hl hsl hg (fun _ _ => yt_yes) fun d hd _ => he d hd).eq (by rw [List.filter_eq_self.mpr (fun _ _ => rfl)])
theorem YI.eq {wi : TI} {ds ds' : List PyData} (h : YI K wi ρ ds) (e : ds = ds') : YI K wi ρ ds' := e ▸ h
end
end SG
set_option Elab.async false
set_option linter.all false
set_option maxRecDepth 100000
set_option maxHeartbeats 4000000
namespace SG
open PySem PySem.Spec PyProof.Rows L2

/-! ### defs: data in, a datum out, nothing changed -/
def spD (K : PySem.W.Frag) (R : List PyData → PyData → Prop) : Sp := fun vs H Q _ => ∃ ds d Hs, R ds d ∧ Same Hs H ∧ RpAll K Hs vs ds ∧ ∀ v Hs2 H2, Gr Hs H Hs2 H2 → Rp K Hs2 v d → Q v H2
/-- .. or an error of the class X names -/
def spX (K : PySem.W.Frag) (R : List PyData → PyData → Prop) (X : List PyData → Addr → Prop) : Sp := fun vs H Q E => ∃ ds Hs, Same Hs H ∧ RpAll K Hs vs ds ∧
  ((∃ d, R ds d ∧ ∀ v Hs2 H2, Gr Hs H Hs2 H2 → Rp K Hs2 v d → Q v H2) ∨ (∃ C, X ds C ∧ ∀ Hs2 H2, Gr Hs H Hs2 H2 → E (.ref C) none H2))
section
variable {K : PySem.W.Frag} {ρ : Rho} {R : List PyData → PyData → Prop} {ta : TA} {E : XK} {ds : List PyData} {d : PyData}
theorem yd_call (h : YA K ta ρ ds) (hr : R ds d) : YD K (tCall (spD K R) [] E ta) ρ d := fun σ Hs H e s Q q => h σ Hs H e s _ fun vs Hs1 H1 g1 r1 =>
  ⟨ds, d, Hs1, hr, g1.c, by rw [List.append_nil]; exact r1, fun v Hs2 H2 g2 r2 => q v Hs2 H2 (g1.trans g2) r2⟩
def startD (N : List Str) (ds : List PyData) : Rho := ds.map some ++ List.replicate (N.length - ds.length) none
theorem env_start {N : List Str} {Hs : Hp} {vs : List V} (h : RpAll K Hs vs ds) : EnvD K Hs (L2.start N vs) (startD N ds) := by
  unfold L2.start startD
  refine ⟨by simp [h.len], fun i e q => ?_⟩
  by_cases hi : i < ds.length
  · rw [List.getElem?_append_left (by rw [List.length_map]; exact hi), List.getElem?_map] at q
    rw [List.getElem?_append_left (by rw [List.length_map, h.len]; exact hi), List.getElem?_map]
    cases e1 : ds[i]? with
    | none => rw [e1] at q; cases q
    | some y =>
      rw [e1] at q
      have : y = e := Option.some.inj (Option.some.inj q)
      subst this
      obtain ⟨v, e2, r⟩ := h.getD e1
      exact ⟨v, by rw [e2]; rfl, r⟩
  · rw [List.getElem?_append_right (by rw [List.length_map]; omega), List.getElem?_replicate] at q
    split at q <;> cases q
end
/-- a def by its name -/
structure Cal (P : Program) (w : World) (K : PySem.W.Frag) (mg : Str → Option Value) (base : Heap) (CX : CXT) (k : Nat) (x : Str) (sp : Sp) : Prop where
  ex : ∃ (f : Addr) (fd : FuncData) (ps : List Str), FnOk P w K mg base CX k f fd ps sp ∧ mg x = some (.ref f) ∧ PySem.W.keepIn K (.ref f) = true ∧ Binds K fd ps []
theorem pe_d {X : Cx} {k j : Nat} {x : Str} {sp : Sp} {e : Expr} {es : List Expr} {t : TA} {p pos : Pos} (c : Cal X.prog X.w X.K X.mg X.base CX0 k x sp) (hr : Room j X.A) (hk : k ≤ j) (hg : Gl X x) (ha : PA X (e :: es) t)
    (hd : (x == ("__debug__" : Str)) = false := by decide) (he : starEach (e :: es) X.env = (false, eval e X.env) :: starEach es X.env := by rfl) (hpl : ((backTo pos (starEach es X.env)).any fun x => x.fst) = false := by rfl) : PE X (.Call (.Name x p) (e :: es) [] pos) (tCall sp [] E0 t) := by
  obtain ⟨f, fd, ps, F, hm, hkp, hb⟩ := c.ex
  exact pe_call (F.mono hk) hr hg hm hkp hb .nil pass0 ha hd he hpl
theorem pe_gi {X : Cx} {x : Str} {pos : Pos} {i : Int} (hg : Gl X x) (h : ∃ t, X.mg x = some (.int i t)) (hd : (x == ("__debug__" : Str)) = false := by decide) : PE X (.Name x pos) (tC (.int i)) := by
  obtain ⟨t, h⟩ := h
  exact pe_glob hg h ⟨t, rfl⟩ hd
theorem pe_ty {X : Cx} {x : Str} {pos : Pos} {n : String} (hg : Gl X x) (hm : X.mg x = none) (hv : bootBuiltins x = some (.type n)) (hn : x ≠ ("__name__" : Str) := by decide) (hd : (x == ("__debug__" : Str)) = false := by decide) : PE X (.Name x pos) (tC (.ty n)) := pe_bltn hg hm hv rfl hn hd
/-- the rule of a def that lets nothing out -/
theorem okD {P : Program} {w : World} {K : PySem.W.Frag} {mg : Str → Option Value} {base : Heap} {x qual : Str} {params : Arguments} {body : List Stmt} {scope : Scope} {f : Addr} {fd : FuncData} {N ps : List Str} {k : Nat} {R : List PyData → PyData → Prop}
    (F : FunD K x qual params body scope [] [] f fd) (S : FnScope N ps scope) (len : ∀ ds d, R ds d → ds.length = ps.length)
    (hbody : ∀ (cdv : Value) (A : Around) (outer : List Env) (s : Shared) (H : Hp) (E : XK), Room k (A.deeper (envOfC qual scope s.heap.objs.size f cdv)) →
      ∃ t, PSs (cxOf CX0 P w K mg base N qual scope f cdv A outer s H E).nox body t ∧ ∀ ds d, R ds d → YR K t (startD N ds) d) : FnOk P w K mg base CX0 (k + 1) f fd ps (spD K R) := by
  refine F.ok S (fun vs H Q E h => ?_) (fun cdv A outer s H vs Q E hr h => ?_)
  · obtain ⟨ds, d, Hs, hR, _, hp, _⟩ := h
    rw [hp.len]
    exact len ds d hR
  · obtain ⟨ds, d, Hs, hR, hs, hp, q⟩ := h
    obtain ⟨t, h1, h2⟩ := hbody cdv A outer s H E hr
    exact ⟨t, h1.nox, h2 ds d hR _ Hs H (env_start hp) hs _ q⟩
theorem cal_of {P : Program} {w : World} {K : PySem.W.Frag} {mg : Str → Option Value} {base : Heap} {CX : CXT} {x y qual : Str} {params : Arguments} {body : List Stmt} {scope : Scope} {f : Addr} {fd : FuncData} {ps : List Str} {k : Nat} {sp : Sp}
    (F : FunD K y qual params body scope [] [] f fd) (m : mg x = some (.ref f)) (o : FnOk P w K mg base CX k f fd ps sp)
    (h : ∀ (kV doc pm : Value) (an : Option Addr) (cdv ct : Value) (us : List Value), us.length = ps.length → bindArgs (PySem.W.fnOf y qual params body scope .none kV doc pm an cdv ct) ⟨us, []⟩ = pure (ps.zip us)) : Cal P w K mg base CX k x sp :=
  ⟨f, fd, ps, o, m, F.kp, F.bindsN h⟩
/-! ### loops -/
/-- for g in wi: tb, by a word of the turn, the slots, what is settled, the heap -/
theorem y_for {K : PySem.W.Frag} {ρ : Rho} {wi : TI} {g : TG} {tb : TS} {ds : List PyData} {D : Ends} {σ : L2.St} {Hs H : Hp} (hi : YI K wi ρ ds) (e : EnvD K Hs σ ρ) (s : Same Hs H)
    (k : ∀ Hs1 H1, Gr Hs H Hs1 H1 → ∃ Pv : Nat → L2.St → Hp → Hp → Prop, Pv 0 σ Hs1 H1 ∧ (∀ i σ' Hs' H', Pv i σ' Hs' H' → Same Hs1 Hs' ∧ Same Hs' H') ∧
      (∀ i d σ' Hs' H', ds[i]? = some d → Pv i σ' Hs' H' → ∀ x Hs2 H2, Gr Hs' H' Hs2 H2 → Rp K Hs2 x d → g x σ' H2 fun σ2 H3 => tb { D with nx := fun σ3 H4 => ∃ Hs4, Pv (i + 1) σ3 Hs4 H4, ct := fun σ3 H4 => ∃ Hs4, Pv (i + 1) σ3 Hs4 H4, bk := D.nx } σ2 H3) ∧
      ∀ σ' Hs' H', Pv ds.length σ' Hs' H' → D.nx σ' H') : tFor wi g tb D σ H := by
  refine hi σ Hs H e s _ fun J Hs1 H1 g1 wk => ?_
  obtain ⟨Pv, p0, hG, hs, hd⟩ := k Hs1 H1 g1
  refine ⟨fun i m σ' H' => i + m = ds.length ∧ ∃ Hs', Pv i σ' Hs' H', ⟨ds.length, by omega, Hs1, p0⟩, ?_⟩
  rintro i m σ' H' ⟨him, Hs', p⟩
  obtain ⟨s1, sc⟩ := hG i σ' Hs' H' p
  obtain ⟨w1, w2⟩ := wk i Hs' H' s1 sc
  by_cases hlt : i < ds.length
  · right
    have hd1 : ds[i]? = some ds[i] := List.getElem?_eq_getElem hlt
    obtain ⟨go, yl⟩ := w1 _ hd1
    refine ⟨go, fun σ3 H4 => ∃ Hs4, Pv (i + 1) σ3 Hs4 H4, fun σ3 H4 nx => ⟨m - 1, by omega, by omega, nx⟩, fun x H2 hy => ?_⟩
    obtain ⟨Hs2, gr2, rx⟩ := yl x H2 hy
    exact hs i _ σ' Hs' H' hd1 p x Hs2 H2 gr2 rx
  · left
    have : i = ds.length := by omega
    subst this
    exact ⟨w2 (Nat.le_refl _), hd σ' Hs' H' p⟩
/-! loops without a state: each turn goes on or returns -/
theorem EnvD.weak {K : PySem.W.Frag} {Hs : Hp} {σ : L2.St} {ρ ρ' : Rho} (h : EnvD K Hs σ ρ) (hl : ρ'.length = ρ.length) (hw : ∀ (i : Nat) d, ρ'[i]? = some (some d) → ρ[i]? = some (some d)) : EnvD K Hs σ ρ' :=
  ⟨h.1.trans hl.symm, fun i d q => h.2 i d (hw i d q)⟩
/-- below, slot by slot -/
def subR : Rho → Rho → Prop
  | [], [] => True
  | none :: r, _ :: r' => subR r r'
  | some d :: r, some d' :: r' => d = d' ∧ subR r r'
  | _, _ => False
theorem subR_of : ∀ {r r' : Rho}, subR r r' → r.length = r'.length ∧ ∀ (i : Nat) d, r[i]? = some (some d) → r'[i]? = some (some d)
  | [], [], _ => ⟨rfl, fun i d h => by simp at h⟩
  | none :: r, x :: r', h => by
    obtain ⟨a, b⟩ := subR_of (r := r) (r' := r') h
    refine ⟨by simp [a], fun i d q => ?_⟩
    cases i with
    | zero => simp at q
    | succ i => simpa using b i d (by simpa using q)
  | some e :: r, some e' :: r', h => by
    obtain ⟨rfl, h⟩ := h
    obtain ⟨a, b⟩ := subR_of (r := r) (r' := r') h
    refine ⟨by simp [a], fun i d q => ?_⟩
    cases i with
    | zero => simpa using q
    | succ i => simpa using b i d (by simpa using q)
theorem EnvD.sub {K : PySem.W.Frag} {Hs : Hp} {σ : L2.St} {ρ ρ' : Rho} (h : EnvD K Hs σ ρ) (hs : subR ρ' ρ) : EnvD K Hs σ ρ' := by
  obtain ⟨a, b⟩ := subR_of hs
  exact h.weak a b
theorem yn_sub {K : PySem.W.Frag} {t : TS} {sl : List Nat} {ρ ρ1 ρ2 : Rho} (h : YN K t sl ρ ρ1) (hs : subR ρ2 ρ1) : YN K t sl ρ ρ2 := fun σ Hs H e s D q => h σ Hs H e s D fun σ' Hs2 H2 g e' n => q σ' Hs2 H2 g (e'.sub hs) n
theorem yr_for {α : Type} {K : PySem.W.Frag} {ρ ρw : Rho} {wi : TI} {g : TG} {tb u : TS} {xs : List α} {sl sl2 : List Nat} {d : PyData} (mk : α → PyData) (o : α → Option PyData) (ρ' : α → Rho) (hi : YI K wi ρ (xs.map mk)) (hw : subR ρw ρ)
    (hg : ∀ x ∈ xs, YG K g sl ρw (mk x) (ρ' x)) (hn : ∀ x ∈ xs, o x = none → YN K tb sl2 (ρ' x) ρw) (hr : ∀ x ∈ xs, ∀ r, o x = some r → YR K tb (ρ' x) r)
    (h1 : ∀ r, xs.findSome? o = some r → r = d) (h2 : xs.findSome? o = none → YR K u ρw d) : YR K (tSeq (tFor wi g tb) u) ρ d := by
  intro σ Hs H e s D q
  refine y_for (D := { D with nx := u D }) hi e s fun Hs1 H1 g1 => ⟨fun i σ' Hs' H' => Gr Hs H Hs' H' ∧ Same Hs1 Hs' ∧ EnvD K Hs' σ' ρw ∧ ∀ x ∈ xs.take i, o x = none, ⟨g1, Same.refl _, (e.mono g1.a).sub hw, by simp⟩, fun i σ' Hs' H' p => ⟨p.2.1, p.1.c⟩, ?_, ?_⟩
  · rintro i z σ' Hs' H' hz ⟨gr, s1, e1, hno⟩ v Hs2 H2 g2 rv
    rw [List.getElem?_map] at hz
    obtain ⟨x, hx, rfl⟩ := Option.map_eq_some_iff.mp hz
    have hm : x ∈ xs := List.mem_of_getElem? hx
    refine hg x hm σ' Hs2 H2 v (e1.mono g2.a) g2.c rv _ fun σ2 e2 _ _ => ?_
    cases ho : o x with
    | none =>
      refine hn x hm ho σ2 Hs2 H2 e2 g2.c _ fun σ3 Hs3 H3 g3 e3 _ => ⟨Hs3, (gr.trans g2).trans g3, s1.trans (g2.a.trans g3.a), e3, fun y hy => ?_⟩
      rw [List.take_add_one, hx] at hy
      rcases List.mem_append.mp hy with hy | hy
      · exact hno y hy
      · have : y = x := by simpa using hy
        rw [this]
        exact ho
    | some r =>
      have hi2 : i < xs.length := (List.getElem?_eq_some_iff.mp hx).1
      have e0 : xs.findSome? o = some r := by
        have ed : xs = xs.take i ++ x :: xs.drop (i + 1) := by
          have hxe : x = xs[i] := (Option.some.inj ((List.getElem?_eq_getElem hi2).symm.trans hx)).symm
          rw [hxe, List.getElem_cons_drop, List.take_append_drop]
        rw [ed, List.findSome?_append, List.findSome?_eq_none_iff.mpr (by simpa using hno), List.findSome?_cons, ho]
        rfl
      have : r = d := h1 r e0
      subst this
      exact hr x hm r ho σ2 Hs2 H2 e2 g2.c _ fun w Hs3 H3 g3 r3 => q w Hs3 H3 ((gr.trans g2).trans g3) r3
  · rintro σ' Hs' H' ⟨gr, s1, e1, hno⟩
    rw [List.length_map] at hno
    have e0 : xs.findSome? o = none := List.findSome?_eq_none_iff.mpr (by
      rw [List.take_of_length_le (Nat.le_refl _)] at hno
      simpa using hno)
    exact h2 e0 σ' Hs' H' e1 gr.c D fun w Hs3 H3 g3 r3 => q w Hs3 H3 (gr.trans g3) r3
end SG
set_option Elab.async false
set_option linter.all false
set_option maxRecDepth 100000
set_option maxHeartbeats 4000000
namespace SG
open PySem PySem.Spec PyProof.Rows L2

/-! ### built-in functions -/
def rLenS (K : PySem.W.Frag) : List V → Hp → VK → Prop := fun xs H Q => ∃ p ys, xs = [.ref p] ∧ (SqL K H p ys ∨ SqT K H p ys) ∧ Q (.int ys.length) H
theorem call_lenS {X : Cx} : CallR X (.builtin "len") (rLenS X.K) := call_len_seq
def rListS (K : PySem.W.Frag) : List V → Hp → VK → Prop := fun xs H Q => ∃ p ys, xs = [.ref p] ∧ (SqL K H p ys ∨ SqT K H p ys) ∧ ∀ l, H l = none → Q (.ref l) (upd H l (.lst ys))
theorem call_listS {X : Cx} : CallR X (.type "list") (rListS X.K) := call_list_of
def rMin2 : List V → Hp → VK → Prop := fun xs H Q => ∃ i j, xs = [.int i, .int j] ∧ Q (.int (if j < i then j else i)) H
def rMax2 : List V → Hp → VK → Prop := fun xs H Q => ∃ i j, xs = [.int i, .int j] ∧ Q (.int (if j > i then j else i)) H
theorem call_min2' {X : Cx} (hc : X.calm = true) : CallR X (.builtin "min") rMin2 := call_min2 hc
theorem call_max2' {X : Cx} (hc : X.calm = true) : CallR X (.builtin "max") rMax2 := call_max2 hc
def rAbs : List V → Hp → VK → Prop := fun xs H Q => ∃ i, xs = [.int i] ∧ Q (.int (if i < 0 then -i else i)) H
theorem call_abs' {X : Cx} : CallR X (.builtin "abs") rAbs := call_abs
section
variable {K : PySem.W.Frag} {ρ : Rho} {ta : TE}
theorem rc_lenL {ds : List PyData} : RC K (rLenS K) [.list ds] (.int ds.length) := fun vs Hs H s h Q q => by
  cases h with
  | cons h1 h2 => cases h2; cases h1 with
    | lst hs ha => exact ⟨_, _, rfl, .inl (sqL_mono s hs), by rw [ha.len]; exact q _ Hs H (Gr.refl s) (.int _)⟩
theorem rc_lenT {ds : List PyData} : RC K (rLenS K) [.tuple ds] (.int ds.length) := fun vs Hs H s h Q q => by
  cases h with
  | cons h1 h2 => cases h2; cases h1 with
    | tup hs ha => exact ⟨_, _, rfl, .inr (sqT_mono s hs), by rw [ha.len]; exact q _ Hs H (Gr.refl s) (.int _)⟩
theorem rc_listL {ds : List PyData} : RC K (rListS K) [.list ds] (.list ds) := fun vs Hs H s h Q q => by
  cases h with
  | cons h1 h2 => cases h2; cases h1 with
    | lst hs ha => exact ⟨_, _, rfl, .inl (sqL_mono s hs), fun l hl => q _ _ _ (Gr.new s hl) (rp_lst (H := H) (same_none s hl) ha)⟩
theorem rc_min {i j : Int} : RC K rMin2 [.int i, .int j] (.int (min i j)) := fun vs Hs H s h Q q => by
  cases h with
  | cons h1 h2 => cases h2 with
    | cons h2 h3 =>
      cases h3; cases h1; cases h2
      refine ⟨i, j, rfl, ?_⟩
      have : (if j < i then j else i) = min i j := by omega
      rw [this]
      exact q _ Hs H (Gr.refl s) (.int _)
theorem rc_max {i j : Int} : RC K rMax2 [.int i, .int j] (.int (max i j)) := fun vs Hs H s h Q q => by
  cases h with
  | cons h1 h2 => cases h2 with
    | cons h2 h3 =>
      cases h3; cases h1; cases h2
      refine ⟨i, j, rfl, ?_⟩
      have : (if j > i then j else i) = max i j := by omega
      rw [this]
      exact q _ Hs H (Gr.refl s) (.int _)
theorem rc_abs {i : Int} : RC K rAbs [.int i] (.int (i.natAbs : Int)) := fun vs Hs H s h Q q => by
  cases h with
  | cons h1 h2 =>
    cases h2; cases h1
    refine ⟨i, rfl, ?_⟩
    have : (if i < 0 then -i else i) = (i.natAbs : Int) := by omega
    rw [this]
    exact q _ Hs H (Gr.refl s) (.int _)
theorem rc_all {bs : List Bool} : RC K (rAll K) [.list (bs.map PyData.bool)] (.bool (bs.all id)) := fun vs Hs H s h Q q => by
  cases h with
  | cons h1 h2 => cases h2; cases h1 with
    | lst hs ha =>
      have := ha.bools_eq
      subst this
      exact ⟨_, bs, rfl, sqL_mono s hs, q _ Hs H (Gr.refl s) (.bl _)⟩
theorem rc_any {bs : List Bool} : RC K (rAny K) [.list (bs.map PyData.bool)] (.bool (bs.any id)) := fun vs Hs H s h Q q => by
  cases h with
  | cons h1 h2 => cases h2; cases h1 with
    | lst hs ha =>
      have := ha.bools_eq
      subst this
      exact ⟨_, bs, rfl, sqL_mono s hs, q _ Hs H (Gr.refl s) (.bl _)⟩
theorem rc_sum {ns : List Int} : RC K (rSum K) [.list (ns.map PyData.int)] (.int ns.sum) := fun vs Hs H s h Q q => by
  cases h with
  | cons h1 h2 => cases h2; cases h1 with
    | lst hs ha =>
      have := ha.ints_eq
      subst this
      exact ⟨_, ns, rfl, sqL_mono s hs, q _ Hs H (Gr.refl s) (.int _)⟩
theorem yd_all {α : Type} {xs : List α} {p : α → Bool} (h : YD K ta ρ (.list (xs.map fun x => .bool (p x)))) : YD K (tCB (rAll K) (tCons ta tNil)) ρ (.bool (xs.all p)) :=
  (yd_cb (ya_cons (h.eq (show PyData.list (xs.map fun x => .bool (p x)) = .list ((xs.map p).map .bool) by rw [List.map_map]; rfl)) ya_nil) rc_all).eq (by rw [List.all_map]; rfl)
theorem yd_any {α : Type} {xs : List α} {p : α → Bool} (h : YD K ta ρ (.list (xs.map fun x => .bool (p x)))) : YD K (tCB (rAny K) (tCons ta tNil)) ρ (.bool (xs.any p)) :=
  (yd_cb (ya_cons (h.eq (show PyData.list (xs.map fun x => .bool (p x)) = .list ((xs.map p).map .bool) by rw [List.map_map]; rfl)) ya_nil) rc_any).eq (by rw [List.any_map]; rfl)
theorem cutD_from {xs : List PyData} (j : Nat) : cutD xs (some (j : Int)) none = xs.drop j := by
  unfold cutD
  rw [show HT.sIx xs.length 0 (some (j : Int)) = min j xs.length from HT.sIx_nat xs.length 0 j, HT.sIx_none]
  rcases Nat.le_total j xs.length with h | h
  · rw [Nat.min_eq_left h]
    exact List.take_of_length_le (by rw [List.length_drop]; omega)
  · rw [Nat.min_eq_right h, Nat.sub_self, List.take_zero, List.drop_eq_nil_of_le h]
theorem cutD_to {xs : List PyData} (j : Nat) : cutD xs none (some (j : Int)) = xs.take j := by
  unfold cutD
  rw [HT.sIx_none, show HT.sIx xs.length xs.length (some (j : Int)) = min j xs.length from HT.sIx_nat xs.length xs.length j, List.drop_zero, Nat.sub_zero]
  rcases Nat.le_total j xs.length with h | h
  · rw [Nat.min_eq_left h]
  · rw [Nat.min_eq_right h, List.take_of_length_le (Nat.le_refl _), List.take_of_length_le h]
theorem cutD_ft {xs : List PyData} (i j : Nat) : cutD xs (some (i : Int)) (some (j : Int)) = (xs.take j).drop i := by
  unfold cutD
  rw [show HT.sIx xs.length 0 (some (i : Int)) = min i xs.length from HT.sIx_nat xs.length 0 i, show HT.sIx xs.length xs.length (some (j : Int)) = min j xs.length from HT.sIx_nat xs.length xs.length j, List.drop_take]
  rcases Nat.le_total i xs.length with h | h
  · rw [Nat.min_eq_left h]
    rcases Nat.le_total j xs.length with k | k
    · rw [Nat.min_eq_left k]
    · rw [Nat.min_eq_right k, List.take_of_length_le (by rw [List.length_drop]; omega), List.take_of_length_le (by rw [List.length_drop]; omega)]
  · rw [Nat.min_eq_right h, List.drop_eq_nil_of_le (Nat.le_refl _), List.drop_eq_nil_of_le h, List.take_nil, List.take_nil]
/-! isinstance of a built-in type -/
def tyD : PyData → String
  | .none => "NoneType"
  | .bool _ => "bool"
  | .int _ => "int"
  | .str _ => "str"
  | .list _ => "list"
  | .tuple _ => "tuple"
  | .dict _ => "dict"
def isInt : PyData → Bool
  | .bool _ => true
  | .int _ => true
  | _ => false
def isBool : PyData → Bool
  | .bool _ => true
  | _ => false
def isList : PyData → Bool
  | .list _ => true
  | _ => false
def isTup : PyData → Bool
  | .tuple _ => true
  | _ => false
theorem rp_ty {Hs H : Hp} {v : V} {d : PyData} (s : Same Hs H) (h : Rp K Hs v d) : TyX K H v (.type (tyD d)) := by
  cases h with
  | non => exact .base .non
  | bl b => exact .base (.bl b)
  | int i => exact .base (.int i)
  | str x => exact .base (.str x)
  | lst hs _ => exact .base (.lst (s _ _ hs))
  | tup hs _ => exact .base (.tup (s _ _ hs))
  | dct hs => exact .base (.dK (s _ _ hs))
theorem kit_int : ∀ d : PyData, kitB (tyD d) "int" = some (isInt d)
  | .none => (by decide +kernel : kitB "NoneType" "int" = some false)
  | .bool _ => (by decide +kernel : kitB "bool" "int" = some true)
  | .int _ => (by decide +kernel : kitB "int" "int" = some true)
  | .str _ => (by decide +kernel : kitB "str" "int" = some false)
  | .list _ => (by decide +kernel : kitB "list" "int" = some false)
  | .tuple _ => (by decide +kernel : kitB "tuple" "int" = some false)
  | .dict _ => (by decide +kernel : kitB "dict" "int" = some false)
theorem kit_bool : ∀ d : PyData, kitB (tyD d) "bool" = some (isBool d)
  | .none => (by decide +kernel : kitB "NoneType" "bool" = some false)
  | .bool _ => (by decide +kernel : kitB "bool" "bool" = some true)
  | .int _ => (by decide +kernel : kitB "int" "bool" = some false)
  | .str _ => (by decide +kernel : kitB "str" "bool" = some false)
  | .list _ => (by decide +kernel : kitB "list" "bool" = some false)
  | .tuple _ => (by decide +kernel : kitB "tuple" "bool" = some false)
  | .dict _ => (by decide +kernel : kitB "dict" "bool" = some false)
theorem kit_list : ∀ d : PyData, kitB (tyD d) "list" = some (isList d)
  | .none => (by decide +kernel : kitB "NoneType" "list" = some false)
  | .bool _ => (by decide +kernel : kitB "bool" "list" = some false)
  | .int _ => (by decide +kernel : kitB "int" "list" = some false)
  | .str _ => (by decide +kernel : kitB "str" "list" = some false)
  | .list _ => (by decide +kernel : kitB "list" "list" = some true)
  | .tuple _ => (by decide +kernel : kitB "tuple" "list" = some false)
  | .dict _ => (by decide +kernel : kitB "dict" "list" = some false)
theorem kit_tuple : ∀ d : PyData, kitB (tyD d) "tuple" = some (isTup d)
  | .none => (by decide +kernel : kitB "NoneType" "tuple" = some false)
  | .bool _ => (by decide +kernel : kitB "bool" "tuple" = some false)
  | .int _ => (by decide +kernel : kitB "int" "tuple" = some false)
  | .str _ => (by decide +kernel : kitB "str" "tuple" = some false)
  | .list _ => (by decide +kernel : kitB "list" "tuple" = some false)
  | .tuple _ => (by decide +kernel : kitB "tuple" "tuple" = some true)
  | .dict _ => (by decide +kernel : kitB "dict" "tuple" = some false)
theorem yd_isi {x : PyData} {n : String} {b : Bool} (h : YD K ta ρ x) (hk : kitB (tyD x) n = some b) : YD K (tCB (rIsi K) (tCons ta (tCons (tC (.ty n)) tNil))) ρ (.bool b) := fun σ Hs H e s Q q =>
  h σ Hs H e s _ fun v Hs1 H1 g1 r1 => ⟨v, .ty n, _, _, b, rfl, .ty n, rp_ty g1.c r1, kit_ty hk, q _ Hs1 H1 g1 (.bl _)⟩
/-! lists: +, * -/
theorem rd_cat {xs ys : List PyData} (hl : xs.length + ys.length ≤ 100000) : RD K rCat (.list xs) (.list ys) (.list (xs ++ ys)) := fun v w Hs H s h1 h2 Q q => by
  cases h1 with
  | lst hs ha => cases h2 with
    | lst ks ka => exact ⟨_, _, _, _, rfl, rfl, s _ _ hs, s _ _ ks, sz_of (by rw [ha.len, ka.len]; exact hl), fun p hp => q _ _ _ (Gr.new s hp) (rp_lst (H := H) (same_none s hp) (ha.append ka))⟩
theorem rp_rep {Hs : Hp} {vs : List V} {ds : List PyData} (h : RpAll K Hs vs ds) : ∀ n : Nat, RpAll K Hs (List.replicate n vs).flatten (List.replicate n ds).flatten
  | 0 => .nil
  | n + 1 => by
    rw [List.replicate_succ, List.replicate_succ, List.flatten_cons, List.flatten_cons]
    exact h.append (rp_rep h n)
theorem rd_rep {xs : List PyData} {k : Int} (hl : xs.length * k.toNat ≤ 100000) (h1 : -(2 ^ 63) ≤ k) (h2 : k < 2 ^ 63) : RD K rRep (.list xs) (.int k) (.list (List.replicate k.toNat xs).flatten) := fun v w Hs H s r1 r2 Q q => by
  cases r1 with
  | lst hs ha => cases r2; exact ⟨_, k, _, rfl, rfl, s _ _ hs, h1, h2, sz_of (by rw [ha.len]; exact hl), fun p hp => q _ _ _ (Gr.new s hp) (rp_lst (H := H) (same_none s hp) (rp_rep ha _))⟩
/-! pairs of ints -/
def dP (p : Int × Int) : PyData := .tuple [.int p.1, .int p.2]
def ltPr (a b : Int × Int) : Bool := decide (a.1 < b.1) || (decide (a.1 = b.1) && decide (a.2 < b.2))
theorem rd_ltT {a b : Int × Int} : RD K (rLtT K) (dP a) (dP b) (.bool (ltPr a b)) := fun v w Hs H s h1 h2 Q q => by
  cases h1 with
  | tup hs ha => cases h2 with
    | tup ks ka =>
      have e1 := RpAll.ints_eq (ns := [a.1, a.2]) ha
      have e2 := RpAll.ints_eq (ns := [b.1, b.2]) ka
      subst e1 e2
      refine ⟨_, _, [a.1, a.2], [b.1, b.2], rfl, rfl, sqT_mono s hs, sqT_mono s ks, ?_⟩
      have : HT.lexLt [a.1, a.2] [b.1, b.2] = ltPr a b := by
        simp only [HT.lexLt, ltPr]
        by_cases h1 : a.1 < b.1 <;> by_cases h2 : a.1 = b.1 <;> by_cases h3 : a.2 < b.2 <;> by_cases h4 : a.2 = b.2 <;> simp_all
      rw [this]
      exact q _ Hs H (Gr.refl s) (.bl _)
end
end SG
set_option Elab.async false
set_option linter.all false
set_option maxRecDepth 100000
set_option maxHeartbeats 4000000
namespace SG
open PySem PySem.Spec PyProof.Rows L2
/-! ### the rules with the written part named -/
section
variable {X : Cx} {K : PySem.W.Frag}
theorem op_ltTk (hK : X.K = K) (hu : X.A.units < cLine) : OpR X (compareOp .Lt) (rLtT K) := hK ▸ op_ltT hu
theorem op_eqk (hK : X.K = K) (hu : X.A.units + 64 < cLine) : OpR X (compareOp .Eq) (rEqD K) := hK ▸ op_eqD hu
theorem op_nek (hK : X.K = K) (hu : X.A.units + 64 < cLine) : OpR X (compareOp .NotEq) (rNeD K) := hK ▸ op_neD hu
theorem op_ink (hK : X.K = K) (hu : X.A.units + 65 < cLine) : OpR X (compareOp .In) (rInD K) := hK ▸ op_inD hu
theorem op_notInk (hK : X.K = K) (hu : X.A.units + 65 < cLine) : OpR X (compareOp .NotIn) (rNotInD K) := hK ▸ op_notInD hu
theorem ix_k (hK : X.K = K) : IxR X (rIx K) := hK ▸ ix_seq
theorem sl_listk (hK : X.K = K) : SlR X (rSlL K) := hK ▸ sl_list
theorem sl_tupk (hK : X.K = K) : SlR X (rSlA K) := hK ▸ sl_tupA
theorem call_isik (hK : X.K = K) : CallR X (.builtin "isinstance") (rIsi K) := hK ▸ call_isi
theorem call_lenk (hK : X.K = K) : CallR X (.builtin "len") (rLenS K) := hK ▸ call_lenS
theorem call_listk (hK : X.K = K) : CallR X (.type "list") (rListS K) := hK ▸ call_listS
theorem cr_allk (hK : X.K = K) (hc : X.calm = true) : CallR X (.builtin "all") (rAll K) := hK ▸ cr_all hc
theorem cr_anyk (hK : X.K = K) (hc : X.calm = true) : CallR X (.builtin "any") (rAny K) := hK ▸ cr_any hc
theorem cr_sumk (hK : X.K = K) (hc : X.calm = true) : CallR X (.builtin "sum") (rSum K) := hK ▸ cr_sum hc
theorem cr_sortedk (hK : X.K = K) : CallR X (.builtin "sorted") (rSortedPO K) := hK ▸ cr_sortedPO
theorem pg_tupk {pos : Pos} {es : List Expr} {k : Nat} {t : TGs} {n : Nat} (hK : X.K = K) (hc : X.calm = true) (h : PGs X es t) (h1 : (assignEach es X.env).length = n := by rfl) (h2 : (assignEach es X.env).findIdx? (fun x => x.1) = none := by rfl) : PG X (.Tuple es k pos) (gTup K n t) := hK ▸ pg_tup hc h h1 h2
theorem pi_listk {tg l : Expr} {tl : TE} (hK : X.K = K) (h : PE X l tl) : PI X tg l (iList K tl) := hK ▸ pi_list h
theorem pi_tupk {tg l : Expr} {tl : TE} (hK : X.K = K) (h : PE X l tl) : PI X tg l (iTup K tl) := hK ▸ pi_tup h
theorem pi_enumk {e : Expr} {ta : TA} {p pos tpos : Pos} {elts : List Expr} {kk : Nat} (hK : X.K = K) (hg : Gl X "enumerate") (hm : X.mg "enumerate" = none) (h : PA X [e] ta) (he : starEach [e] X.env = [(false, eval e X.env)] := by rfl) : PI X (.Tuple elts kk tpos) (.Call (.Name "enumerate" p) [e] [] pos) (iEnum K ta) := hK ▸ pi_enum hg hm h he
theorem pi_zipk {e e2 : Expr} {ta : TA} {p pos tpos : Pos} {elts : List Expr} {kk : Nat} (hK : X.K = K) (hg : Gl X "zip") (hm : X.mg "zip" = none) (h : PA X [e, e2] ta) (he : starEach [e, e2] X.env = (false, eval e X.env) :: starEach [e2] X.env := by rfl) (hp : ((backTo pos (starEach [e2] X.env)).any fun x => x.1) = false := by rfl) : PI X (.Tuple elts kk tpos) (.Call (.Name "zip" p) [e, e2] [] pos) (iZip K ta) := hK ▸ pi_zip hg hm h he hp
theorem pi_revk {tg e : Expr} {ta : TA} {p pos : Pos} (hK : X.K = K) (hg : Gl X "reversed") (hm : X.mg "reversed" = none) (h : PA X [e] ta) (he : starEach [e] X.env = [(false, eval e X.env)] := by rfl) : PI X tg (.Call (.Name "reversed" p) [e] [] pos) (iRev K ta) := hK ▸ pi_reversed hg hm h he
theorem pe_fldk {e : Expr} {f : Str} {pos : Pos} {ta : TE} (hK : X.K = K) (h : PE X e ta) (hb : attributeBase e f X.env (eval e X.env) = eval e X.env) : PE X (.Attribute e f pos) (tFld K ta f) := hK ▸ pe_fld h hb
end
/-! ### errors -/
/-- what is known of an own class of errors -/
structure Xc (K : PySem.W.Frag) (mg : Str → Option Value) (x : Str) (C : Addr) : Prop where
  mg : mg x = some (.ref C)
  ex : PySem.W.excIn K C [.type "ValueError", .type "Exception", .type "BaseException", .type "object"] "ValueError.__new__" = true
  kp : PySem.W.keepIn K (.ref C) = true
  sub : PySem.W.subIn K (.ref C) (.type "BaseException") = some true
  ty : PySem.W.typeIn K (.ref C) = some (.type "type")
def YE (K : PySem.W.Frag) (E : XK) (ts : TS) (ρ : Rho) (C : Addr) : Prop := ∀ (σ : L2.St) (Hs H : Hp), EnvD K Hs σ ρ → Same Hs H → (∀ Hs2 H2, Gr Hs H Hs2 H2 → E (.ref C) none H2) → ∀ D : Ends, ts D σ H
def YDE (K : PySem.W.Frag) (E : XK) (te : TE) (ρ : Rho) (C : Addr) : Prop := ∀ (σ : L2.St) (Hs H : Hp), EnvD K Hs σ ρ → Same Hs H → (∀ Hs2 H2, Gr Hs H Hs2 H2 → E (.ref C) none H2) → ∀ Q : VK, te σ H Q
section
variable {K : PySem.W.Frag} {E : XK} {ρ ρ1 : Rho} {C : Addr} {t u u2 : TS} {c : TT} {b : Bool} {te : TE} {ta : TA} {ds : List PyData} {d : PyData} {R : List PyData → PyData → Prop} {X : List PyData → Addr → Prop} {sl : List Nat}
theorem ye_raise : YE K E (fun _ _ H => E (.ref C) none H) ρ C := fun σ Hs H e s q D => q Hs H (Gr.refl s)
theorem ye_seqE (h : YE K E t ρ C) : YE K E (tSeq t u) ρ C := fun σ Hs H e s q D => h σ Hs H e s q _
theorem ye_seq (h : YN K t sl ρ ρ1) (k : YE K E u ρ1 C) : YE K E (tSeq t u) ρ C := fun σ Hs H e s q D => h σ Hs H e s _ fun σ1 Hs1 H1 g1 e1 _ => k σ1 Hs1 H1 e1 g1.c (fun Hs2 H2 g2 => q Hs2 H2 (g1.trans g2)) D
theorem ye_next (h : YE K E u ρ C) : YE K E (tSeq tNext u) ρ C := fun σ Hs H e s q D => h σ Hs H e s q D
theorem ye_if (h : YT K c ρ b) (h1 : b = true → YE K E t ρ C) (h2 : b = false → YE K E u ρ C) : YE K E (tIfS c t u) ρ C := fun σ Hs H e s q D => h σ Hs H e s _ fun Hs1 H1 g1 => by
  cases b with
  | true => exact h1 rfl σ Hs1 H1 (e.mono g1.a) g1.c (fun Hs2 H2 g2 => q Hs2 H2 (g1.trans g2)) D
  | false => exact h2 rfl σ Hs1 H1 (e.mono g1.a) g1.c (fun Hs2 H2 g2 => q Hs2 H2 (g1.trans g2)) D
theorem ye_ifs (h : YT K c ρ b) (h1 : b = true → YE K E (tSeq t u2) ρ C) (h2 : b = false → YE K E (tSeq u u2) ρ C) : YE K E (tSeq (tIfS c t u) u2) ρ C := fun σ Hs H e s q D => h σ Hs H e s _ fun Hs1 H1 g1 => by
  cases b with
  | true => exact h1 rfl σ Hs1 H1 (e.mono g1.a) g1.c (fun Hs2 H2 g2 => q Hs2 H2 (g1.trans g2)) D
  | false => exact h2 rfl σ Hs1 H1 (e.mono g1.a) g1.c (fun Hs2 H2 g2 => q Hs2 H2 (g1.trans g2)) D
theorem ye_expr (h : YDE K E te ρ C) : YE K E (tDrop te) ρ C := fun σ Hs H e s q D => h σ Hs H e s q _
theorem ye_ret (h : YDE K E te ρ C) : YE K E (tRet te) ρ C := fun σ Hs H e s q D => h σ Hs H e s q _
theorem ye_asg {g : TG} (h : YDE K E te ρ C) : YE K E (tAsg te g) ρ C := fun σ Hs H e s q D => h σ Hs H e s q _
theorem yn_expr (h : YD K te ρ d) : YN K (tDrop te) [] ρ ρ := fun σ Hs H e s D q => h σ Hs H e s _ fun v Hs1 H1 g1 _ => q σ Hs1 H1 g1 (e.mono g1.a) fun _ _ => rfl
theorem yd_callX (h : YA K ta ρ ds) (hr : R ds d) : YD K (tCall (spX K R X) [] E ta) ρ d := fun σ Hs H e s Q q => h σ Hs H e s _ fun vs Hs1 H1 g1 r1 =>
  ⟨ds, Hs1, g1.c, by rw [List.append_nil]; exact r1, .inl ⟨d, hr, fun v Hs2 H2 g2 r2 => q v Hs2 H2 (g1.trans g2) r2⟩⟩
theorem yde_callX (h : YA K ta ρ ds) (hr : X ds C) : YDE K E (tCall (spX K R X) [] E ta) ρ C := fun σ Hs H e s q Q => h σ Hs H e s _ fun vs Hs1 H1 g1 r1 =>
  ⟨ds, Hs1, g1.c, by rw [List.append_nil]; exact r1, .inr ⟨C, hr, fun Hs2 H2 g2 => q Hs2 H2 (g1.trans g2)⟩⟩
end
theorem pe_dX {X : Cx} {k j : Nat} {x : Str} {sp : Sp} {E : XK} {e : Expr} {es : List Expr} {t : TA} {p pos : Pos} (c : Cal X.prog X.w X.K X.mg X.base (L2.CX X.prog X.w) k x sp) (hr : Room j X.A) (hk : k ≤ j) (tk : Takes X (fun cls d _ H => E cls d H)) (hg : Gl X x) (ha : PA X (e :: es) t)
    (hd : (x == ("__debug__" : Str)) = false := by decide) (he : starEach (e :: es) X.env = (false, eval e X.env) :: starEach es X.env := by rfl) (hpl : ((backTo pos (starEach es X.env)).any fun x => x.fst) = false := by rfl) : PE X (.Call (.Name x p) (e :: es) [] pos) (tCall sp [] E t) := by
  obtain ⟨f, fd, ps, F, hm, hkp, hb⟩ := c.ex
  exact pe_call (F.mono hk) hr hg hm hkp hb .nil (passes_call tk fun _ _ _ _ h => h) ha hd he hpl
/-- the rule of a def that may raise -/
theorem okX {P : Program} {w : World} {K : PySem.W.Frag} {mg : Str → Option Value} {base : Heap} {x qual : Str} {params : Arguments} {body : List Stmt} {scope : Scope} {f : Addr} {fd : FuncData} {N ps : List Str} {k : Nat} {R : List PyData → PyData → Prop} {X : List PyData → Addr → Prop}
    (F : FunD K x qual params body scope [] [] f fd) (S : FnScope N ps scope) (len1 : ∀ ds d, R ds d → ds.length = ps.length) (len2 : ∀ ds C, X ds C → ds.length = ps.length)
    (hbody : ∀ (cdv : Value) (A : Around) (outer : List Env) (s : Shared) (H : Hp) (E : XK), Room k (A.deeper (envOfC qual scope s.heap.objs.size f cdv)) →
      ∃ t, PSs (cxOf (L2.CX P w) P w K mg base N qual scope f cdv A outer s H E) body t ∧ (∀ ds d, R ds d → YR K t (startD N ds) d ∨ (d = .none ∧ ∃ ρ' sl, YN K t sl (startD N ds) ρ')) ∧ (∀ ds C, X ds C → YE K E t (startD N ds) C)) : FnOk P w K mg base (L2.CX P w) (k + 1) f fd ps (spX K R X) := by
  refine F.ok S (fun vs H Q E h => ?_) (fun cdv A outer s H vs Q E hr h => ?_)
  · obtain ⟨ds, Hs, _, hp, ⟨d, hR, _⟩ | ⟨C, hX, _⟩⟩ := h
    · rw [hp.len]
      exact len1 ds d hR
    · rw [hp.len]
      exact len2 ds C hX
  · obtain ⟨ds, Hs, hs, hp, h⟩ := h
    obtain ⟨t, h1, h2, h3⟩ := hbody cdv A outer s H E hr
    refine ⟨t, h1, ?_⟩
    rcases h with ⟨d, hR, q⟩ | ⟨C, hX, q⟩
    · rcases h2 ds d hR with h2 | ⟨rfl, ρ', sl, h2⟩
      · exact h2 _ Hs H (env_start hp) hs _ q
      · exact h2 _ Hs H (env_start hp) hs _ fun σ' Hs2 H2 g e _ => q _ Hs2 H2 g .non
    · exact h3 ds C hX _ Hs H (env_start hp) hs q _
end SG
set_option Elab.async false
set_option linter.all false
set_option maxRecDepth 100000
set_option maxHeartbeats 4000000
namespace SG
open PySem PySem.Spec PyProof.Rows L2
/-! ### sorting pairs -/
theorem ltPr_iff {a b : Int × Int} : ltPr a b = true ↔ a.1 < b.1 ∨ (a.1 = b.1 ∧ a.2 < b.2) := by
  simp [ltPr]
def lePr (a b : Int × Int) : Bool := !ltPr b a
theorem lePr_iff {a b : Int × Int} : lePr a b = true ↔ a.1 < b.1 ∨ (a.1 = b.1 ∧ a.2 ≤ b.2) := by
  unfold lePr
  rw [Bool.not_eq_true', ← Bool.not_eq_true, ltPr_iff]
  omega
def insP (x : Int × Int) : List (Int × Int) → List (Int × Int)
  | [] => [x]
  | y :: r => if lePr x y then x :: y :: r else y :: insP x r
def sortP : List (Int × Int) → List (Int × Int)
  | [] => []
  | x :: r => insP x (sortP r)
theorem insP_perm (x : Int × Int) : ∀ l, (insP x l).Perm (x :: l)
  | [] => List.Perm.refl _
  | y :: r => by
    unfold insP
    split
    · exact List.Perm.refl _
    · exact ((insP_perm x r).cons y).trans (List.Perm.swap x y r)
theorem sortP_perm : ∀ l, (sortP l).Perm l
  | [] => List.Perm.refl _
  | x :: r => (insP_perm x _).trans ((sortP_perm r).cons x)
theorem sortP_len (l : List (Int × Int)) : (sortP l).length = l.length := (sortP_perm l).length_eq
theorem sortP_mem {l : List (Int × Int)} {x : Int × Int} : x ∈ sortP l ↔ x ∈ l := (sortP_perm l).mem_iff
theorem insP_srt (x : Int × Int) : ∀ {l : List (Int × Int)}, l.Pairwise (fun a b => lePr a b = true) → (insP x l).Pairwise (fun a b => lePr a b = true)
  | [], _ => by simp [insP]
  | y :: r, h => by
    obtain ⟨h1, h2⟩ := List.pairwise_cons.mp h
    unfold insP
    split
    · rename_i hx
      refine List.pairwise_cons.mpr ⟨fun z hz => ?_, h⟩
      rcases List.mem_cons.mp hz with rfl | hz
      · exact hx
      · have a := lePr_iff.mp hx
        have b := lePr_iff.mp (h1 z hz)
        exact lePr_iff.mpr (by omega)
    · rename_i hx
      refine List.pairwise_cons.mpr ⟨fun z hz => ?_, insP_srt x h2⟩
      rcases List.mem_cons.mp ((insP_perm x r).mem_iff.mp hz) with rfl | hz
      · have a := mt lePr_iff.mpr hx
        exact lePr_iff.mpr (by omega)
      · exact h1 z hz
theorem sortP_srt : ∀ l, (sortP l).Pairwise (fun a b => lePr a b = true)
  | [] => List.Pairwise.nil
  | x :: r => insP_srt x (sortP_srt r)
theorem srt_uniq : ∀ {l m : List (Int × Int)}, l.Pairwise (fun a b => lePr a b = true) → m.Pairwise (fun a b => lePr a b = true) → l.Perm m → l = m
  | [], m, _, _, h => (List.Perm.eq_nil h.symm).symm
  | x :: l, [], _, _, h => absurd h.length_eq (by simp)
  | x :: l, y :: m, hl, hm, h => by
    obtain ⟨l1, l2⟩ := List.pairwise_cons.mp hl
    obtain ⟨m1, m2⟩ := List.pairwise_cons.mp hm
    have e : x = y := by
      have a : lePr x y = true := by
        rcases List.mem_cons.mp (h.mem_iff.mpr (List.mem_cons_self (a := y) (l := m))) with e | hy
        · rw [e]; exact lePr_iff.mpr (by omega)
        · exact l1 y hy
      have b : lePr y x = true := by
        rcases List.mem_cons.mp (h.mem_iff.mp (List.mem_cons_self (a := x) (l := l))) with e | hy
        · rw [e]; exact lePr_iff.mpr (by omega)
        · exact m1 x hy
      have a := lePr_iff.mp a
      have b := lePr_iff.mp b
      exact Prod.ext (by omega) (by omega)
    subst e
    rw [srt_uniq l2 m2 h.cons_inv]
theorem dP_inj {a b : Int × Int} (h : dP a = dP b) : a = b := by
  simp [dP] at h
  exact Prod.ext h.1 h.2
section
variable {K : PySem.W.Frag}
theorem rp_pair {Hs : Hp} {v : V} {p : Int × Int} (h : Rp K Hs v (dP p)) : ∃ t, v = .ref t ∧ Hs t = some (.tup [.int p.1, .int p.2]) := by
  cases h with
  | tup hs ha =>
    have e := RpAll.ints_eq (ns := [p.1, p.2]) ha
    subst e
    exact ⟨_, rfl, hs⟩
theorem rp_of_pair {Hs : Hp} {t : Addr} {p : Int × Int} (h : Hs t = some (.tup [.int p.1, .int p.2])) : Rp K Hs (.ref t) (dP p) := .tup h (.cons (.int _) (.cons (.int _) .nil))
theorem rp_pair_fn {Hs : Hp} {v : V} {p q : Int × Int} (h : Rp K Hs v (dP p)) (k : Rp K Hs v (dP q)) : p = q := by
  obtain ⟨t, rfl, h1⟩ := rp_pair h
  obtain ⟨u, e, k1⟩ := rp_pair k
  cases e
  rw [h1] at k1
  simp at k1
  exact Prod.ext k1.1 k1.2
open Classical in
noncomputable def keyP (K : PySem.W.Frag) (Hs : Hp) (v : V) : Int × Int := if h : ∃ p, Rp K Hs v (dP p) then h.choose else (0, 0)
theorem keyP_eq {Hs : Hp} {v : V} {p : Int × Int} (h : Rp K Hs v (dP p)) : keyP K Hs v = p := by
  have hx : ∃ p, Rp K Hs v (dP p) := ⟨p, h⟩
  unfold keyP
  rw [dif_pos hx]
  exact rp_pair_fn hx.choose_spec h
theorem keyP_map {Hs : Hp} : ∀ {vs : List V} {ps : List (Int × Int)}, RpAll K Hs vs (ps.map dP) → vs.map (keyP K Hs) = ps
  | _, [], .nil => rfl
  | _, p :: ps, .cons a b => by rw [List.map_cons, keyP_eq a, keyP_map b]
theorem keyP_mem {Hs : Hp} : ∀ {vs : List V} {ps : List (Int × Int)}, RpAll K Hs vs (ps.map dP) → ∀ v ∈ vs, Rp K Hs v (dP (keyP K Hs v))
  | _, [], .nil, v, hv => nomatch hv
  | _, p :: ps, .cons a b, v, hv => by
    rcases List.mem_cons.mp hv with e | hv
    · rw [e, keyP_eq a]; exact a
    · exact keyP_mem b v hv
theorem keyP_all {Hs : Hp} : ∀ {vs : List V}, (∀ v ∈ vs, Rp K Hs v (dP (keyP K Hs v))) → RpAll K Hs vs ((vs.map (keyP K Hs)).map dP)
  | [], _ => .nil
  | v :: vs, h => .cons (h v List.mem_cons_self) (keyP_all fun u hu => h u (List.mem_cons_of_mem _ hu))
theorem lexB_lt {a b : Int × Int} : SrtO.lexB a b = ltPr a b := by
  have h1 := SrtO.lexB_iff (p := a) (q := b)
  have h2 := ltPr_iff (a := a) (b := b)
  have h3 : (SrtO.lexB a b = true) ↔ (ltPr a b = true) := h1.trans h2.symm
  cases e : SrtO.lexB a b <;> cases e' : ltPr a b <;> simp [e, e'] at h3 ⊢
/-- sorted rearrangements of a list of pairs, as data -/
theorem srt_data {Hs : Hp} {xs ys : List V} {ps : List (Int × Int)} (h : RpAll K Hs xs (ps.map dP)) (hs : SrtO.Srtd (ltP (keyP K Hs)) ys) (hp : ys.Perm xs) : RpAll K Hs ys ((sortP ps).map dP) := by
  have h1 := keyP_all (K := K) (Hs := Hs) (vs := ys) fun v hv => keyP_mem h v (hp.mem_iff.mp hv)
  have e : ys.map (keyP K Hs) = sortP ps := by
    refine srt_uniq ?_ (sortP_srt ps) ?_
    · rw [List.pairwise_map]
      refine List.Pairwise.imp (fun {a b} hab => ?_) hs
      unfold lePr
      rw [← lexB_lt]
      have z : SrtO.lexB (keyP K Hs b) (keyP K Hs a) = false := hab
      rw [z]
      rfl
    · have := hp.map (keyP K Hs)
      rw [keyP_map h] at this
      exact this.trans (sortP_perm ps).symm
  rw [e] at h1
  exact h1
theorem rc_sortedP {ps : List (Int × Int)} : RC K (rSortedPO K) [.list (ps.map dP)] (.list ((sortP ps).map dP)) := fun vs Hs H s h Q q => by
  cases h with
  | cons h1 h2 => cases h2; cases h1 with
    | lst hs ha =>
      refine ⟨_, _, keyP K Hs, rfl, sqL_mono s hs, fun x hx => ?_, fun ys p h1 h2 hp => ?_⟩
      · obtain ⟨t, e, ht⟩ := rp_pair (keyP_mem ha x hx)
        exact ⟨t, e, s _ _ ht⟩
      · exact q _ _ _ (Gr.new s hp) (rp_lst (H := H) (same_none s hp) (srt_data ha h1 h2.perm))
/-! ### a list that may still change, read for a moment -/
theorem EnvD.own {Hs : Hp} {σ : L2.St} {ρ : Rho} {j : Nat} {p : Addr} {vs : List V} {ds : List PyData} (h : EnvD K Hs σ ρ) (hσ : σ[j]? = some (some (.ref p))) (hp : Hs p = none) (ha : RpAll K Hs vs ds) : EnvD K (upd Hs p (.lst vs)) σ (ρ.set j (some (.list ds))) := by
  have h2 := (h.mono (same_new (o := .lst vs) hp)).set j (rp_lst (H := Hs) hp ha)
  have e : σ.set j (some (.ref p)) = σ := by
    apply List.ext_getElem?
    intro i
    by_cases hi : i = j
    · subst hi
      have hl := (List.getElem?_eq_some_iff.mp hσ).1
      rw [List.getElem?_set_self hl, hσ]
    · rw [List.getElem?_set_ne (Ne.symm hi)]
  rw [e] at h2
  exact h2
theorem same_own {Hs H : Hp} {p : Addr} {o : HO} (s : Same Hs H) (h : H p = some o) : Same (upd Hs p o) H := fun b x e => by
  by_cases hb : b = p
  · subst hb
    rw [upd_same] at e
    rw [h]
    exact e
  · rw [upd_ne hb] at e
    exact s b x e
/-- l.append(e), l a list that may change -/
theorem s_append {j : Nat} {σ : L2.St} {Hs H : Hp} {p : Addr} {vs : List V} {te : TE} {ρ : Rho} {d : PyData} {D : Ends} (hσ : σ[j]? = some (some (.ref p))) (hp : H p = some (.lst vs)) (h : YD K te ρ d) (e : EnvD K Hs σ ρ) (s : Same Hs H) (hl : vs.length < 50000)
    (k : ∀ v Hs2 H2, Gr Hs H Hs2 H2 → Rp K Hs2 v d → D.nx σ (upd H2 p (.lst (vs ++ [v])))) : tDrop (tBM K "list" rAppend (tVar j) (tCons te tNil)) D σ H :=
  ⟨.ref p, hσ, .inl ⟨rfl, vs, .inl (.inl hp)⟩, h σ Hs H e s _ fun v Hs2 H2 g r => ⟨p, vs, v, rfl, rfl, g.b _ _ hp, sz_lt (by omega), k v Hs2 H2 g r⟩⟩
end
/-! ### shapes and equality -/
theorem shp {d : PyData} (h1 : d.canLay0 = true) (h2 : d.depth ≤ 64) : SeqAt.shaped d = true := by
  unfold SeqAt.shaped
  rw [h1, decide_eq_true h2]
  rfl
theorem lay_pairs : ∀ ps : List (Int × Int), PyData.canLayAll0 (ps.map dP) = true
  | [] => rfl
  | p :: ps => by
    show ((dP p).canLay0 && PyData.canLayAll0 (ps.map dP)) = true
    rw [lay_pairs ps]
    rfl
theorem depth_pairs : ∀ ps : List (Int × Int), PyData.depthAll (ps.map dP) ≤ 1
  | [] => by decide
  | p :: ps => by
    show max (dP p).depth (PyData.depthAll (ps.map dP)) ≤ 1
    have h := depth_pairs ps
    have : (dP p).depth = 1 := rfl
    omega
theorem shp_pair (p : Int × Int) : SeqAt.shaped (dP p) = true := rfl
theorem shp_pairs (ps : List (Int × Int)) : SeqAt.shaped (.list (ps.map dP)) = true := shp (lay_pairs ps) (by
  show PyData.depthAll (ps.map dP) + 1 ≤ 64
  have := depth_pairs ps
  omega)
theorem eqv_pair (a b : Int × Int) : PyData.eqv (dP a) (dP b) = decide (a = b) := by
  show ((a.1 == b.1) && ((a.2 == b.2) && true)) = decide (a = b)
  by_cases h : a = b
  · subst h
    simp
  · rw [decide_eq_false h]
    have : ¬ (a.1 = b.1 ∧ a.2 = b.2) := fun z => h (Prod.ext z.1 z.2)
    by_cases h1 : a.1 = b.1 <;> by_cases h2 : a.2 = b.2 <;> simp_all
theorem any_pairs (q : Int × Int) : ∀ ps : List (Int × Int), (ps.map dP).any (fun z => PyData.eqv z (dP q)) = decide (q ∈ ps)
  | [] => rfl
  | p :: ps => by
    rw [List.map_cons, List.any_cons, any_pairs q ps, eqv_pair]
    by_cases h : p = q
    · subst h
      simp
    · rw [decide_eq_false h, Bool.false_or]
      by_cases h2 : q ∈ ps
      · rw [decide_eq_true h2, decide_eq_true (List.mem_cons_of_mem _ h2)]
      · rw [decide_eq_false h2, decide_eq_false fun z => (List.mem_cons.mp z).elim (fun e => h e.symm) h2]
end SG
set_option Elab.async false
set_option linter.all false
set_option maxRecDepth 100000
set_option maxHeartbeats 4000000
namespace SG
open PySem PySem.Spec PyProof.Rows L2
/-! ### sorted(d), the keys of d pairs of ints -/
def rSortedDT : List V → Hp → VK → Prop := fun xs H Q => ∃ (d : Addr) (kvs : List (List Key × V)) (k : V → Int × Int), xs = [.ref d] ∧ Rd H d (.dT kvs) ∧
  (∀ bs, IsKeys H kvs bs → ∀ b ∈ bs, H b = some (.tup [.int (k (.ref b)).1, .int (k (.ref b)).2])) ∧
  ∀ bs ys p, IsKeys H kvs bs → SrtO.Srtd (ltP k) ys → SrtO.Stb (ltP k) ys (bs.map V.ref) → H p = none → Q (.ref p) (upd H p (.lst ys))
section
variable {X : Cx}
theorem call_sortedDT (hc : X.calm = true) : CallR X (.builtin "sorted") rSortedDT := by
  intro pins s σ H xs us Q I r h
  obtain ⟨d, kvs, k, rfl, hd, hk, q⟩ := h
  obtain ⟨u, rfl, rx⟩ := vals1 r
  cases rx
  obtain ⟨z, hs, ks, pr, o, es, ep, ho, hx, hdt, he, hn⟩ := (show ObjOk X.prog X.w H s.heap d (.dT kvs) from hd.ok I.hok)
  have l1 : es.size = ks.length := size_of_entries he
  have l2 : kvs.length = ks.length := Paired.length pr
  have isk := isKeys_of pr
  have hkb := hk _ isk
  refine Calls.call_function_entry PyProof.Rows.kind_sorted PyProof.Rows.plain_sorted PyProof.Rows.entry_sorted (PyProof.Rows.args_sorted1 _) ?_
  unfold Builtin.«sorted»
  refine wpAny_bind (m := checkCount "sorted" 1 1 _) (wpAny_pure ?_)
  refine wpAny_bind (PySem.W.kdu_collect (A := X.A.in1) (kdl_raw hs hx hdt) (I.ok.hd hc) ho (by omega) fun h' tk acc' kp it => ?_)
  have ea : acc'.toList = ks.map fun x => Value.ref x.2.1 := by
    have hl : acc'.toList.length = ks.length := by rw [Array.length_toList, it.1]; exact l1
    apply List.ext_getElem?
    intro j
    rw [List.getElem?_map]
    cases hj : acc'.toList[j]? with
    | none =>
      have h1 := List.getElem?_eq_none_iff.mp hj
      rw [List.getElem?_eq_none (by omega)]
      all_goals rfl
    | some v =>
      obtain ⟨en, hen, hv⟩ := it.2 j v (by rw [← Array.getElem?_toList]; exact hj)
      have qe := entry_at he j
      rw [hen] at qe
      cases hb : ks[j]? with
      | none =>
        rw [hb] at qe
        exact nomatch (show some en = none from qe)
      | some b =>
        rw [hb] at qe
        have e2 : en = entryOfKey (tupleKind (mixKind X.prog X.w)) b := Option.some.inj qe
        rw [hv, e2]
        all_goals rfl
  have eb : acc'.toList = (ks.map fun x => x.2.1).map Value.ref := by rw [ea, List.map_map]; all_goals rfl
  generalize hbs : (ks.map fun x => x.2.1) = bs at eb isk hkb
  have hbl : bs.length = ks.length := by rw [← hbs, List.length_map]
  have I1 : Inv X pins σ H { s with heap := h', toks := tk } := I.kept kp
  have hz : acc'.toList.length ≤ sizeLine := by rw [eb, List.length_map]; omega
  refine wpAny_bind (wpAny_newList ?_ hz)
  have hoL : (h'.push (seqObj "list" acc'.toList.toArray 0)).get? h'.objs.size = some (seqObj "list" acc'.toList.toArray 0) := Heap.get?_push_size _ rfl
  show wpAny _ _ _ _ _ { s with heap := h'.push (seqObj "list" acc'.toList.toArray 0), toks := tk }
  let kk : Value → Int × Int := fun u => match u with | .ref b => k (.ref b) | _ => (0, 0)
  have hp : ∀ v ∈ acc'.toList, Srt.IsPair (h'.push (seqObj "list" acc'.toList.toArray 0)) v (kk v).1 (kk v).2 := fun v hv => by
    rw [eb] at hv
    obtain ⟨b, hb, rfl⟩ := List.mem_map.mp hv
    obtain ⟨_, its2, r2, o2, ho2, hc2, n2, hd2⟩ := I1.hok _ _ (hkb b hb)
    obtain ⟨u1, u2, rfl, ri, rj⟩ := vals2 r2
    obtain ⟨t1, rfl⟩ := ri
    obtain ⟨t2, rfl⟩ := rj
    exact ⟨b, o2, t1, t2, n2, rfl, Heap.get?_push_of_some _ ho2, hc2, hd2⟩
  refine wpAny_bind (wpAny_holding (wpAny_call_entry PyProof.Rows.slot_list_sort ⟨_, hoL, rfl⟩ PyProof.Rows.entry_list_sort
    (SrtO.list_sort_ord (s := { s with heap := h'.push (seqObj "list" acc'.toList.toArray 0), toks := tk }) (SrtO.swo_lex kk) hoL hz (fun h2 => SrtO.pairs_sortableO (by omega) hp fun o' e => ?_) fun out g1 g2 => ⟨_, rfl, ?_⟩) (PyProof.Rows.args_list_sort _)))
  · have e' : some o' = some (seqObj "list" acc'.toList.toArray 0) := e.symm.trans hoL
    cases e'
    intro c
    exact absurd (Value.type.inj c) (by decide)
  · obtain ⟨e', he'⟩ := PyProof.Rows.sortedHeap_at (vs := acc'.toList) (out := out.toArray) hoL
    have hmem : ∀ u ∈ out, ∃ b ∈ bs, u = Value.ref b := fun u hu => by
      have := g2.perm.mem_iff.mp hu
      rw [eb] at this
      obtain ⟨b, hb, e⟩ := List.mem_map.mp this
      exact ⟨b, hb, e.symm⟩
    let bk : Value → V := fun u => match u with | .ref b => .ref b | _ => .non
    have rv : Vals (out.map bk) out := by
      have : ∀ l : List Value, (∀ u ∈ l, ∃ b ∈ bs, u = Value.ref b) → Vals (l.map bk) l := fun l => by
        induction l with
        | nil => exact fun _ => .nil
        | cons u l ih =>
          intro h
          obtain ⟨b, _, rfl⟩ := h u List.mem_cons_self
          exact .cons rfl (ih fun w hw => h w (List.mem_cons_of_mem _ hw))
      exact this out hmem
    have e3 : acc'.toList.map bk = bs.map V.ref := by rw [eb, List.map_map]; rfl
    have hk2 : ∀ u ∈ out, k (bk u) = kk u := fun u hu => by
      obtain ⟨b, _, rfl⟩ := hmem u hu
      rfl
    have s1 : SrtO.Srtd (ltP k) (out.map bk) := by
      refine List.pairwise_map.mpr ?_
      refine List.Pairwise.imp_of_mem (fun {a b} ha hb hab => ?_) g1
      show SrtO.lexB (k (bk b)) (k (bk a)) = false
      rw [hk2 a ha, hk2 b hb]
      exact hab
    have s2 : SrtO.Stb (ltP k) (out.map bk) (bs.map V.ref) := by
      rw [← e3]
      -- bk is carried over: kk = k after bk on both
      have hk3 : ∀ u ∈ acc'.toList, k (bk u) = kk u := fun u hu => hk2 u (g2.perm.mem_iff.mpr hu)
      refine ⟨g2.perm.map bk, fun x => ?_⟩
      have key : ∀ l : List Value, (∀ u ∈ l, k (bk u) = kk u) → (∀ u ∈ l, ∃ b ∈ bs, u = Value.ref b) → (l.map bk).filter (SrtO.eqv (ltP k) x) = (l.filter fun u => !SrtO.lexB (k x) (kk u) && !SrtO.lexB (kk u) (k x)).map bk := fun l => by
        induction l with
        | nil => exact fun _ _ => rfl
        | cons u l ih =>
          intro h1 h2
          have e1 : SrtO.eqv (ltP k) x (bk u) = (!SrtO.lexB (k x) (kk u) && !SrtO.lexB (kk u) (k x)) := by
            show (!SrtO.lexB (k x) (k (bk u)) && !SrtO.lexB (k (bk u)) (k x)) = _
            rw [h1 u List.mem_cons_self]
          have ih2 := ih (fun w hw => h1 w (List.mem_cons_of_mem _ hw)) fun w hw => h2 w (List.mem_cons_of_mem _ hw)
          rw [List.map_cons, List.filter_cons, List.filter_cons, e1]
          by_cases hh : (!SrtO.lexB (k x) (kk u) && !SrtO.lexB (kk u) (k x)) = true
          · rw [if_pos hh, if_pos hh, List.map_cons, ih2]
          · rw [if_neg hh, if_neg hh, ih2]
      rw [key out hk2 hmem, key acc'.toList hk3 fun u hu => hmem u (g2.perm.mem_iff.mpr hu)]
      by_cases hne : ∃ u ∈ out, (!SrtO.lexB (k x) (kk u) && !SrtO.lexB (kk u) (k x)) = true
      · obtain ⟨u, hu, hh⟩ := hne
        have hx2 : SrtO.lexB (k x) (kk u) = false ∧ SrtO.lexB (kk u) (k x) = false := by simpa using hh
        have exu : k x = kk u := by
          have a := SrtO.lexB_no.mp hx2.1
          have b := SrtO.lexB_no.mp hx2.2
          exact Prod.ext (by omega) (by omega)
        rw [exu]
        exact congrArg (List.map bk) (g2.cls u)
      · have no : ∀ l : List Value, (∀ u ∈ l, u ∈ out) → l.filter (fun u => !SrtO.lexB (k x) (kk u) && !SrtO.lexB (kk u) (k x)) = [] := fun l hl => List.filter_eq_nil_iff.mpr fun u hu q => hne ⟨u, hl u hu, q⟩
        rw [no out fun _ h => h, no acc'.toList fun u hu => g2.perm.mem_iff.mpr hu]
    have hlen : (out.map bk).length ≤ sizeLine := by
      rw [List.length_map, g2.perm.length_eq]
      exact hz
    refine wpAny_pure ⟨_, rfl, .ref h'.objs.size, upd H h'.objs.size (.lst (out.map bk)), I1.laid (t' := tk) (fun b u e => ?_) (Nat.le_refl _)
      (show ObjOk X.prog X.w _ _ _ (.lst (out.map bk)) from ⟨hlen, out, e', rv, he'⟩), rfl, q bs _ _ isk s1 s2 (I1.hok.fresh (Nat.le_refl _))⟩
    have hb : b < h'.objs.size := Heap.lt_size e
    rw [PyProof.Rows.sortedHeap_old (Nat.ne_of_lt hb) (by rw [size_push']; exact Nat.lt_succ_of_lt hb)]
    exact Heap.get?_push_of_some _ e
end
end SG
set_option Elab.async false
set_option linter.all false
set_option maxRecDepth 100000
set_option maxHeartbeats 4000000
namespace SG
open PySem PySem.Spec PyProof.Rows L2
/-! ### growth but for some changing objects -/
structure GrX (ms : List Addr) (Hs H Hs2 H2 : Hp) : Prop where
  a : Same Hs Hs2
  b : ∀ x o, x ∉ ms → H x = some o → H2 x = some o
  c : Same Hs2 H2
  d : ∀ x, Mu (H x) → Hs x = none → Hs2 x = none
  e : ∀ x, H x ≠ none → H2 x ≠ none
  m : ∀ x, Mu (H x) → Mu (H2 x)
section
variable {ms : List Addr} {Hs H Hs1 H1 Hs2 H2 : Hp} {p : Addr} {o : HO}
theorem Gr.x (g : Gr Hs H Hs2 H2) : GrX ms Hs H Hs2 H2 := ⟨g.a, fun x o _ h => g.b x o h, g.c, g.d, fun x h z => h (same_none g.b z), fun x h => h.same g.b⟩
theorem GrX.trans (g : GrX ms Hs H Hs1 H1) (k : GrX ms Hs1 H1 Hs2 H2) : GrX ms Hs H Hs2 H2 :=
  ⟨g.a.trans k.a, fun x o h1 h2 => k.b x o h1 (g.b x o h1 h2), k.c, fun x h1 h2 => k.d x (g.m x h1) (g.d x h1 h2), fun x h => k.e x (g.e x h), fun x h => k.m x (g.m x h)⟩
theorem GrX.mono {ms' : List Addr} (g : GrX ms Hs H Hs1 H1) (h : ∀ x ∈ ms, x ∈ ms') : GrX ms' Hs H Hs1 H1 :=
  ⟨g.a, fun x o h1 h2 => g.b x o (fun z => h1 (h x z)) h2, g.c, g.d, g.e, g.m⟩
/-- an object of ms is changed -/
theorem GrX.put (g : GrX ms Hs H Hs1 H1) (hm : p ∈ ms) (hs : Hs1 p = none) (ho : Mu (some o) := by trivial) : GrX ms Hs H Hs1 (upd H1 p o) where
  a := g.a
  b := fun x u h1 h2 => by
    rw [upd_ne (fun z => h1 (by rw [z]; exact hm))]
    exact g.b x u h1 h2
  c := fun x u e => by
    rw [upd_ne (ne_of_none e hs)]
    exact g.c x u e
  d := g.d
  e := fun x h => by
    by_cases hx : x = p
    · subst hx
      rw [upd_same]
      exact fun z => nomatch z
    · rw [upd_ne hx]
      exact g.e x h
  m := fun x h => by
    by_cases hx : x = p
    · subst hx
      rw [upd_same]
      exact ho
    · rw [upd_ne hx]
      exact g.m x h
theorem GrX.fresh (g : GrX ms Hs H Hs1 H1) (hp : H1 p = none) : GrX ms Hs H Hs1 (upd H1 p o) where
  a := g.a
  b := fun x u h1 h2 => by
    rw [upd_ne (ne_of_none (g.b x u h1 h2) hp)]
    exact g.b x u h1 h2
  c := g.c.trans (same_new hp)
  d := g.d
  e := fun x h => by
    by_cases hx : x = p
    · subst hx
      rw [upd_same]
      exact fun z => nomatch z
    · rw [upd_ne hx]
      exact g.e x h
  m := fun x h => by
    have hx : x ≠ p := fun z => by
      have := g.m x h
      rw [z, hp] at this
      exact this
    rw [upd_ne hx]
    exact g.m x h
theorem GrX.none (g : GrX ms Hs H Hs1 H1) (hp : H1 p = Option.none) : H p = Option.none := by
  cases e : H p with
  | none => rfl
  | some o => exact absurd hp (g.e p (by rw [e]; exact fun z => nomatch z))
/-- pure growth behind -/
theorem GrX.gr (g : GrX ms Hs H Hs1 H1) (k : Gr Hs1 H1 Hs2 H2) : GrX ms Hs H Hs2 H2 := g.trans k.x
end
/-! ### slots written out -/
section
variable {K : PySem.W.Frag} {Hs : Hp} {σ : L2.St} {ρ : Rho}
theorem env_nil : EnvD K Hs [] [] := ⟨rfl, fun i d h => by simp at h⟩
theorem env_some {v : V} {d : PyData} (r : Rp K Hs v d) (h : EnvD K Hs σ ρ) : EnvD K Hs (some v :: σ) (some d :: ρ) := by
  refine ⟨congrArg (· + 1) h.1, fun i e q => ?_⟩
  cases i with
  | zero =>
    have : d = e := by simpa using q
    subst this
    exact ⟨v, rfl, r⟩
  | succ i => simpa using h.2 i e (by simpa using q)
theorem env_none {x : Option V} (h : EnvD K Hs σ ρ) : EnvD K Hs (x :: σ) (none :: ρ) := by
  refine ⟨congrArg (· + 1) h.1, fun i e q => ?_⟩
  cases i with
  | zero => simp at q
  | succ i => simpa using h.2 i e (by simpa using q)
end
/-! ### dicts whose keys are pairs -/
def kp (k : Int × Int) : List Key := [.inl k.1, .inl k.2]
theorem kp_inj {a b : Int × Int} (h : kp a = kp b) : a = b := by
  simp [kp] at h
  exact Prod.ext h.1 h.2
theorem kp_tup (k : Int × Int) : (kp k).map kV = [.int k.1, .int k.2] := rfl
def RpT (K : PySem.W.Frag) (Hs : Hp) : List (List Key × V) → List ((Int × Int) × PyData) → Prop
  | [], [] => True
  | (k, v) :: r, (k', d) :: r' => k = kp k' ∧ Rp K Hs v d ∧ RpT K Hs r r'
  | _, _ => False
def lookT (kt : List ((Int × Int) × PyData)) (k : Int × Int) : Option PyData := (kt.find? fun q => decide (q.1 = k)).map (·.2)
def putT (kt : List ((Int × Int) × PyData)) (k : Int × Int) (d : PyData) : List ((Int × Int) × PyData) :=
  if (kt.any fun q => decide (q.1 = k)) = true then kt.map (fun q => if q.1 = k then (q.1, d) else q) else kt ++ [(k, d)]
section
variable {K : PySem.W.Frag}
theorem RpT.mono {Hs Hs2 : Hp} (e : Same Hs Hs2) : ∀ {kvs : List (List Key × V)} {kt : List ((Int × Int) × PyData)}, RpT K Hs kvs kt → RpT K Hs2 kvs kt
  | [], [], _ => trivial
  | (k, v) :: r, (k', d) :: r', h => ⟨h.1, h.2.1.mono e, RpT.mono e h.2.2⟩
theorem RpT.len {Hs : Hp} : ∀ {kvs : List (List Key × V)} {kt : List ((Int × Int) × PyData)}, RpT K Hs kvs kt → kvs.length = kt.length
  | [], [], _ => rfl
  | (k, v) :: r, (k', d) :: r', h => congrArg (· + 1) (RpT.len h.2.2)
theorem RpT.look {Hs : Hp} (k : Int × Int) : ∀ {kvs : List (List Key × V)} {kt : List ((Int × Int) × PyData)}, RpT K Hs kvs kt → (∀ d, lookT kt k = some d → ∃ v, valV kvs (kp k) = some v ∧ Rp K Hs v d) ∧ (lookT kt k = none → valV kvs (kp k) = none)
  | [], [], _ => ⟨fun d h => (nomatch h), fun _ => rfl⟩
  | (k1, v) :: r, (k', d) :: r', h => by
    obtain ⟨rfl, hv, hr⟩ := h
    obtain ⟨i1, i2⟩ := RpT.look k hr
    by_cases e : k' = k
    · subst e
      rw [valV_pos rfl]
      refine ⟨fun d' hd => ?_, fun hn => ?_⟩
      · simp [lookT] at hd
        subst hd
        exact ⟨v, rfl, hv⟩
      · simp [lookT] at hn
    · have e2 : ¬ kp k' = kp k := fun z => e (kp_inj z)
      rw [valV_neg e2]
      have e3 : lookT ((k', d) :: r') k = lookT r' k := by simp [lookT, List.find?_cons, e]
      rw [e3]
      exact ⟨i1, i2⟩
theorem RpT.any {Hs : Hp} (k : Int × Int) : ∀ {kvs : List (List Key × V)} {kt : List ((Int × Int) × PyData)}, RpT K Hs kvs kt → (kvs.any fun q => decide (q.1 = kp k)) = kt.any fun q => decide (q.1 = k)
  | [], [], _ => rfl
  | (k1, v) :: r, (k', d) :: r', h => by
    obtain ⟨rfl, hv, hr⟩ := h
    rw [List.any_cons, List.any_cons, RpT.any k hr]
    congr 1
    by_cases e : k' = k
    · subst e; simp
    · rw [decide_eq_false e, decide_eq_false fun z => e (kp_inj z)]
theorem RpT.snoc {Hs : Hp} {k : Int × Int} {v : V} {d : PyData} (hv : Rp K Hs v d) : ∀ {kvs : List (List Key × V)} {kt : List ((Int × Int) × PyData)}, RpT K Hs kvs kt → RpT K Hs (kvs ++ [(kp k, v)]) (kt ++ [(k, d)])
  | [], [], _ => ⟨rfl, hv, trivial⟩
  | (k1, v) :: r, (k', d) :: r', h => ⟨h.1, h.2.1, RpT.snoc hv h.2.2⟩
theorem RpT.repl {Hs : Hp} {k : Int × Int} {v : V} {d : PyData} (hv : Rp K Hs v d) : ∀ {kvs : List (List Key × V)} {kt : List ((Int × Int) × PyData)}, RpT K Hs kvs kt → RpT K Hs (kvs.map fun q => if q.1 = kp k then (q.1, v) else q) (kt.map fun q => if q.1 = k then (q.1, d) else q)
  | [], [], _ => trivial
  | (k1, v1) :: r, (k', d1) :: r', h => by
    obtain ⟨rfl, h1, hr⟩ := h
    have ih := RpT.repl (k := k) hv hr
    rw [List.map_cons, List.map_cons]
    by_cases e : k' = k
    · subst e
      rw [if_pos rfl, if_pos rfl]
      exact ⟨rfl, hv, ih⟩
    · rw [if_neg e, if_neg (fun z => e (kp_inj z))]
      exact ⟨rfl, h1, ih⟩
theorem RpT.put {Hs : Hp} {k : Int × Int} {v : V} {d : PyData} {kvs : List (List Key × V)} {kt : List ((Int × Int) × PyData)} (h : RpT K Hs kvs kt) (hv : Rp K Hs v d) : RpT K Hs (putK kvs (kp k) v) (putT kt k d) := by
  unfold putK putT
  rw [h.any k]
  split
  · exact RpT.repl hv h
  · exact RpT.snoc hv h
theorem RpT.isSome {Hs : Hp} {k : Int × Int} {kvs : List (List Key × V)} {kt : List ((Int × Int) × PyData)} (h : RpT K Hs kvs kt) : (valV kvs (kp k)).isSome = (lookT kt k).isSome := by
  obtain ⟨h1, h2⟩ := h.look k
  cases e : lookT kt k with
  | none =>
    rw [h2 e]
    rfl
  | some d =>
    obtain ⟨v, e2, _⟩ := h1 d e
    rw [e2]
    rfl
/-- the keys, sorted: a list of key tuples -/
theorem keys_of {Hs H : Hp} : ∀ {kvs : List (List Key × V)} {kt : List ((Int × Int) × PyData)} {bs : List Addr}, RpT K Hs kvs kt → IsKeys H kvs bs → RpAll K H (bs.map V.ref) ((kt.map (·.1)).map dP)
  | [], [], _, _, .nil => .nil
  | (k, v) :: r, (k', d) :: r', _, h, .cons h1 h2 => by
    obtain ⟨rfl, _, hr⟩ := h
    exact .cons (rp_of_pair h1) (keys_of hr h2)
theorem rp_settle {H : Hp} : ∀ {ps : List (Int × Int)} {ys : List V} {Hs : Hp}, RpAll K H ys (ps.map dP) → Same Hs H → ∃ Hs', Gr Hs H Hs' H ∧ RpAll K Hs' ys (ps.map dP)
  | [], _, Hs, .nil, s => ⟨Hs, Gr.refl s, .nil⟩
  | p :: ps, _, Hs, .cons h1 h2, s => by
    obtain ⟨Hs1, g1, r1⟩ := rp_settle h2 s
    obtain ⟨t, rfl, ht⟩ := rp_pair h1
    have g2 := Gr.tup g1.c ht
    exact ⟨_, g1.trans g2, .cons (rp_of_pair upd_same) (r1.mono g2.a)⟩
theorem rc_sortedDT {H : Hp} {d : Addr} {kvs : List (List Key × V)} {kt : List ((Int × Int) × PyData)} {Hs : Hp} {Q : VK} (hd : H d = some (.dT kvs)) (ht : RpT K Hs kvs kt) (s : Same Hs H)
    (q : ∀ p ys, H p = none → RpAll K H ys ((sortP (kt.map (·.1))).map dP) → Q (.ref p) (upd H p (.lst ys))) : rSortedDT [.ref d] H Q := by
  refine ⟨d, kvs, keyP K H, rfl, .inl hd, fun bs hb b hm => ?_, fun bs ys p hb h1 h2 hp => q p ys hp (srt_data (keys_of ht hb) h1 h2.perm)⟩
  obtain ⟨t, e, ht⟩ := rp_pair (keyP_mem (keys_of ht hb) (.ref b) (List.mem_map.mpr ⟨b, hm, rfl⟩))
  cases e
  exact ht
/-! ### a comprehension at one place -/
theorem lc_atU {α : Type} {ρ : Rho} {wi : TI} {g : TG} {tt : TT} {te : TE} {vs sl : List Nat} {xs : List α} {σ : L2.St} {Hs H : Hp} {Q : VK} (mk : α → PyData) (b : α → Bool) (f : α → PyData) (ρ' : α → Rho) (e : EnvD K Hs σ ρ) (s : Same Hs H)
    (hi : ∀ R : It → Hp → Prop, (∀ J Hs1 H1, Gr Hs H Hs1 H1 → WalkD K J Hs1 (xs.map mk) → R J H1) → wi σ H R) (hl : xs.length ≤ 50000) (hsl : ∀ i ∈ sl, i ∈ vs)
    (hg : ∀ d ∈ xs, YG K g sl (wipeD ρ vs) (mk d) (ρ' d))
    (ht : ∀ d ∈ xs, ∀ σ' Hs' H', Gr Hs H Hs' H' → EnvD K Hs' σ' (ρ' d) → (∀ i, i ∉ vs → σ'[i]? = σ[i]?) → ∀ R : Bool → Hp → Prop, (∀ Hs2 H2, Gr Hs' H' Hs2 H2 → R (b d) H2) → tt σ' H' R)
    (he : ∀ d ∈ xs, b d = true → ∀ σ' Hs' H', Gr Hs H Hs' H' → EnvD K Hs' σ' (ρ' d) → (∀ i, i ∉ vs → σ'[i]? = σ[i]?) → ∀ R : VK, (∀ v Hs2 H2, Gr Hs' H' Hs2 H2 → Rp K Hs2 v (f d) → R v H2) → te σ' H' R)
    (q : ∀ a acc Hs2 H2, Gr Hs H Hs2 H2 → H a = none → Hs2 a = none → H2 a = some (.lst acc) → RpAll K Hs2 acc ((xs.filter b).map f) → Q (.ref a) H2) : tLc wi g tt te vs σ H Q := by
  refine hi _ fun J Hs1 H1 g1 wk D hD => ?_
  have hD1 : Hs1 D = none := same_none g1.c hD
  have hD0 : H D = none := same_none g1.b hD
  refine ⟨fun i m H' => i + m = xs.length ∧ ∃ Hs' acc, Gr Hs H Hs' H' ∧ Same Hs1 Hs' ∧ Hs' D = none ∧ H' D = some (.lst acc) ∧ RpAll K Hs' acc (((xs.take i).filter b).map f), ⟨xs.length, by omega, Hs1, [], (g1.trans (Gr.fresh g1.c hD)), Same.refl _, hD1, upd_same, .nil⟩, ?_⟩
  rintro i m H' ⟨him, Hs', acc, gr, s1, hDs, hDl, ra⟩
  obtain ⟨w1, w2⟩ := wk i Hs' H' s1 gr.c
  by_cases hlt : i < xs.length
  · right
    have hd : xs[i]? = some xs[i] := List.getElem?_eq_getElem hlt
    have hm : xs[i] ∈ xs := List.getElem_mem hlt
    obtain ⟨go, yl⟩ := w1 (mk xs[i]) (by rw [List.getElem?_map, hd]; rfl)
    have et : xs.take (i + 1) = xs.take i ++ [xs[i]] := by rw [List.take_add_one, hd]; rfl
    refine ⟨go, fun H'' => i + 1 + (m - 1) = xs.length ∧ ∃ Hs' acc, Gr Hs H Hs' H'' ∧ Same Hs1 Hs' ∧ Hs' D = none ∧ H'' D = some (.lst acc) ∧ RpAll K Hs' acc (((xs.take (i + 1)).filter b).map f), fun H'' nx => ⟨m - 1, by omega, nx⟩, fun x H2 hy => ?_⟩
    obtain ⟨Hs2, gr2, rx⟩ := yl x H2 hy
    have hDH' : Mu (H' D) := by rw [hDl]; trivial
    have hDs2 : Hs2 D = none := gr2.d D hDH' hDs
    refine hg _ hm (wipe σ vs) Hs2 H2 x ((e.mono (gr.a.trans gr2.a)).wipe vs) gr2.c rx _ fun σ2 e2 l2 n2 => ⟨?_, ?_⟩
    · have : wipe σ2 vs = wipe (wipe σ vs) vs := wipe_ext l2 fun j hj => n2 j fun z => hj (hsl j z)
      rw [this]
      exact wipe_ext (wipe_length _ _) fun j hj => wipe_out hj
    · have n3 : ∀ j, j ∉ vs → σ2[j]? = σ[j]? := fun j hj => (n2 j fun z => hj (hsl j z)).trans (wipe_out hj)
      refine ht _ hm σ2 Hs2 H2 (gr.trans gr2) e2 n3 _ fun Hs3 H3 gr3 => ?_
      have hDH2 : Mu (H2 D) := hDH'.same gr2.b
      have hDs3 : Hs3 D = none := gr3.d D hDH2 hDs2
      have hl3 : H3 D = some (.lst acc) := gr3.b _ _ (gr2.b _ _ hDl)
      cases hb : b xs[i] with
      | true =>
        rw [if_pos rfl]
        refine he _ hm hb σ2 Hs3 H3 ((gr.trans gr2).trans gr3) (e2.mono gr3.a) n3 _ fun y Hs4 H4 gr4 ry => ?_
        have hDH3 : Mu (H3 D) := by rw [hl3]; trivial
        have hDs4 : Hs4 D = none := gr4.d D hDH3 hDs3
        have hl4 : H4 D = some (.lst acc) := gr4.b _ _ hl3
        have hal : acc.length ≤ xs.length := by
          rw [ra.len, List.length_map]
          exact Nat.le_trans (List.length_filter_le _ _) (by rw [List.length_take]; omega)
        refine ⟨acc, hl4, sz_lt (by omega), by omega, Hs4, acc ++ [y], (((gr.trans gr2).trans gr3).trans gr4).mut hD0 hDs4, (s1.trans (gr2.a.trans (gr3.a.trans gr4.a))), hDs4, upd_same, ?_⟩
        rw [et, List.filter_append, List.map_append]
        have : ([xs[i]].filter b).map f = [f xs[i]] := by simp [hb]
        rw [this]
        exact (ra.mono (gr2.a.trans (gr3.a.trans gr4.a))).snoc ry
      | false =>
        rw [if_neg (by decide)]
        refine ⟨by omega, Hs3, acc, (gr.trans gr2).trans gr3, s1.trans (gr2.a.trans gr3.a), hDs3, hl3, ?_⟩
        rw [et, List.filter_append, List.map_append]
        have : ([xs[i]].filter b).map f = [] := by simp [hb]
        rw [this, List.append_nil]
        exact ra.mono (gr2.a.trans gr3.a)
  · left
    refine ⟨w2 (by rw [List.length_map]; omega), ?_⟩
    have hei : xs.take i = xs := List.take_of_length_le (by omega)
    rw [hei] at ra
    exact q D acc Hs' H' gr hD0 hDs hDl ra
end
end SG
set_option Elab.async false
set_option linter.all false
set_option maxRecDepth 100000
set_option maxHeartbeats 4000000
namespace SG
open PySem PySem.Spec PyProof.Rows L2
/-! ### o.m(e, ..) where what is raised is wished for at the caller's slots -/
def tMethE (C : Addr) (m : Str) (sp : Sp) (E : L2.St → XK) (ta : TE) (t : TA) : TE := fun σ H Q => ta σ H fun x H1 => ∃ a dx fs, x = .ref a ∧ H1 a = some (.ins C dx fs) ∧ fs.lookup m = none ∧ t σ H1 fun vs H2 => sp (x :: vs) H2 Q (E σ)
theorem pe_methE {X : Cx} {CX : CXT} {k : Nat} {f C : Addr} {fd : FuncData} {ps : List Str} {sp : Sp} {E : L2.St → XK} {m : Str} {pos apos : Pos} {e o : Expr} {es : List Expr} {ta : TE} {t : TA} {pl : Sem Bool} (he : PE X o ta) (c : Cls X.K C) (hm : Meth X.K C m f) (F : FnOk X.prog X.w X.K X.mg X.base CX k f fd ps sp) (hr : Room k X.A) (hb : Binds X.K fd ps []) (hx : ∀ σ, PassesAt CX X σ (E σ)) (ha : PA X (e :: es) t)
    (hst : starEach (e :: es) X.env = (false, eval e X.env) :: starEach es X.env := by rfl) (hpl : (backTo pos (starEach es X.env)).any (·.1) = false := by rfl)
    (ht : eval (.Call (.Attribute o m apos) (e :: es) [] pos) X.env = (do
      let ov ← eval o X.env
      standAt apos.atName
      let (f, first) ← holding [ov] (getMethod ov m pl)
      callWith pos f first (backTo pos (starEach (e :: es) X.env)) (backToKw pos (keywordEach [] X.env))) := by rfl) :
    PE X (.Call (.Attribute o m apos) (e :: es) [] pos) (tMethE C m sp E ta t) := by
  refine ⟨fun pins s σ H Q I h => ?_⟩
  refine PySem.W.methodCall_KW (pl := pl) (thn (he.run pins s σ H _ I h) fun u s1 ⟨x, H1, I1, rx, a, dx, fs, ex, ea, l, q⟩ => ?_) ht
  subst ex
  obtain rfl : u = Value.ref a := rx
  refine getmeth_ok I1 ea c hm l ?_
  refine PySem.W.callWith_K (first := [.ref a]) (h₀ := X.base) I.ok.mod.kin hm.kp (thn (ha.run pos pins s1 σ H1 _ I1 q) fun us s2 ⟨vs, H2, I2, r, q2⟩ => ⟨I2.kIn, ?_⟩) hst hpl
  exact run_fnS (us := .ref a :: us) (vs := .ref a :: vs) F hr hb (hx σ) I2 (.cons rfl r) q2
/-! ### x is True -/
def rIsX (neg : Bool) : R2 := fun x y H Q => ∃ b : Bool, y = .bl b ∧ ((∃ a, x = .bl a) ∨ (∃ i, x = .int i) ∨ x = .non) ∧ Q (.bl (if neg then !decide (x = y) else decide (x = y))) H
section
variable {X : Cx}
theorem op_isX : OpR X (compareOp .Is) (rIsX false) := by
  intro pins s σ H x y v u Q I rx ry h
  obtain ⟨b, rfl, hx, q⟩ := h
  cases (show u = Value.bool b from ry)
  rcases hx with ⟨a, rfl⟩ | ⟨i, rfl⟩ | rfl
  · cases (show v = Value.bool a from rx)
    by_cases e : a = b
    · subst e
      exact wpAny_is_self rfl ⟨.bl true, H, I, rfl, by simpa using q⟩
    · exact wpAny_is_other rfl (fun z => e (Value.bool.inj z)) ⟨.bl false, H, I, rfl, by simpa [e] using q⟩
  · obtain ⟨t, rfl⟩ := (show ∃ t, v = Value.int i t from rx)
    exact wpAny_is_other rfl (fun z => nomatch z) ⟨.bl false, H, I, rfl, by simpa using q⟩
  · cases (show v = Value.none from rx)
    exact wpAny_is_other rfl (fun z => nomatch z) ⟨.bl false, H, I, rfl, by simpa using q⟩
end
def rListDT : List V → Hp → VK → Prop := fun xs H Q => ∃ d kvs, xs = [V.ref d] ∧ Rd H d (.dT kvs) ∧ ∀ p bs, H p = none → IsKeys H kvs bs → Q (.ref p) (upd H p (.lst (bs.map V.ref)))
theorem call_listDT {X : Cx} (hc : X.calm = true) : CallR X (.type "list") rListDT := call_list_dT hc
def rInsert : V → List V → Hp → VK → Prop := fun x vs H Q => ∃ (l : Addr) (xs : List V) (i : Int) (y : V), x = .ref l ∧ vs = [.int i, y] ∧ H l = some (.lst xs) ∧ xs.length < sizeLine ∧ 0 ≤ i ∧ i < 2 ^ 63 ∧ Q .non (upd H l (.lst (xs.take i.toNat ++ [y] ++ xs.drop i.toNat)))
theorem mt_ins {X : Cx} : MtR X "list.insert" rInsert := mt_insert
end SG
set_option Elab.async false
set_option linter.all false
set_option maxRecDepth 100000
set_option maxHeartbeats 4000000
namespace SG
open PySem PySem.Spec PyProof.Rows L2
/-! ### one list that a def fills: it stands in a slot, in the heap, not in what is settled -/
structure GrO (p : Addr) (Hs H Hs2 H2 : Hp) : Prop where
  a : Same Hs Hs2
  b : ∀ x o, x ≠ p → H x = some o → H2 x = some o
  c : Same Hs2 H2
  d : ∀ x, x ≠ p → Mu (H x) → Hs x = none → Hs2 x = none
section
variable {p : Addr} {Hs0 H0 Hs H Hs1 H1 Hs2 H2 : Hp}
theorem Gr.o (g : Gr Hs H Hs1 H1) : GrO p Hs H Hs1 H1 := ⟨g.a, fun x o _ h => g.b x o h, g.c, fun x _ h1 h2 => g.d x h1 h2⟩
theorem GrO.mu (g : GrO p Hs H Hs1 H1) {x : Addr} (n : x ≠ p) (h : Mu (H x)) : Mu (H1 x) := by
  cases e : H x with
  | none => rw [e] at h; exact h.elim
  | some o => rw [g.b x o n e, ← e]; exact h
theorem GrO.trans (g : GrO p Hs H Hs1 H1) (k : GrO p Hs1 H1 Hs2 H2) : GrO p Hs H Hs2 H2 :=
  ⟨g.a.trans k.a, fun x o n h => k.b x o n (g.b x o n h), k.c, fun x n h1 h2 => k.d x n (g.mu n h1) (g.d x n h1 h2)⟩
theorem Gr.byO (g : Gr Hs0 H0 Hs H) (h0 : H0 p = none) (k : GrO p Hs H Hs2 H2) : Gr Hs0 H0 Hs2 H2 where
  a := g.a.trans k.a
  b := fun x o e => k.b x o (ne_of_none e h0) (g.b x o e)
  c := k.c
  d := fun x h1 h2 => by
    have n : x ≠ p := fun z => by rw [z, h0] at h1; exact h1
    exact k.d x n (h1.same g.b) (g.d x h1 h2)
end
structure Ow (K : PySem.W.Frag) (i : Nat) (σ : L2.St) (Hs H : Hp) (p : Addr) (ds : List PyData) : Prop where
  sl : σ[i]? = some (some (.ref p))
  ns : Hs p = none
  ls : ∃ vs, H p = some (.lst vs) ∧ RpAll K Hs vs ds
/-- t goes on; the list at slot i goes from ds to ds' -/
def YM (K : PySem.W.Frag) (t : TS) (i : Nat) (sl : List Nat) (ρ : Rho) (ds : List PyData) (ρ' : Rho) (ds' : List PyData) : Prop :=
  ∀ (σ : L2.St) (Hs H : Hp) (p : Addr), EnvD K Hs σ ρ → Same Hs H → Ow K i σ Hs H p ds → ∀ D : Ends, (∀ σ' Hs2 H2, GrO p Hs H Hs2 H2 → EnvD K Hs2 σ' ρ' → Ow K i σ' Hs2 H2 p ds' → (∀ j, j ∉ sl → σ'[j]? = σ[j]?) → D.nx σ' H2) → t D σ H
def YMR (K : PySem.W.Frag) (t : TS) (i : Nat) (ρ : Rho) (ds : List PyData) (d : PyData) : Prop :=
  ∀ (σ : L2.St) (Hs H : Hp) (p : Addr), EnvD K Hs σ ρ → Same Hs H → Ow K i σ Hs H p ds → ∀ D : Ends, (∀ v Hs2 H2, GrO p Hs H Hs2 H2 → Rp K Hs2 v d → D.rt v H2) → t D σ H
section
variable {K : PySem.W.Frag} {ρ ρ1 ρ2 : Rho} {te : TE} {t u : TS} {c : TT} {d : PyData} {b : Bool} {i j : Nat} {sl sl2 : List Nat} {ds ds1 ds2 : List PyData}
theorem Ow.gr {σ : L2.St} {Hs H Hs2 H2 : Hp} {p : Addr} (o : Ow K i σ Hs H p ds) (g : Gr Hs H Hs2 H2) : Ow K i σ Hs2 H2 p ds := by
  obtain ⟨h1, h2, vs, h3, h4⟩ := o
  exact ⟨h1, g.d p (by rw [h3]; trivial) h2, vs, g.b _ _ h3, h4.mono g.a⟩
theorem Ow.sig {σ σ' : L2.St} {Hs H : Hp} {p : Addr} (o : Ow K i σ Hs H p ds) (h : σ'[i]? = σ[i]?) : Ow K i σ' Hs H p ds := ⟨h.trans o.sl, o.ns, o.ls⟩
theorem ym_n (h : YN K t sl ρ ρ1) (hi : i ∉ sl) : YM K t i sl ρ ds ρ1 ds := fun σ Hs H p e s o D q => h σ Hs H e s D fun σ' Hs2 H2 g e2 n => q σ' Hs2 H2 g.o e2 ((o.gr g).sig (n i hi)) n
theorem ym_next : YM K tNext i [] ρ ds ρ ds := ym_n yn_next (by simp)
theorem ym_seq (h : YM K t i sl ρ ds ρ1 ds1) (k : YM K u i sl2 ρ1 ds1 ρ2 ds2) : YM K (tSeq t u) i (sl ++ sl2) ρ ds ρ2 ds2 := fun σ Hs H p e s o D q => h σ Hs H p e s o _ fun σ1 Hs1 H1 g1 e1 o1 n1 => k σ1 Hs1 H1 p e1 g1.c o1 D fun σ2 Hs2 H2 g2 e2 o2 n2 => q σ2 Hs2 H2 (g1.trans g2) e2 o2 fun j hj => (n2 j fun z => hj (List.mem_append_right _ z)).trans (n1 j fun z => hj (List.mem_append_left _ z))
theorem ym_sub (h : YM K t i sl ρ ds ρ1 ds1) (hs : subR ρ2 ρ1) : YM K t i sl ρ ds ρ2 ds1 := fun σ Hs H p e s o D q => h σ Hs H p e s o D fun σ' Hs2 H2 g e2 o2 n => q σ' Hs2 H2 g (e2.sub hs) o2 n
theorem ym_eq (h : YM K t i sl ρ ds ρ1 ds1) (e : ds1 = ds2) : YM K t i sl ρ ds ρ1 ds2 := e ▸ h
/-- the list is looked at: nothing is kept of the look but a scalar -/
theorem Ow.look {σ : L2.St} {Hs H : Hp} {p : Addr} (o : Ow K i σ Hs H p ds) (e : EnvD K Hs σ ρ) (s : Same Hs H) : ∃ Hs', Same Hs Hs' ∧ Same Hs' H ∧ EnvD K Hs' σ (ρ.set i (some (.list ds))) := by
  obtain ⟨h1, h2, vs, h3, h4⟩ := o
  exact ⟨upd Hs p (.lst vs), same_new h2, same_own s h3, e.own h1 h2 h4⟩
theorem ym_if (h : YT K c (ρ.set i (some (.list ds))) b) (h1 : b = true → YM K t i sl ρ ds ρ1 ds1) (h2 : b = false → YM K u i sl2 ρ ds ρ1 ds1) : YM K (tIfS c t u) i (sl ++ sl2) ρ ds ρ1 ds1 := by
  intro σ Hs H p e s o D q
  obtain ⟨Hs', s1, s2, e1⟩ := o.look e s
  refine h σ Hs' H e1 s2 _ fun Hsx H1 gx => ?_
  have g1 : Gr Hs H Hs H1 := Gr.back s1 gx
  cases b with
  | true => exact h1 rfl σ Hs H1 p e g1.c (o.gr g1) D fun σ2 Hs2 H2 g2 e2 o2 n2 => q σ2 Hs2 H2 (g1.o.trans g2) e2 o2 fun j hj => n2 j fun z => hj (List.mem_append_left _ z)
  | false => exact h2 rfl σ Hs H1 p e g1.c (o.gr g1) D fun σ2 Hs2 H2 g2 e2 o2 n2 => q σ2 Hs2 H2 (g1.o.trans g2) e2 o2 fun j hj => n2 j fun z => hj (List.mem_append_right _ z)
theorem ym_asgS (h : YD K te (ρ.set i (some (.list ds))) d) (hs : scalD d = true) (hij : i ≠ j) : YM K (tAsg te (gName j)) i [j] ρ ds (ρ.set j (some d)) ds := by
  intro σ Hs H p e s o D q
  obtain ⟨Hs', s1, s2, e1⟩ := o.look e s
  refine h σ Hs' H e1 s2 _ fun v Hsx H1 gx r => ?_
  have g1 : Gr Hs H Hs H1 := Gr.back s1 gx
  exact q _ Hs H1 g1.o (e.set j (r.scal hs)) ((o.gr g1).sig (List.getElem?_set_ne (fun z => hij z.symm))) fun k hk => List.getElem?_set_ne fun z => hk (by rw [z]; exact List.mem_singleton_self _)
theorem ym_app (h : YD K te ρ d) (hl : ds.length < 50000) : YM K (tDrop (tBM K "list" rAppend (tVar i) (tCons te tNil))) i [] ρ ds ρ (ds ++ [d]) := by
  intro σ Hs H p e s o D q
  obtain ⟨h1, h2, vs, h3, h4⟩ := o
  refine s_append (d := d) h1 h3 h e s (by rw [h4.len]; omega) fun u Hs2 H2 g r => ?_
  have n2 : Hs2 p = none := g.d p (by rw [h3]; trivial) h2
  refine q σ Hs2 _ ⟨g.a, fun x o n hx => by rw [upd_ne n]; exact g.b x o hx, fun x o hx => by rw [upd_ne (ne_of_none hx n2)]; exact g.c x o hx, fun x n m hx => g.d x m hx⟩ (e.mono g.a) ⟨h1, n2, vs ++ [u], upd_same, (h4.mono g.a).snoc r⟩ fun _ _ => rfl
theorem ym_for {α : Type} {wi : TI} {g : TG} {tb : TS} {xs : List α} {slg slb : List Nat} {ρw : Rho} (mk : α → PyData) (acc : Nat → List PyData) (ρ' : Nat → α → Rho) (hi : YI K wi ρ (xs.map mk)) (hw : subR ρw ρ) (hn : i ∉ slg)
    (hg : ∀ k x, xs[k]? = some x → YG K g slg ρw (mk x) (ρ' k x)) (hb : ∀ k x, xs[k]? = some x → YM K tb i slb (ρ' k x) (acc k) ρw (acc (k + 1))) : YM K (tFor wi g tb) i (slg ++ slb) ρ (acc 0) ρw (acc xs.length) := by
  intro σ Hs H p e s o D q
  refine y_for hi e s fun Hs1 H1 g1 => ⟨fun k σ' Hs' H' => GrO p Hs H Hs' H' ∧ Same Hs1 Hs' ∧ EnvD K Hs' σ' ρw ∧ Ow K i σ' Hs' H' p (acc k) ∧ ∀ j, j ∉ slg ++ slb → σ'[j]? = σ[j]?, ⟨g1.o, Same.refl _, (e.mono g1.a).sub hw, o.gr g1, fun _ _ => rfl⟩, fun k σ' Hs' H' z => ⟨z.2.1, z.1.c⟩, ?_, ?_⟩
  · rintro k z σ' Hs' H' hz ⟨gr, s1, e1, o1, n1⟩ v Hs2 H2 g2 rv
    rw [List.getElem?_map] at hz
    obtain ⟨x, hx, rfl⟩ := Option.map_eq_some_iff.mp hz
    refine hg k x hx σ' Hs2 H2 v (e1.mono g2.a) g2.c rv _ fun σ2 e2 l2 n2 => ?_
    refine hb k x hx σ2 Hs2 H2 p e2 g2.c ((o1.gr g2).sig (n2 i hn)) _ fun σ3 Hs3 H3 g3 e3 o3 n3 => ⟨Hs3, (gr.trans g2.o).trans g3, s1.trans (g2.a.trans g3.a), e3, o3, fun j hj => ?_⟩
    exact (n3 j fun z => hj (List.mem_append_right _ z)).trans ((n2 j fun z => hj (List.mem_append_left _ z)).trans (n1 j hj))
  · rintro σ' Hs' H' ⟨gr, s1, e1, o1, n1⟩
    rw [List.length_map] at o1
    exact q σ' Hs' H' gr e1 o1 n1
/-- each turn puts one more into the list -/
theorem ym_forA {α : Type} {wi : TI} {g : TG} {tb : TS} {xs : List α} {slg slb : List Nat} {ρw : Rho} (mk f : α → PyData) (ρ' : α → Rho) (hi : YI K wi ρ (xs.map mk)) (hw : subR ρw ρ) (hn : i ∉ slg)
    (hg : ∀ x ∈ xs, YG K g slg ρw (mk x) (ρ' x)) (hb : ∀ x ∈ xs, ∀ acc : List PyData, acc.length ≤ ds.length + xs.length → YM K tb i slb (ρ' x) acc ρw (acc ++ [f x])) : YM K (tFor wi g tb) i (slg ++ slb) ρ ds ρw (ds ++ xs.map f) := by
  have h := ym_for (K := K) (ρ := ρ) (i := i) (tb := tb) (g := g) (slb := slb) mk (fun k => ds ++ (xs.take k).map f) (fun _ x => ρ' x) hi hw hn (fun k x hx => hg x (List.mem_of_getElem? hx)) fun k x hx => by
    have hm := List.mem_of_getElem? hx
    refine ym_eq (hb x hm (ds ++ (xs.take k).map f) ?_) ?_
    · rw [List.length_append, List.length_map, List.length_take]
      omega
    · rw [List.append_assoc, List.take_add_one, hx]
      simp
  have e1 : ds ++ (xs.take 0).map f = ds := by simp
  have e2 : ds ++ (xs.take xs.length).map f = ds ++ xs.map f := by rw [List.take_of_length_le (Nat.le_refl _)]
  rw [e1, e2] at h
  exact h
/-- a loop over values: the slots go from st k to st (k + 1) -/
theorem yn_forV {α : Type} {wi : TI} {g : TG} {tb : TS} {xs : List α} {slg slb : List Nat} (mk : α → PyData) (st : Nat → Rho) (ρ' : Nat → α → Rho) (hi : YI K wi ρ (xs.map mk)) (hw : subR (st 0) ρ)
    (hg : ∀ k x, xs[k]? = some x → YG K g slg (st k) (mk x) (ρ' k x)) (hb : ∀ k x, xs[k]? = some x → YN K tb slb (ρ' k x) (st (k + 1))) : YN K (tFor wi g tb) (slg ++ slb) ρ (st xs.length) := by
  intro σ Hs H e s D q
  refine y_for hi e s fun Hs1 H1 g1 => ⟨fun k σ' Hs' H' => Gr Hs H Hs' H' ∧ Same Hs1 Hs' ∧ EnvD K Hs' σ' (st k) ∧ ∀ j, j ∉ slg ++ slb → σ'[j]? = σ[j]?, ⟨g1, Same.refl _, (e.mono g1.a).sub hw, fun _ _ => rfl⟩, fun k σ' Hs' H' z => ⟨z.2.1, z.1.c⟩, ?_, ?_⟩
  · rintro k z σ' Hs' H' hz ⟨gr, s1, e1, n1⟩ v Hs2 H2 g2 rv
    rw [List.getElem?_map] at hz
    obtain ⟨x, hx, rfl⟩ := Option.map_eq_some_iff.mp hz
    refine hg k x hx σ' Hs2 H2 v (e1.mono g2.a) g2.c rv _ fun σ2 e2 l2 n2 => ?_
    refine hb k x hx σ2 Hs2 H2 e2 g2.c _ fun σ3 Hs3 H3 g3 e3 n3 => ⟨Hs3, (gr.trans g2).trans g3, s1.trans (g2.a.trans g3.a), e3, fun j hj => ?_⟩
    exact (n3 j fun z => hj (List.mem_append_right _ z)).trans ((n2 j fun z => hj (List.mem_append_left _ z)).trans (n1 j hj))
  · rintro σ' Hs' H' ⟨gr, s1, e1, n1⟩
    rw [List.length_map] at e1
    exact q σ' Hs' H' gr e1 n1
theorem ymr_seq (h : YM K t i sl ρ ds ρ1 ds1) (k : YMR K u i ρ1 ds1 d) : YMR K (tSeq t u) i ρ ds d := fun σ Hs H p e s o D q => h σ Hs H p e s o _ fun σ1 Hs1 H1 g1 e1 o1 n1 => k σ1 Hs1 H1 p e1 g1.c o1 D fun v Hs2 H2 g2 r => q v Hs2 H2 (g1.trans g2) r
theorem GrO.settled {Hs H Hs2 H2 : Hp} {p : Addr} {ob : HO} (hn : Hs p = none) (g : Gr (upd Hs p ob) H Hs2 H2) : GrO p Hs H Hs2 H2 :=
  ⟨(same_new hn).trans g.a, fun x o _ h => g.b x o h, g.c, fun x n m h => g.d x m (by rw [upd_ne n]; exact h)⟩
/-- the list is done -/
theorem ymr_settle (h : YR K u (ρ.set i (some (.list ds))) d) : YMR K u i ρ ds d := by
  intro σ Hs H p e s o D q
  obtain ⟨h1, h2, vs, h3, h4⟩ := o
  exact h σ _ H (e.own h1 h2 h4) (same_own s h3) D fun v Hs2 H2 g r => q v Hs2 H2 (GrO.settled h2 g) r
/-- x = [..], x is filled from now on -/
theorem yr_own {ta : TA} (h : YA K ta ρ ds) (hl : ds.length ≤ 100000) (k : YMR K u i (ρ.set i none) ds d) (hi : i < ρ.length) : YR K (tSeq (tAsg (tLst ta) (gName i)) u) ρ d := by
  intro σ Hs H e s D q
  refine h σ Hs H e s _ fun vs Hs1 H1 g1 r => ⟨by rw [r.len]; exact sz_of hl, fun p hp => ?_⟩
  have hp1 : Hs1 p = none := same_none g1.c hp
  have hp0 : H p = none := same_none g1.b hp
  have g2 : Gr Hs H Hs1 (upd H1 p (.lst vs)) := g1.trans (Gr.fresh g1.c hp)
  exact k _ Hs1 _ p ((e.mono g1.a).del (x := some (.ref p)) i) g2.c ⟨List.getElem?_set_self (by rw [e.1]; exact hi), hp1, vs, upd_same, r⟩ D fun v Hs2 H2 go rv => q v Hs2 H2 (g2.byO hp0 go) rv
/-- .. among statements: the list is settled behind t -/
theorem yn_own {ta : TA} (h : YA K ta ρ ds) (hl : ds.length ≤ 100000) (k : YM K t i sl (ρ.set i none) ds ρ1 ds1) (hi : i < ρ.length) : YN K (tSeq (tAsg (tLst ta) (gName i)) t) (i :: sl) ρ (ρ1.set i (some (.list ds1))) := by
  intro σ Hs H e s D q
  refine h σ Hs H e s _ fun vs Hs1 H1 g1 r => ⟨by rw [r.len]; exact sz_of hl, fun p hp => ?_⟩
  have hp1 : Hs1 p = none := same_none g1.c hp
  have hp0 : H p = none := same_none g1.b hp
  have g2 : Gr Hs H Hs1 (upd H1 p (.lst vs)) := g1.trans (Gr.fresh g1.c hp)
  refine k _ Hs1 _ p ((e.mono g1.a).del (x := some (.ref p)) i) g2.c ⟨List.getElem?_set_self (by rw [e.1]; exact hi), hp1, vs, upd_same, r⟩ D fun σ' Hs2 H2 go e2 o2 n2 => ?_
  obtain ⟨h1, h2, vs2, h3, h4⟩ := o2
  refine q σ' (upd Hs2 p (.lst vs2)) H2 ((g2.byO hp0 go).settle hp0 h3 h2) (e2.own h1 h2 h4) fun j hj => ?_
  have hj1 : j ≠ i := fun z => hj (by rw [z]; exact List.mem_cons_self)
  exact (n2 j fun z => hj (List.mem_cons_of_mem _ z)).trans (List.getElem?_set_ne (fun z => hj1 z.symm))
/-! a dict display -/
theorem yd_dnew : YD K tDNewK ρ (.dict []) := fun σ Hs H e s Q q p hp => q _ _ _ (Gr.new s hp) (.dct upd_same)
end
/-! x is not True -/
theorem op_isnotX {X : Cx} : OpR X (compareOp .IsNot) (rIsX true) := by
  intro pins s σ H x y v u Q I rx ry h
  obtain ⟨b, rfl, hx, q⟩ := h
  cases (show u = Value.bool b from ry)
  rcases hx with ⟨a, rfl⟩ | ⟨i, rfl⟩ | rfl
  · cases (show v = Value.bool a from rx)
    by_cases e : a = b
    · subst e
      exact wpAny_isNot_self rfl ⟨.bl false, H, I, rfl, by simpa using q⟩
    · exact wpAny_isNot_other rfl (fun z => e (Value.bool.inj z)) ⟨.bl true, H, I, rfl, by simpa [e] using q⟩
  · obtain ⟨t, rfl⟩ := (show ∃ t, v = Value.int i t from rx)
    exact wpAny_isNot_other rfl (fun z => nomatch z) ⟨.bl true, H, I, rfl, by simpa using q⟩
  · cases (show v = Value.none from rx)
    exact wpAny_isNot_other rfl (fun z => nomatch z) ⟨.bl true, H, I, rfl, by simpa using q⟩
end SG
set_option Elab.async false
set_option linter.all false
set_option maxRecDepth 100000
set_option maxHeartbeats 4000000
namespace SG
open PySem PySem.Spec PyProof.Rows L2
/-! ### truth, ranges, stars -/
def tTru (K : PySem.W.Frag) (ta : TE) : TT := fun σ H Q => ta σ H fun x H' => ∃ k, TruV K x H' k ∧ Q k H'
theorem pt_truk {X : Cx} {K : PySem.W.Frag} {a : Expr} {ta : TE} (hK : X.K = K) (ha : PE X a ta) (he : ∀ whole, isTrue a X.env whole = (do let v ← whole; standAt a.pos; holding [v] (truthy v))) : PT X a (tTru K ta) := by
  subst hK
  exact pt_truth ha he
theorem pa_stark {X : Cx} {K : PySem.W.Frag} {e : Expr} {es : List Expr} {te : TE} {t : TA} {p : Pos} (hK : X.K = K) (he : PE X e te) (hr : PA X es t) (hs : starEach (.Starred e p :: es) X.env = (true, eval e X.env) :: starEach es X.env := by rfl) : PA X (.Starred e p :: es) (StX.tStar K te t) := by
  subst hK
  exact StX.pa_star he hr hs
section
variable {K : PySem.W.Frag} {ρ ρ1 ρ2 : Rho} {te : TE} {t u tb : TS} {c : TT} {d : PyData} {b : Bool} {i j : Nat} {sl sl2 : List Nat} {ds ds1 ds2 es : List PyData} {ta : TA}
theorem yt_truL (h : YD K te ρ (.list ds)) : YT K (tTru K te) ρ (!ds.isEmpty) := fun σ Hs H e s Q q => h σ Hs H e s _ fun v Hs1 H1 g1 r1 => by
  cases r1 with
  | lst hs ha =>
    rename_i a xs
    have e1 : (!ds.isEmpty) = !xs.isEmpty := by
      have := ha.len
      cases xs <;> cases ds <;> simp_all
    exact ⟨_, .inl ⟨xs, sqL_mono g1.c hs, e1⟩, q Hs1 H1 g1⟩
theorem yt_truI {n : Int} (h : YD K te ρ (.int n)) : YT K (tTru K te) ρ (n != 0) := fun σ Hs H e s Q q => h σ Hs H e s _ fun v Hs1 H1 g1 r1 => by
  cases r1
  exact ⟨_, rfl, q Hs1 H1 g1⟩
theorem ya_star (h : YD K te ρ (.list ds)) (k : YA K ta ρ es) : YA K (StX.tStar K te ta) ρ (ds ++ es) := fun σ Hs H e s Q q => h σ Hs H e s _ fun v Hs1 H1 g1 r1 => by
  cases r1 with
  | lst hs ha =>
    rename_i a xs
    refine ⟨a, xs, rfl, .inr (sqL_mono g1.c hs), k σ Hs1 H1 (e.mono g1.a) g1.c _ fun ys Hs2 H2 g2 r2 => q _ Hs2 H2 (g1.trans g2) ((ha.mono g2.a).append r2)⟩
/-- n, n - 1, .., n - (m - 1) -/
def dnD (n : Int) (m : Nat) : List PyData := (List.range m).map fun (i : Nat) => .int (n + (i : Int) * (-1))
theorem dnD_len {n : Int} {m : Nat} : (dnD n m).length = m := by
  unfold dnD
  rw [List.length_map, List.length_range]
theorem dnD_get {n : Int} {m i : Nat} (h : i < m) : (dnD n m)[i]? = some (.int (n + (i : Int) * (-1))) := by
  unfold dnD
  rw [List.getElem?_map, List.getElem?_range h]
  rfl
theorem walk_dn {lo : Int} {n : Nat} {Hs : Hp} : WalkD K (Itc lo (-1) n) Hs (dnD lo n) := fun i Hs2 H2 s1 s2 => by
  refine ⟨fun d e => ?_, fun hl => by rw [dnD_len] at hl; exact hl⟩
  have hi : i < n := by
    have := (List.getElem?_eq_some_iff.mp e).1
    rwa [dnD_len] at this
  rw [dnD_get hi] at e
  refine ⟨hi, fun x H' y => ?_⟩
  obtain ⟨rfl, rfl⟩ := y
  cases Option.some.inj e
  exact ⟨Hs2, Gr.refl s2, .int _⟩
theorem yi_rngD {m n : Int} (h : YA K ta ρ [.int m, .int n, .int (-1)]) (hb : -(2 ^ 62) ≤ m ∧ m < 2 ^ 62 ∧ -(2 ^ 62) ≤ n ∧ n < 2 ^ 62) : YI K (iRng3 ta) ρ (dnD m (m - n).toNat) := fun σ Hs H e s R q => h σ Hs H e s _ fun vs Hs1 H1 g1 r1 => by
  cases r1 with
  | cons r1 r2 => cases r2 with
    | cons r2 r3 => cases r3 with
      | cons r3 r4 => cases r4; cases r1; cases r2; cases r3; exact ⟨m, n, -1, _, rfl, RgC.neg hb.1 hb.2.1 hb.2.2.1 hb.2.2.2, q _ Hs1 H1 g1 walk_dn⟩
/-! ### x += e, while -/
theorem yn_aug {f : Int → Int → Int} {x y : Int} (hi : ρ[i]? = some (some (.int x))) (h : YD K te ρ (.int y)) : YN K (tAug i te (ipI f)) [i] ρ (ρ.set i (some (.int (f x y)))) := by
  intro σ Hs H e s D q
  obtain ⟨v, hv, r⟩ := e.2 i _ hi
  cases r
  refine ⟨_, hv, h σ Hs H e s _ fun w Hs1 H1 g1 r1 => ?_⟩
  cases r1
  exact ⟨x, y, rfl, rfl, q _ Hs1 H1 g1 ((e.mono g1.a).set i (.int _)) fun k hk => List.getElem?_set_ne fun z => hk (by rw [z]; exact List.mem_singleton_self _)⟩
/-- st k: the slots behind k turns; n turns, then the test fails -/
theorem yn_while {st : Nat → Rho} {n : Nat} (h0 : subR (st 0) ρ) (ht : ∀ k, k < n → YT K c (st k) true) (hb : ∀ k, k < n → YN K tb sl (st k) (st (k + 1))) (he : YT K c (st n) false) : YN K (tWhile c tb) sl ρ (st n) := by
  intro σ Hs H e s D q
  refine ⟨fun m σ' H' => ∃ k Hs', k + m = n ∧ Gr Hs H Hs' H' ∧ EnvD K Hs' σ' (st k) ∧ ∀ j, j ∉ sl → σ'[j]? = σ[j]?, ⟨n, 0, Hs, by omega, Gr.refl s, e.sub h0, fun _ _ => rfl⟩, ?_⟩
  rintro m σ' H' ⟨k, Hs', hk, g, e1, n1⟩
  by_cases hlt : k < n
  · refine ht k hlt σ' Hs' H' e1 g.c _ fun Hs2 H2 g2 => ?_
    rw [if_pos rfl]
    refine ⟨fun σ3 H3 => ∃ Hs3, Gr Hs H Hs3 H3 ∧ EnvD K Hs3 σ3 (st (k + 1)) ∧ ∀ j, j ∉ sl → σ3[j]? = σ[j]?, fun σ3 H3 ⟨Hs3, z⟩ => ⟨m - 1, by omega, k + 1, Hs3, by omega, z⟩, ?_⟩
    exact hb k hlt σ' Hs2 H2 (e1.mono g2.a) g2.c _ fun σ3 Hs3 H3 g3 e3 n3 => ⟨Hs3, (g.trans g2).trans g3, e3, fun j hj => (n3 j hj).trans (n1 j hj)⟩
  · have : k = n := by omega
    subst this
    refine he σ' Hs' H' e1 g.c _ fun Hs2 H2 g2 => ?_
    rw [if_neg (by decide)]
    exact q σ' Hs2 H2 (g.trans g2) (e1.mono g2.a) n1
/-! ### a list of its own comes out -/
def YF (K : PySem.W.Frag) (te : TE) (ρ : Rho) (es : List PyData) : Prop := ∀ (σ : L2.St) (Hs H : Hp), EnvD K Hs σ ρ → Same Hs H → ∀ Q : VK, (∀ a us Hs2 H2, Gr Hs H Hs2 H2 → H a = none → Hs2 a = none → H2 a = some (.lst us) → RpAll K Hs2 us es → Q (.ref a) H2) → te σ H Q
theorem YF.yd (h : YF K te ρ es) : YD K te ρ (.list es) := fun σ Hs H e s Q q => h σ Hs H e s Q fun a us Hs2 H2 g ha hs hl r => q _ _ H2 (g.settle ha hl hs) (rp_lst (H := H2) hs r)
theorem YF.eq {es' : List PyData} (h : YF K te ρ es) (e : es = es') : YF K te ρ es' := e ▸ h
def spF (K : PySem.W.Frag) (R : List PyData → List PyData → Prop) : Sp := fun vs H Q _ => ∃ ds es Hs, R ds es ∧ Same Hs H ∧ RpAll K Hs vs ds ∧ ∀ a us Hs2 H2, Gr Hs H Hs2 H2 → H a = none → Hs2 a = none → H2 a = some (.lst us) → RpAll K Hs2 us es → Q (.ref a) H2
theorem yf_call {R : List PyData → List PyData → Prop} {E : XK} (h : YA K ta ρ ds) (hr : R ds es) : YF K (tCall (spF K R) [] E ta) ρ es := fun σ Hs H e s Q q => h σ Hs H e s _ fun vs Hs1 H1 g1 r1 =>
  ⟨ds, es, Hs1, hr, g1.c, by rw [List.append_nil]; exact r1, fun a us Hs2 H2 g2 ha hs hl r2 => q a us Hs2 H2 (g1.trans g2) (same_none g1.b ha) hs hl r2⟩
theorem yf_lc {α : Type} {wi : TI} {g : TG} {tt : TT} {vs sl : List Nat} {xs : List α} (mk : α → PyData) (b : α → Bool) (f : α → PyData) (ρ' : α → Rho) (hi : YI K wi ρ (xs.map mk)) (hl : xs.length ≤ 50000) (hsl : ∀ i ∈ sl, i ∈ vs)
    (hg : ∀ d ∈ xs, YG K g sl (wipeD ρ vs) (mk d) (ρ' d)) (ht : ∀ d ∈ xs, YT K tt (ρ' d) (b d)) (he : ∀ d ∈ xs, b d = true → YD K te (ρ' d) (f d)) : YF K (tLc wi g tt te vs) ρ ((xs.filter b).map f) := fun σ Hs H e s Q q =>
  lc_atU mk b f ρ' e s (fun R hR => hi σ Hs H e s R hR) hl hsl hg (fun d hd σ' Hs' H' _ e' _ R hR => ht d hd σ' Hs' H' e' (by assumption |> Gr.c) R hR) (fun d hd hb σ' Hs' H' _ e' _ R hR => he d hd hb σ' Hs' H' e' (by assumption |> Gr.c) R hR) fun a acc Hs2 H2 g2 h1 h2 h3 h4 => q a acc Hs2 H2 g2 h1 h2 h3 h4
theorem yf_rng {n : Int} (h : YD K te ρ (.int n)) (h0 : 0 ≤ n) (h1 : n ≤ 100000) : YF K (tLstRg (tRg1 te)) ρ (rgD 0 n.toNat) := fun σ Hs H e s Q q => h σ Hs H e s _ fun v Hs1 H1 g1 r1 => by
  cases r1
  refine ⟨n, rfl, RgOk.of_le (by omega) (by omega) (by omega) h0, fun a ha => ?_⟩
  refine q a _ Hs1 _ (g1.trans (Gr.fresh g1.c ha)) (same_none g1.b ha) (same_none g1.c ha) upd_same ?_
  have : rgV 0 n = (List.range n.toNat).map fun (i : Nat) => V.int (0 + (i : Int)) := by
    unfold rgV
    rw [Int.sub_zero]
  rw [this]
  unfold rgD
  generalize List.range n.toNat = l
  induction l with
  | nil => exact .nil
  | cons x r ih => exact .cons (.int _) ih
theorem yf_if (h : YT K c ρ b) {ta' tb' : TE} (h1 : b = true → YF K ta' ρ es) (h2 : b = false → YF K tb' ρ es) : YF K (tIf c ta' tb') ρ es := fun σ Hs H e s Q q => h σ Hs H e s _ fun Hs1 H1 g1 => by
  cases b with
  | true => exact h1 rfl σ Hs1 H1 (e.mono g1.a) g1.c Q fun a us Hs2 H2 g2 ha hs hl r => q a us Hs2 H2 (g1.trans g2) (same_none g1.b ha) hs hl r
  | false => exact h2 rfl σ Hs1 H1 (e.mono g1.a) g1.c Q fun a us Hs2 H2 g2 ha hs hl r => q a us Hs2 H2 (g1.trans g2) (same_none g1.b ha) hs hl r
/-- a def that gives a list of its own -/
def YRF (K : PySem.W.Frag) (ts : TS) (ρ : Rho) (es : List PyData) : Prop := ∀ (σ : L2.St) (Hs H : Hp), EnvD K Hs σ ρ → Same Hs H → ∀ D : Ends, (∀ a us Hs2 H2, Gr Hs H Hs2 H2 → H a = none → Hs2 a = none → H2 a = some (.lst us) → RpAll K Hs2 us es → D.rt (.ref a) H2) → ts D σ H
theorem yrf_ret (h : YF K te ρ es) : YRF K (tRet te) ρ es := fun σ Hs H e s D q => h σ Hs H e s _ q
theorem yrf_seq (h : YN K t sl ρ ρ1) (k : YRF K u ρ1 es) : YRF K (tSeq t u) ρ es := fun σ Hs H e s D q => h σ Hs H e s _ fun σ1 Hs1 H1 g1 e1 _ => k σ1 Hs1 H1 e1 g1.c D fun a us Hs2 H2 g2 ha hs hl r => q a us Hs2 H2 (g1.trans g2) (same_none g1.b ha) hs hl r
theorem okF {P : Program} {w : World} {mg : Str → Option Value} {base : Heap} {x qual : Str} {params : Arguments} {body : List Stmt} {scope : Scope} {f : Addr} {fd : FuncData} {N ps : List Str} {k : Nat} {R : List PyData → List PyData → Prop}
    (F : FunD K x qual params body scope [] [] f fd) (S : FnScope N ps scope) (len : ∀ ds d, R ds d → ds.length = ps.length)
    (hbody : ∀ (cdv : Value) (A : Around) (outer : List Env) (s : Shared) (H : Hp) (E : XK), Room k (A.deeper (envOfC qual scope s.heap.objs.size f cdv)) →
      ∃ t, PSs (cxOf CX0 P w K mg base N qual scope f cdv A outer s H E).nox body t ∧ ∀ ds es, R ds es → YRF K t (startD N ds) es) : FnOk P w K mg base CX0 (k + 1) f fd ps (spF K R) := by
  refine F.ok S (fun vs H Q E h => ?_) (fun cdv A outer s H vs Q E hr h => ?_)
  · obtain ⟨ds, d, Hs, hR, _, hp, _⟩ := h
    rw [hp.len]
    exact len ds d hR
  · obtain ⟨ds, d, Hs, hR, hs, hp, q⟩ := h
    obtain ⟨t, h1, h2⟩ := hbody cdv A outer s H E hr
    exact ⟨t, h1.nox, h2 ds d hR _ Hs H (env_start hp) hs _ q⟩
/-! ### what is told beside a list that is filled -/
theorem RpAll.scal : ∀ {vs : List V} {es : List PyData} {H H' : Hp}, RpAll K H vs es → es.all scalD = true → RpAll K H' vs es
  | _, [], _, _, .nil, _ => .nil
  | _, e :: es, _, _, .cons a r, h => by
    rw [List.all_cons, Bool.and_eq_true] at h
    exact .cons (a.scal h.1) (r.scal h.2)
def YW (K : PySem.W.Frag) (te : TE) (i : Nat) (ρ : Rho) (ds : List PyData) (d : PyData) : Prop := ∀ (σ : L2.St) (Hs H : Hp) (p : Addr), EnvD K Hs σ ρ → Same Hs H → Ow K i σ Hs H p ds → ∀ Q : VK, (∀ v Hs2 H2, Gr Hs H Hs2 H2 → Rp K Hs2 v d → Q v H2) → te σ H Q
theorem yw_yd (h : YD K te ρ d) : YW K te i ρ ds d := fun σ Hs H p e s o Q q => h σ Hs H e s Q q
theorem yw_scal (h : YD K te (ρ.set i (some (.list ds))) d) (hs : scalD d = true) : YW K te i ρ ds d := fun σ Hs H p e s o Q q => by
  obtain ⟨Hs', s1, s2, e1⟩ := o.look e s
  exact h σ Hs' H e1 s2 _ fun v Hsx H1 gx r => q v Hs H1 (Gr.back s1 gx) (r.scal hs)
theorem yw_fresh (h : YF K te (ρ.set i (some (.list ds))) es) (hs : es.all scalD = true) : YW K te i ρ ds (.list es) := fun σ Hs H p e s o Q q => by
  obtain ⟨Hs', s1, s2, e1⟩ := o.look e s
  refine h σ Hs' H e1 s2 _ fun a us Hs2 H2 g ha h2 hl r => ?_
  have g0 : Gr Hs H Hs H2 := Gr.back s1 g
  exact q _ _ H2 (g0.settle ha hl (same_none s ha)) (rp_lst (H := H2) (same_none s ha) (r.scal hs))
theorem yw_if (h : YT K c (ρ.set i (some (.list ds))) b) {ta' tb' : TE} (h1 : b = true → YW K ta' i ρ ds d) (h2 : b = false → YW K tb' i ρ ds d) : YW K (tIf c ta' tb') i ρ ds d := fun σ Hs H p e s o Q q => by
  obtain ⟨Hs', s1, s2, e1⟩ := o.look e s
  refine h σ Hs' H e1 s2 _ fun Hsx H1 gx => ?_
  have g1 : Gr Hs H Hs H1 := Gr.back s1 gx
  cases b with
  | true => exact h1 rfl σ Hs H1 p e g1.c (o.gr g1) Q fun v Hs2 H2 g2 r => q v Hs2 H2 (g1.trans g2) r
  | false => exact h2 rfl σ Hs H1 p e g1.c (o.gr g1) Q fun v Hs2 H2 g2 r => q v Hs2 H2 (g1.trans g2) r
/-- an item of the list -/
theorem yw_ix {n : Int} (h : YD K te ρ (.int n)) (hd : atI ds n = some d) : YW K (tOp (rIx K) (tVar i) te) i ρ ds d := fun σ Hs H p e s o Q q => by
  obtain ⟨h1, h2, vs, h3, h4⟩ := o
  refine ⟨.ref p, h1, h σ Hs H e s _ fun v Hs1 H1 g1 r1 => ?_⟩
  cases r1
  obtain ⟨u, e1, ru⟩ := atI_rp (h4.mono g1.a) hd
  exact .inl ⟨_, _, n, u, rfl, rfl, .inl (.inl (g1.b _ _ h3)), e1, q u Hs1 H1 g1 ru⟩
theorem ym_asg (h : YW K te i ρ ds d) (hij : i ≠ j) : YM K (tAsg te (gName j)) i [j] ρ ds (ρ.set j (some d)) ds := fun σ Hs H p e s o D q => h σ Hs H p e s o _ fun v Hs1 H1 g1 r => q _ Hs1 H1 g1.o ((e.mono g1.a).set j r) ((o.gr g1).sig (List.getElem?_set_ne (fun z => hij z.symm))) fun k hk => List.getElem?_set_ne fun z => hk (by rw [z]; exact List.mem_singleton_self _)
theorem ym_appW (h : YW K te i ρ ds d) (hl : ds.length < 50000) : YM K (tDrop (tBM K "list" rAppend (tVar i) (tCons te tNil))) i [] ρ ds ρ (ds ++ [d]) := by
  intro σ Hs H p e s o D q
  obtain ⟨h1, h2, vs, h3, h4⟩ := id o
  refine ⟨.ref p, h1, .inl ⟨rfl, vs, .inl (.inl h3)⟩, h σ Hs H p e s o _ fun v Hs2 H2 g r => ⟨p, vs, v, rfl, rfl, g.b _ _ h3, sz_lt (by rw [h4.len]; omega), ?_⟩⟩
  have n2 : Hs2 p = none := g.d p (by rw [h3]; trivial) h2
  exact q σ Hs2 _ ⟨g.a, fun x o n hx => by rw [upd_ne n]; exact g.b x o hx, fun x o hx => by rw [upd_ne (ne_of_none hx n2)]; exact g.c x o hx, fun x n m hx => g.d x m hx⟩ (e.mono g.a) ⟨h1, n2, vs ++ [v], upd_same, (h4.mono g.a).snoc r⟩ fun _ _ => rfl
theorem ym_forV {α : Type} {wi : TI} {g : TG} {xs : List α} {slg slb : List Nat} (mk : α → PyData) (acc : Nat → List PyData) (st : Nat → Rho) (ρ' : Nat → α → Rho) (hi : YI K wi ρ (xs.map mk)) (hw : subR (st 0) ρ) (hn : i ∉ slg)
    (hg : ∀ k x, xs[k]? = some x → YG K g slg (st k) (mk x) (ρ' k x)) (hb : ∀ k x, xs[k]? = some x → YM K tb i slb (ρ' k x) (acc k) (st (k + 1)) (acc (k + 1))) : YM K (tFor wi g tb) i (slg ++ slb) ρ (acc 0) (st xs.length) (acc xs.length) := by
  intro σ Hs H p e s o D q
  refine y_for hi e s fun Hs1 H1 g1 => ⟨fun k σ' Hs' H' => GrO p Hs H Hs' H' ∧ Same Hs1 Hs' ∧ EnvD K Hs' σ' (st k) ∧ Ow K i σ' Hs' H' p (acc k) ∧ ∀ j, j ∉ slg ++ slb → σ'[j]? = σ[j]?, ⟨g1.o, Same.refl _, (e.mono g1.a).sub hw, o.gr g1, fun _ _ => rfl⟩, fun k σ' Hs' H' z => ⟨z.2.1, z.1.c⟩, ?_, ?_⟩
  · rintro k z σ' Hs' H' hz ⟨gr, s1, e1, o1, n1⟩ v Hs2 H2 g2 rv
    rw [List.getElem?_map] at hz
    obtain ⟨x, hx, rfl⟩ := Option.map_eq_some_iff.mp hz
    refine hg k x hx σ' Hs2 H2 v (e1.mono g2.a) g2.c rv _ fun σ2 e2 l2 n2 => ?_
    refine hb k x hx σ2 Hs2 H2 p e2 g2.c ((o1.gr g2).sig (n2 i hn)) _ fun σ3 Hs3 H3 g3 e3 o3 n3 => ⟨Hs3, (gr.trans g2.o).trans g3, s1.trans (g2.a.trans g3.a), e3, o3, fun j hj => ?_⟩
    exact (n3 j fun z => hj (List.mem_append_right _ z)).trans ((n2 j fun z => hj (List.mem_append_left _ z)).trans (n1 j hj))
  · rintro σ' Hs' H' ⟨gr, s1, e1, o1, n1⟩
    rw [List.length_map] at o1 e1
    exact q σ' Hs' H' gr e1 o1 n1
/-- x.insert(0, e) -/
theorem ym_ins0 (h : YW K te i ρ ds d) (hl : ds.length < 50000) : YM K (tDrop (tBM K "list" rInsert (tVar i) (tCons (tC (.int 0)) (tCons te tNil)))) i [] ρ ds ρ (d :: ds) := by
  intro σ Hs H p e s o D q
  obtain ⟨h1, h2, vs, h3, h4⟩ := id o
  refine ⟨.ref p, h1, .inl ⟨rfl, vs, .inl (.inl h3)⟩, h σ Hs H p e s o _ fun v Hs2 H2 g r => ⟨p, vs, 0, v, rfl, rfl, g.b _ _ h3, sz_lt (by rw [h4.len]; omega), Int.le_refl _, by decide, ?_⟩⟩
  have n2 : Hs2 p = none := g.d p (by rw [h3]; trivial) h2
  refine q σ Hs2 _ ⟨g.a, fun x o n hx => by rw [upd_ne n]; exact g.b x o hx, fun x o hx => by rw [upd_ne (ne_of_none hx n2)]; exact g.c x o hx, fun x n m hx => g.d x m hx⟩ (e.mono g.a) ⟨h1, n2, v :: vs, ?_, .cons r (h4.mono g.a)⟩ fun _ _ => rfl
  rw [upd_same]
  rfl
end
end SG
set_option Elab.async false
set_option linter.all false
set_option maxRecDepth 100000
set_option maxHeartbeats 4000000
namespace SG
open PySem PySem.Spec PyProof.Rows L2
/-! ### lists compared by > -/
def rGtD (K : PySem.W.Frag) : R2 := fun x y H Q => ∃ d e, Dp K H x d ∧ Dp K H y e ∧ PySem.W.alike d e = true ∧ d ≠ .none ∧ min d.depth e.depth ≤ 64 ∧ Q (.bl (PySem.W.dataLt e d)) H
theorem op_gtk {X : Cx} {K : PySem.W.Frag} (hK : X.K = K) (hu : X.A.units + 64 < cLine) : OpR X (compareOp .Gt) (rGtD K) := by
  subst hK
  intro pins s σ H x y v u Q I rx ry h
  obtain ⟨d, e, hd, he, al, nn, dp, q⟩ := h
  obtain ⟨as, r1⟩ := Dp.reads I d x v hd rx
  obtain ⟨bs, r2⟩ := Dp.reads I e y u he ry
  exact PySem.W.gt_data r1 r2 al nn (by omega) ⟨.bl _, H, I, rfl, q⟩
theorem alike_ints : ∀ xs ys : List Int, PySem.W.alikeAll (xs.map PyData.int) (ys.map PyData.int) = true
  | [], _ => by cases ‹List Int› <;> rfl
  | _ :: _, [] => rfl
  | x :: xs, y :: ys => by
    show (true && PySem.W.alikeAll (xs.map PyData.int) (ys.map PyData.int)) = true
    rw [alike_ints xs ys]
    rfl
theorem lt_ints : ∀ xs ys : List Int, PySem.W.dataLt (.list (xs.map PyData.int)) (.list (ys.map PyData.int)) = HT.lexLt xs ys
  | [], [] => rfl
  | [], y :: ys => rfl
  | x :: xs, [] => rfl
  | x :: xs, y :: ys => by
    have ih := lt_ints xs ys
    have e1 : PySem.W.dataLt (.list ((x :: xs).map PyData.int)) (.list ((y :: ys).map PyData.int)) = PyProof.Rows.lexLt PyProof.Rows.itemOrd (.inl x :: PySem.W.keyToksAll (xs.map PyData.int)) (.inl y :: PySem.W.keyToksAll (ys.map PyData.int)) := PySem.W.lex_pre [.inl 1] _ _
    rw [e1, HT.lexLt_cons]
    by_cases e : x = y
    · subst e
      rw [if_pos rfl, ← ih]
      exact PySem.W.lex_pre [.inl x] _ _
    · have hne : (Sum.inl x : Int ⊕ List Nat) ≠ Sum.inl y := fun z => e (Sum.inl.inj z)
      rw [if_neg e, PySem.W.lex_atom hne]
      show (decide (x < y) || (!decide (y < x) && false)) = decide (x < y)
      simp
theorem rd_gtI {K : PySem.W.Frag} {xs ys : List Int} (h : SeqAt.shaped (.list (xs.map PyData.int)) = true) (k : SeqAt.shaped (.list (ys.map PyData.int)) = true) (hd : PyData.depth (.list (xs.map PyData.int)) ≤ 64) : RD K (rGtD K) (.list (xs.map .int)) (.list (ys.map .int)) (.bool (HT.lexLt ys xs)) := fun v w Hs H s a b Q q =>
  ⟨_, _, (a.mono s).shape h, (b.mono s).shape k, alike_ints xs ys, (fun z => nomatch z), by omega, by rw [lt_ints]; exact q _ Hs H (Gr.refl s) (.bl _)⟩
/-! ### set(l), l a list of ints: sorted, counted -/
abbrev nS (w : World) : Obj := { cls := .type "set", dict := none, data := .set #[] 0 (.fresh 0 0 (!w.params.followText "set-order")) }
section
variable {P : Program} {w : World} {A : Around} {E : Value → Shared → Prop} {s : Shared}
theorem call_set_lstI {l : Addr} {its : Array Value} (ns : List Int) {Q : Value → Shared → Prop} (ah : A.handled = none) (il : s.heap.IsList l its) (ii : IntsAre its.toList ns) (bd : ns.length + 1 < scanBound)
    (fin : ∀ (h' : Heap) (tk c : Nat), SetR w h' s.heap.objs.size (fun j => decide (j ∈ ns)) c → c ≤ ns.length → (∀ b o, s.heap.get? b = some o → h'.get? b = some o) → Q (.ref s.heap.objs.size) { s with heap := h', toks := tk }) :
    wpAny (model P w) A (call (.type "set") [.ref l]) Q E s := by
  have zs : its.size = ns.length := by
    have := IntsAre.length ii
    rwa [Array.length_toList] at this
  obtain ⟨_, _, m0⟩ := F.called_set.mro
  have m1 := F.called_set.made
  have m2 := F.called_set.sub
  refine wpAny_call (codeAny_of_tree ?_)
  show wpAny _ _ (callAny (.type "set") _) _ _ _; refine wpAny_pure ⟨Code.quiet_builtin _ (by decide +kernel), codeAny_builtin F.entry_type_call ?_⟩
  rw [Around.under_plain (weight_type_call_type "set" [.ref l] []) rfl]; have m3 := F.called_set.notType; have m4 := F.called_set.canCreate
  have m5 := F.typeCall_set_1 (.ref l); repeat (any_goals (first | assumption | wp_step))
  refine codeAny_mono (code_set_led1 (.ref l) (E := E) (Q₁ := fun ob s₁ => ob = .ref s.heap.objs.size ∧ s₁ = { s with heap := s.heap.push (nS w) }) ⟨rfl, rfl⟩) fun r s₁ hr => ?_
  match r with
  | .error e => exact hr
  | .ok (.ret ob) =>
    obtain ⟨rfl, rfl⟩ := hr
    have g0 : (s.heap.push (nS w)).get? s.heap.objs.size = some (nS w) := Heap.get?_push_size _ rfl
    have t0 : Shared.TypeIs { s with heap := s.heap.push (nS w) } (.ref s.heap.objs.size) "set" := ⟨_, g0, rfl⟩
    have m6 := F.called_set.init.lookup
    have m7 := F.called_set.init.bind (.ref s.heap.objs.size); repeat (any_goals (first | assumption | wp_step))
    refine codeAny_mono (codeAny_call_builtin (R := wants (fun r s₂ => r = .none ∧ ∃ h' tk c, s₂ = { s with heap := h', toks := tk } ∧ SetR w h' s.heap.objs.size (fun j => decide (j ∈ ns)) c ∧ c ≤ ns.length ∧ ∀ b o, s.heap.get? b = some o → h'.get? b = some o) E) F.called_set.init.plain F.entry_set_init (check_set_init_1 t0 ?_)) fun r₂ s₂ hr₂ => ?_
    · obtain ⟨ol, hol, hcl, nl, hdl⟩ := il
      obtain ⟨ocls, odict, odata, oslots⟩ := ol
      simp only at hcl hdl
      subst hcl; subst hdl
      have g1 : (s.heap.push (nS w)).get? l = some { cls := .type "list", dict := odict, data := .seq its nl, slots := oslots } := Heap.get?_push_of_some _ hol
      have u1 := F.sub_list_set; have u2 := F.sub_list_frozenset; have u3 : (Value.type "list" == Value.type "dict") = false := by decide
      have l1 : (s.heap.push (nS w)).IsList l its := ⟨_, g1, rfl, nl, rfl⟩
      unfold Builtin.«set.__init__» noKeywords Builtin.Frozenset.updateFrom; generalize zI : pyIter = PI
      wp_walk
      subst zI
      refine wpAny_pyIter_list l1 ?_
      refine wpAny_bind (wpAny_runValue ?_)
      have ls : l < s.heap.objs.size := Heap.lt_size hol
      have h3 : A.in1.in1.in1.handled = none := by simp [ah]
      have ne1 : l ≠ (s.heap.push (nS w)).objs.size := by
        exact Nat.ne_of_lt (by rw [Heap.size_push]; exact Nat.lt_succ_of_lt ls)
      have ne2 : s.heap.objs.size ∉ [(s.heap.push (nS w)).objs.size, l] := by
        rw [Heap.size_push]
        intro z
        rcases List.mem_cons.mp z with z | z
        · exact Nat.ne_of_lt (Nat.lt_succ_self _) z
        · exact Nat.ne_of_gt ls (List.mem_singleton.mp z)
      have vals : ∀ (i : Nat) (v : Value), its[i]? = some v → ∃ k t, ns[i]? = some k ∧ v = .int k t := fun i v hv => by
        have hi : i < ns.length := by rw [← zs]; exact (Array.getElem?_eq_some_iff.mp hv).1
        obtain ⟨t, e⟩ := PyProof.Rows.IntsAre.int_at ii i v (by rw [Array.getElem?_toList]; exact hv)
        exact ⟨ns[i], t, List.getElem?_eq_getElem hi, by rw [e, List.getD_eq_getElem?_getD, List.getElem?_eq_getElem hi]; rfl⟩
      refine set_update_ints ((Walks.list h3 _ l ne1 its).toS) s.heap.objs.size ne2 ns zs bd vals (its.size - 0) 0 _ (by omega) (Nat.zero_le _) ⟨⟨_, Heap.get?_push_size _ rfl, rfl, rfl⟩, (l1.push _)⟩ ?c1 ?c2
      case c1 => exact ⟨0, Nat.le_refl 0, setR_new_at (Heap.get?_push_of_some _ g0)⟩
      case c2 =>
        intro s' c' mv cc sr
        obtain ⟨h', g2, d', tk', os'⟩ := s'
        have e1 : g2 = s.gens := mv.gens
        have e2 : d' = s.drawn := mv.drawn
        have e3 : os' = s.os := mv.os
        subst e1; subst e2; subst e3
        show wpAny _ _ _ _ _ _; refine wpAny_pure ?_
        show wpAny _ _ (ret Value.none) _ _ _
        rw [zs] at cc
        refine wpAny_pure ⟨rfl, h', tk', c', rfl, sr, cc, fun b o e => ?_⟩
        have b0 : b < s.heap.objs.size := Heap.lt_size e
        refine mv.heap b o ?_ (Heap.get?_push_of_some _ (Heap.get?_push_of_some _ e))
        rw [Heap.size_push]
        intro z
        rcases List.mem_cons.mp z with z | z
        · exact Nat.ne_of_lt b0 z
        · exact Nat.ne_of_lt (Nat.lt_succ_of_lt b0) (List.mem_singleton.mp z)
    · match r₂ with
      | .error e => exact hr₂
      | .ok (.ret r) =>
        obtain ⟨rfl, h', tk, c', rfl, sr, cc, kk⟩ := hr₂
        repeat (any_goals (first | assumption | wp_step))
        exact fin _ _ _ sr cc kk
      | .ok .next => exact hr₂.elim
      | .ok .brk => exact hr₂.elim
      | .ok .cont => exact hr₂.elim
  | .ok .next => exact hr.elim
  | .ok .brk => exact hr.elim
  | .ok .cont => exact hr.elim
end
section
variable {X : Cx} {a : Expr} {ta : TE} {p p2 q pos : Pos} {K : PySem.W.Frag}
/-- sorted(set(a)), a a list of ints -/
def tSortSet (K : PySem.W.Frag) (ta : TE) : TE := fun σ H Q => ta σ H fun x H1 => ∃ (l : Addr) (ns : List Int), x = V.ref l ∧ SqL K H1 l (ns.map V.int) ∧ ns.length < 64 ∧
  ∀ (out : List Int) (p : Addr), out.Pairwise (· < ·) → (∀ k, k ∈ out ↔ k ∈ ns) → H1 p = none → Q (.ref p) (upd H1 p (.lst (out.map V.int)))
theorem pe_sortSet (hK : X.K = K) (hc : X.calm = true) (hg : Gl X "sorted") (hm : X.mg "sorted" = none) (hg2 : Gl X "set") (hm2 : X.mg "set" = none) (ha : PE X a ta)
    (na : starEach [a] X.env = (false, eval a X.env) :: starEach [] X.env := by rfl) : PE X (.Call (.Name "sorted" p) [.Call (.Name "set" p2) [a] [] q] [] pos) (tSortSet K ta) := by
  subst hK
  refine ⟨fun pins s σ H Q I h => ?_⟩
  refine Call_ (ld_blt I hg hm PyProof.Rows.boot_sorted ?_)
  refine PyProof.Rows.callWith_builtin1 (PyProof.Rows.args_cons ?_ rfl) rfl rfl
  refine Call_ (ld_blt I hg2 hm2 PyProof.Rows.boot_set ?_)
  refine PyProof.Rows.callWith_type1 (PyProof.Rows.args_cons (thn (ha.run pins s σ H _ I h) fun v s1 ⟨x, H1, I1, r1, q1⟩ => PyProof.Rows.args_nil ?_) na) na rfl
  obtain ⟨l, ns, rfl, hq, h64, q1⟩ := q1
  cases r1
  obtain ⟨its, r, pl, hz⟩ := I1.list hq
  refine call_set_lstI (E := X.xe) ns (I1.ok.hd hc) pl.isList (by simpa using r.ints) (by unfold scanBound; omega) fun h' tk c sr cc kk => PyProof.Rows.args_nil ?_
  have I2 : Inv X pins σ H1 { s1 with heap := h', toks := tk } := I1.kept fun b o e => kk b o e
  obtain ⟨s2, hs2⟩ : ∃ s2, s2 = ({ s1 with heap := h', toks := tk } : Shared) := ⟨_, rfl⟩
  rw [← hs2] at I2 ⊢
  have sr2 : SetR X.w s2.heap s1.heap.objs.size (fun j => decide (j ∈ ns)) c := by rw [hs2]; exact sr
  refine sorted_set sr2 (I2.ok.hd hc) (by omega) fun s' p out c2 ms k g o hp hg hi hs hm hl => ?_
  have hlen : (ms.map V.int).length ≤ sizeLine := by rw [List.length_map, hl, sizeLine_eq]; omega
  have hn : H1 p = none := I2.hok.fresh hp
  have J : Inv X pins σ (upd H1 p (.lst (ms.map V.int))) { s2 with heap := s'.heap, gens := s'.gens, drawn := s'.drawn, toks := s'.toks } := I2.call (ch := []) (Un.laid k hp hn) (I2.hok.laid k hp ⟨hlen, out.toList, c2, vals_of_ints hi, hg⟩) (by rw [g]; exact I2.bare) (fun _ z => nomatch z)
  have e : s' = { s2 with heap := s'.heap, gens := s'.gens, drawn := s'.drawn, toks := s'.toks } := by
    clear hs2 I2 sr2 J
    cases s'; cases s2; cases o; rfl
  rw [e]
  exact ⟨.ref p, _, J, rfl, q1 ms p hs (fun k => (hm k).trans (by simp)) hn⟩
/-- len(set(a)), a a list of ints -/
def tLenSet (K : PySem.W.Frag) (ta : TE) : TE := fun σ H Q => ta σ H fun x H1 => ∃ (l : Addr) (ns : List Int), x = V.ref l ∧ SqL K H1 l (ns.map V.int) ∧ ns.length < 1000 ∧ ∀ out : List Int, out.Nodup → (∀ k, k ∈ out ↔ k ∈ ns) → Q (.int out.length) H1
theorem pe_lenSet (hK : X.K = K) (hc : X.calm = true) (hg : Gl X "len") (hm : X.mg "len" = none) (hg2 : Gl X "set") (hm2 : X.mg "set" = none) (ha : PE X a ta)
    (na : starEach [a] X.env = (false, eval a X.env) :: starEach [] X.env := by rfl) : PE X (.Call (.Name "len" p) [.Call (.Name "set" p2) [a] [] q] [] pos) (tLenSet K ta) := by
  subst hK
  refine ⟨fun pins s σ H Q I h => ?_⟩
  refine Call_ (ld_blt I hg hm PySem.boot_len ?_)
  refine PyProof.Rows.callWith_builtin1 (PyProof.Rows.args_cons ?_ rfl) rfl rfl
  refine Call_ (ld_blt I hg2 hm2 PyProof.Rows.boot_set ?_)
  refine PyProof.Rows.callWith_type1 (PyProof.Rows.args_cons (thn (ha.run pins s σ H _ I h) fun v s1 ⟨x, H1, I1, r1, q1⟩ => PyProof.Rows.args_nil ?_) na) na rfl
  obtain ⟨l, ns, rfl, hq, h1, q1⟩ := q1
  cases r1
  obtain ⟨its, r, pl, hz⟩ := I1.list hq
  refine call_set_lstI (E := X.xe) ns (I1.ok.hd hc) pl.isList (by simpa using r.ints) (by unfold scanBound; omega) fun h' tk c sr cc kk => PyProof.Rows.args_nil ?_
  have I2 : Inv X pins σ H1 { s1 with heap := h', toks := tk } := I1.kept fun b o e => kk b o e
  obtain ⟨o, es, ep, t, ho, hex, hd, hge, hnd, hmem, hsb, hf, hn, _⟩ := sr
  refine call_len_set ho hex hd hf (by omega) ⟨.int es.size, H1, I2.tok _, ⟨_, rfl⟩, ?_⟩
  have := q1 (es.toList.map keyOf) hnd fun k => (hmem k).symm.trans (by simp)
  rw [List.length_map, Array.length_toList] at this
  exact this
end
end SG
set_option Elab.async false
set_option linter.all false
set_option maxRecDepth 100000
set_option maxHeartbeats 4000000
namespace SG
open PySem PySem.Spec PyProof.Rows L2
/-! ### what is sorted and each once -/
def insS (x : Int) : List Int → List Int
  | [] => [x]
  | y :: r => if x < y then x :: y :: r else if x = y then y :: r else y :: insS x r
def sdI : List Int → List Int
  | [] => []
  | x :: r => insS x (sdI r)
theorem mem_insS {x z : Int} : ∀ {l : List Int}, z ∈ insS x l ↔ z = x ∨ z ∈ l
  | [] => by simp [insS]
  | y :: r => by
    unfold insS
    split
    · simp
    · split
      · rename_i h
        subst h
        simp
      · rw [List.mem_cons, mem_insS, List.mem_cons]
        constructor
        · rintro (h | h | h)
          · exact .inr (.inl h)
          · exact .inl h
          · exact .inr (.inr h)
        · rintro (h | h | h)
          · exact .inr (.inl h)
          · exact .inl h
          · exact .inr (.inr h)
theorem mem_sdI {z : Int} : ∀ {l : List Int}, z ∈ sdI l ↔ z ∈ l
  | [] => Iff.rfl
  | x :: r => by
    show z ∈ insS x (sdI r) ↔ _
    rw [mem_insS, mem_sdI, List.mem_cons]
theorem insS_inc {x : Int} : ∀ {l : List Int}, l.Pairwise (· < ·) → (insS x l).Pairwise (· < ·)
  | [], _ => List.pairwise_singleton _ _
  | y :: r, h => by
    obtain ⟨h1, h2⟩ := List.pairwise_cons.mp h
    unfold insS
    split
    · rename_i hx
      refine List.pairwise_cons.mpr ⟨fun z hz => ?_, h⟩
      rcases List.mem_cons.mp hz with rfl | hz
      · exact hx
      · have := h1 z hz
        omega
    · split
      · exact h
      · refine List.pairwise_cons.mpr ⟨fun z hz => ?_, insS_inc h2⟩
        rcases mem_insS.mp hz with rfl | hz
        · omega
        · exact h1 z hz
theorem sdI_inc : ∀ l : List Int, (sdI l).Pairwise (· < ·)
  | [] => List.Pairwise.nil
  | x :: r => insS_inc (sdI_inc r)
theorem inc_uniq : ∀ {l m : List Int}, l.Pairwise (· < ·) → m.Pairwise (· < ·) → (∀ z, z ∈ l ↔ z ∈ m) → l = m
  | [], [], _, _, _ => rfl
  | [], y :: m, _, _, h => nomatch (h y).mpr List.mem_cons_self
  | x :: l, [], _, _, h => nomatch (h x).mp List.mem_cons_self
  | x :: l, y :: m, hl, hm, h => by
    obtain ⟨l1, l2⟩ := List.pairwise_cons.mp hl
    obtain ⟨m1, m2⟩ := List.pairwise_cons.mp hm
    have e : x = y := by
      have a : x = y ∨ x ∈ m := List.mem_cons.mp ((h x).mp List.mem_cons_self)
      have b : y = x ∨ y ∈ l := List.mem_cons.mp ((h y).mpr List.mem_cons_self)
      rcases a with a | a
      · exact a
      · rcases b with b | b
        · exact b.symm
        · have := m1 x a
          have := l1 y b
          omega
    subst e
    rw [inc_uniq l2 m2 fun z => ⟨fun hz => ?_, fun hz => ?_⟩]
    · rcases List.mem_cons.mp ((h z).mp (List.mem_cons_of_mem _ hz)) with r | r
      · have := l1 z hz
        omega
      · exact r
    · rcases List.mem_cons.mp ((h z).mpr (List.mem_cons_of_mem _ hz)) with r | r
      · have := m1 z hz
        omega
      · exact r
theorem inc_nodup {l : List Int} (h : l.Pairwise (· < ·)) : l.Nodup := h.imp fun {a b} hab e => by omega
/-- how many unlike ones -/
def unl (l : List Int) : Nat := (sdI l).length
theorem nodup_len : ∀ {l m : List Int}, l.Nodup → m.Nodup → (∀ z, z ∈ l ↔ z ∈ m) → l.length = m.length := fun {l m} hl hm h => by
  have key : ∀ (l m : List Int), l.Nodup → (∀ z, z ∈ l → z ∈ m) → l.length ≤ m.length := by
    intro l
    induction l with
    | nil => exact fun m _ _ => Nat.zero_le _
    | cons x l ih =>
      intro m hn hs
      obtain ⟨h1, h2⟩ := List.nodup_cons.mp hn
      have hx : x ∈ m := hs x List.mem_cons_self
      have := ih (m.erase x) h2 fun z hz => (List.mem_erase_of_ne (fun e => h1 (by rw [← e]; exact hz))).mpr (hs z (List.mem_cons_of_mem _ hz))
      have hlen := List.length_erase_of_mem hx
      have hpos : 0 < m.length := List.length_pos_of_mem hx
      rw [List.length_cons]
      omega
  exact Nat.le_antisymm (key l m hl fun z hz => (h z).mp hz) (key m l hm fun z hz => (h z).mpr hz)
section
variable {K : PySem.W.Frag} {ρ ρ1 ρ2 ρv : Rho} {te : TE} {t u tb : TS} {c : TT} {d : PyData} {b : Bool} {i j : Nat} {sl sl2 : List Nat} {ds ds1 ds2 es : List PyData} {ta tr : TA} {ns : List Int} {σ : L2.St} {Hs H Hv : Hp} {D : Ends}
theorem yf_sortSet (h : YD K te ρ (.list (ns.map .int))) (hl : ns.length < 64) : YF K (tSortSet K te) ρ ((sdI ns).map .int) := fun σ Hs H e s Q q => h σ Hs H e s _ fun v Hs1 H1 g1 r1 => by
  cases r1 with
  | lst hs ha =>
    have := ha.ints_eq
    subst this
    refine ⟨_, ns, rfl, sqL_mono g1.c hs, hl, fun out p h1 h2 hp => ?_⟩
    have e : out = sdI ns := inc_uniq h1 (sdI_inc ns) fun z => (h2 z).trans mem_sdI.symm
    subst e
    exact q p _ Hs1 _ (g1.trans (Gr.fresh g1.c hp)) (same_none g1.b hp) (same_none g1.c hp) upd_same (RpAll.ints _)
theorem yd_lenSet (h : YD K te ρ (.list (ns.map .int))) (hl : ns.length < 1000) : YD K (tLenSet K te) ρ (.int (unl ns : Nat)) := fun σ Hs H e s Q q => h σ Hs H e s _ fun v Hs1 H1 g1 r1 => by
  cases r1 with
  | lst hs ha =>
    have := ha.ints_eq
    subst this
    refine ⟨_, ns, rfl, sqL_mono g1.c hs, hl, fun out h1 h2 => ?_⟩
    have e : out.length = unl ns := nodup_len h1 (inc_nodup (sdI_inc ns)) fun z => (h2 z).trans mem_sdI.symm
    rw [e]
    exact q _ Hs1 H1 g1 (.int _)
theorem yf_listL (h : YD K te ρ (.list ds)) : YF K (tCB (rListS K) (tCons te tNil)) ρ ds := fun σ Hs H e s Q q => h σ Hs H e s _ fun v Hs1 H1 g1 r1 => by
  cases r1 with
  | lst hs ha => exact ⟨_, _, rfl, .inl (sqL_mono g1.c hs), fun p hp => q p _ Hs1 _ (g1.trans (Gr.fresh g1.c hp)) (same_none g1.b hp) (same_none g1.c hp) upd_same ha⟩
/-! ### arguments beside a list that is filled -/
def YWA (K : PySem.W.Frag) (ta : TA) (i : Nat) (ρ : Rho) (ds es : List PyData) : Prop := ∀ (σ : L2.St) (Hs H : Hp) (p : Addr), EnvD K Hs σ ρ → Same Hs H → Ow K i σ Hs H p ds → ∀ Q : List V → Hp → Prop, (∀ vs Hs2 H2, Gr Hs H Hs2 H2 → RpAll K Hs2 vs es → Q vs H2) → ta σ H Q
theorem ywa_nil : YWA K tNil i ρ ds [] := fun σ Hs H p e s o Q q => q [] Hs H (Gr.refl s) .nil
theorem ywa_cons (h : YW K te i ρ ds d) (k : YWA K tr i ρ ds es) : YWA K (tCons te tr) i ρ ds (d :: es) := fun σ Hs H p e s o Q q => h σ Hs H p e s o _ fun v Hs1 H1 g1 r1 => k σ Hs1 H1 p (e.mono g1.a) g1.c (o.gr g1) _ fun vs Hs2 H2 g2 r2 => q _ Hs2 H2 (g1.trans g2) (.cons (r1.mono g2.a) r2)
theorem yw_tup (h : YWA K tr i ρ ds es) (hl : es.length ≤ 100000) : YW K (tTup tr) i ρ ds (.tuple es) := fun σ Hs H p e s o Q q => h σ Hs H p e s o _ fun vs Hs1 H1 g1 r1 => ⟨sz_of (by rw [r1.len]; exact hl), fun p hp => q _ _ _ (g1.trans (Gr.new g1.c hp)) (rp_tup (H := H1) (same_none g1.c hp) r1)⟩
/-! ### steps at a place, some of the heap settled for a while -/
theorem at_n (h : YN K t sl ρ ρ1) (e : EnvD K Hs σ ρ) (s : Same Hs H) (k : ∀ σ' Hs2 H2, Gr Hs H Hs2 H2 → EnvD K Hs2 σ' ρ1 → (∀ i, i ∉ sl → σ'[i]? = σ[i]?) → u D σ' H2) : tSeq t u D σ H := h σ Hs H e s _ k
theorem at_asgS (h : YD K te ρv d) (hs : scalD d = true) (ev : EnvD K Hv σ ρv) (v1 : Same Hs Hv) (v2 : Same Hv H) (e : EnvD K Hs σ ρ) (k : ∀ σ2 H2, Gr Hs H Hs H2 → EnvD K Hs σ2 (ρ.set j (some d)) → (∀ i, i ∉ [j] → σ2[i]? = σ[i]?) → D.nx σ2 H2) : tAsg te (gName j) D σ H :=
  h σ Hv H ev v2 _ fun v Hx H2 g r => k _ H2 (Gr.back v1 g) (e.set j (r.scal hs)) fun i hi => List.getElem?_set_ne fun z => hi (by rw [z]; exact List.mem_singleton_self _)
theorem at_ifF (h : YT K c ρv false) (ev : EnvD K Hv σ ρv) (v1 : Same Hs Hv) (v2 : Same Hv H) (k : ∀ H2, Gr Hs H Hs H2 → D.nx σ H2) : tIfS c t tNext D σ H := h σ Hv H ev v2 _ fun Hx H2 g => k H2 (Gr.back v1 g)
theorem at_own (h : YF K te ρv es) (hs : es.all scalD = true) (ev : EnvD K Hv σ ρv) (v1 : Same Hs Hv) (v2 : Same Hv H) (e : EnvD K Hs σ ρ) (hj : j < ρ.length)
    (k : ∀ a H2, Gr Hs H Hs H2 → H a = none → EnvD K Hs (σ.set j (some (.ref a))) (ρ.set j none) → Ow K j (σ.set j (some (.ref a))) Hs H2 a es → D.nx (σ.set j (some (.ref a))) H2) : tAsg te (gName j) D σ H :=
  h σ Hv H ev v2 _ fun a us Hx H2 g ha hn hl r => k a H2 (Gr.back v1 g) ha (e.del j) ⟨List.getElem?_set_self (by rw [e.1]; exact hj), same_none (v1.trans v2) ha, us, hl, r.scal hs⟩
end
end SG
set_option Elab.async false
set_option linter.all false
set_option maxRecDepth 100000
set_option maxHeartbeats 4000000
namespace SG
open PySem PySem.Spec PyProof.Rows L2
/-! ### a law without lambdas -/
def spLaw (K : PySem.W.Frag) : Sp := fun vs H Q _ => ∃ (a : Addr) (ns : List Int), vs = [.ref a] ∧ SqL K H a (ns.map V.int) ∧ ns.length ≤ 63 ∧ ∀ H', Q (.bl true) H'
theorem env_nones {K : PySem.W.Frag} {Hs : Hp} : ∀ (σ : L2.St), EnvD K Hs σ (List.replicate σ.length none)
  | [] => env_nil
  | _ :: σ => env_none (env_nones σ)
theorem cutV_to {xs : List V} (j : Nat) : cutV xs none (some (j : Int)) = xs.take j := by
  unfold cutV
  rw [HT.sIx_none, show HT.sIx xs.length xs.length (some (j : Int)) = min j xs.length from HT.sIx_nat xs.length xs.length j, List.drop_zero, Nat.sub_zero]
  rcases Nat.le_total j xs.length with h | h
  · rw [Nat.min_eq_left h]
  · rw [Nat.min_eq_right h, List.take_of_length_le (Nat.le_refl _), List.take_of_length_le h]
abbrev tCut63 (K : PySem.W.Frag) : TS := tAsg (tSl (rSlL K) (tVar 0) tNoPart (tPart (tC (.int 63)))) (gName 0)
theorem okLaw {P : Program} {w : World} {K : PySem.W.Frag} {mg : Str → Option Value} {base : Heap} {x qual : Str} {params : Arguments} {body : List Stmt} {scope : Scope} {f : Addr} {fd : FuncData} {N : List Str} {k : Nat}
    (F : FunD K x qual params body scope [] [] f fd) (S : FnScope N ["_law_script"] scope) (hN : 0 < N.length)
    (hbody : ∀ (cdv : Value) (A : Around) (outer : List Env) (s : Shared) (H : Hp) (E : XK), Room k (A.deeper (envOfC qual scope s.heap.objs.size f cdv)) →
      ∃ u, PSs (cxOf CX0 P w K mg base N qual scope f cdv A outer s H E).nox body (tSeq (tCut63 K) u) ∧ ∀ ns : List Int, ns.length ≤ 63 → YR K u (startD N [.list (ns.map .int)]) (.bool true)) : FnOk P w K mg base CX0 (k + 1) f fd ["_law_script"] (spLaw K) := by
  refine F.ok S (fun vs H Q E h => ?_) (fun cdv A outer s H vs Q E hr h => ?_)
  · obtain ⟨a, ns, rfl, _⟩ := h
    rfl
  · obtain ⟨a, ns, rfl, hS, hlen, q⟩ := h
    obtain ⟨u, h1, h2⟩ := hbody cdv A outer s H E hr
    refine ⟨_, h1.nox, ?_⟩
    have l0 : (L2.start N [.ref a]).length = N.length := by
      unfold L2.start
      simp
      omega
    have h0 : (L2.start N [.ref a])[0]? = some (some (.ref a)) := rfl
    have e0 := env_nones (K := K) (Hs := fun _ => none) (L2.start N [.ref a])
    rw [l0] at e0
    generalize L2.start N [.ref a] = σ at e0 h0 l0 ⊢
    refine ⟨.ref a, h0, 63, rfl, a, _, rfl, hS, fun p hp => ?_⟩
    have ec : cutV (ns.map V.int) none (some 63) = ns.map V.int := by
      rw [show cutV (ns.map V.int) none (some 63) = (ns.map V.int).take 63 from cutV_to 63]
      exact List.take_of_length_le (by rw [List.length_map]; exact hlen)
    rw [ec]
    have s1 : Same (upd (fun _ => none) p (.lst (ns.map V.int))) (upd H p (.lst (ns.map V.int))) := fun b x e => by
      by_cases hb : b = p
      · subst hb
        rw [upd_same] at e ⊢
        exact e
      · rw [upd_ne hb] at e
        cases e
    have e1 : EnvD K _ (σ.set 0 (some (.ref p))) _ := (e0.mono (same_new (p := p) (o := .lst (ns.map V.int)) rfl)).set 0 (rp_lst (K := K) (H := H) (p := p) (Hs := fun _ => none) rfl (RpAll.ints ns))
    have er : (List.replicate N.length (none : Option PyData)).set 0 (some (.list (ns.map .int))) = startD N [.list (ns.map .int)] := by
      unfold startD
      obtain ⟨m, hm⟩ : ∃ m, N.length = m + 1 := ⟨N.length - 1, by omega⟩
      rw [hm]
      rfl
    rw [er] at e1
    exact h2 ns hlen _ _ _ e1 s1 _ fun v Hs2 H2 _ r => by
      cases r
      exact q H2
/-! ### range(0, n, 2) -/
def twD (n : Nat) : List PyData := (List.range n).map fun (i : Nat) => .int (0 + (i : Int) * 2)
theorem yi_rngT {K : PySem.W.Frag} {ρ : Rho} {ta : TA} {m : Int} (h : YA K ta ρ [.int 0, .int m, .int 2]) (hb : 0 < m ∧ m < 1000) : YI K (iRng3 ta) ρ (twD ((m + 1) / 2).toNat) := fun σ Hs H e s R q => h σ Hs H e s _ fun vs Hs1 H1 g1 r1 => by
  cases r1 with
  | cons r1 r2 => cases r2 with
    | cons r2 r3 => cases r3 with
      | cons r3 r4 =>
        cases r4; cases r1; cases r2; cases r3
        have hr : Builtin.Range.rangeSize 0 m 2 = (m + 1) / 2 := by
          unfold Builtin.Range.rangeSize
          rw [if_pos (by decide), if_pos hb.1]
          omega
        refine ⟨0, m, 2, ((m + 1) / 2).toNat, rfl, ⟨by decide, by decide, ?_, by rw [hr]; omega⟩, q _ Hs1 H1 g1 fun i Hs2 H2 s1 s2 => ?_⟩
        · unfold Builtin.Range.small
          rw [hr]
          simp only [Bool.and_eq_true, Bool.or_eq_true, Builtin.Range.rangeFitsLong, beq_iff_eq, decide_eq_true_eq]
          rw [if_pos (by decide)]
          refine ⟨by omega, .inr ?_⟩
          rw [decide_eq_true (by omega), decide_eq_true (by omega)]
          rfl
        · have hlen : (twD ((m + 1) / 2).toNat).length = ((m + 1) / 2).toNat := by
            unfold twD
            rw [List.length_map, List.length_range]
          refine ⟨fun d e => ?_, fun hl => by rw [hlen] at hl; exact hl⟩
          have hi : i < ((m + 1) / 2).toNat := by
            have := (List.getElem?_eq_some_iff.mp e).1
            rwa [hlen] at this
          unfold twD at e
          rw [List.getElem?_map, List.getElem?_range hi] at e
          refine ⟨hi, fun x H' y => ?_⟩
          obtain ⟨rfl, rfl⟩ := y
          cases Option.some.inj e
          exact ⟨Hs2, Gr.refl s2, .int _⟩
end SG
set_option Elab.async false
set_option linter.all false
set_option maxRecDepth 100000
set_option maxHeartbeats 4000000
namespace SG
open PySem PySem.Spec PyProof.Rows L2
/-! ### the head's facts, and one Bool more -/
abbrev AlM : Type := He.AlD × Bool
def obsM (n : Nat) (fa : List He.Fa) (fn : List He.DefD) (ex : PySem.W.Frag → Bool) (g : Addr → Option Obj) : AlM := (He.obsD fa fn (He.frG g (He.asD g n)), ex (He.frG g (He.asD g n)))
structure SaysM (fa : List He.Fa) (fn : List He.DefD) (ex : PySem.W.Frag → Bool) (K : PySem.W.Frag) : Prop where
  d : He.SaysD fa fn K
  more : ex K = true
def hookM (n : Nat) (fa : List He.Fa) (fn : List He.DefD) (ex : PySem.W.Frag → Bool) : PySem.W.Hook where
  α := AlM
  obs := fun s => obsM n fa fn ex s.heap.get?
  val := fun _ => (He.valD fn, true)
  says := fun _ h => ∃ K : PySem.W.Frag, K.In h ∧ SaysM fa fn ex K
  of := fun _ _ e => ⟨_, He.frG_in, ⟨congrArg (fun z : AlM => z.1) e, congrArg (fun z : AlM => z.2) e⟩⟩
  keeps := fun _ _ _ ⟨K, hK, c⟩ k => ⟨K, PySem.W.Frag.In.keeps hK k, c⟩
theorem obsM_eq {n : Nat} {fa : List He.Fa} {fn : List He.DefD} {ex : PySem.W.Frag → Bool} {g : Addr → Option Obj} {s : Shared} (h : ∀ a, g a = s.heap.get? a) : obsM n fa fn ex g = (hookM n fa fn ex).obs s := by
  have e : g = s.heap.get? := funext h
  rw [e] <;> rfl
def excCB (K : PySem.W.Frag) (D : Addr) : Bool := He.eqO (PySem.W.findIn K (.ref D) "__getattribute__") (some (some (.builtin "BaseException.__getattribute__"))) && (He.eqO (PySem.W.findIn K (.ref D) "__getattr__") (some none) &&
  (decide (PySem.W.subIn K (.ref D) (.type "BaseException") = some true) && (PySem.W.hasDictIn K D && (He.eqO (PySem.W.findIn K (.ref D) "__class__") (some (some (.builtin "object.__class__"))) &&
  (He.eqO (PySem.W.specialIn K (.builtin "object.__class__") "__get__") (some (some (.builtin "getset_descriptor.__get__"))) && (decide (PySem.W.takesIn K (.builtin "object.__class__") = some true) && decide (PySem.W.mroIn K D (.type "object") = some true)))))))
theorem excCB_ok {K : PySem.W.Frag} {D : Addr} (h : excCB K D = true) : ExcC K D := by
  obtain ⟨c1, h⟩ := He.ba h
  obtain ⟨c2, h⟩ := He.ba h
  obtain ⟨c3, h⟩ := He.ba h
  obtain ⟨c4, h⟩ := He.ba h
  obtain ⟨c5, h⟩ := He.ba h
  obtain ⟨c6, h⟩ := He.ba h
  obtain ⟨c7, c8⟩ := He.ba h
  exact ⟨He.eqO_ok c1, He.eqO_ok c2, of_decide_eq_true c3, c4, He.eqO_ok c5, He.eqO_ok c6, of_decide_eq_true c7, of_decide_eq_true c8⟩
/-- own errors by names: each one's facts; of two whether one is the other; each a SightError -/
def errB (xs : List Str) (base : Str) (K : PySem.W.Frag) : Bool := (xs.all fun x => excCB K (He.ga K x)) && ((xs.all fun x => xs.all fun y => decide (PySem.W.kitOne K (.ref (He.ga K x)) (.ref (He.ga K y)) = some (decide (x = y)))) &&
  xs.all fun x => decide (PySem.W.exmOne K (.ref (He.ga K x)) (.ref (He.ga K base)) = some true))
theorem errB_ec {xs : List Str} {b x : Str} {K : PySem.W.Frag} (h : errB xs b K = true) (hx : x ∈ xs) : ExcC K (He.ga K x) := excCB_ok (List.all_eq_true.mp (He.ba h).1 x hx)
theorem errB_kit {xs : List Str} {b x y : Str} {K : PySem.W.Frag} (h : errB xs b K = true) (hx : x ∈ xs) (hy : y ∈ xs) : PySem.W.kitOne K (.ref (He.ga K x)) (.ref (He.ga K y)) = some (decide (x = y)) := of_decide_eq_true (List.all_eq_true.mp (List.all_eq_true.mp (He.ba (He.ba h).2).1 x hx) y hy)
theorem errB_exm {xs : List Str} {b x : Str} {K : PySem.W.Frag} (h : errB xs b K = true) (hx : x ∈ xs) : PySem.W.exmOne K (.ref (He.ga K x)) (.ref (He.ga K b)) = some true := of_decide_eq_true (List.all_eq_true.mp (He.ba (He.ba h).2).2 x hx)
theorem xc_of {K : PySem.W.Frag} {h : Heap} {mg : Str → Option Value} (X : K.In h) (G : h.Ns mainGlobals mg) {x : Str} (m : (He.Fa.glo x).ok K = true) (c : (He.Fa.exc x).ok K = true) : Xc K mg x (He.ga K x) := by
  obtain ⟨c1, c2, c3, c4⟩ := He.exc_ok c
  exact ⟨He.glo_ok X G m, c1, c2, c3, c4⟩
end SG
set_option Elab.async false
set_option linter.all false
set_option maxRecDepth 100000
set_option maxHeartbeats 4000000
namespace SG
open PySem PySem.Spec PyProof.Rows L2
def top (i : Nat) : Stmt := PySem.Challenge.pw_sightings_k05_whole_walks.main.body.getD i (.Pass ⟨0, 0, 0, 0⟩)
abbrev FnP (K : PySem.W.Frag) (x : Str) (st : Stmt) (f : Addr) (fd : FuncData) : Prop := FunD K x x (defArgs st) (defBody st) (defScope st) [] [] f fd
theorem hu65 {k : Nat} {A : Around} (hr : Room k A) : A.units + 65 < cLine := by have := hr.un; omega
structure Gb (mg : Str → Option Value) : Prop where
  b_len : mg "len" = none
  b_isinstance : mg "isinstance" = none
  b_all : mg "all" = none
  b_any : mg "any" = none
  b_min : mg "min" = none
  b_max : mg "max" = none
  b_sorted : mg "sorted" = none
  b_abs : mg "abs" = none
  b_sum : mg "sum" = none
  b_int : mg "int" = none
  b_bool : mg "bool" = none
  b_tuple : mg "tuple" = none
  b_list : mg "list" = none
  b_range : mg "range" = none
  b_zip : mg "zip" = none
  b_enumerate : mg "enumerate" = none
  b_reversed : mg "reversed" = none
  b_set : mg "set" = none
  b_dict : mg "dict" = none
structure Gi (mg : Str → Option Value) : Prop extends Gb mg where
  i_MOST_PLACES : ∃ t, mg "MOST_PLACES" = some (.int 7 t)
  i_MOST_WAYS : ∃ t, mg "MOST_WAYS" = some (.int 10 t)
  i_MOST_LAST : ∃ t, mg "MOST_LAST" = some (.int 10 t)
  i_MOST_SIGHTINGS : ∃ t, mg "MOST_SIGHTINGS" = some (.int 8 t)

/-! ### what lands are -/
def isNum : PyData → Bool
  | .int _ => true
  | _ => false
def numIn (d : PyData) (lo hi : Int) : Bool := match d with
  | .int i => decide (lo ≤ i) && decide (i ≤ hi)
  | _ => false
def isWay (d : PyData) (n : Int) : Bool := match d with
  | .tuple [.int i, b] => decide (0 ≤ i) && decide (i ≤ n - 1) && numIn b (i + 1) (n - 1)
  | _ => false
def ltD : PyData → PyData → Bool
  | .tuple [.int a, .int b], .tuple [.int c, .int d] => ltPr (a, b) (c, d)
  | _, _ => false
def incD : List PyData → Bool
  | a :: b :: r => ltD a b && incD (b :: r)
  | _ => true
def areWays (d : PyData) (n : Int) : Bool := match d with
  | .list ws => decide (ws.length ≤ 10) && (ws.all (fun w => isWay w n) && incD ws)
  | _ => false
def isLand (d : PyData) : Bool := match d with
  | .tuple [.int n, ws, l] => decide (1 ≤ n) && decide (n ≤ 7) && (areWays ws n && numIn l 1 10)
  | _ => false
section
variable {P : Program} {w : World} {K : PySem.W.Frag} {mg : Str → Option Value} {base : Heap} {f : Addr} {fd : FuncData}
abbrev s_is_number : Stmt := (top 14)
theorem sc_is_number : FnScope ["thing"] ["thing"] (defScope s_is_number) := ⟨rfl, rfl, rfl, by decide +kernel, rfl, by decide +kernel, by decide +kernel⟩
def R_is_number (ds : List PyData) (d : PyData) : Prop := ∃ x, ds = [x] ∧ d = .bool (isNum x)
theorem ok_is_number (F : FnP K "is_number" s_is_number f fd) (G : Gi mg) : FnOk P w K mg base CX0 1 f fd ["thing"] (spD K R_is_number) := by
  refine okD F sc_is_number (by rintro _ _ ⟨x, rfl, _⟩; rfl) fun cdv A outer s H E hr => ⟨_, (pss_one (ps_ret (pe_and (pe_callB (call_isik (K := K) rfl) rfl G.b_isinstance boot_isinstance (pa_cons (pv 0) (pa_cons (pe_ty (n := "int") rfl G.b_int (by decide +kernel)) pa_nil))) (pe_one (pe_not (pe_callB (call_isik (K := K) rfl) rfl G.b_isinstance boot_isinstance (pa_cons (pv 0) (pa_cons (pe_ty (n := "bool") rfl G.b_bool (by decide +kernel)) pa_nil)))))))), ?_⟩
  rintro _ _ ⟨x, rfl, rfl⟩
  refine yr_ret (YD.eq (yd_and (yd_isi (yd_var rfl) (kit_int x)) fun _ => yd_not (yd_isi (yd_var rfl) (kit_bool x))) ?_)
  cases x <;> rfl
abbrev s_is_within : Stmt := (top 15)
theorem sc_is_within : FnScope ["thing", "least", "most"] ["thing", "least", "most"] (defScope s_is_within) := ⟨rfl, rfl, rfl, by decide +kernel, rfl, by decide +kernel, by decide +kernel⟩
def R_is_within (ds : List PyData) (d : PyData) : Prop := ∃ x lo hi, ds = [x, .int lo, .int hi] ∧ d = .bool (numIn x lo hi)
theorem ok_is_within (F : FnP K "is_within" s_is_within f fd) (G : Gi mg) (c_is_number : Cal P w K mg base CX0 1 "is_number" (spD K R_is_number)) : FnOk P w K mg base CX0 2 f fd ["thing", "least", "most"] (spD K R_is_within) := by
  refine okD F sc_is_within (by rintro _ _ ⟨x, lo, hi, rfl, _⟩; rfl) fun cdv A outer s H E hr => ⟨_, (pss_one (ps_ret (pe_and (pe_d c_is_number hr (by decide) rfl (pa_cons (pv 0) pa_nil)) (pe_one (pe_chain (op_le) (op_le) (pv 1) (pv 0) (pv 2)))))), ?_⟩
  rintro _ _ ⟨x, lo, hi, rfl, rfl⟩
  refine yr_ret (YD.eq (yd_and (a := isNum x) (b := numIn x lo hi) (yd_call (ya_cons (yd_var rfl) ya_nil) ⟨x, rfl, rfl⟩) fun hx => ?_) ?_)
  · cases x with
    | int i => exact yd_chain (yd_var rfl) (yd_var rfl) rd_B0 (fun _ => yd_var rfl) (fun _ => rd_B0)
    | _ => cases hx
  · cases x <;> rfl
abbrev s_is_way : Stmt := (top 16)
theorem sc_is_way : FnScope ["thing", "places", "one", "other"] ["thing", "places"] (defScope s_is_way) := ⟨rfl, rfl, rfl, by decide +kernel, rfl, by decide +kernel, by decide +kernel⟩
def R_is_way (ds : List PyData) (d : PyData) : Prop := ∃ x n, ds = [x, .int n] ∧ d = .bool (isWay x n)
theorem ok_is_way (F : FnP K "is_way" s_is_way f fd) (G : Gi mg) (c_is_within : Cal P w K mg base CX0 2 "is_within" (spD K R_is_within)) : FnOk P w K mg base CX0 3 f fd ["thing", "places"] (spD K R_is_way) := by
  refine okD F sc_is_way (by rintro _ _ ⟨x, n, rfl, _⟩; rfl) fun cdv A outer s H E hr => ⟨_, (pss_cons (ps_if (PW.pt (pw_or (pt_not (pt_val (pe_callB (call_isik (K := K) rfl) rfl G.b_isinstance boot_isinstance (pa_cons (pv 0) (pa_cons (pe_ty (n := "tuple") rfl G.b_tuple (by decide +kernel)) pa_nil))))) (pw_or1 (pt_cmpR (op_nek (K := K) rfl hr.units) (pe_callB (call_lenk (K := K) rfl) rfl G.b_len boot_len (pa_cons (pv 0) pa_nil)) pe_int (nomark _))))) (pss_one (ps_ret pe_bl)) pss_nil)
      (pss_cons (ps_asg (pv 0) (pg_tupk (K := K) (n := 2) rfl rfl (pgs_cons (pg_name (i := 2) sc_is_way.nd rfl (Or.inl rfl)) (pgs_cons (pg_name (i := 3) sc_is_way.nd rfl (Or.inl rfl)) pgs_nil))))
      (pss_one (ps_ret (pe_and (pe_d c_is_within hr (by decide) rfl (pa_cons (pv 2) (pa_cons pe_int (pa_cons (pe_op op_sub (pv 1) pe_int) pa_nil)))) (pe_one (pe_d c_is_within hr (by decide) rfl (pa_cons (pv 3) (pa_cons (pe_op op_add (pv 2) pe_int) (pa_cons (pe_op op_sub (pv 1) pe_int) pa_nil)))))))))), ?_⟩
  rintro _ _ ⟨x, n, rfl, rfl⟩
  by_cases hx : ∃ ds, x = .tuple ds
  · obtain ⟨ds, rfl⟩ := hx
    refine yr_ifs (yt_or (yt_not (yt_B (yd_isi (yd_var rfl) (kit_tuple _)))) fun _ => yt_test (yd_op (yd_cb (ya_cons (yd_var rfl) ya_nil) rc_lenT) yd_int (rd_neD rfl rfl))) (fun hb => yr_seqR (yr_ret (YD.eq yd_bl ?_))) (fun hb => yr_next ?_)
    · have h2 : (ds.length : Int) ≠ 2 := by simpa [isTup, PyData.eqv] using hb
      have : isWay (.tuple ds) n = false := by
        unfold isWay
        split
        · rename_i z; cases z; exact absurd rfl h2
        · rfl
      rw [this]
    · have h2 : (ds.length : Int) = 2 := by simpa [isTup, PyData.eqv] using hb
      obtain ⟨a, b, rfl⟩ : ∃ a b, ds = [a, b] := by
        match ds, h2 with
        | [a, b], _ => exact ⟨a, b, rfl⟩
        | [], h => simp at h
        | [_], h => simp at h
        | _ :: _ :: _ :: _, h => simp at h; omega
      refine yr_seq (yn_asg (yd_var rfl) (yg_tup (ygs_cons yg_name (ygs_cons yg_name ygs_nil)) rfl)) ?_
      refine yr_ret (YD.eq (yd_and (a := numIn a 0 (n - 1)) (b := isWay (.tuple [a, b]) n) (yd_call (ya_cons (yd_var rfl) (ya_cons yd_int (ya_cons (yd_op (yd_var rfl) yd_int rd_I0) ya_nil))) ⟨_, _, _, rfl, rfl⟩) fun hn => ?_) ?_)
      · cases a with
        | int i =>
          refine YD.eq (yd_call (ya_cons (yd_var rfl) (ya_cons (yd_op (yd_var rfl) yd_int rd_I0) (ya_cons (yd_op (yd_var rfl) yd_int rd_I0) ya_nil))) ⟨_, _, _, rfl, rfl⟩) ?_
          have : (decide (0 ≤ i) && decide (i ≤ n - 1)) = true := hn
          simp only [isWay, this, Bool.true_and]
        | _ => cases hn
      · cases a with
        | int i => simp only [isWay, numIn]; cases (decide (0 ≤ i) && decide (i ≤ n - 1)) <;> rfl
        | _ => rfl
  · have e : isTup x = false := by cases x <;> first | rfl | exact absurd ⟨_, rfl⟩ hx
    refine yr_ifs (b := true) (YT.eq (yt_or (b := true) (yt_not (yt_B (yd_isi (yd_var rfl) (kit_tuple _)))) fun h => ?_) ?_) (fun hb => yr_seqR (yr_ret (YD.eq yd_bl ?_))) (fun hb => nomatch hb)
    · rw [e] at h; cases h
    · rw [e]; rfl
    · cases x <;> first | rfl | exact absurd ⟨_, rfl⟩ hx
abbrev s_are_ways : Stmt := (top 17)
theorem sc_are_ways : FnScope ["thing", "places", "way", "one", "other"] ["thing", "places"] (defScope s_are_ways) := ⟨rfl, rfl, rfl, by decide +kernel, rfl, by decide +kernel, by decide +kernel⟩
def R_are_ways (ds : List PyData) (d : PyData) : Prop := ∃ x n, ds = [x, .int n] ∧ d = .bool (areWays x n)
theorem isWay_pair {d : PyData} {n : Int} (h : isWay d n = true) : ∃ p : Int × Int, d = dP p ∧ 0 ≤ p.1 ∧ p.1 < p.2 ∧ p.2 < n := by
  unfold isWay at h
  split at h
  · rename_i i b
    cases b with
    | int j =>
      simp [numIn] at h
      exact ⟨(i, j), rfl, by omega, by simp; omega, by simp; omega⟩
    | _ => simp [numIn] at h
  · cases h
theorem inc_zip : ∀ ws : List PyData, (ws.zip (ws.drop 1)).all (fun p => ltD p.1 p.2) = incD ws
  | [] => rfl
  | [_] => rfl
  | a :: b :: r => by
    show (ltD a b && ((b :: r).zip ((b :: r).drop 1)).all fun p => ltD p.1 p.2) = (ltD a b && incD (b :: r))
    rw [inc_zip (b :: r)]
theorem zipD_zip (ds es : List PyData) : zipD ds es = (ds.zip es).map fun p => .tuple [p.1, p.2] := by
  unfold zipD
  rw [List.zip, List.map_zipWith]
theorem ok_are_ways (F : FnP K "are_ways" s_are_ways f fd) (G : Gi mg) (c_is_way : Cal P w K mg base CX0 3 "is_way" (spD K R_is_way)) : FnOk P w K mg base CX0 4 f fd ["thing", "places"] (spD K R_are_ways) := by
  refine okD F sc_are_ways (by rintro _ _ ⟨x, n, rfl, _⟩; rfl) fun cdv A outer s H E hr => ⟨_, (pss_cons (ps_if (PW.pt (pw_or (pt_not (pt_val (pe_callB (call_isik (K := K) rfl) rfl G.b_isinstance boot_isinstance (pa_cons (pv 0) (pa_cons (pe_ty (n := "list") rfl G.b_list (by decide +kernel)) pa_nil))))) (pw_or1 (pt_cmpR (op_gt) (pe_callB (call_lenk (K := K) rfl) rfl G.b_len boot_len (pa_cons (pv 0) pa_nil)) (pe_gi rfl G.i_MOST_WAYS) (nomark _))))) (pss_one (ps_ret pe_bl)) pss_nil)
      (pss_cons (ps_if (pt_not (pt_val (pe_callB (cr_allk (K := K) rfl rfl) rfl G.b_all (by decide +kernel) (pa_cons (pe_lc (own := [("way", 2)]) rfl sc_are_ways.nd (pi_listk (K := K) rfl (pv 0)) (blkOk_by (N := ["thing", "places", "way", "one", "other"]) (sc := defScope s_are_ways) (by decide +kernel)) (fun _ _ _ _ _ => (pg_name (i := 2) sc_are_ways.nd rfl (Or.inl rfl))) (fun _ _ _ _ _ => pts_nil) (fun _ _ _ _ _ => (pe_d c_is_way hr (by decide) rfl (pa_cons (pv 2) (pa_cons (pv 1) pa_nil))))) pa_nil)))) (pss_one (ps_ret pe_bl)) pss_nil)
      (pss_one (ps_ret (pe_callB (cr_allk (K := K) rfl rfl) rfl G.b_all (by decide +kernel) (pa_cons (pe_lc (own := [("one", 3), ("other", 4)]) rfl sc_are_ways.nd (pi_zipk (K := K) rfl rfl G.b_zip (pa_cons (pv 0) (pa_cons (pe_slice (sl_listk (K := K) rfl) (pv 0) (po_some pe_int) po_none) pa_nil))) (blkOk_by (N := ["thing", "places", "way", "one", "other"]) (sc := defScope s_are_ways) (by decide +kernel)) (fun _ _ _ _ _ => (pg_tupk (K := K) (n := 2) rfl rfl (pgs_cons (pg_name (i := 3) sc_are_ways.nd rfl (Or.inl rfl)) (pgs_cons (pg_name (i := 4) sc_are_ways.nd rfl (Or.inl rfl)) pgs_nil)))) (fun _ _ _ _ _ => pts_nil) (fun _ _ _ _ _ => (pe_cmpR (op_ltTk (K := K) rfl hr.units0) (pv 3) (pv 4) (nomark _)))) pa_nil)))))), ?_⟩
  rintro _ _ ⟨x, n, rfl, rfl⟩
  by_cases hx : ∃ ds, x = .list ds
  · obtain ⟨ds, rfl⟩ := hx
    refine yr_ifs (b := decide (10 < (ds.length : Int))) (YT.eq (yt_or (yt_not (yt_B (yd_isi (yd_var rfl) (kit_list _)))) fun _ => yt_test (yd_op (yd_cb (ya_cons (yd_var rfl) ya_nil) rc_lenL) yd_int rd_B0)) rfl) (fun hb => yr_seqR (yr_ret (YD.eq yd_bl ?_))) (fun hb => yr_next ?_)
    · have : 10 < ds.length := by have := of_decide_eq_true hb; omega
      simp [areWays]
      omega
    · have hl : ds.length ≤ 10 := by have := of_decide_eq_false hb; omega
      refine yr_ifs (yt_not (yt_B (yd_all (xs := ds) (p := fun w => isWay w n) (yd_lc0 (fun d => d) (fun w => .bool (isWay w n)) (fun d => _) ((yi_list (yd_var rfl)).eq (List.map_id' ds).symm) (by omega) (by decide) (fun d _ => yg_name) fun d _ => yd_call (ya_cons (yd_var rfl) (ya_cons (yd_var rfl) ya_nil)) ⟨_, _, rfl, rfl⟩)))) (fun hb => yr_seqR (yr_ret (YD.eq yd_bl ?_))) (fun hb => yr_next ?_)
      · have : (ds.all fun w => isWay w n) = false := by simpa using hb
        simp only [areWays, this, Bool.false_and, Bool.and_false]
      · have hw : (ds.all fun w => isWay w n) = true := by simpa using hb
        have hw2 : ∀ d ∈ ds, isWay d n = true := by simpa using hw
        have hm : ∀ p ∈ ds.zip (ds.drop 1), p.1 ∈ ds ∧ p.2 ∈ ds := fun p hp => ⟨(List.of_mem_zip hp).1, List.mem_of_mem_drop (List.of_mem_zip hp).2⟩
        refine yr_ret (YD.eq (yd_all (xs := ds.zip (ds.drop 1)) (p := fun p => ltD p.1 p.2) (yd_lc0 (fun p : PyData × PyData => .tuple [p.1, p.2]) (fun p => .bool (ltD p.1 p.2)) (fun p => _) ((yi_zip (ya_cons (yd_var rfl) (ya_cons (yd_slL (yd_var rfl) (yo_some yd_int) yo_none) ya_nil))).eq ?_) ?_ (by decide) (fun p _ => yg_tup (ygs_cons yg_name (ygs_cons yg_name ygs_nil)) rfl) fun p hp => ?_)) ?_)
        · rw [show cutD ds (some 1) none = ds.drop 1 from cutD_from 1, zipD_zip]
        · rw [List.length_zip]
          omega
        · obtain ⟨a, ea, _⟩ := isWay_pair (hw2 _ (hm p hp).1)
          obtain ⟨b, eb, _⟩ := isWay_pair (hw2 _ (hm p hp).2)
          obtain ⟨p1, p2⟩ := p
          dsimp only at ea eb
          subst ea eb
          exact yd_op (yd_var rfl) (yd_var rfl) rd_ltT
        · rw [inc_zip]
          simp only [areWays, hw, Bool.true_and]
          rw [decide_eq_true hl]
          rfl
  · have e : isList x = false := by cases x <;> first | rfl | exact absurd ⟨_, rfl⟩ hx
    refine yr_ifs (b := true) (YT.eq (yt_or (b := true) (yt_not (yt_B (yd_isi (yd_var rfl) (kit_list _)))) fun h => ?_) ?_) (fun hb => yr_seqR (yr_ret (YD.eq yd_bl ?_))) (fun hb => nomatch hb)
    · rw [e] at h; cases h
    · rw [e]; rfl
    · cases x <;> first | rfl | exact absurd ⟨_, rfl⟩ hx
abbrev s_is_land : Stmt := (top 18)
theorem sc_is_land : FnScope ["thing", "places", "ways", "last"] ["thing"] (defScope s_is_land) := ⟨rfl, rfl, rfl, by decide +kernel, rfl, by decide +kernel, by decide +kernel⟩
def R_is_land (ds : List PyData) (d : PyData) : Prop := ∃ x, ds = [x] ∧ d = .bool (isLand x)
theorem ok_is_land (F : FnP K "is_land" s_is_land f fd) (G : Gi mg) (c_is_within : Cal P w K mg base CX0 2 "is_within" (spD K R_is_within)) (c_are_ways : Cal P w K mg base CX0 4 "are_ways" (spD K R_are_ways)) : FnOk P w K mg base CX0 5 f fd ["thing"] (spD K R_is_land) := by
  refine okD F sc_is_land (by rintro _ _ ⟨x, rfl, _⟩; rfl) fun cdv A outer s H E hr => ⟨_, (pss_cons (ps_if (PW.pt (pw_or (pt_not (pt_val (pe_callB (call_isik (K := K) rfl) rfl G.b_isinstance boot_isinstance (pa_cons (pv 0) (pa_cons (pe_ty (n := "tuple") rfl G.b_tuple (by decide +kernel)) pa_nil))))) (pw_or1 (pt_cmpR (op_nek (K := K) rfl hr.units) (pe_callB (call_lenk (K := K) rfl) rfl G.b_len boot_len (pa_cons (pv 0) pa_nil)) pe_int (nomark _))))) (pss_one (ps_ret pe_bl)) pss_nil)
      (pss_cons (ps_asg (pv 0) (pg_tupk (K := K) (n := 3) rfl rfl (pgs_cons (pg_name (i := 1) sc_is_land.nd rfl (Or.inl rfl)) (pgs_cons (pg_name (i := 2) sc_is_land.nd rfl (Or.inl rfl)) (pgs_cons (pg_name (i := 3) sc_is_land.nd rfl (Or.inl rfl)) pgs_nil)))))
      (pss_one (ps_ret (pe_and (pe_d c_is_within hr (by decide) rfl (pa_cons (pv 1) (pa_cons pe_int (pa_cons (pe_gi rfl G.i_MOST_PLACES) pa_nil)))) (pe_and (pe_d c_are_ways hr (by decide) rfl (pa_cons (pv 2) (pa_cons (pv 1) pa_nil))) (pe_one (pe_d c_is_within hr (by decide) rfl (pa_cons (pv 3) (pa_cons pe_int (pa_cons (pe_gi rfl G.i_MOST_LAST) pa_nil))))))))))), ?_⟩
  rintro _ _ ⟨x, rfl, rfl⟩
  by_cases hx : ∃ ds, x = .tuple ds
  · obtain ⟨ds, rfl⟩ := hx
    refine yr_ifs (yt_or (yt_not (yt_B (yd_isi (yd_var rfl) (kit_tuple _)))) fun _ => yt_test (yd_op (yd_cb (ya_cons (yd_var rfl) ya_nil) rc_lenT) yd_int (rd_neD rfl rfl))) (fun hb => yr_seqR (yr_ret (YD.eq yd_bl ?_))) (fun hb => yr_next ?_)
    · have h2 : (ds.length : Int) ≠ 3 := by simpa [isTup, PyData.eqv] using hb
      have : isLand (.tuple ds) = false := by
        unfold isLand
        split
        · rename_i z; cases z; exact absurd rfl h2
        · rfl
      rw [this]
    · have h2 : (ds.length : Int) = 3 := by simpa [isTup, PyData.eqv] using hb
      obtain ⟨a, b, c, rfl⟩ : ∃ a b c, ds = [a, b, c] := by
        match ds, h2 with
        | [a, b, c], _ => exact ⟨a, b, c, rfl⟩
        | [], h => simp at h
        | [_], h => simp at h
        | [_, _], h => simp at h
        | _ :: _ :: _ :: _ :: _, h => simp at h; omega
      refine yr_seq (yn_asg (yd_var rfl) (yg_tup (ygs_cons yg_name (ygs_cons yg_name (ygs_cons yg_name ygs_nil))) rfl)) ?_
      refine yr_ret (YD.eq (yd_and (a := numIn a 1 7) (b := isLand (.tuple [a, b, c])) (yd_call (ya_cons (yd_var rfl) (ya_cons yd_int (ya_cons yd_int ya_nil))) ⟨_, _, _, rfl, rfl⟩) fun hn => ?_) ?_)
      · cases a with
        | int i =>
          refine YD.eq (yd_and (yd_call (ya_cons (yd_var rfl) (ya_cons (yd_var rfl) ya_nil)) ⟨_, _, rfl, rfl⟩) fun _ => yd_call (ya_cons (yd_var rfl) (ya_cons yd_int (ya_cons yd_int ya_nil))) ⟨_, _, _, rfl, rfl⟩) ?_
          have : (decide (1 ≤ i) && decide (i ≤ 7)) = true := hn
          simp only [isLand, this, Bool.true_and]
        | _ => cases hn
      · cases a with
        | int i => simp only [isLand, numIn]; cases (decide (1 ≤ i) && decide (i ≤ 7)) <;> rfl
        | _ => rfl
  · have e : isTup x = false := by cases x <;> first | rfl | exact absurd ⟨_, rfl⟩ hx
    refine yr_ifs (b := true) (YT.eq (yt_or (b := true) (yt_not (yt_B (yd_isi (yd_var rfl) (kit_tuple _)))) fun h => ?_) ?_) (fun hb => yr_seqR (yr_ret (YD.eq yd_bl ?_))) (fun hb => nomatch hb)
    · rw [e] at h; cases h
    · rw [e]; rfl
    · cases x <;> first | rfl | exact absurd ⟨_, rfl⟩ hx
/-! ### what is refused -/
abbrev s_check_land : Stmt := (top 22)
theorem sc_check_land : FnScope ["land"] ["land"] (defScope s_check_land) := ⟨rfl, rfl, rfl, by decide +kernel, rfl, by decide +kernel, by decide +kernel⟩
def R_check_land (ds : List PyData) (d : PyData) : Prop := ∃ x, ds = [x] ∧ isLand x = true ∧ d = .none
def X_check_land (C : Addr) (ds : List PyData) (C' : Addr) : Prop := ∃ x, ds = [x] ∧ isLand x = false ∧ C' = C
theorem ok_check_land {C : Addr} (F : FnP K "check_land" s_check_land f fd) (G : Gi mg) (x_BadLand : Xc K mg "BadLand" C) (c_is_land : Cal P w K mg base CX0 5 "is_land" (spD K R_is_land)) : FnOk P w K mg base (L2.CX P w) 6 f fd ["land"] (spX K R_check_land (X_check_land C)) := by
  refine okX F sc_check_land (by rintro _ _ ⟨x, rfl, _⟩; rfl) (by rintro _ _ ⟨x, rfl, _⟩; rfl) fun cdv A outer s H E hr => ⟨_, (pss_one (ps_if (pt_not (pt_val (pe_d c_is_land hr (by decide) rfl (pa_cons (pv 0) pa_nil)))) (pss_one (ps_raise rfl (takes_of rfl rfl rfl rfl) (pmk_own PySem.F.excBase_ValueError x_BadLand.ex x_BadLand.mg x_BadLand.kp (raises_own x_BadLand.sub x_BadLand.ty) rfl))) pss_nil)), ?_, ?_⟩
  · rintro _ _ ⟨x, rfl, hx, rfl⟩
    exact .inr ⟨rfl, _, _, yn_ifF ((yt_not (yt_B (yd_call (ya_cons (yd_var rfl) ya_nil) ⟨_, rfl, rfl⟩))).eq (by rw [hx]; rfl)) yn_next⟩
  · rintro _ _ ⟨x, rfl, hx, rfl⟩
    exact ye_if (b := true) ((yt_not (yt_B (yd_call (ya_cons (yd_var rfl) ya_nil) ⟨_, rfl, rfl⟩))).eq (by rw [hx]; rfl)) (fun _ => ye_raise) (fun h => nomatch h)
abbrev s_check_place : Stmt := (top 23)
theorem sc_check_place : FnScope ["place", "places"] ["place", "places"] (defScope s_check_place) := ⟨rfl, rfl, rfl, by decide +kernel, rfl, by decide +kernel, by decide +kernel⟩
def R_check_place (ds : List PyData) (d : PyData) : Prop := ∃ x n, ds = [x, .int n] ∧ numIn x 0 (n - 1) = true ∧ d = .none
def X_check_place (C : Addr) (ds : List PyData) (C' : Addr) : Prop := ∃ x n, ds = [x, .int n] ∧ numIn x 0 (n - 1) = false ∧ C' = C
theorem ok_check_place {C : Addr} (F : FnP K "check_place" s_check_place f fd) (G : Gi mg) (x_BadPlace : Xc K mg "BadPlace" C) (c_is_within : Cal P w K mg base CX0 2 "is_within" (spD K R_is_within)) : FnOk P w K mg base (L2.CX P w) 3 f fd ["place", "places"] (spX K R_check_place (X_check_place C)) := by
  refine okX F sc_check_place (by rintro _ _ ⟨x, n, rfl, _⟩; rfl) (by rintro _ _ ⟨x, n, rfl, _⟩; rfl) fun cdv A outer s H E hr => ⟨_, (pss_one (ps_if (pt_not (pt_val (pe_d c_is_within hr (by decide) rfl (pa_cons (pv 0) (pa_cons pe_int (pa_cons (pe_op op_sub (pv 1) pe_int) pa_nil)))))) (pss_one (ps_raise rfl (takes_of rfl rfl rfl rfl) (pmk_own PySem.F.excBase_ValueError x_BadPlace.ex x_BadPlace.mg x_BadPlace.kp (raises_own x_BadPlace.sub x_BadPlace.ty) rfl))) pss_nil)), ?_, ?_⟩
  · rintro _ _ ⟨x, n, rfl, hx, rfl⟩
    exact .inr ⟨rfl, _, _, yn_ifF ((yt_not (yt_B (yd_call (ya_cons (yd_var rfl) (ya_cons yd_int (ya_cons (yd_op (yd_var rfl) yd_int rd_I0) ya_nil))) ⟨_, _, _, rfl, rfl⟩))).eq (by rw [hx]; rfl)) yn_next⟩
  · rintro _ _ ⟨x, n, rfl, hx, rfl⟩
    exact ye_if (b := true) ((yt_not (yt_B (yd_call (ya_cons (yd_var rfl) (ya_cons yd_int (ya_cons (yd_op (yd_var rfl) yd_int rd_I0) ya_nil))) ⟨_, _, _, rfl, rfl⟩))).eq (by rw [hx]; rfl)) (fun _ => ye_raise) (fun h => nomatch h)
abbrev s_check_tick : Stmt := (top 24)
theorem sc_check_tick : FnScope ["tick", "last"] ["tick", "last"] (defScope s_check_tick) := ⟨rfl, rfl, rfl, by decide +kernel, rfl, by decide +kernel, by decide +kernel⟩
def R_check_tick (ds : List PyData) (d : PyData) : Prop := ∃ x n, ds = [x, .int n] ∧ numIn x 0 n = true ∧ d = .none
def X_check_tick (C : Addr) (ds : List PyData) (C' : Addr) : Prop := ∃ x n, ds = [x, .int n] ∧ numIn x 0 n = false ∧ C' = C
theorem ok_check_tick {C : Addr} (F : FnP K "check_tick" s_check_tick f fd) (G : Gi mg) (x_BadTick : Xc K mg "BadTick" C) (c_is_within : Cal P w K mg base CX0 2 "is_within" (spD K R_is_within)) : FnOk P w K mg base (L2.CX P w) 3 f fd ["tick", "last"] (spX K R_check_tick (X_check_tick C)) := by
  refine okX F sc_check_tick (by rintro _ _ ⟨x, n, rfl, _⟩; rfl) (by rintro _ _ ⟨x, n, rfl, _⟩; rfl) fun cdv A outer s H E hr => ⟨_, (pss_one (ps_if (pt_not (pt_val (pe_d c_is_within hr (by decide) rfl (pa_cons (pv 0) (pa_cons pe_int (pa_cons (pv 1) pa_nil)))))) (pss_one (ps_raise rfl (takes_of rfl rfl rfl rfl) (pmk_own PySem.F.excBase_ValueError x_BadTick.ex x_BadTick.mg x_BadTick.kp (raises_own x_BadTick.sub x_BadTick.ty) rfl))) pss_nil)), ?_, ?_⟩
  · rintro _ _ ⟨x, n, rfl, hx, rfl⟩
    exact .inr ⟨rfl, _, _, yn_ifF ((yt_not (yt_B (yd_call (ya_cons (yd_var rfl) (ya_cons yd_int (ya_cons (yd_var rfl) ya_nil))) ⟨_, _, _, rfl, rfl⟩))).eq (by rw [hx]; rfl)) yn_next⟩
  · rintro _ _ ⟨x, n, rfl, hx, rfl⟩
    exact ye_if (b := true) ((yt_not (yt_B (yd_call (ya_cons (yd_var rfl) (ya_cons yd_int (ya_cons (yd_var rfl) ya_nil))) ⟨_, _, _, rfl, rfl⟩))).eq (by rw [hx]; rfl)) (fun _ => ye_raise) (fun h => nomatch h)
end
end SG
set_option Elab.async false
set_option linter.all false
set_option maxRecDepth 100000
set_option maxHeartbeats 4000000
namespace SG
open PySem PySem.Spec PyProof.Rows L2
/-! ### the law's draws -/
def primes : List Int := [1000003, 1000033, 1000037, 1000039, 1000081, 1000099, 1000117, 1000121, 1000133, 1000151, 1000159, 1000171, 1000183, 1000187, 1000193, 1000199]
def primeAt (k : Int) : Int := primes.getD (k % 16).toNat 1
def drawI (c k m : Int) : Int := (c * 48271 + k * 69621) % primeAt k % m
def valueI (c t : Int) : Int := if 10 ^ 18 ≤ c then ((c - 10 ^ 18) % 10 ^ 40) / 2 ^ (3 * t).toNat else
  drawI ((c % 10 ^ 18 + 977 * t) * (c % 10 ^ 18 + 31 * t + 5)) (t % 9 + 1) 999983 * 1000003 + drawI ((c % 10 ^ 18 + 31 * t) * (c % 10 ^ 18 + 7) + 977 * t) (t % 7 + 2) 1000003
theorem prime_at (k : Int) : atI (primes.map PyData.int) (k % 16) = some (.int (primeAt k)) ∧ 0 < primeAt k := by
  have h1 : 0 ≤ k % 16 := Int.emod_nonneg _ (by decide)
  have h2 : k % 16 < 16 := Int.emod_lt_of_pos _ (by decide)
  have e : k % 16 = ((k % 16).toNat : Int) := by omega
  have hn : (k % 16).toNat < 16 := by omega
  unfold primeAt
  generalize (k % 16).toNat = j at *
  rw [e]
  have hj : (primes.map PyData.int)[j]? = some (.int (primes.getD j 1)) := by
    rw [List.getElem?_map, List.getD_eq_getElem?_getD, List.getElem?_eq_getElem (by exact hn)]
    rfl
  refine ⟨atI_nat hj, ?_⟩
  have : ∀ i : Fin 16, 0 < primes.getD i.val 1 := by decide
  exact this ⟨j, hn⟩
theorem draw_pos (c k : Int) {m : Int} (h : 0 < m) : 0 ≤ drawI c k m ∧ drawI c k m < m := ⟨Int.emod_nonneg _ (by omega), Int.emod_lt_of_pos _ h⟩
theorem value_nn (c t : Int) : 0 ≤ valueI c t := by
  unfold valueI
  split
  · exact Int.ediv_nonneg (Int.emod_nonneg _ (by decide)) (Int.le_of_lt (Int.pow_pos (by decide)))
  · have a := draw_pos ((c % 10 ^ 18 + 977 * t) * (c % 10 ^ 18 + 31 * t + 5)) (t % 9 + 1) (m := 999983) (by decide)
    have b := draw_pos ((c % 10 ^ 18 + 31 * t) * (c % 10 ^ 18 + 7) + 977 * t) (t % 7 + 2) (m := 1000003) (by decide)
    omega
section
variable {P : Program} {w : World} {K : PySem.W.Frag} {mg : Str → Option Value} {base : Heap} {f : Addr} {fd : FuncData}
abbrev s__law_cell_at : Stmt := (top 39)
theorem sc__law_cell_at : FnScope ["_law_script", "_law_k"] ["_law_script", "_law_k"] (defScope s__law_cell_at) := ⟨rfl, rfl, rfl, by decide +kernel, rfl, by decide +kernel, by decide +kernel⟩
def R_cell_at (ds : List PyData) (d : PyData) : Prop := ∃ (ns : List Int) (k : Nat), ds = [.list (ns.map .int), .int k] ∧ d = .int (ns.getD k 0)
theorem ok_cell_at (F : FnP K "_law_cell_at" s__law_cell_at f fd) (G : Gi mg) : FnOk P w K mg base CX0 1 f fd ["_law_script", "_law_k"] (spD K R_cell_at) := by
  refine okD F sc__law_cell_at (by rintro _ _ ⟨x, n, rfl, _⟩; rfl) fun cdv A outer s H E hr => ⟨_, (pss_cons (ps_if (pt_cmpR (op_lt) (pv 1) (pe_callB (call_lenk (K := K) rfl) rfl G.b_len boot_len (pa_cons (pv 0) pa_nil)) (nomark _)) (pss_one (ps_ret (pe_ix (ix_k (K := K) rfl) (pv 0) (pv 1) (fun _ _ => rfl)))) pss_nil)
      (pss_one (ps_ret pe_int))), ?_⟩
  rintro _ _ ⟨ns, k, rfl, rfl⟩
  refine yr_ifs (b := decide (k < ns.length)) ((yt_test (yd_op (yd_var rfl) (yd_cb (ya_cons (yd_var rfl) ya_nil) rc_lenL) rd_B0)).eq ?_) (fun hb => yr_seqR (yr_ret (yd_op (yd_var rfl) (yd_var rfl) (rd_ixL ?_)))) (fun hb => yr_next (yr_ret (YD.eq yd_int ?_)))
  · rw [List.length_map]
    by_cases h : k < ns.length
    · rw [decide_eq_true h]; exact decide_eq_true (by omega)
    · rw [decide_eq_false h]; exact decide_eq_false (by omega)
  · have h := of_decide_eq_true hb
    refine atI_nat ?_
    rw [List.getElem?_map, List.getD_eq_getElem?_getD, List.getElem?_eq_getElem h]
    rfl
  · have h := of_decide_eq_false hb
    rw [List.getD_eq_getElem?_getD, List.getElem?_eq_none (by omega)]
    rfl
abbrev s__law_draw : Stmt := (top 40)
theorem sc__law_draw : FnScope ["_law_cell", "_law_k", "_law_many", "_law_primes"] ["_law_cell", "_law_k", "_law_many"] (defScope s__law_draw) := ⟨rfl, rfl, rfl, by decide +kernel, rfl, by decide +kernel, by decide +kernel⟩
def R_draw (ds : List PyData) (d : PyData) : Prop := ∃ (c k m : Int), ds = [.int c, .int k, .int m] ∧ 0 < m ∧ d = .int (drawI c k m)
theorem ok_draw (F : FnP K "_law_draw" s__law_draw f fd) (G : Gi mg) : FnOk P w K mg base CX0 1 f fd ["_law_cell", "_law_k", "_law_many"] (spD K R_draw) := by
  refine okD F sc__law_draw (by rintro _ _ ⟨x, n, m, rfl, _⟩; rfl) fun cdv A outer s H E hr => ⟨_, (pss_cons (ps_set (i := 3) sc__law_draw.nd rfl (Or.inl rfl) (pe_tup (pa_cons pe_int (pa_cons pe_int (pa_cons pe_int (pa_cons pe_int (pa_cons pe_int (pa_cons pe_int (pa_cons pe_int (pa_cons pe_int (pa_cons pe_int (pa_cons pe_int (pa_cons pe_int (pa_cons pe_int (pa_cons pe_int (pa_cons pe_int (pa_cons pe_int (pa_cons pe_int pa_nil))))))))))))))))))
      (pss_one (ps_ret (pe_op op_mod (pe_op op_mod (pe_op op_add (pe_op op_mul (pv 0) pe_int) (pe_op op_mul (pv 1) pe_int)) (pe_ix (ix_k (K := K) rfl) (pv 3) (pe_op op_mod (pv 1) pe_int) (fun _ _ => rfl))) (pv 2))))), ?_⟩
  rintro _ _ ⟨c, k, m, rfl, hm, rfl⟩
  have hsm : ∀ i : Int, CMul i 48271 ∧ CMul i 69621 := fun i => ⟨.inr ⟨by decide, by decide⟩, .inr ⟨by decide, by decide⟩⟩
  obtain ⟨hp, hp0⟩ := prime_at k
  refine yr_seq (yn_asg (yd_tup (ya_cons yd_int (ya_cons yd_int (ya_cons yd_int (ya_cons yd_int (ya_cons yd_int (ya_cons yd_int (ya_cons yd_int (ya_cons yd_int (ya_cons yd_int (ya_cons yd_int (ya_cons yd_int (ya_cons yd_int (ya_cons yd_int (ya_cons yd_int (ya_cons yd_int (ya_cons yd_int ya_nil)))))))))))))))) (by decide)) yg_name) ?_
  exact yr_ret (yd_op (yd_op (yd_op (yd_op (yd_var rfl) yd_int (rd_I (hsm c).1)) (yd_op (yd_var rfl) yd_int (rd_I (hsm k).2)) rd_I0) (yd_op (yd_var rfl) (yd_op (yd_var rfl) yd_int (rd_I (by decide))) (rd_ixT hp)) (rd_I hp0)) (yd_var rfl) (rd_I hm))
abbrev s__law_value : Stmt := (top 41)
theorem sc__law_value : FnScope ["_law_cell", "_law_turn", "_law_rest", "_law_blend"] ["_law_cell", "_law_turn"] (defScope s__law_value) := ⟨rfl, rfl, rfl, by decide +kernel, rfl, by decide +kernel, by decide +kernel⟩
def R_value (ds : List PyData) (d : PyData) : Prop := ∃ (c t : Int), ds = [.int c, .int t] ∧ 0 ≤ t ∧ t ≤ 100 ∧ d = .int (valueI c t)
theorem ok_value (F : FnP K "_law_value" s__law_value f fd) (G : Gi mg) (c__law_draw : Cal P w K mg base CX0 1 "_law_draw" (spD K R_draw)) : FnOk P w K mg base CX0 2 f fd ["_law_cell", "_law_turn"] (spD K R_value) := by
  refine okD F sc__law_value (by rintro _ _ ⟨x, n, rfl, _⟩; rfl) fun cdv A outer s H E hr => ⟨_, (pss_cons (ps_if (pt_cmpR (op_ge) (pv 0) (pe_op op_pow pe_int pe_int) (nomark _)) (pss_one (ps_ret (pe_op op_shr (pe_op op_mod (pe_op op_sub (pv 0) (pe_op op_pow pe_int pe_int)) (pe_op op_pow pe_int pe_int)) (pe_op op_mul pe_int (pv 1))))) pss_nil)
      (pss_cons (ps_set (i := 2) sc__law_value.nd rfl (Or.inl rfl) (pe_op op_mod (pv 0) (pe_op op_pow pe_int pe_int)))
      (pss_cons (ps_set (i := 3) sc__law_value.nd rfl (Or.inl rfl) (pe_d c__law_draw hr (by decide) rfl (pa_cons (pe_op op_mul (pe_op op_add (pv 2) (pe_op op_mul pe_int (pv 1))) (pe_op op_add (pe_op op_add (pv 2) (pe_op op_mul pe_int (pv 1))) pe_int)) (pa_cons (pe_op op_add (pe_op op_mod (pv 1) pe_int) pe_int) (pa_cons pe_int pa_nil)))))
      (pss_one (ps_ret (pe_op op_add (pe_op op_mul (pv 3) pe_int) (pe_d c__law_draw hr (by decide) rfl (pa_cons (pe_op op_add (pe_op op_mul (pe_op op_add (pv 2) (pe_op op_mul pe_int (pv 1))) (pe_op op_add (pv 2) pe_int)) (pe_op op_mul pe_int (pv 1))) (pa_cons (pe_op op_add (pe_op op_mod (pv 1) pe_int) pe_int) (pa_cons pe_int pa_nil)))))))))), ?_⟩
  rintro _ _ ⟨c, t, rfl, h0, h1, rfl⟩
  have hP : CPow 10 18 := ⟨by decide, by decide, by decide⟩
  have hP4 : CPow 10 40 := ⟨by decide, by decide, by decide⟩
  have e18 : (10 : Int) ^ (18 : Int).toNat = 10 ^ 18 := rfl
  refine yr_ifs (b := decide ((10 : Int) ^ 18 ≤ c)) (yt_test (yd_op (yd_var rfl) (yd_op yd_int yd_int (rd_I hP)) rd_B0)) (fun hb => yr_seqR (yr_ret (YD.eq (yd_op (yd_op (yd_op (yd_var rfl) (yd_op yd_int yd_int (rd_I hP)) rd_I0) (yd_op yd_int yd_int (rd_I hP4)) (rd_I ?_)) (yd_op yd_int (yd_var rfl) (rd_I ?_)) (rd_I ?_)) ?_))) (fun hb => yr_next ?_)
  · show (0 : Int) < 10 ^ 40
    decide
  · exact .inl ⟨by decide, by decide⟩
  · show (0 : Int) ≤ 3 * t
    omega
  · have h := of_decide_eq_true hb
    unfold valueI
    rw [if_pos h]
    rfl
  · have h := of_decide_eq_false hb
    have r0 : 0 ≤ c % 10 ^ 18 := Int.emod_nonneg _ (by decide)
    have r1 : c % 10 ^ 18 < 10 ^ 18 := Int.emod_lt_of_pos _ (by decide)
    refine yr_seq (yn_asg (yd_op (yd_var rfl) (yd_op yd_int yd_int (rd_I hP)) (rd_I (show (0 : Int) < 10 ^ 18 by decide))) yg_name) ?_
    have hs : ∀ i : Int, CMul 977 i ∧ CMul 31 i := fun i => ⟨.inl ⟨by decide, by decide⟩, .inl ⟨by decide, by decide⟩⟩
    refine yr_seq (yn_asg (yd_call (ya_cons (yd_op (yd_op (yd_var rfl) (yd_op yd_int (yd_var rfl) (rd_I (hs t).1)) rd_I0) (yd_op (yd_op (yd_var rfl) (yd_op yd_int (yd_var rfl) (rd_I (hs t).2)) rd_I0) yd_int rd_I0) (rd_I ?_)) (ya_cons (yd_op (yd_op (yd_var rfl) yd_int (rd_I (by decide))) yd_int rd_I0) (ya_cons yd_int ya_nil))) ⟨_, _, _, rfl, by decide, rfl⟩) yg_name) ?_
    · left
      show -(2 ^ 64) < c % 10 ^ 18 + 977 * t ∧ c % 10 ^ 18 + 977 * t < 2 ^ 64
      omega
    · refine yr_ret (YD.eq (yd_op (yd_op (yd_var rfl) yd_int (rd_I ?_)) (yd_call (ya_cons (yd_op (yd_op (yd_op (yd_var rfl) (yd_op yd_int (yd_var rfl) (rd_I (hs t).2)) rd_I0) (yd_op (yd_var rfl) yd_int rd_I0) (rd_I ?_)) (yd_op yd_int (yd_var rfl) (rd_I (hs t).1)) rd_I0) (ya_cons (yd_op (yd_op (yd_var rfl) yd_int (rd_I (by decide))) yd_int rd_I0) (ya_cons yd_int ya_nil))) ⟨_, _, _, rfl, by decide, rfl⟩) rd_I0) ?_)
      · exact .inr ⟨by decide, by decide⟩
      · left
        show -(2 ^ 64) < c % 10 ^ 18 + 31 * t ∧ c % 10 ^ 18 + 31 * t < 2 ^ 64
        omega
      · unfold valueI
        rw [if_neg h]
        rfl
end
end SG
set_option Elab.async false
set_option linter.all false
set_option maxRecDepth 100000
set_option maxHeartbeats 4000000
namespace SG
open PySem PySem.Spec PyProof.Rows L2
/-! ### the law's lands -/
def placesI (v : Int) : Int := 1 + (v + 4) % 7
def kindI (v : Int) : Int := v / 7 % 4
def cntI (v : Int) : Int := if 1 < placesI v then v / 28 % 11 else 0
def numI (ns : List Int) (o i : Nat) : Int := valueI (ns.getD (o + i % 4) 0 + 11 * (i : Int)) 2 / 3
def oneI (v : Int) (ns : List Int) (o i : Nat) : Int := numI ns o i % placesI v
def otherI (v : Int) (ns : List Int) (o i : Nat) : Int := if kindI v = 1 then (oneI v ns o i + 1) % placesI v else (oneI v ns o i + 1 + numI ns o i / 7 % (placesI v - 1)) % placesI v
def pairI (v : Int) (ns : List Int) (o i : Nat) : Int × Int := (min (oneI v ns o i) (otherI v ns o i), max (oneI v ns o i) (otherI v ns o i))
def waysI (v : Int) (ns : List Int) (o : Nat) : Nat → List (Int × Int)
  | 0 => []
  | i + 1 => if pairI v ns o i ∈ waysI v ns o i then waysI v ns o i else waysI v ns o i ++ [pairI v ns o i]
/-- places, ways, the last tick -/
structure Land where
  n : Int
  ws : List (Int × Int)
  l : Int
def landD (L : Land) : PyData := .tuple [.int L.n, .list (L.ws.map dP), .int L.l]
def landI (ns : List Int) (o : Nat) : Land := let v := valueI (ns.getD o 0) 1; ⟨placesI v, sortP (waysI v ns o (cntI v).toNat), 1 + v / 308 % 10⟩
theorem places_bd (v : Int) : 1 ≤ placesI v ∧ placesI v ≤ 7 := by
  unfold placesI
  omega
theorem cnt_bd (v : Int) : 0 ≤ cntI v ∧ cntI v ≤ 10 := by
  unfold cntI
  split <;> omega
theorem ways_len (v : Int) (ns : List Int) (o : Nat) : ∀ i, (waysI v ns o i).length ≤ i
  | 0 => Nat.le_refl _
  | i + 1 => by
    unfold waysI
    have h := ways_len v ns o i
    split
    · omega
    · rw [List.length_append, List.length_singleton]
      omega
theorem ways_nd (v : Int) (ns : List Int) (o : Nat) : ∀ i, (waysI v ns o i).Nodup
  | 0 => List.nodup_nil
  | i + 1 => by
    unfold waysI
    split
    · exact ways_nd v ns o i
    · rename_i h
      exact nd_snoc (ways_nd v ns o i) h
theorem pair_ok {v : Int} {ns : List Int} {o i : Nat} (h : 1 < placesI v) : 0 ≤ (pairI v ns o i).1 ∧ (pairI v ns o i).1 < (pairI v ns o i).2 ∧ (pairI v ns o i).2 < placesI v := by
  have hp := places_bd v
  have h1 : 0 ≤ oneI v ns o i := Int.emod_nonneg _ (by omega)
  have h2 : oneI v ns o i < placesI v := Int.emod_lt_of_pos _ (by omega)
  have h3 : 0 ≤ otherI v ns o i ∧ otherI v ns o i < placesI v ∧ otherI v ns o i ≠ oneI v ns o i := by
    have key : ∀ k : Int, 1 ≤ k → k < placesI v → 0 ≤ (oneI v ns o i + k) % placesI v ∧ (oneI v ns o i + k) % placesI v < placesI v ∧ (oneI v ns o i + k) % placesI v ≠ oneI v ns o i := fun k k1 k2 => by
      refine ⟨Int.emod_nonneg _ (by omega), Int.emod_lt_of_pos _ (by omega), ?_⟩
      by_cases hc : oneI v ns o i + k < placesI v
      · rw [Int.emod_eq_of_lt (by omega) hc]
        omega
      · have e : (oneI v ns o i + k) % placesI v = oneI v ns o i + k - placesI v := by
          rw [← Int.sub_emod_right, Int.emod_eq_of_lt (by omega) (by omega)]
        rw [e]
        omega
    unfold otherI
    split
    · exact key 1 (by omega) (by omega)
    · rw [Int.add_assoc]
      refine key _ ?_ ?_
      · have : 0 ≤ numI ns o i / 7 % (placesI v - 1) := Int.emod_nonneg _ (by omega)
        omega
      · have : numI ns o i / 7 % (placesI v - 1) < placesI v - 1 := Int.emod_lt_of_pos _ (by omega)
        omega
  unfold pairI
  dsimp only
  omega
theorem ways_ok {v : Int} {ns : List Int} {o : Nat} (h : 1 < placesI v) : ∀ i, ∀ p ∈ waysI v ns o i, 0 ≤ p.1 ∧ p.1 < p.2 ∧ p.2 < placesI v
  | 0, p, hp => nomatch hp
  | i + 1, p, hp => by
    unfold waysI at hp
    split at hp
    · exact ways_ok h i p hp
    · rcases List.mem_append.mp hp with hp | hp
      · exact ways_ok h i p hp
      · rw [List.mem_singleton.mp hp]
        exact pair_ok h
/-- a land as the document says -/
structure GoodLand (L : Land) : Prop where
  n1 : 1 ≤ L.n
  n7 : L.n ≤ 7
  wl : L.ws.length ≤ 10
  wo : ∀ p ∈ L.ws, 0 ≤ p.1 ∧ p.1 < p.2 ∧ p.2 < L.n
  ws : L.ws.Pairwise (fun a b => ltPr a b = true)
  l1 : 1 ≤ L.l
  l10 : L.l ≤ 10
theorem srt_strict {l : List (Int × Int)} (hn : l.Nodup) : (sortP l).Pairwise (fun a b => ltPr a b = true) := by
  have h1 := sortP_srt l
  have h2 : (sortP l).Nodup := (sortP_perm l).nodup_iff.mpr hn
  refine (h1.and h2).imp fun {a b} ⟨h, hne⟩ => ?_
  have := lePr_iff.mp h
  refine ltPr_iff.mpr ?_
  have : ¬ (a.1 = b.1 ∧ a.2 = b.2) := fun z => hne (Prod.ext z.1 z.2)
  omega
theorem land_good (ns : List Int) (o : Nat) : GoodLand (landI ns o) := by
  unfold landI
  dsimp only
  have hp := places_bd (valueI (ns.getD o 0) 1)
  have hc := cnt_bd (valueI (ns.getD o 0) 1)
  refine ⟨hp.1, hp.2, ?_, ?_, srt_strict (ways_nd _ _ _ _), ?_, ?_⟩
  · show (sortP _).length ≤ 10
    rw [sortP_len]
    have := ways_len (valueI (ns.getD o 0) 1) ns o (cntI (valueI (ns.getD o 0) 1)).toNat
    omega
  · intro p hm
    have hm : p ∈ sortP (waysI (valueI (ns.getD o 0) 1) ns o (cntI (valueI (ns.getD o 0) 1)).toNat) := hm
    rw [sortP_mem] at hm
    by_cases h1 : 1 < placesI (valueI (ns.getD o 0) 1)
    · exact ways_ok h1 _ p hm
    · have : cntI (valueI (ns.getD o 0) 1) = 0 := by
        unfold cntI
        rw [if_neg h1]
      rw [this] at hm
      exact nomatch hm
  · show 1 ≤ 1 + valueI (ns.getD o 0) 1 / 308 % 10
    omega
  · show 1 + valueI (ns.getD o 0) 1 / 308 % 10 ≤ 10
    omega
theorem ltD_pair (a b : Int × Int) : ltD (dP a) (dP b) = ltPr a b := rfl
theorem inc_of : ∀ {l : List (Int × Int)}, l.Pairwise (fun a b => ltPr a b = true) → incD (l.map dP) = true
  | [], _ => rfl
  | [_], _ => rfl
  | a :: b :: r, h => by
    obtain ⟨h1, h2⟩ := List.pairwise_cons.mp h
    show (ltD (dP a) (dP b) && incD ((b :: r).map dP)) = true
    rw [inc_of h2, ltD_pair, h1 b List.mem_cons_self]
    rfl
theorem isLand_good {L : Land} (g : GoodLand L) : isLand (landD L) = true := by
  obtain ⟨n1, n7, wl, wo, ws, l1, l10⟩ := g
  have e2 : ((L.ws.map dP).all fun w => isWay w L.n) = true := by
    rw [List.all_eq_true]
    intro d hd
    obtain ⟨p, hp, rfl⟩ := List.mem_map.mp hd
    have := wo p hp
    show (decide (0 ≤ p.1) && decide (p.1 ≤ L.n - 1) && (decide (p.1 + 1 ≤ p.2) && decide (p.2 ≤ L.n - 1))) = true
    simp
    omega
  show (decide (1 ≤ L.n) && decide (L.n ≤ 7) && ((decide ((L.ws.map dP).length ≤ 10) && (((L.ws.map dP).all fun w => isWay w L.n) && incD (L.ws.map dP))) && (decide (1 ≤ L.l) && decide (L.l ≤ 10)))) = true
  rw [e2, inc_of ws, List.length_map]
  simp
  omega
section
variable {P : Program} {w : World} {K : PySem.W.Frag} {mg : Str → Option Value} {base : Heap} {f : Addr} {fd : FuncData}
abbrev s__law_land : Stmt := (top 43)
theorem sc__law_land : FnScope ["_law_script", "_law_by", "_law_value_here", "_law_ways", "_law_places", "_law_kind", "_law_at", "_law_number", "_law_one", "_law_other", "_law_pair"] ["_law_script", "_law_by"] (defScope s__law_land) := ⟨rfl, rfl, rfl, by decide +kernel, rfl, by decide +kernel, by decide +kernel⟩
def R_land (ds : List PyData) (d : PyData) : Prop := ∃ (ns : List Int) (o : Nat), ds = [.list (ns.map .int), .int o] ∧ d = landD (landI ns o)
theorem ok_land (F : FnP K "_law_land" s__law_land f fd) (G : Gi mg) (c__law_cell_at : Cal P w K mg base CX0 1 "_law_cell_at" (spD K R_cell_at)) (c__law_value : Cal P w K mg base CX0 2 "_law_value" (spD K R_value)) : FnOk P w K mg base CX0 3 f fd ["_law_script", "_law_by"] (spD K R_land) := by
  refine okD F sc__law_land (by rintro _ _ ⟨x, n, rfl, _⟩; rfl) fun cdv A outer s H E hr => ⟨_, (pss_cons (ps_par (i := 2) (j := 3) rfl sc__law_land.nd rfl rfl (by decide) rfl rfl (pa_cons (pe_d c__law_value hr (by decide) rfl (pa_cons (pe_d c__law_cell_at hr (by decide) rfl (pa_cons (pv 0) (pa_cons (pv 1) pa_nil))) (pa_cons pe_int pa_nil))) (pa_cons (pe_lst pa_nil) pa_nil)) rfl)
      (pss_cons (ps_par (i := 4) (j := 5) rfl sc__law_land.nd rfl rfl (by decide) rfl rfl (pa_cons (pe_op op_add pe_int (pe_op op_mod (pe_op op_add (pv 2) pe_int) pe_int)) (pa_cons (pe_op op_mod (pe_op op_fdiv (pv 2) pe_int) pe_int) pa_nil)) rfl)
      (pss_cons (ps_for PassesOwn.never rfl (pi_range1 rfl G.b_range (pa_cons (pe_ifExp (pt_cmpR (op_gt) (pv 4) pe_int (nomark _)) (pe_op op_mod (pe_op op_fdiv (pv 2) pe_int) pe_int) pe_int) pa_nil)) (pg_name (i := 6) sc__law_land.nd rfl (Or.inl rfl))
        (pss_cons (ps_set (i := 7) sc__law_land.nd rfl (Or.inl rfl) (pe_op op_fdiv (pe_d c__law_value hr (by decide) rfl (pa_cons (pe_op op_add (pe_d c__law_cell_at hr (by decide) rfl (pa_cons (pv 0) (pa_cons (pe_op op_add (pv 1) (pe_op op_mod (pv 6) pe_int)) pa_nil))) (pe_op op_mul pe_int (pv 6))) (pa_cons pe_int pa_nil))) pe_int))
      (pss_cons (ps_set (i := 8) sc__law_land.nd rfl (Or.inl rfl) (pe_op op_mod (pv 7) (pv 4)))
      (pss_cons (ps_set (i := 9) sc__law_land.nd rfl (Or.inl rfl) (pe_ifExp (pt_cmpR (op_eqk (K := K) rfl hr.units) (pv 5) pe_int (nomark _)) (pe_op op_mod (pe_op op_add (pv 8) pe_int) (pv 4)) (pe_op op_mod (pe_op op_add (pe_op op_add (pv 8) pe_int) (pe_op op_mod (pe_op op_fdiv (pv 7) pe_int) (pe_op op_sub (pv 4) pe_int))) (pv 4))))
      (pss_cons (ps_set (i := 10) sc__law_land.nd rfl (Or.inl rfl) (pe_tup (pa_cons (pe_callB (call_min2' rfl) rfl G.b_min (by decide +kernel) (pa_cons (pv 8) (pa_cons (pv 9) pa_nil))) (pa_cons (pe_callB (call_max2' rfl) rfl G.b_max (by decide +kernel) (pa_cons (pv 8) (pa_cons (pv 9) pa_nil))) pa_nil))))
      (pss_one (ps_if (pt_cmpR (op_notInk (K := K) rfl (hu65 hr)) (pv 10) (pv 3) rfl) (pss_one (ps_expr (pe_bm PySem.F.plainAttrs_list PySem.F.slot_list_append PySem.F.type_list_append mt_append (pv 3) (pa_cons (pv 10) pa_nil)))) pss_nil)))))))
      (pss_one (ps_ret (pe_tup (pa_cons (pv 4) (pa_cons (pe_callB (cr_sortedk (K := K) rfl) rfl G.b_sorted (by decide +kernel) (pa_cons (pv 3) pa_nil)) (pa_cons (pe_op op_add pe_int (pe_op op_mod (pe_op op_fdiv (pv 2) pe_int) pe_int)) pa_nil))))))))), ?_⟩
  rintro _ _ ⟨ns, o, rfl, rfl⟩
  intro σ Hs H e s D q
  have hv := value_nn (ns.getD o 0) 1
  -- _law_value_here, _law_ways = ..
  refine (yd_call (ya_cons (yd_call (ya_cons (yd_var rfl) (ya_cons (yd_var rfl) ya_nil)) ⟨_, _, rfl, rfl⟩) (ya_cons yd_int ya_nil)) ⟨_, _, rfl, by decide, by decide, rfl⟩ : YD K _ _ _) σ Hs H e s _ fun v Hs1 H1 g1 r1 => ?_
  refine ⟨Nat.zero_le _, fun p hp => ⟨_, _, rfl, ?_⟩⟩
  have hp1 : Hs1 p = none := same_none g1.c hp
  have hp0 : H p = none := same_none g1.b hp
  have g2 : Gr Hs H Hs1 (upd H1 p (.lst [])) := g1.trans (Gr.fresh g1.c hp)
  have e2 := ((e.mono g1.a).set 2 r1).del (x := some (.ref p)) 3
  have hσ2 : (((σ.set 2 (some v)).set 3 (some (.ref p)))[3]?) = some (some (.ref p)) := List.getElem?_set_self (by rw [List.length_set, e.1]; exact (by decide : 3 < 11))
  generalize (σ.set 2 (some v)).set 3 (some (.ref p)) = σ2 at e2 hσ2 ⊢
  generalize hV : valueI (ns.getD o 0) 1 = vv at e2 hv
  have hpl := places_bd vv
  have hcn := cnt_bd vv
  -- _law_places, _law_kind = ..
  refine (yn_par (ya_cons (yd_op yd_int (yd_op (yd_op (yd_var rfl) yd_int rd_I0) yd_int (rd_I (by decide))) rd_I0) (ya_cons (yd_op (yd_op (yd_var rfl) yd_int (rd_I ⟨by decide, by decide⟩)) yd_int (rd_I (by decide))) ya_nil)) : YN K _ _ _ _) σ2 Hs1 _ e2 g2.c _ fun σ3 Hs3 H3 g3 e3 n3 => ?_
  have hσ3 : σ3[3]? = some (some (.ref p)) := (n3 3 (by decide)).trans hσ2
  have g3' := g2.trans g3
  have hp3 : Hs3 p = none := g3.d p (by rw [upd_same]; trivial) hp1
  have hl3 : H3 p = some (.lst []) := g3.b _ _ upd_same
  -- the loop
  refine y_for (D := { D with nx := _ }) (ds := rgD 0 (cntI vv).toNat) (yi_rng1 (n := cntI vv) (ya_cons (yd_if (b := decide (1 < placesI vv)) (yt_test (yd_op (yd_var rfl) yd_int rd_B0)) (fun hb => YD.eq (yd_op (yd_op (yd_var rfl) yd_int (rd_I ⟨by decide, by decide⟩)) yd_int (rd_I (by decide))) ?_) (fun hb => YD.eq yd_int ?_)) ya_nil) (by omega) (by omega)) e3 g3.c fun Hs4 H4 g4 => ⟨fun i σ' Hs' H' => Gr Hs H Hs' H' ∧ Same Hs4 Hs' ∧ EnvD K Hs' σ' ([some (.list (ns.map .int)), some (.int o), some (.int vv), none, some (.int (placesI vv)), some (.int (kindI vv)), none, none, none, none, none] : Rho) ∧ σ'[3]? = some (some (.ref p)) ∧ Hs' p = none ∧ ∃ vs, H' p = some (.lst vs) ∧ RpAll K Hs' vs ((waysI vv ns o i).map dP), ⟨g3'.trans g4, Same.refl _, (e3.mono g4.a), hσ3, g4.d p (by rw [hl3]; trivial) hp3, [], g4.b _ _ hl3, .nil⟩, fun i σ' Hs' H' p => ⟨p.2.1, p.1.c⟩, ?_, ?_⟩
  · have := of_decide_eq_true hb
    unfold cntI
    rw [if_pos this]
  · have := of_decide_eq_false hb
    unfold cntI
    rw [if_neg this]
  · rintro i d σ' Hs' H' hd ⟨gr, s4, e4, hσ4, hp4, vs, hl4, ra⟩ x Hs5 H5 g5 rx
    have hi : i < (cntI vv).toNat := by
      have := (List.getElem?_eq_some_iff.mp hd).1
      rwa [rgD_len] at this
    rw [rgD_get hi] at hd
    cases hd
    have h1p : 1 < placesI vv := by
      by_cases h : 1 < placesI vv
      · exact h
      · unfold cntI at hi
        rw [if_neg h] at hi
        simp at hi
    have i0 : (0 : Int) + (i : Int) = (i : Int) := Int.zero_add _
    rw [i0] at rx
    have e5 := (e4.mono g5.a).set 6 rx
    have hσ5 : (σ'.set 6 (some x))[3]? = some (some (.ref p)) := by rw [List.getElem?_set_ne (by decide)]; exact hσ4
    show tSeq _ _ _ (σ'.set 6 (some x)) H5
    generalize σ'.set 6 (some x) = σ5 at e5 hσ5 ⊢
    have hp5 : Hs5 p = none := g5.d p (by rw [hl4]; trivial) hp4
    have hl5 : H5 p = some (.lst vs) := g5.b _ _ hl4
    -- number, one, other, pair
    have hmod : ((i : Int) % 4) = ((i % 4 : Nat) : Int) := by omega
    refine (yn_asg (YD.eq (yd_op (yd_call (ya_cons (yd_op (yd_call (ya_cons (yd_var rfl) (ya_cons (YD.eq (yd_op (yd_var rfl) (yd_op (yd_var rfl) yd_int (rd_I (by decide))) rd_I0) (d' := .int ((o + i % 4 : Nat) : Int)) ?_) ya_nil)) ⟨_, _, rfl, rfl⟩) (yd_op yd_int (yd_var rfl) (rd_I ?_)) rd_I0) (ya_cons yd_int ya_nil)) ⟨_, _, rfl, by decide, by decide, rfl⟩) yd_int (rd_I ⟨by decide, by decide⟩)) (d' := .int (numI ns o i)) rfl) yg_name : YN K _ _ _ _) σ5 Hs5 H5 e5 g5.c _ fun σ6 Hs6 H6 g6 e6 n6 => ?_
    · rw [hmod]
      rfl
    · exact .inl ⟨by decide, by decide⟩
    refine (yn_asg (YD.eq (yd_op (yd_var rfl) (yd_var rfl) (rd_I (by omega))) (d' := .int (oneI vv ns o i)) rfl) yg_name : YN K _ _ _ _) σ6 Hs6 H6 e6 g6.c _ fun σ7 Hs7 H7 g7 e7 n7 => ?_
    refine (yn_asg (yd_if (d := .int (otherI vv ns o i)) (b := decide (kindI vv = 1)) (YT.eq (yt_test (yd_op (yd_var rfl) yd_int (rd_eqD rfl rfl))) ?_) (fun hb => YD.eq (yd_op (yd_op (yd_var rfl) yd_int rd_I0) (yd_var rfl) (rd_I (by omega))) ?_) (fun hb => YD.eq (yd_op (yd_op (yd_op (yd_var rfl) yd_int rd_I0) (yd_op (yd_op (yd_var rfl) yd_int (rd_I ⟨by decide, by decide⟩)) (yd_op (yd_var rfl) yd_int rd_I0) (rd_I (by omega))) rd_I0) (yd_var rfl) (rd_I (by omega))) ?_)) yg_name : YN K _ _ _ _) σ7 Hs7 H7 e7 g7.c _ fun σ8 Hs8 H8 g8 e8 n8 => ?_
    · show (kindI vv == 1) = decide (kindI vv = 1)
      rfl
    · have := of_decide_eq_true hb
      unfold otherI
      rw [if_pos this]
    · have := of_decide_eq_false hb
      unfold otherI
      rw [if_neg this]
    refine (yn_asg (YD.eq (yd_tup (ya_cons (yd_cb (ya_cons (yd_var rfl) (ya_cons (yd_var rfl) ya_nil)) rc_min) (ya_cons (yd_cb (ya_cons (yd_var rfl) (ya_cons (yd_var rfl) ya_nil)) rc_max) ya_nil)) (Nat.le_of_ble_eq_true rfl)) (d' := dP (pairI vv ns o i)) rfl) yg_name : YN K _ _ _ _) σ8 Hs8 H8 e8 g8.c _ fun σ9 Hs9 H9 g9 e9 n9 => ?_
    have hσ9 : σ9[3]? = some (some (.ref p)) := (n9 3 (by decide)).trans ((n8 3 (by decide)).trans ((n7 3 (by decide)).trans ((n6 3 (by decide)).trans hσ5)))
    have G9 := ((g6.trans g7).trans g8).trans g9
    have hp9 : Hs9 p = none := G9.d p (by rw [hl5]; trivial) hp5
    have hl9 : H9 p = some (.lst vs) := G9.b _ _ hl5
    have ra9 := ra.mono (g5.a.trans G9.a)
    have gr9 := (gr.trans g5).trans G9
    -- if pair not in ways
    refine (yt_test (yd_op (yd_var rfl) (yd_var rfl) (rd_notInD (shp_pair _) (shp_pairs _))) : YT K _ _ _) σ9 (upd Hs9 p (.lst vs)) H9 (e9.own hσ9 hp9 ra9) (same_own G9.c hl9) _ fun Hsx H10 gx => ?_
    have g10 : Gr Hs9 H9 Hs9 H10 := Gr.back (same_new hp9) gx
    have hl10 : H10 p = some (.lst vs) := g10.b _ _ hl9
    rw [any_pairs]
    have hln : vs.length ≤ i := by
      rw [ra.len, List.length_map]
      exact ways_len _ _ _ _
    by_cases hm : pairI vv ns o i ∈ waysI vv ns o i
    · rw [decide_eq_true hm, if_neg (by decide)]
      refine ⟨Hs9, gr9.trans g10, s4.trans (g5.a.trans G9.a), (e9.sub ⟨rfl, rfl, rfl, rfl, rfl, trivial⟩), hσ9, hp9, vs, hl10, ?_⟩
      have : waysI vv ns o (i + 1) = waysI vv ns o i := by
        show (if _ then _ else _) = _
        rw [if_pos hm]
      rw [this]
      exact ra9
    · rw [decide_eq_false hm]
      rw [if_pos (show (!false) = true from rfl)]
      refine s_append (d := dP (pairI vv ns o i)) hσ9 hl10 (yd_var rfl) e9 g10.c (by omega) fun u Hs11 H11 g11 r11 => ?_
      have hp11 : Hs11 p = none := g11.d p (by rw [hl10]; trivial) hp9
      refine ⟨Hs11, ((gr9.trans g10).trans g11).mut hp0 hp11, s4.trans (g5.a.trans (G9.a.trans g11.a)), ((e9.mono g11.a).sub ⟨rfl, rfl, rfl, rfl, rfl, trivial⟩), hσ9, hp11, vs ++ [u], upd_same, ?_⟩
      have : waysI vv ns o (i + 1) = waysI vv ns o i ++ [pairI vv ns o i] := by
        show (if _ then _ else _) = _
        rw [if_neg hm]
      rw [this, List.map_append]
      exact (ra9.mono g11.a).snoc r11
  · rintro σ' Hs' H' ⟨gr, s4, e4, hσ4, hp4, vs, hl4, ra⟩
    rw [rgD_len] at ra
    have g5 := gr.settle hp0 hl4 hp4
    refine (yd_tup (ya_cons (yd_var rfl) (ya_cons (yd_cb (ya_cons (yd_var rfl) ya_nil) rc_sortedP) (ya_cons (yd_op yd_int (yd_op (yd_op (yd_var rfl) yd_int (rd_I ⟨by decide, by decide⟩)) yd_int (rd_I (by decide))) rd_I0) ya_nil))) (Nat.le_of_ble_eq_true rfl) : YD K _ _ _) σ' (upd Hs' p (.lst vs)) H' (e4.own hσ4 hp4 ra) (same_own gr.c hl4) _ fun v' Hs6 H6 g6 r6 => ?_
    refine q v' Hs6 H6 (g5.trans g6) ?_
    have : landD (landI ns o) = .tuple [.int (placesI vv), .list ((sortP (waysI vv ns o (cntI vv).toNat)).map dP), .int (1 + vv / 308 % 10)] := by
      unfold landI landD
      rw [hV]
    rw [this]
    exact r6
end
end SG
set_option Elab.async false
set_option linter.all false
set_option maxRecDepth 100000
set_option maxHeartbeats 4000000
namespace SG
open PySem PySem.Spec PyProof.Rows L2
/-! ### sightings, walks -/
def sD (S : List (Int × Int)) : PyData := .list (S.map dP)
def iD (xs : List Int) : PyData := .list (xs.map .int)
def isSight (x : PyData) (L : Land) : Bool := match x with
  | .tuple [t, p] => numIn t 0 L.l && numIn p 0 (L.n - 1)
  | _ => false
def areSights (x : PyData) (L : Land) : Bool := match x with
  | .list xs => decide (xs.length ≤ 8) && xs.all fun y => isSight y L
  | _ => false
/-- 0, 1, .. -/
def rgI (n : Int) : List Int := (List.range n.toNat).map fun (i : Nat) => (i : Int)
theorem mem_rgI {n x : Int} : x ∈ rgI n ↔ 0 ≤ x ∧ x < n := by
  unfold rgI
  rw [List.mem_map]
  constructor
  · rintro ⟨i, hi, rfl⟩
    have := List.mem_range.mp hi
    omega
  · intro h
    exact ⟨x.toNat, List.mem_range.mpr (by omega), by omega⟩
def isNear (L : Land) (p o : Int) : Bool := decide (o = p) || decide ((min p o, max p o) ∈ L.ws)
def nextI (L : Land) (p : Int) : List Int := (rgI L.n).filter (isNear L p)
section
variable {P : Program} {w : World} {K : PySem.W.Frag} {mg : Str → Option Value} {base : Heap} {f : Addr} {fd : FuncData}
abbrev s_is_sighting : Stmt := (top 19)
theorem sc_is_sighting : FnScope ["thing", "land", "places", "ways", "last", "tick", "place"] ["thing", "land"] (defScope s_is_sighting) := ⟨rfl, rfl, rfl, by decide +kernel, rfl, by decide +kernel, by decide +kernel⟩
def R_is_sighting (ds : List PyData) (d : PyData) : Prop := ∃ x L, ds = [x, landD L] ∧ d = .bool (isSight x L)
theorem ok_is_sighting (F : FnP K "is_sighting" s_is_sighting f fd) (G : Gi mg) (c_is_within : Cal P w K mg base CX0 2 "is_within" (spD K R_is_within)) : FnOk P w K mg base CX0 3 f fd ["thing", "land"] (spD K R_is_sighting) := by
  refine okD F sc_is_sighting (by rintro _ _ ⟨x, n, rfl, _⟩; rfl) fun cdv A outer s H E hr => ⟨_, (pss_cons (ps_if (PW.pt (pw_or (pt_not (pt_val (pe_callB (call_isik (K := K) rfl) rfl G.b_isinstance boot_isinstance (pa_cons (pv 0) (pa_cons (pe_ty (n := "tuple") rfl G.b_tuple (by decide +kernel)) pa_nil))))) (pw_or1 (pt_cmpR (op_nek (K := K) rfl hr.units) (pe_callB (call_lenk (K := K) rfl) rfl G.b_len boot_len (pa_cons (pv 0) pa_nil)) pe_int (nomark _))))) (pss_one (ps_ret pe_bl)) pss_nil)
      (pss_cons (ps_asg (pv 1) (pg_tupk (K := K) (n := 3) rfl rfl (pgs_cons (pg_name (i := 2) sc_is_sighting.nd rfl (Or.inl rfl)) (pgs_cons (pg_name (i := 3) sc_is_sighting.nd rfl (Or.inl rfl)) (pgs_cons (pg_name (i := 4) sc_is_sighting.nd rfl (Or.inl rfl)) pgs_nil)))))
      (pss_cons (ps_asg (pv 0) (pg_tupk (K := K) (n := 2) rfl rfl (pgs_cons (pg_name (i := 5) sc_is_sighting.nd rfl (Or.inl rfl)) (pgs_cons (pg_name (i := 6) sc_is_sighting.nd rfl (Or.inl rfl)) pgs_nil))))
      (pss_one (ps_ret (pe_and (pe_d c_is_within hr (by decide) rfl (pa_cons (pv 5) (pa_cons pe_int (pa_cons (pv 4) pa_nil)))) (pe_one (pe_d c_is_within hr (by decide) rfl (pa_cons (pv 6) (pa_cons pe_int (pa_cons (pe_op op_sub (pv 2) pe_int) pa_nil))))))))))), ?_⟩
  rintro _ _ ⟨x, L, rfl, rfl⟩
  by_cases hx : ∃ ds, x = .tuple ds
  · obtain ⟨ds, rfl⟩ := hx
    refine yr_ifs (yt_or (yt_not (yt_B (yd_isi (yd_var rfl) (kit_tuple _)))) fun _ => yt_test (yd_op (yd_cb (ya_cons (yd_var rfl) ya_nil) rc_lenT) yd_int (rd_neD rfl rfl))) (fun hb => yr_seqR (yr_ret (YD.eq yd_bl ?_))) (fun hb => yr_next ?_)
    · have h2 : (ds.length : Int) ≠ 2 := by simpa [isTup, PyData.eqv] using hb
      have : isSight (.tuple ds) L = false := by
        unfold isSight
        split
        · rename_i z; cases z; exact absurd rfl h2
        · rfl
      rw [this]
    · have h2 : (ds.length : Int) = 2 := by simpa [isTup, PyData.eqv] using hb
      obtain ⟨a, b, rfl⟩ : ∃ a b, ds = [a, b] := by
        match ds, h2 with
        | [a, b], _ => exact ⟨a, b, rfl⟩
        | [], h => simp at h
        | [_], h => simp at h
        | _ :: _ :: _ :: _, h => simp at h; omega
      refine yr_seq (yn_asg (yd_var (d := landD L) rfl) (yg_tup (ygs_cons yg_name (ygs_cons yg_name (ygs_cons yg_name ygs_nil))) rfl)) ?_
      refine yr_seq (yn_asg (yd_var rfl) (yg_tup (ygs_cons yg_name (ygs_cons yg_name ygs_nil)) rfl)) ?_
      exact yr_ret (yd_and (a := numIn a 0 L.l) (b := numIn b 0 (L.n - 1)) (yd_call (ya_cons (yd_var rfl) (ya_cons yd_int (ya_cons (yd_var rfl) ya_nil))) ⟨_, _, _, rfl, rfl⟩) fun _ => yd_call (ya_cons (yd_var rfl) (ya_cons yd_int (ya_cons (yd_op (yd_var rfl) yd_int rd_I0) ya_nil))) ⟨_, _, _, rfl, rfl⟩)
  · have e : isTup x = false := by cases x <;> first | rfl | exact absurd ⟨_, rfl⟩ hx
    refine yr_ifs (b := true) (YT.eq (yt_or (b := true) (yt_not (yt_B (yd_isi (yd_var rfl) (kit_tuple _)))) fun h => ?_) ?_) (fun hb => yr_seqR (yr_ret (YD.eq yd_bl ?_))) (fun hb => nomatch hb)
    · rw [e] at h; cases h
    · rw [e]; rfl
    · cases x <;> first | rfl | exact absurd ⟨_, rfl⟩ hx
abbrev s_are_sightings : Stmt := (top 20)
theorem sc_are_sightings : FnScope ["thing", "land", "sighting"] ["thing", "land"] (defScope s_are_sightings) := ⟨rfl, rfl, rfl, by decide +kernel, rfl, by decide +kernel, by decide +kernel⟩
def R_are_sightings (ds : List PyData) (d : PyData) : Prop := ∃ x L, ds = [x, landD L] ∧ d = .bool (areSights x L)
theorem ok_are_sightings (F : FnP K "are_sightings" s_are_sightings f fd) (G : Gi mg) (c_is_sighting : Cal P w K mg base CX0 3 "is_sighting" (spD K R_is_sighting)) : FnOk P w K mg base CX0 4 f fd ["thing", "land"] (spD K R_are_sightings) := by
  refine okD F sc_are_sightings (by rintro _ _ ⟨x, n, rfl, _⟩; rfl) fun cdv A outer s H E hr => ⟨_, (pss_cons (ps_if (PW.pt (pw_or (pt_not (pt_val (pe_callB (call_isik (K := K) rfl) rfl G.b_isinstance boot_isinstance (pa_cons (pv 0) (pa_cons (pe_ty (n := "list") rfl G.b_list (by decide +kernel)) pa_nil))))) (pw_or1 (pt_cmpR (op_gt) (pe_callB (call_lenk (K := K) rfl) rfl G.b_len boot_len (pa_cons (pv 0) pa_nil)) (pe_gi rfl G.i_MOST_SIGHTINGS) (nomark _))))) (pss_one (ps_ret pe_bl)) pss_nil)
      (pss_one (ps_ret (pe_callB (cr_allk (K := K) rfl rfl) rfl G.b_all (by decide +kernel) (pa_cons (pe_lc (own := [("sighting", 2)]) rfl sc_are_sightings.nd (pi_listk (K := K) rfl (pv 0)) (blkOk_by (N := ["thing", "land", "sighting"]) (sc := defScope s_are_sightings) (by decide +kernel)) (fun _ _ _ _ _ => (pg_name (i := 2) sc_are_sightings.nd rfl (Or.inl rfl))) (fun _ _ _ _ _ => pts_nil) (fun _ _ _ _ _ => (pe_d c_is_sighting hr (by decide) rfl (pa_cons (pv 2) (pa_cons (pv 1) pa_nil))))) pa_nil))))), ?_⟩
  rintro _ _ ⟨x, L, rfl, rfl⟩
  by_cases hx : ∃ ds, x = .list ds
  · obtain ⟨ds, rfl⟩ := hx
    refine yr_ifs (b := decide (8 < (ds.length : Int))) (YT.eq (yt_or (yt_not (yt_B (yd_isi (yd_var rfl) (kit_list _)))) fun _ => yt_test (yd_op (yd_cb (ya_cons (yd_var rfl) ya_nil) rc_lenL) yd_int rd_B0)) rfl) (fun hb => yr_seqR (yr_ret (YD.eq yd_bl ?_))) (fun hb => yr_next ?_)
    · have : 8 < ds.length := by have := of_decide_eq_true hb; omega
      simp [areSights]
      omega
    · have hl : ds.length ≤ 8 := by have := of_decide_eq_false hb; omega
      refine yr_ret (YD.eq (yd_all (xs := ds) (p := fun y => isSight y L) (yd_lc0 (fun d => d) (fun y => .bool (isSight y L)) (fun d => _) ((yi_list (yd_var rfl)).eq (List.map_id' ds).symm) (by omega) (by decide) (fun d _ => yg_name) fun d _ => yd_call (ya_cons (yd_var rfl) (ya_cons (yd_var rfl) ya_nil)) ⟨_, _, rfl, rfl⟩)) ?_)
      simp only [areSights, decide_eq_true hl, Bool.true_and]
  · have e : isList x = false := by cases x <;> first | rfl | exact absurd ⟨_, rfl⟩ hx
    refine yr_ifs (b := true) (YT.eq (yt_or (b := true) (yt_not (yt_B (yd_isi (yd_var rfl) (kit_list _)))) fun h => ?_) ?_) (fun hb => yr_seqR (yr_ret (YD.eq yd_bl ?_))) (fun hb => nomatch hb)
    · rw [e] at h; cases h
    · rw [e]; rfl
    · cases x <;> first | rfl | exact absurd ⟨_, rfl⟩ hx
abbrev s_next_places : Stmt := (top 26)
theorem sc_next_places : FnScope ["land", "place", "places", "ways", "last", "other"] ["land", "place"] (defScope s_next_places) := ⟨rfl, rfl, rfl, by decide +kernel, rfl, by decide +kernel, by decide +kernel⟩
def R_next_places (ds : List PyData) (es : List PyData) : Prop := ∃ L p, GoodLand L ∧ ds = [landD L, .int p] ∧ es = (nextI L p).map .int
theorem map_rgI {n : Int} : (List.range n.toNat).map (fun (i : Nat) => PyData.int (0 + (i : Int))) = (rgI n).map .int := by
  unfold rgI
  rw [List.map_map]
  apply List.map_congr_left
  intro i _
  show PyData.int (0 + (i : Int)) = .int (i : Int)
  rw [Int.zero_add]
theorem len_rgI {n : Int} : (rgI n).length = n.toNat := by
  unfold rgI
  rw [List.length_map, List.length_range]
theorem ok_next_places (F : FnP K "next_places" s_next_places f fd) (G : Gi mg) : FnOk P w K mg base CX0 1 f fd ["land", "place"] (spF K R_next_places) := by
  refine okF F sc_next_places (by rintro _ _ ⟨x, n, _, rfl, _⟩; rfl) fun cdv A outer s H E hr => ⟨_, (pss_cons (ps_asg (pv 0) (pg_tupk (K := K) (n := 3) rfl rfl (pgs_cons (pg_name (i := 2) sc_next_places.nd rfl (Or.inl rfl)) (pgs_cons (pg_name (i := 3) sc_next_places.nd rfl (Or.inr rfl)) (pgs_cons (pg_name (i := 4) sc_next_places.nd rfl (Or.inl rfl)) pgs_nil)))))
      (pss_one (ps_ret (pe_lc (own := [("other", 5)]) rfl sc_next_places.nd (pi_range1 rfl G.b_range (pa_cons (pv 2) pa_nil)) (blkOk_by (N := ["land", "place", "places", "ways", "last", "other"]) (sc := defScope s_next_places) (by decide +kernel)) (fun _ _ _ _ _ => (pg_name (i := 5) sc_next_places.nd rfl (Or.inl rfl))) (fun _ _ _ _ _ => (pts_one (PW.pt (pw_or (pt_cmpR (op_eqk (K := K) rfl hr.units) (pv 5) (pv 1) (nomark _)) (pw_or1 (pt_cmpR (op_ink (K := K) rfl (hu65 hr)) (pe_tup (pa_cons (pe_callB (call_min2' rfl) rfl G.b_min (by decide +kernel) (pa_cons (pv 1) (pa_cons (pv 5) pa_nil))) (pa_cons (pe_callB (call_max2' rfl) rfl G.b_max (by decide +kernel) (pa_cons (pv 1) (pa_cons (pv 5) pa_nil))) pa_nil))) (pv 3) rfl)))))) (fun _ _ _ _ _ => (pv 5)))))), ?_⟩
  rintro _ _ ⟨L, p, gl, rfl, rfl⟩
  have h1 := gl.n1
  have h7 := gl.n7
  refine yrf_seq (yn_asg (yd_var (d := landD L) rfl) (yg_tup (ygs_cons yg_name (ygs_cons yg_name (ygs_cons yg_name ygs_nil))) rfl)) ?_
  refine yrf_ret (YF.eq (yf_lc (xs := rgI L.n) (fun o => .int o) (isNear L p) (fun o => .int o) (fun o => _) ((yi_rng1 (n := L.n) (ya_cons (yd_var rfl) ya_nil) (by omega) (by omega)).eq map_rgI) (by rw [len_rgI]; omega) (by decide) (fun o _ => yg_name) (fun o _ => ?_) fun o _ _ => yd_var rfl) rfl)
  refine YT.eq (yt_or (a := decide (o = p)) (b := decide ((min p o, max p o) ∈ L.ws)) (YT.eq (yt_test (yd_op (yd_var rfl) (yd_var rfl) (rd_eqD rfl rfl))) rfl) fun _ => YT.eq (yt_test (yd_op (yd_tup (ya_cons (yd_cb (ya_cons (yd_var rfl) (ya_cons (yd_var rfl) ya_nil)) rc_min) (ya_cons (yd_cb (ya_cons (yd_var rfl) (ya_cons (yd_var rfl) ya_nil)) rc_max) ya_nil)) (Nat.le_of_ble_eq_true rfl)) (yd_var (d := .list (L.ws.map dP)) rfl) (rd_inD (shp_pair (min p o, max p o)) (shp_pairs _)))) (any_pairs (min p o, max p o) _)) rfl
end
end SG
set_option Elab.async false
set_option linter.all false
set_option maxRecDepth 100000
set_option maxHeartbeats 4000000
namespace SG
open PySem PySem.Spec PyProof.Rows L2
def toI : PyData → Int
  | .int i => i
  | _ => 0
def isWalkD (x : PyData) (L : Land) : Bool := match x with
  | .list xs => decide ((xs.length : Int) = L.l + 1) && (xs.all (fun y => numIn y 0 (L.n - 1)) && (xs.zip (xs.drop 1)).all fun p => decide (toI p.2 ∈ nextI L (toI p.1)))
  | _ => false
def metI (W : List Int) (S : List (Int × Int)) : List (Int × Int) := S.filter fun q => decide (W.getD q.1.toNat 0 = q.2)
theorem atI_nn {α : Type} {xs : List α} {i : Int} (h0 : 0 ≤ i) (h1 : i < xs.length) : atI xs i = xs[i.toNat]? := by
  unfold atI ixN
  simp [h0, h1]
theorem atI_int {W : List Int} {i : Int} (h0 : 0 ≤ i) (h1 : i < W.length) : atI (W.map PyData.int) i = some (.int (W.getD i.toNat 0)) := by
  rw [atI_nn h0 (by rw [List.length_map]; exact h1), List.getElem?_map, List.getD_eq_getElem?_getD]
  have h : i.toNat < W.length := by omega
  rw [List.getElem?_eq_getElem h]
  rfl
theorem eqv_ii (a b : Int) : PyData.eqv (.int a) (.int b) = decide (a = b) := by
  show (a == b) = decide (a = b)
  rfl
theorem any_ints (q : Int) : ∀ xs : List Int, (xs.map PyData.int).any (fun z => PyData.eqv z (.int q)) = decide (q ∈ xs)
  | [] => rfl
  | x :: xs => by
    rw [List.map_cons, List.any_cons, any_ints q xs, eqv_ii]
    by_cases h : x = q
    · subst h
      simp
    · have h' : ¬ q = x := fun z => h z.symm
      simp [h, h']
theorem lay_ints : ∀ xs : List Int, PyData.canLayAll0 (xs.map PyData.int) = true
  | [] => rfl
  | x :: xs => by
    show (true && PyData.canLayAll0 (xs.map PyData.int)) = true
    rw [lay_ints xs]
    rfl
theorem depth_ints : ∀ xs : List Int, PyData.depthAll (xs.map PyData.int) ≤ 1
  | [] => Nat.zero_le _
  | x :: xs => by
    have := depth_ints xs
    show max (PyData.depth (.int x)) (PyData.depthAll (xs.map PyData.int)) ≤ 1
    have h1 : PyData.depth (.int x) ≤ 1 := by simp [PyData.depth]
    omega
theorem shp_ints (xs : List Int) : SeqAt.shaped (iD xs) = true := shp (lay_ints xs) (by
  show PyData.depthAll (xs.map PyData.int) + 1 ≤ 64
  have := depth_ints xs
  omega)
section
variable {P : Program} {w : World} {K : PySem.W.Frag} {mg : Str → Option Value} {base : Heap} {f : Addr} {fd : FuncData}
abbrev s_is_walk : Stmt := (top 21)
theorem sc_is_walk : FnScope ["thing", "land", "places", "ways", "last", "place", "here", "after"] ["thing", "land"] (defScope s_is_walk) := ⟨rfl, rfl, rfl, by decide +kernel, rfl, by decide +kernel, by decide +kernel⟩
def R_is_walk (ds : List PyData) (d : PyData) : Prop := ∃ x L, GoodLand L ∧ ds = [x, landD L] ∧ d = .bool (isWalkD x L)
theorem ok_is_walk (F : FnP K "is_walk" s_is_walk f fd) (G : Gi mg) (c_is_within : Cal P w K mg base CX0 2 "is_within" (spD K R_is_within)) (c_next_places : Cal P w K mg base CX0 1 "next_places" (spF K R_next_places)) : FnOk P w K mg base CX0 3 f fd ["thing", "land"] (spD K R_is_walk) := by
  refine okD F sc_is_walk (by rintro _ _ ⟨x, n, _, rfl, _⟩; rfl) fun cdv A outer s H E hr => ⟨_, (pss_cons (ps_asg (pv 1) (pg_tupk (K := K) (n := 3) rfl rfl (pgs_cons (pg_name (i := 2) sc_is_walk.nd rfl (Or.inr rfl)) (pgs_cons (pg_name (i := 3) sc_is_walk.nd rfl (Or.inl rfl)) (pgs_cons (pg_name (i := 4) sc_is_walk.nd rfl (Or.inl rfl)) pgs_nil)))))
      (pss_cons (ps_if (PW.pt (pw_or (pt_not (pt_val (pe_callB (call_isik (K := K) rfl) rfl G.b_isinstance boot_isinstance (pa_cons (pv 0) (pa_cons (pe_ty (n := "list") rfl G.b_list (by decide +kernel)) pa_nil))))) (pw_or1 (pt_cmpR (op_nek (K := K) rfl hr.units) (pe_callB (call_lenk (K := K) rfl) rfl G.b_len boot_len (pa_cons (pv 0) pa_nil)) (pe_op op_add (pv 4) pe_int) (nomark _))))) (pss_one (ps_ret pe_bl)) pss_nil)
      (pss_cons (ps_if (pt_not (pt_val (pe_callB (cr_allk (K := K) rfl rfl) rfl G.b_all (by decide +kernel) (pa_cons (pe_lc (own := [("place", 5)]) rfl sc_is_walk.nd (pi_listk (K := K) rfl (pv 0)) (blkOk_by (N := ["thing", "land", "places", "ways", "last", "place", "here", "after"]) (sc := defScope s_is_walk) (by decide +kernel)) (fun _ _ _ _ _ => (pg_name (i := 5) sc_is_walk.nd rfl (Or.inl rfl))) (fun _ _ _ _ _ => pts_nil) (fun _ _ _ _ _ => (pe_d c_is_within hr (by decide) rfl (pa_cons (pv 5) (pa_cons pe_int (pa_cons (pe_op op_sub (pv 2) pe_int) pa_nil)))))) pa_nil)))) (pss_one (ps_ret pe_bl)) pss_nil)
      (pss_one (ps_ret (pe_callB (cr_allk (K := K) rfl rfl) rfl G.b_all (by decide +kernel) (pa_cons (pe_lc (own := [("here", 6), ("after", 7)]) rfl sc_is_walk.nd (pi_zipk (K := K) rfl rfl G.b_zip (pa_cons (pv 0) (pa_cons (pe_slice (sl_listk (K := K) rfl) (pv 0) (po_some pe_int) po_none) pa_nil))) (blkOk_by (N := ["thing", "land", "places", "ways", "last", "place", "here", "after"]) (sc := defScope s_is_walk) (by decide +kernel)) (fun _ _ _ _ _ => (pg_tupk (K := K) (n := 2) rfl rfl (pgs_cons (pg_name (i := 6) sc_is_walk.nd rfl (Or.inl rfl)) (pgs_cons (pg_name (i := 7) sc_is_walk.nd rfl (Or.inl rfl)) pgs_nil)))) (fun _ _ _ _ _ => pts_nil) (fun _ _ _ _ _ => (pe_cmpR (op_ink (K := K) rfl (hu65 hr)) (pv 7) (pe_d c_next_places hr (by decide) rfl (pa_cons (pv 1) (pa_cons (pv 6) pa_nil))) rfl))) pa_nil))))))), ?_⟩
  rintro _ _ ⟨x, L, gl, rfl, rfl⟩
  refine yr_seq (yn_asg (yd_var (d := landD L) rfl) (yg_tup (ygs_cons yg_name (ygs_cons yg_name (ygs_cons yg_name ygs_nil))) rfl)) ?_
  by_cases hx : ∃ ds, x = .list ds
  · obtain ⟨ds, rfl⟩ := hx
    refine yr_ifs (b := !decide ((ds.length : Int) = L.l + 1)) (YT.eq (yt_or (yt_not (yt_B (yd_isi (yd_var rfl) (kit_list _)))) fun _ => YT.eq (yt_test (yd_op (yd_cb (ya_cons (yd_var rfl) ya_nil) rc_lenL) (yd_op (yd_var rfl) yd_int rd_I0) (rd_neD rfl rfl))) rfl) rfl) (fun hb => yr_seqR (yr_ret (YD.eq yd_bl ?_))) (fun hb => yr_next ?_)
    · have : ¬ (ds.length : Int) = L.l + 1 := by simpa using hb
      simp [isWalkD, this]
    · have hl : (ds.length : Int) = L.l + 1 := by simpa using hb
      have h10 := gl.l10
      refine yr_ifs (yt_not (yt_B (yd_all (xs := ds) (p := fun y => numIn y 0 (L.n - 1)) (yd_lc0 (fun d => d) (fun y => .bool (numIn y 0 (L.n - 1))) (fun d => _) ((yi_list (yd_var rfl)).eq (List.map_id' ds).symm) (by omega) (by decide) (fun d _ => yg_name) fun d _ => yd_call (ya_cons (yd_var rfl) (ya_cons yd_int (ya_cons (yd_op (yd_var rfl) yd_int rd_I0) ya_nil))) ⟨_, _, _, rfl, rfl⟩)))) (fun hb => yr_seqR (yr_ret (YD.eq yd_bl ?_))) (fun hb => yr_next ?_)
      · have : (ds.all fun y => numIn y 0 (L.n - 1)) = false := by simpa using hb
        simp only [isWalkD, this, Bool.false_and, Bool.and_false]
      · have hw : (ds.all fun y => numIn y 0 (L.n - 1)) = true := by simpa using hb
        have hw2 : ∀ d ∈ ds, d = .int (toI d) := fun d hd => by
          have h1 := List.all_eq_true.mp hw d hd
          cases d with
          | int i => rfl
          | _ => cases h1
        have hm : ∀ p ∈ ds.zip (ds.drop 1), p.1 ∈ ds ∧ p.2 ∈ ds := fun p hp => ⟨(List.of_mem_zip hp).1, List.mem_of_mem_drop (List.of_mem_zip hp).2⟩
        refine yr_ret (YD.eq (yd_all (xs := ds.zip (ds.drop 1)) (p := fun p => decide (toI p.2 ∈ nextI L (toI p.1))) (yd_lc0 (fun p : PyData × PyData => .tuple [p.1, p.2]) (fun p => .bool (decide (toI p.2 ∈ nextI L (toI p.1)))) (fun p => _) ((yi_zip (ya_cons (yd_var rfl) (ya_cons (yd_slL (yd_var rfl) (yo_some yd_int) yo_none) ya_nil))).eq ?_) ?_ (by decide) (fun p _ => yg_tup (ygs_cons yg_name (ygs_cons yg_name ygs_nil)) rfl) fun p hp => ?_)) ?_)
        · rw [show cutD ds (some 1) none = ds.drop 1 from cutD_from 1, zipD_zip]
        · rw [List.length_zip]
          omega
        · have ea := hw2 _ (hm p hp).1
          have eb := hw2 _ (hm p hp).2
          obtain ⟨p1, p2⟩ := p
          dsimp only at ea eb ⊢
          generalize toI p1 = a at ea ⊢
          generalize toI p2 = b at eb ⊢
          subst ea eb
          exact YD.eq (yd_op (yd_var rfl) (yf_call (ya_cons (yd_var rfl) (ya_cons (yd_var rfl) ya_nil)) ⟨L, a, gl, rfl, rfl⟩).yd (rd_inD rfl (shp_ints _))) (congrArg PyData.bool (any_ints b _))
        · simp only [isWalkD, hw, Bool.true_and]
          rw [decide_eq_true hl]
          rfl
  · have e : isList x = false := by cases x <;> first | rfl | exact absurd ⟨_, rfl⟩ hx
    refine yr_ifs (b := true) (YT.eq (yt_or (b := true) (yt_not (yt_B (yd_isi (yd_var rfl) (kit_list _)))) fun h => ?_) ?_) (fun hb => yr_seqR (yr_ret (YD.eq yd_bl ?_))) (fun hb => nomatch hb)
    · rw [e] at h; cases h
    · rw [e]; rfl
    · cases x <;> first | rfl | exact absurd ⟨_, rfl⟩ hx
abbrev s_count_met : Stmt := (top 27)
theorem sc_count_met : FnScope ["walk", "sightings", "tick", "place"] ["walk", "sightings"] (defScope s_count_met) := ⟨rfl, rfl, rfl, by decide +kernel, rfl, by decide +kernel, by decide +kernel⟩
def R_count_met (ds : List PyData) (d : PyData) : Prop := ∃ (W : List Int) (S : List (Int × Int)), S.length ≤ 50000 ∧ (∀ q ∈ S, 0 ≤ q.1 ∧ q.1 < W.length) ∧ ds = [iD W, sD S] ∧ d = .int (metI W S).length
theorem ok_count_met (F : FnP K "count_met" s_count_met f fd) (G : Gi mg) : FnOk P w K mg base CX0 1 f fd ["walk", "sightings"] (spD K R_count_met) := by
  refine okD F sc_count_met (by rintro _ _ ⟨x, n, _, _, rfl, _⟩; rfl) fun cdv A outer s H E hr => ⟨_, (pss_one (ps_ret (pe_callB (call_lenk (K := K) rfl) rfl G.b_len boot_len (pa_cons (pe_lc (own := [("tick", 2), ("place", 3)]) rfl sc_count_met.nd (pi_listk (K := K) rfl (pv 1)) (blkOk_by (N := ["walk", "sightings", "tick", "place"]) (sc := defScope s_count_met) (by decide +kernel)) (fun _ _ _ _ _ => (pg_tupk (K := K) (n := 2) rfl rfl (pgs_cons (pg_name (i := 2) sc_count_met.nd rfl (Or.inl rfl)) (pgs_cons (pg_name (i := 3) sc_count_met.nd rfl (Or.inl rfl)) pgs_nil)))) (fun _ _ _ _ _ => (pts_one (pt_cmpR (op_eqk (K := K) rfl hr.units) (pe_ix (ix_k (K := K) rfl) (pv 0) (pv 2) (fun _ _ => rfl)) (pv 3) (nomark _)))) (fun _ _ _ _ _ => (pv 2))) pa_nil)))), ?_⟩
  rintro _ _ ⟨W, S, hl, hS, rfl, rfl⟩
  refine yr_ret (YD.eq (yd_cb (ya_cons (yd_lcM (xs := S) (fun q : Int × Int => dP q) (fun q => decide (W.getD q.1.toNat 0 = q.2)) (fun q => .int q.1) (fun q => _) (yi_list (yd_var rfl)) hl (by decide) (fun q _ => yg_tup (ygs_cons yg_name (ygs_cons yg_name ygs_nil)) rfl) (fun q hq => ?_) fun q _ _ => yd_var rfl) ya_nil) rc_lenL) ?_)
  · exact YT.eq (yt_test (yd_op (yd_op (yd_var (d := iD W) rfl) (yd_var rfl) (rd_ixL (atI_int (hS q hq).1 (hS q hq).2))) (yd_var rfl) (rd_eqD rfl rfl))) rfl
  · rw [List.length_map]
    rfl
abbrev s_check_question : Stmt := (top 25)
theorem sc_check_question : FnScope ["land", "sightings"] ["land", "sightings"] (defScope s_check_question) := ⟨rfl, rfl, rfl, by decide +kernel, rfl, by decide +kernel, by decide +kernel⟩
def R_check_question (ds : List PyData) (d : PyData) : Prop := ∃ L x, GoodLand L ∧ ds = [landD L, x] ∧ areSights x L = true ∧ d = .none
def X_check_question (cL cQ : Addr) (ds : List PyData) (C : Addr) : Prop := (∃ y x, ds = [y, x] ∧ isLand y = false ∧ C = cL) ∨ ∃ L x, GoodLand L ∧ ds = [landD L, x] ∧ areSights x L = false ∧ C = cQ
theorem ok_check_question {cL cQ : Addr} (F : FnP K "check_question" s_check_question f fd) (G : Gi mg) (x_BadSightings : Xc K mg "BadSightings" cQ) (c_check_land : Cal P w K mg base (L2.CX P w) 6 "check_land" (spX K R_check_land (X_check_land cL))) (c_are_sightings : Cal P w K mg base CX0 4 "are_sightings" (spD K R_are_sightings)) : FnOk P w K mg base (L2.CX P w) 7 f fd ["land", "sightings"] (spX K R_check_question (X_check_question cL cQ)) := by
  refine okX F sc_check_question (by rintro _ _ ⟨x, n, _, rfl, _⟩; rfl) (by rintro _ _ (⟨x, n, rfl, _⟩ | ⟨x, n, _, rfl, _⟩) <;> rfl) fun cdv A outer s H E hr => ⟨_, (pss_cons (ps_expr (pe_dX c_check_land hr (by decide) (takes_of rfl rfl rfl rfl) rfl (pa_cons (pv 0) pa_nil)))
      (pss_one (ps_if (pt_not (pt_val (pe_d c_are_sightings hr (by decide) rfl (pa_cons (pv 1) (pa_cons (pv 0) pa_nil))))) (pss_one (ps_raise rfl (takes_of rfl rfl rfl rfl) (pmk_own PySem.F.excBase_ValueError x_BadSightings.ex x_BadSightings.mg x_BadSightings.kp (raises_own x_BadSightings.sub x_BadSightings.ty) rfl))) pss_nil))), ?_, ?_⟩
  · rintro _ _ ⟨L, x, gl, rfl, hx, rfl⟩
    exact .inr ⟨rfl, _, _, yn_seq (yn_expr (d := .none) (yd_callX (ya_cons (yd_var rfl) ya_nil) ⟨_, rfl, isLand_good gl, rfl⟩)) (yn_ifF ((yt_not (yt_B (yd_call (ya_cons (yd_var rfl) (ya_cons (yd_var rfl) ya_nil)) ⟨x, L, rfl, rfl⟩))).eq (by rw [hx]; rfl)) yn_next)⟩
  · rintro _ _ (⟨y, x, rfl, hy, rfl⟩ | ⟨L, x, gl, rfl, hx, rfl⟩)
    · exact ye_seqE (ye_expr (yde_callX (ya_cons (yd_var rfl) ya_nil) ⟨_, rfl, hy, rfl⟩))
    · exact ye_seq (yn_expr (d := .none) (yd_callX (ya_cons (yd_var rfl) ya_nil) ⟨_, rfl, isLand_good gl, rfl⟩)) (ye_if (b := true) ((yt_not (yt_B (yd_call (ya_cons (yd_var rfl) (ya_cons (yd_var rfl) ya_nil)) ⟨x, L, rfl, rfl⟩))).eq (by rw [hx]; rfl)) (fun _ => ye_raise) (fun h => nomatch h))
end
end SG
set_option Elab.async false
set_option linter.all false
set_option maxRecDepth 100000
set_option maxHeartbeats 4000000
namespace SG
open PySem PySem.Spec PyProof.Rows L2
/-! ### how many walks -/
def badAt (S : List (Int × Int)) (t p : Int) : Bool := S.any fun q => decide (q.1 = t) && !decide (q.2 = p)
def endsI (L : Land) (S : List (Int × Int)) (t p : Int) (after : Option (List Int)) : Int := if badAt S t p then 0 else match after with
  | none => 1
  | some row => ((nextI L p).map fun q => row.getD q.toNat 0).sum
def rowsI (L : Land) (S : List (Int × Int)) : Nat → List (List Int)
  | 0 => []
  | k + 1 => ((rgI L.n).map fun p => endsI L S (L.l + (k : Int) * (-1)) p (rowsI L S k).head?) :: rowsI L S k
def tabI (L : Land) (S : List (Int × Int)) : List (List Int) := rowsI L S (L.l + 1).toNat
def manyI (L : Land) (S : List (Int × Int)) : Int := ((tabI L S).headD []).sum
def optD : Option (List Int) → PyData
  | none => .none
  | some r => iD r
def choI (L : Land) (B : List Int) : List Int := match B.getLast? with
  | none => rgI L.n
  | some p => nextI L p
theorem mem_nextI {L : Land} {p q : Int} (h : q ∈ nextI L p) : 0 ≤ q ∧ q < L.n := mem_rgI.mp (List.mem_filter.mp h).1
theorem rows_len (L : Land) (S : List (Int × Int)) : ∀ k, (rowsI L S k).length = k
  | 0 => rfl
  | k + 1 => by
    show (rowsI L S k).length + 1 = k + 1
    rw [rows_len L S k]
theorem rows_row (L : Land) (S : List (Int × Int)) : ∀ k, ∀ r ∈ rowsI L S k, r.length = L.n.toNat
  | 0, r, h => nomatch h
  | k + 1, r, h => by
    rcases List.mem_cons.mp h with rfl | h
    · rw [List.length_map, len_rgI]
    · exact rows_row L S k r h
section
variable {P : Program} {w : World} {K : PySem.W.Frag} {mg : Str → Option Value} {base : Heap} {f : Addr} {fd : FuncData}
abbrev s_ends_from : Stmt := (top 35)
theorem sc_ends_from : FnScope ["land", "sightings", "tick", "place", "after", "when", "seen", "near"] ["land", "sightings", "tick", "place", "after"] (defScope s_ends_from) := ⟨rfl, rfl, rfl, by decide +kernel, rfl, by decide +kernel, by decide +kernel⟩
def R_ends_from (ds : List PyData) (d : PyData) : Prop := ∃ (L : Land) (S : List (Int × Int)) (t p : Int) (a : Option (List Int)), GoodLand L ∧ S.length ≤ 50000 ∧ (∀ r, a = some r → r.length = L.n.toNat) ∧ ds = [landD L, sD S, .int t, .int p, optD a] ∧ d = .int (endsI L S t p a)
theorem ok_ends_from (F : FnP K "ends_from" s_ends_from f fd) (G : Gi mg) (c_next_places : Cal P w K mg base CX0 1 "next_places" (spF K R_next_places)) : FnOk P w K mg base CX0 2 f fd ["land", "sightings", "tick", "place", "after"] (spD K R_ends_from) := by
  refine okD F sc_ends_from (by rintro _ _ ⟨_, _, _, _, _, _, _, _, rfl, _⟩; rfl) fun cdv A outer s H E hr => ⟨_, (pss_cons (ps_if (pt_val (pe_callB (cr_anyk (K := K) rfl rfl) rfl G.b_any (by decide +kernel) (pa_cons (pe_lc (own := [("when", 5), ("seen", 6)]) rfl sc_ends_from.nd (pi_listk (K := K) rfl (pv 1)) (blkOk_by (N := ["land", "sightings", "tick", "place", "after", "when", "seen", "near"]) (sc := defScope s_ends_from) (by decide +kernel)) (fun _ _ _ _ _ => (pg_tupk (K := K) (n := 2) rfl rfl (pgs_cons (pg_name (i := 5) sc_ends_from.nd rfl (Or.inl rfl)) (pgs_cons (pg_name (i := 6) sc_ends_from.nd rfl (Or.inl rfl)) pgs_nil)))) (fun _ _ _ _ _ => pts_nil) (fun _ _ _ _ _ => (pe_and (pe_cmpR (op_eqk (K := K) rfl hr.units) (pv 5) (pv 2) (nomark _)) (pe_one (pe_cmpR (op_nek (K := K) rfl hr.units) (pv 6) (pv 3) (nomark _)))))) pa_nil))) (pss_one (ps_ret pe_int)) pss_nil)
      (pss_cons (ps_if (pt_cmp (pc_isN (pv 4))) (pss_one (ps_ret pe_int)) pss_nil)
      (pss_one (ps_ret (pe_callB (cr_sumk (K := K) rfl rfl) rfl G.b_sum (by decide +kernel) (pa_cons (pe_lc (own := [("near", 7)]) rfl sc_ends_from.nd (pi_listk (K := K) rfl (pe_d c_next_places hr (by decide) rfl (pa_cons (pv 0) (pa_cons (pv 3) pa_nil)))) (blkOk_by (N := ["land", "sightings", "tick", "place", "after", "when", "seen", "near"]) (sc := defScope s_ends_from) (by decide +kernel)) (fun _ _ _ _ _ => (pg_name (i := 7) sc_ends_from.nd rfl (Or.inl rfl))) (fun _ _ _ _ _ => pts_nil) (fun _ _ _ _ _ => (pe_ix (ix_k (K := K) rfl) (pv 4) (pv 7) (fun _ _ => rfl)))) pa_nil)))))), ?_⟩
  rintro _ _ ⟨L, S, t, p, a, gl, hl, ha, rfl, rfl⟩
  refine yr_ifs (b := badAt S t p) (yt_B (yd_any (xs := S) (p := fun q => decide (q.1 = t) && !decide (q.2 = p)) (yd_lc0 (fun q : Int × Int => dP q) (fun q => .bool (decide (q.1 = t) && !decide (q.2 = p))) (fun q => _) (yi_list (yd_var rfl)) hl (by decide) (fun q _ => yg_tup (ygs_cons yg_name (ygs_cons yg_name ygs_nil)) rfl) fun q _ => yd_and (YD.eq (yd_op (yd_var rfl) (yd_var rfl) (rd_eqD rfl rfl)) rfl) fun _ => YD.eq (yd_op (yd_var rfl) (yd_var rfl) (rd_neD rfl rfl)) rfl))) (fun hb => yr_seqR (yr_ret (YD.eq yd_int ?_))) (fun hb => yr_next ?_)
  · unfold endsI
    rw [hb]
    rfl
  · cases a with
    | none =>
      refine yr_ifs (b := true) (yt_test (yd_isN (yd_var rfl) rfl)) (fun _ => yr_seqR (yr_ret (YD.eq yd_int ?_))) (fun h => nomatch h)
      unfold endsI
      rw [hb]
      rfl
    | some row =>
      refine yr_ifs (b := false) (yt_test (yd_isN (x := iD row) (yd_var rfl) rfl)) (fun h => nomatch h) (fun _ => yr_next ?_)
      refine yr_ret (YD.eq (yd_cb (ya_cons (YD.eq (yd_lc0 (xs := nextI L p) (fun q => .int q) (fun q => .int (row.getD q.toNat 0)) (fun q => _) (yi_list (yf_call (ya_cons (yd_var rfl) (ya_cons (yd_var rfl) ya_nil)) ⟨L, p, gl, rfl, rfl⟩).yd) ?_ (by decide) (fun q _ => yg_name) fun q hq => yd_op (yd_var (d := iD row) rfl) (yd_var rfl) (rd_ixL (atI_int ?_ ?_))) (d' := .list (((nextI L p).map fun q => row.getD q.toNat 0).map .int)) ?_) ya_nil) rc_sum) ?_)
      · exact Nat.le_trans (List.length_filter_le _ _) (by rw [len_rgI]; have := gl.n7; omega)
      · exact (mem_nextI hq).1
      · rw [ha row rfl]
        have := mem_nextI hq
        omega
      · rw [List.map_map]
        rfl
      · unfold endsI
        rw [hb]
        rfl
abbrev s_ways_on : Stmt := (top 34)
theorem sc_ways_on : FnScope ["land", "sightings", "places", "ways", "last", "table", "tick", "after", "place"] ["land", "sightings"] (defScope s_ways_on) := ⟨rfl, rfl, rfl, by decide +kernel, rfl, by decide +kernel, by decide +kernel⟩
def R_ways_on (ds : List PyData) (d : PyData) : Prop := ∃ (L : Land) (S : List (Int × Int)), GoodLand L ∧ S.length ≤ 50000 ∧ ds = [landD L, sD S] ∧ d = .list ((tabI L S).map iD)
theorem ok_ways_on (F : FnP K "ways_on" s_ways_on f fd) (G : Gi mg) (c_ends_from : Cal P w K mg base CX0 2 "ends_from" (spD K R_ends_from)) : FnOk P w K mg base CX0 3 f fd ["land", "sightings"] (spD K R_ways_on) := by
  refine okD F sc_ways_on (by rintro _ _ ⟨_, _, _, _, rfl, _⟩; rfl) fun cdv A outer s H E hr => ⟨_, (pss_cons (ps_asg (pv 0) (pg_tupk (K := K) (n := 3) rfl rfl (pgs_cons (pg_name (i := 2) sc_ways_on.nd rfl (Or.inl rfl)) (pgs_cons (pg_name (i := 3) sc_ways_on.nd rfl (Or.inl rfl)) (pgs_cons (pg_name (i := 4) sc_ways_on.nd rfl (Or.inl rfl)) pgs_nil)))))
      (pss_cons (ps_set (i := 5) sc_ways_on.nd rfl (Or.inl rfl) (pe_lst pa_nil))
      (pss_cons (ps_for PassesOwn.never rfl (pi_range3 rfl G.b_range (pa_cons (pv 4) (pa_cons (pe_un un_neg pe_int) (pa_cons (pe_un un_neg pe_int) pa_nil)))) (pg_name (i := 6) sc_ways_on.nd rfl (Or.inr rfl))
        (pss_cons (ps_set (i := 7) sc_ways_on.nd rfl (Or.inr rfl) (pe_ifExp (pt_truk (K := K) rfl (pv 5) (fun _ => rfl)) (pe_ix (ix_k (K := K) rfl) (pv 5) pe_int (fun _ _ => rfl)) pe_non))
      (pss_one (ps_expr (pe_bm PySem.F.plainAttrs_list PySem.F.slot_list_insert PySem.F.type_list_insert mt_ins (pv 5) (pa_cons pe_int (pa_cons (pe_lc (own := [("place", 8)]) rfl sc_ways_on.nd (pi_range1 rfl G.b_range (pa_cons (pv 2) pa_nil)) (blkOk_by (N := ["land", "sightings", "places", "ways", "last", "table", "tick", "after", "place"]) (sc := defScope s_ways_on) (by decide +kernel)) (fun _ _ _ _ _ => (pg_name (i := 8) sc_ways_on.nd rfl (Or.inl rfl))) (fun _ _ _ _ _ => pts_nil) (fun _ _ _ _ _ => (pe_d c_ends_from hr (by decide) rfl (pa_cons (pv 0) (pa_cons (pv 1) (pa_cons (pv 6) (pa_cons (pv 8) (pa_cons (pv 7) pa_nil)))))))) pa_nil)))))))
      (pss_one (ps_ret (pv 5)))))), ?_⟩
  rintro _ _ ⟨L, S, gl, hl, rfl, rfl⟩
  have h1 := gl.l1
  have h10 := gl.l10
  have n1 := gl.n1
  have n7 := gl.n7
  refine yr_seq (yn_asg (yd_var (d := landD L) rfl) (yg_tup (ygs_cons yg_name (ygs_cons yg_name (ygs_cons yg_name ygs_nil))) rfl)) ?_
  refine yr_own (ds := []) ya_nil (Nat.zero_le _) ?_ (Nat.le_of_ble_eq_true rfl)
  have hcnt : (L.l - -1).toNat = (L.l + 1).toNat := by omega
  refine ymr_seq (ym_eq (ym_for (xs := List.range (L.l + 1).toNat) (ρw := [some (landD L), some (sD S), some (.int L.n), none, some (.int L.l), none, none, none, none]) (fun (i : Nat) => .int (L.l + (i : Int) * (-1))) (fun k => (rowsI L S k).map iD) (fun k x => _) ((yi_rngD (m := L.l) (n := -1) (ya_cons (yd_var rfl) (ya_cons (yd_un yd_int ru_neg) (ya_cons (yd_un yd_int ru_neg) ya_nil))) (by omega)).eq ?_) ?_ (by decide) (fun k x _ => yg_name) fun k x hx => ym_sub (ym_seq (ym_asg (d := optD (rowsI L S k).head?) (yw_if (b := !((rowsI L S k).map iD).isEmpty) (yt_truL (yd_var rfl)) (fun hb => yw_ix yd_int ?_) (fun hb => yw_yd (YD.eq yd_non ?_))) (by decide)) (ym_ins0 (d := iD ((rgI L.n).map fun p => endsI L S (L.l + (k : Int) * (-1)) p (rowsI L S k).head?)) (yw_yd (YD.eq (yd_lc0 (xs := rgI L.n) (fun p => .int p) (fun p => .int (endsI L S (L.l + (k : Int) * (-1)) p (rowsI L S k).head?)) (fun p => _) ((yi_rng1 (n := L.n) (ya_cons (yd_var rfl) ya_nil) (by omega) (by omega)).eq map_rgI) (by rw [len_rgI]; omega) (by decide) (fun p _ => yg_name) fun p hp => yd_call (ya_cons (yd_var rfl) (ya_cons (yd_var rfl) (ya_cons (yd_var rfl) (ya_cons (yd_var rfl) (ya_cons (yd_var rfl) ya_nil))))) ?_) ?_)) ?_)) ?_) (ds2 := (tabI L S).map iD) ?_) (ymr_settle (yr_ret (yd_var rfl)))
  · show dnD L.l (L.l - -1).toNat = _
    rw [hcnt]
    rfl
  · exact ⟨rfl, rfl, rfl, rfl, trivial⟩
  · cases e : rowsI L S k with
    | nil => rw [e] at hb; cases hb
    | cons r rs =>
      rw [atI_nn (by decide) (by simp)]
      rfl
  · cases e : rowsI L S k with
    | nil => rfl
    | cons r rs => rw [e] at hb; cases hb
  · have hxk : x = k := by
      have := (List.getElem?_eq_some_iff.mp hx).1
      rw [List.length_range] at this
      rw [List.getElem?_range this] at hx
      exact (Option.some.inj hx).symm
    subst hxk
    exact ⟨L, S, _, p, (rowsI L S x).head?, gl, hl, fun r hr => rows_row L S x r (List.mem_of_mem_head? hr), rfl, rfl⟩
  · unfold iD
    rw [List.map_map]
    rfl
  · rw [List.length_map, rows_len]
    have := (List.getElem?_eq_some_iff.mp hx).1
    rw [List.length_range] at this
    omega
  · exact ⟨rfl, rfl, rfl, rfl, trivial⟩
  · rw [List.length_range]
    rfl
abbrev s_count_walks : Stmt := (top 33)
theorem sc_count_walks : FnScope ["land", "sightings"] ["land", "sightings"] (defScope s_count_walks) := ⟨rfl, rfl, rfl, by decide +kernel, rfl, by decide +kernel, by decide +kernel⟩
def R_count_walks (ds : List PyData) (d : PyData) : Prop := ∃ (L : Land) (S : List (Int × Int)), GoodLand L ∧ S.length ≤ 50000 ∧ ds = [landD L, sD S] ∧ d = .int (manyI L S)
theorem tab_at0 {L : Land} {S : List (Int × Int)} (gl : GoodLand L) : atI ((tabI L S).map iD) 0 = some (iD ((tabI L S).headD [])) := by
  have h1 := gl.l1
  have hl : (tabI L S).length = (L.l + 1).toNat := rows_len L S _
  cases e : tabI L S with
  | nil => rw [e] at hl; simp at hl; omega
  | cons r rs =>
    rw [atI_nn (by decide) (by simp)]
    rfl
theorem ok_count_walks (F : FnP K "count_walks" s_count_walks f fd) (G : Gi mg) (c_ways_on : Cal P w K mg base CX0 3 "ways_on" (spD K R_ways_on)) : FnOk P w K mg base CX0 4 f fd ["land", "sightings"] (spD K R_count_walks) := by
  refine okD F sc_count_walks (by rintro _ _ ⟨_, _, _, _, rfl, _⟩; rfl) fun cdv A outer s H E hr => ⟨_, (pss_one (ps_ret (pe_callB (cr_sumk (K := K) rfl rfl) rfl G.b_sum (by decide +kernel) (pa_cons (pe_ix (ix_k (K := K) rfl) (pe_d c_ways_on hr (by decide) rfl (pa_cons (pv 0) (pa_cons (pv 1) pa_nil))) pe_int (fun _ _ => rfl)) pa_nil)))), ?_⟩
  rintro _ _ ⟨L, S, gl, hl, rfl, rfl⟩
  exact yr_ret (yd_cb (ya_cons (yd_op (yd_call (ya_cons (yd_var rfl) (ya_cons (yd_var rfl) ya_nil)) ⟨L, S, gl, hl, rfl, rfl⟩) yd_int (rd_ixL (tab_at0 gl))) ya_nil) rc_sum)
abbrev s_choices_after : Stmt := (top 36)
theorem sc_choices_after : FnScope ["land", "begun", "places", "ways", "last"] ["land", "begun"] (defScope s_choices_after) := ⟨rfl, rfl, rfl, by decide +kernel, rfl, by decide +kernel, by decide +kernel⟩
def R_choices_after (ds : List PyData) (es : List PyData) : Prop := ∃ (L : Land) (B : List Int), GoodLand L ∧ ds = [landD L, iD B] ∧ es = (choI L B).map .int
theorem atI_last {B : List Int} {p : Int} (h : B.getLast? = some p) : atI (B.map PyData.int) (-1) = some (.int p) := by
  have hl : B ≠ [] := fun z => by rw [z] at h; cases h
  have hp : 0 < B.length := List.length_pos_iff.mpr hl
  unfold atI ixN
  rw [if_neg (by decide), List.length_map, if_pos (by omega)]
  show (B.map PyData.int)[(-1 + (B.length : Int)).toNat]? = _
  have e : (-1 + (B.length : Int)).toNat = B.length - 1 := by omega
  rw [e, List.getElem?_map, ← List.getLast?_eq_getElem?, h]
  rfl
theorem ok_choices_after (F : FnP K "choices_after" s_choices_after f fd) (G : Gi mg) (c_next_places : Cal P w K mg base CX0 1 "next_places" (spF K R_next_places)) : FnOk P w K mg base CX0 2 f fd ["land", "begun"] (spF K R_choices_after) := by
  refine okF F sc_choices_after (by rintro _ _ ⟨_, _, _, rfl, _⟩; rfl) fun cdv A outer s H E hr => ⟨_, (pss_cons (ps_asg (pv 0) (pg_tupk (K := K) (n := 3) rfl rfl (pgs_cons (pg_name (i := 2) sc_choices_after.nd rfl (Or.inl rfl)) (pgs_cons (pg_name (i := 3) sc_choices_after.nd rfl (Or.inl rfl)) (pgs_cons (pg_name (i := 4) sc_choices_after.nd rfl (Or.inl rfl)) pgs_nil)))))
      (pss_one (ps_ret (pe_ifExp (pt_truk (K := K) rfl (pv 1) (fun _ => rfl)) (pe_d c_next_places hr (by decide) rfl (pa_cons (pv 0) (pa_cons (pe_ix (ix_k (K := K) rfl) (pv 1) (pe_un un_neg pe_int) (fun _ _ => rfl)) pa_nil))) (pe_listRg rfl rfl G.b_list (prg_1 rfl G.b_range (pv 2))))))), ?_⟩
  rintro _ _ ⟨L, B, gl, rfl, rfl⟩
  have n1 := gl.n1
  have n7 := gl.n7
  refine yrf_seq (yn_asg (yd_var (d := landD L) rfl) (yg_tup (ygs_cons yg_name (ygs_cons yg_name (ygs_cons yg_name ygs_nil))) rfl)) ?_
  refine yrf_ret (yf_if (b := !(B.map PyData.int).isEmpty) (yt_truL (yd_var rfl)) (fun hb => ?_) (fun hb => YF.eq (yf_rng (yd_var rfl) (by omega) (by omega)) ?_))
  · cases e : B.getLast? with
    | none =>
      have : B = [] := List.getLast?_eq_none_iff.mp e
      rw [this] at hb
      cases hb
    | some p =>
      refine YF.eq (yf_call (ya_cons (yd_var rfl) (ya_cons (yd_op (yd_var (d := iD B) rfl) (yd_un yd_int ru_neg) (rd_ixL (atI_last e))) ya_nil)) ⟨L, p, gl, rfl, rfl⟩) ?_
      unfold choI
      rw [e]
  · cases B with
    | nil => exact map_rgI
    | cons x r => cases hb
abbrev s_common_measure : Stmt := (top 37)
theorem sc_common_measure : FnScope ["one", "other"] ["one", "other"] (defScope s_common_measure) := ⟨rfl, rfl, rfl, by decide +kernel, rfl, by decide +kernel, by decide +kernel⟩
def R_common_measure (ds : List PyData) (d : PyData) : Prop := ∃ a b : Nat, ds = [.int a, .int b] ∧ d = .int (Nat.gcd a b)
theorem euclid : ∀ (b a : Nat), ∃ (n : Nat) (st : Nat → Nat × Nat), st 0 = (a, b) ∧ (∀ k, k < n → (st k).2 ≠ 0 ∧ st (k + 1) = ((st k).2, (st k).1 % (st k).2)) ∧ (st n).2 = 0 ∧ (st n).1 = Nat.gcd a b := by
  intro b
  induction b using Nat.strongRecOn with
  | ind b ih =>
    intro a
    by_cases hb : b = 0
    · subst hb
      exact ⟨0, fun _ => (a, 0), rfl, fun k hk => absurd hk (Nat.not_lt_zero _), rfl, (Nat.gcd_zero_right a).symm⟩
    · obtain ⟨n, st, h0, h1, h2, h3⟩ := ih (a % b) (Nat.mod_lt _ (Nat.pos_of_ne_zero hb)) b
      refine ⟨n + 1, fun k => match k with | 0 => (a, b) | k + 1 => st k, rfl, fun k hk => ?_, h2, ?_⟩
      · cases k with
        | zero => exact ⟨hb, h0⟩
        | succ k => exact h1 k (by omega)
      · show (st n).1 = _
        rw [h3, Nat.gcd_comm b (a % b), ← Nat.gcd_rec, Nat.gcd_comm]
theorem ok_common_measure (F : FnP K "common_measure" s_common_measure f fd) (G : Gi mg) : FnOk P w K mg base CX0 1 f fd ["one", "other"] (spD K R_common_measure) := by
  refine okD F sc_common_measure (by rintro _ _ ⟨_, _, rfl, _⟩; rfl) fun cdv A outer s H E hr => ⟨_, (pss_cons (ps_while PassesOwn.never (pt_truk (K := K) rfl (pv 1) (fun _ => rfl))
        (pss_one (ps_par (i := 0) (j := 1) rfl sc_common_measure.nd rfl rfl (by decide) rfl rfl (pa_cons (pv 1) (pa_cons (pe_op op_mod (pv 0) (pv 1)) pa_nil)) rfl)))
      (pss_one (ps_ret (pv 0)))), ?_⟩
  rintro _ _ ⟨a, b, rfl, rfl⟩
  obtain ⟨n, st, h0, h1, h2, h3⟩ := euclid b a
  refine yr_seq (yn_while (n := n) (st := fun k => [some (.int ((st k).1 : Nat)), some (.int ((st k).2 : Nat))]) ⟨by rw [h0], by rw [h0], trivial⟩ (fun k hk => YT.eq (yt_truI (yd_var rfl)) ?_) (fun k hk => yn_sub (yn_par (ya_cons (yd_var rfl) (ya_cons (yd_op (yd_var rfl) (yd_var rfl) (rd_I ?_)) ya_nil))) ⟨?_, ?_, trivial⟩) (YT.eq (yt_truI (yd_var rfl)) ?_)) (yr_ret (YD.eq (yd_var rfl) ?_))
  · have := (h1 k hk).1
    simp
    omega
  · have := (h1 k hk).1
    show (0 : Int) < ((st k).2 : Int)
    omega
  · rw [(h1 k hk).2]
  · rw [(h1 k hk).2]
    rfl
  · rw [h2]
    rfl
  · rw [h3]
end
end SG
set_option Elab.async false
set_option linter.all false
set_option maxRecDepth 100000
set_option maxHeartbeats 4000000
namespace SG
/-! ### the walks in their order -/
/-- which of the choices holds the number -/
def pk (g : Int → Int) : Int → List Int → Nat
  | _, [] => 0
  | x, c :: cs => if g c ≤ x then pk g (x - g c) cs + 1 else 0
def sumG (g : Int → Int) (cs : List Int) : Int := (cs.map g).sum
theorem sumG_cons (g : Int → Int) (c : Int) (cs : List Int) : sumG g (c :: cs) = g c + sumG g cs := by
  unfold sumG
  rw [List.map_cons, List.sum_cons]
theorem sumG_take {g : Int → Int} {cs : List Int} {k : Nat} (h : k < cs.length) : sumG g (cs.take (k + 1)) = sumG g (cs.take k) + g (cs.getD k 0) := by
  have e : cs.take (k + 1) = cs.take k ++ [cs.getD k 0] := by
    rw [List.take_add_one, List.getElem?_eq_getElem h, List.getD_eq_getElem?_getD, List.getElem?_eq_getElem h]
    rfl
  unfold sumG
  rw [e, List.map_append, List.sum_append]
  simp
theorem sumG_nn {g : Int → Int} {cs : List Int} (hg : ∀ c ∈ cs, 0 ≤ g c) : 0 ≤ sumG g cs := by
  induction cs with
  | nil => exact Int.le_refl _
  | cons c cs ih =>
    rw [sumG_cons]
    have h1 := hg c List.mem_cons_self
    have h2 := ih fun x hx => hg x (List.mem_cons_of_mem _ hx)
    omega
theorem pk_ok {g : Int → Int} : ∀ {cs : List Int} {x : Int}, 0 ≤ x → x < sumG g cs → pk g x cs < cs.length ∧ (∀ k, k < pk g x cs → g (cs.getD k 0) ≤ x - sumG g (cs.take k)) ∧ x - sumG g (cs.take (pk g x cs)) < g (cs.getD (pk g x cs) 0) ∧ 0 ≤ x - sumG g (cs.take (pk g x cs))
  | [], x, h0, h1 => by
    have : x < 0 := h1
    omega
  | c :: cs, x, h0, h1 => by
    rw [sumG_cons] at h1
    unfold pk
    by_cases hc : g c ≤ x
    · rw [if_pos hc]
      obtain ⟨a1, a2, a3, a4⟩ := pk_ok (g := g) (cs := cs) (x := x - g c) (by omega) (by omega)
      refine ⟨by rw [List.length_cons]; omega, fun k hk => ?_, ?_, ?_⟩
      · cases k with
        | zero =>
          show g c ≤ x - 0
          omega
        | succ k =>
          have := a2 k (by omega)
          rw [List.take_succ_cons, sumG_cons, List.getD_cons_succ]
          omega
      · rw [List.take_succ_cons, sumG_cons, List.getD_cons_succ]
        omega
      · rw [List.take_succ_cons, sumG_cons]
        omega
    · rw [if_neg hc]
      refine ⟨by rw [List.length_cons]; omega, fun k hk => absurd hk (Nat.not_lt_zero _), ?_, ?_⟩
      · show x - 0 < g c
        omega
      · show 0 ≤ x - 0
        omega
def rowG (row : List Int) (p : Int) : Int := row.getD p.toNat 0
/-- one row behind another: the choices, what is left -/
def stp (L : Land) (row : List Int) (z : List Int × Int) : List Int × Int := (nextI L (z.1.getD (pk (rowG row) z.2 z.1) 0), z.2 - sumG (rowG row) (z.1.take (pk (rowG row) z.2 z.1)))
def cho (row : List Int) (z : List Int × Int) : Int := z.1.getD (pk (rowG row) z.2 z.1) 0
def sttI (L : Land) : List (List Int) → List Int × Int → Nat → List Int × Int
  | _, z, 0 => z
  | [], z, _ + 1 => z
  | row :: rows, z, k + 1 => sttI L rows (stp L row z) k
def runI (L : Land) : List (List Int) → List Int × Int → List Int
  | [], _ => []
  | row :: rows, z => cho row z :: runI L rows (stp L row z)
theorem stt_succ (L : Land) : ∀ (rows : List (List Int)) (z : List Int × Int) (k : Nat) (row : List Int), rows[k]? = some row → sttI L rows z (k + 1) = stp L row (sttI L rows z k)
  | [], z, k, row, h => by simp at h
  | r :: rows, z, 0, row, h => by
    have : r = row := by simpa using h
    subst this
    unfold sttI
    cases rows <;> rfl
  | r :: rows, z, k + 1, row, h => by
    show sttI L rows (stp L r z) (k + 1) = stp L row (sttI L rows (stp L r z) k)
    exact stt_succ L rows (stp L r z) k row (by simpa using h)
theorem run_at (L : Land) : ∀ (rows : List (List Int)) (z : List Int × Int) (k : Nat) (row : List Int), rows[k]? = some row → (runI L rows z)[k]? = some (cho row (sttI L rows z k))
  | [], z, k, row, h => by simp at h
  | r :: rows, z, 0, row, h => by
    have : r = row := by simpa using h
    subst this
    rfl
  | r :: rows, z, k + 1, row, h => by
    show (runI L rows (stp L r z))[k]? = some (cho row (sttI L rows (stp L r z) k))
    exact run_at L rows (stp L r z) k row (by simpa using h)
theorem run_len (L : Land) : ∀ (rows : List (List Int)) (z : List Int × Int), (runI L rows z).length = rows.length
  | [], _ => rfl
  | r :: rows, z => by
    show (runI L rows (stp L r z)).length + 1 = rows.length + 1
    rw [run_len L rows]
/-- all walks from the choices cs on, k ticks left; those that meet all sightings -/
def allW (L : Land) (S : List (Int × Int)) : Nat → List Int → List (List Int)
  | 0, _ => [[]]
  | k + 1, cs => cs.flatMap fun c => if badAt S (L.l + (k : Int) * (-1)) c then [] else (allW L S k (nextI L c)).map (c :: ·)
theorem allW_cons (L : Land) (S : List (Int × Int)) (k : Nat) (c : Int) (cs : List Int) : allW L S (k + 1) (c :: cs) = (if badAt S (L.l + (k : Int) * (-1)) c then [] else (allW L S k (nextI L c)).map (c :: ·)) ++ allW L S (k + 1) cs := by
  show List.flatMap _ (c :: cs) = _
  rw [List.flatMap_cons]
  rfl
theorem row_at {L : Land} {S : List (Int × Int)} {k : Nat} {a : Option (List Int)} {c : Int} (h0 : 0 ≤ c) (h1 : c < L.n) : rowG ((rgI L.n).map fun p => endsI L S (L.l + (k : Int) * (-1)) p a) c = endsI L S (L.l + (k : Int) * (-1)) c a := by
  unfold rowG rgI
  rw [List.map_map, List.getD_eq_getElem?_getD, List.getElem?_map, List.getElem?_range (by omega)]
  show endsI L S _ ((c.toNat : Nat) : Int) a = _
  rw [Int.toNat_of_nonneg h0]
/-- the first row counts the walks -/
def hdR (L : Land) (S : List (Int × Int)) (k : Nat) : List Int := (rowsI L S k).headD []
theorem hd_at {L : Land} {S : List (Int × Int)} {k : Nat} {c : Int} (h0 : 0 ≤ c) (h1 : c < L.n) : rowG (hdR L S (k + 1)) c = endsI L S (L.l + (k : Int) * (-1)) c (rowsI L S k).head? := row_at h0 h1
theorem count_all (L : Land) (S : List (Int × Int)) : ∀ (k : Nat) (cs : List Int), (∀ c ∈ cs, 0 ≤ c ∧ c < L.n) → ((allW L S (k + 1) cs).length : Int) = sumG (rowG (hdR L S (k + 1))) cs
  | k, [], _ => by
    have : allW L S (k + 1) [] = [] := rfl
    rw [this]
    rfl
  | k, c :: cs, h => by
    obtain ⟨c0, c1⟩ := h c List.mem_cons_self
    rw [allW_cons, sumG_cons, List.length_append, hd_at c0 c1]
    have ih := count_all L S k cs fun x hx => h x (List.mem_cons_of_mem _ hx)
    have key : (((if badAt S (L.l + (k : Int) * (-1)) c then [] else (allW L S k (nextI L c)).map (c :: ·) : List (List Int))).length : Int) = endsI L S (L.l + (k : Int) * (-1)) c (rowsI L S k).head? := by
      unfold endsI
      split
      · rfl
      · rw [List.length_map]
        cases k with
        | zero => rfl
        | succ k =>
          have h2 := count_all L S k (nextI L c) fun x hx => mem_nextI hx
          rw [h2]
          rfl
    push_cast
    rw [key, ih]
end SG
set_option Elab.async false
set_option linter.all false
set_option maxRecDepth 100000
set_option maxHeartbeats 4000000
namespace SG
theorem fm_at {α : Type} {f : Int → List α} {g : Int → Int} : ∀ {cs : List Int} {x : Int}, (∀ c ∈ cs, ((f c).length : Int) = g c) → 0 ≤ x → x < sumG g cs → (cs.flatMap f)[x.toNat]? = (f (cs.getD (pk g x cs) 0))[(x - sumG g (cs.take (pk g x cs))).toNat]?
  | [], x, _, h0, h1 => by
    have : x < 0 := h1
    omega
  | c :: cs, x, hf, h0, h1 => by
    rw [sumG_cons] at h1
    have hc := hf c List.mem_cons_self
    rw [List.flatMap_cons]
    unfold pk
    by_cases h : g c ≤ x
    · rw [if_pos h, List.getElem?_append_right (by omega)]
      have ih := fm_at (f := f) (g := g) (cs := cs) (x := x - g c) (fun y hy => hf y (List.mem_cons_of_mem _ hy)) (by omega) (by omega)
      rw [List.getD_cons_succ, List.take_succ_cons, sumG_cons]
      have e1 : x.toNat - (f c).length = (x - g c).toNat := by omega
      have e2 : x - (g c + sumG g (cs.take (pk g (x - g c) cs))) = x - g c - sumG g (cs.take (pk g (x - g c) cs)) := by omega
      rw [e1, e2]
      exact ih
    · rw [if_neg h, List.getElem?_append_left (by omega)]
      show (f c)[x.toNat]? = (f c)[(x - 0).toNat]?
      rw [Int.sub_zero]
/-- the state behind some rows is good -/
structure StOk (L : Land) (row : List Int) (z : List Int × Int) : Prop where
  lo : 0 ≤ z.2
  hi : z.2 < sumG (rowG row) z.1
  rg : ∀ c ∈ z.1, 0 ≤ c ∧ c < L.n
theorem getD_mem {cs : List Int} {k : Nat} (h : k < cs.length) : cs.getD k 0 ∈ cs := by
  rw [List.getD_eq_getElem?_getD, List.getElem?_eq_getElem h]
  exact List.getElem_mem h
theorem endsI_nn (L : Land) (S : List (Int × Int)) (k : Nat) {c : Int} (h0 : 0 ≤ c) (h1 : c < L.n) : 0 ≤ rowG (hdR L S (k + 1)) c := by
  have := count_all L S k [c] (by intro x hx; rw [List.mem_singleton.mp hx]; exact ⟨h0, h1⟩)
  rw [sumG_cons] at this
  have e : sumG (rowG (hdR L S (k + 1))) [] = 0 := rfl
  omega
theorem rows_succ (L : Land) (S : List (Int × Int)) (k : Nat) : rowsI L S (k + 1) = hdR L S (k + 1) :: rowsI L S k := rfl
theorem run_all (L : Land) (S : List (Int × Int)) : ∀ (k : Nat) (cs : List Int) (x : Int), (∀ c ∈ cs, 0 ≤ c ∧ c < L.n) → 0 ≤ x → x < (allW L S k cs).length →
    (allW L S k cs)[x.toNat]? = some (runI L (rowsI L S k) (cs, x)) ∧ ∀ j row, (rowsI L S k)[j]? = some row → StOk L row (sttI L (rowsI L S k) (cs, x) j)
  | 0, cs, x, hr, h0, h1 => by
    have e : allW L S 0 cs = [[]] := rfl
    rw [e] at h1 ⊢
    have : x = 0 := by simp at h1; omega
    subst this
    exact ⟨rfl, fun j row h => by simp [rowsI] at h⟩
  | k + 1, cs, x, hr, h0, h1 => by
    have hs := count_all L S k cs hr
    rw [hs] at h1
    have hg : ∀ c ∈ cs, (((if badAt S (L.l + (k : Int) * (-1)) c then [] else (allW L S k (nextI L c)).map (c :: ·) : List (List Int))).length : Int) = rowG (hdR L S (k + 1)) c := fun c hc => by
      obtain ⟨c0, c1⟩ := hr c hc
      have h2 := count_all L S k [c] (by intro y hy; rw [List.mem_singleton.mp hy]; exact ⟨c0, c1⟩)
      rw [allW_cons, sumG_cons, List.length_append] at h2
      have e1 : allW L S (k + 1) [] = [] := rfl
      have e2 : sumG (rowG (hdR L S (k + 1))) [] = 0 := rfl
      rw [e1, e2] at h2
      simpa using h2
    obtain ⟨a1, a2, a3, a4⟩ := pk_ok (g := rowG (hdR L S (k + 1))) h0 h1
    have hm := getD_mem a1
    have hgc := hg _ hm
    have hnb : badAt S (L.l + (k : Int) * (-1)) (cs.getD (pk (rowG (hdR L S (k + 1))) x cs) 0) = false := by
      cases hb : badAt S (L.l + (k : Int) * (-1)) (cs.getD (pk (rowG (hdR L S (k + 1))) x cs) 0) with
      | false => rfl
      | true =>
        rw [hb, if_pos rfl] at hgc
        have h3 : (0 : Int) = rowG (hdR L S (k + 1)) (cs.getD (pk (rowG (hdR L S (k + 1))) x cs) 0) := hgc
        omega
    rw [hnb, if_neg (by decide), List.length_map] at hgc
    have hgc2 : ((allW L S k (nextI L (cs.getD (pk (rowG (hdR L S (k + 1))) x cs) 0))).length : Int) = rowG (hdR L S (k + 1)) (cs.getD (pk (rowG (hdR L S (k + 1))) x cs) 0) := hgc
    obtain ⟨ih1, ih2⟩ := run_all L S k (nextI L (cs.getD (pk (rowG (hdR L S (k + 1))) x cs) 0)) (x - sumG (rowG (hdR L S (k + 1))) (cs.take (pk (rowG (hdR L S (k + 1))) x cs))) (fun c hc => mem_nextI hc) a4 (by rw [hgc2]; exact a3)
    refine ⟨?_, fun j row hj => ?_⟩
    · show (cs.flatMap _)[x.toNat]? = _
      rw [fm_at hg h0 h1, hnb]
      show ((allW L S k _).map _)[_]? = _
      rw [List.getElem?_map, ih1]
      rfl
    · rw [rows_succ] at hj ⊢
      cases j with
      | zero =>
        have : hdR L S (k + 1) = row := by simpa using hj
        subst this
        exact ⟨h0, h1, hr⟩
      | succ j => exact ih2 j row (by simpa using hj)
/-! ### the number of a walk -/
def nbI (L : Land) : List (List Int) → List Int → List Int → Int
  | row :: rows, cs, c :: W => sumG (rowG row) (cs.filter fun p => decide (p < c)) + nbI L rows (nextI L c) W
  | _, _, _ => 0
theorem take_lt : ∀ {cs : List Int} {k : Nat}, cs.Pairwise (· < ·) → k < cs.length → (cs.filter fun p => decide (p < cs.getD k 0)) = cs.take k
  | [], k, _, h => absurd h (Nat.not_lt_zero _)
  | c :: cs, 0, hp, _ => by
    show (List.filter (fun p => decide (p < c)) (c :: cs)) = []
    rw [List.filter_eq_nil_iff]
    intro x hx
    rcases List.mem_cons.mp hx with rfl | hx
    · simp
    · have := (List.pairwise_cons.mp hp).1 x hx
      simp
      omega
  | c :: cs, k + 1, hp, h => by
    rw [List.length_cons] at h
    obtain ⟨h1, h2⟩ := List.pairwise_cons.mp hp
    have hk : k < cs.length := by omega
    have := h1 _ (getD_mem hk)
    rw [List.getD_cons_succ, List.take_succ_cons, List.filter_cons, if_pos (by simpa using this), take_lt h2 hk]
theorem rgI_inc (n : Int) : (rgI n).Pairwise (· < ·) := by
  unfold rgI
  rw [List.pairwise_map]
  refine List.pairwise_lt_range.imp ?_
  intro a b h
  omega
theorem next_inc (L : Land) (p : Int) : (nextI L p).Pairwise (· < ·) := (rgI_inc L.n).filter _
theorem nb_run (L : Land) (S : List (Int × Int)) : ∀ (k : Nat) (cs : List Int) (x : Int), cs.Pairwise (· < ·) → (∀ c ∈ cs, 0 ≤ c ∧ c < L.n) → 0 ≤ x → x < (allW L S k cs).length → nbI L (rowsI L S k) cs (runI L (rowsI L S k) (cs, x)) = x
  | 0, cs, x, _, hr, h0, h1 => by
    have e : allW L S 0 cs = [[]] := rfl
    rw [e] at h1
    have : x = 0 := by simp at h1; omega
    subst this
    rfl
  | k + 1, cs, x, hp, hr, h0, h1 => by
    have hs := count_all L S k cs hr
    obtain ⟨hA, hB⟩ := run_all L S (k + 1) cs x hr h0 h1
    rw [hs] at h1
    obtain ⟨a1, a2, a3, a4⟩ := pk_ok (g := rowG (hdR L S (k + 1))) h0 h1
    rw [rows_succ]
    show sumG (rowG (hdR L S (k + 1))) (cs.filter fun p => decide (p < cs.getD (pk (rowG (hdR L S (k + 1))) x cs) 0)) + nbI L (rowsI L S k) (nextI L (cs.getD (pk (rowG (hdR L S (k + 1))) x cs) 0)) (runI L (rowsI L S k) (nextI L (cs.getD (pk (rowG (hdR L S (k + 1))) x cs) 0), x - sumG (rowG (hdR L S (k + 1))) (cs.take (pk (rowG (hdR L S (k + 1))) x cs)))) = x
    rw [take_lt hp a1]
    have hlt : x - sumG (rowG (hdR L S (k + 1))) (cs.take (pk (rowG (hdR L S (k + 1))) x cs)) < (allW L S k (nextI L (cs.getD (pk (rowG (hdR L S (k + 1))) x cs) 0))).length := by
      have hm := getD_mem a1
      obtain ⟨c0, c1⟩ := hr _ hm
      have h2 := count_all L S k [cs.getD (pk (rowG (hdR L S (k + 1))) x cs) 0] (by intro y hy; rw [List.mem_singleton.mp hy]; exact ⟨c0, c1⟩)
      rw [allW_cons, sumG_cons, List.length_append] at h2
      have e1 : allW L S (k + 1) [] = [] := rfl
      have e2 : sumG (rowG (hdR L S (k + 1))) [] = 0 := rfl
      rw [e1, e2, List.length_nil, Nat.add_zero, Int.add_zero] at h2
      split at h2
      · rw [List.length_nil] at h2
        omega
      · rw [List.length_map] at h2
        omega
    rw [nb_run L S k _ _ (next_inc L _) (fun c hc => mem_nextI hc) a4 hlt]
    omega
/-- how many walks there are -/
theorem many_all (L : Land) (S : List (Int × Int)) (h : 0 ≤ L.l) : manyI L S = (allW L S (L.l + 1).toNat (rgI L.n)).length := by
  have e : (L.l + 1).toNat = L.l.toNat + 1 := by omega
  unfold manyI tabI
  rw [e, count_all L S _ _ (fun c hc => mem_rgI.mp hc)]
  show (hdR L S (L.l.toNat + 1)).sum = sumG (rowG (hdR L S (L.l.toNat + 1))) (rgI L.n)
  have hh : hdR L S (L.l.toNat + 1) = (rgI L.n).map fun p => endsI L S (L.l + (L.l.toNat : Int) * (-1)) p (rowsI L S L.l.toNat).head? := rfl
  unfold sumG
  have : (rgI L.n).map (rowG (hdR L S (L.l.toNat + 1))) = hdR L S (L.l.toNat + 1) := by
    rw [hh]
    apply List.map_congr_left
    intro c hc
    exact row_at (mem_rgI.mp hc).1 (mem_rgI.mp hc).2
  rw [this]
end SG
set_option Elab.async false
set_option linter.all false
set_option maxRecDepth 100000
set_option maxHeartbeats 4000000
namespace SG
open PySem PySem.Spec PyProof.Rows L2
/-! ### a list of its own, or an error -/
def spFX (K : PySem.W.Frag) (R : List PyData → List PyData → Prop) (X : List PyData → Addr → Prop) : Sp := fun vs H Q E => ∃ ds Hs, Same Hs H ∧ RpAll K Hs vs ds ∧
  ((∃ es, R ds es ∧ ∀ a us Hs2 H2, Gr Hs H Hs2 H2 → H a = none → Hs2 a = none → H2 a = some (.lst us) → RpAll K Hs2 us es → Q (.ref a) H2) ∨ (∃ C, X ds C ∧ ∀ Hs2 H2, Gr Hs H Hs2 H2 → E (.ref C) none H2))
def YMF (K : PySem.W.Frag) (t : TS) (i : Nat) (ρ : Rho) (ds es : List PyData) : Prop :=
  ∀ (σ : L2.St) (Hs H : Hp) (p : Addr), EnvD K Hs σ ρ → Same Hs H → Ow K i σ Hs H p ds → ∀ D : Ends, (∀ us Hs2 H2, GrO p Hs H Hs2 H2 → Hs2 p = none → H2 p = some (.lst us) → RpAll K Hs2 us es → D.rt (.ref p) H2) → t D σ H
section
variable {K : PySem.W.Frag} {ρ ρ1 : Rho} {t u : TS} {i : Nat} {sl : List Nat} {ds ds1 es : List PyData} {ta : TA}
theorem ymf_seq (h : YM K t i sl ρ ds ρ1 ds1) (k : YMF K u i ρ1 ds1 es) : YMF K (tSeq t u) i ρ ds es := fun σ Hs H p e s o D q => h σ Hs H p e s o _ fun σ1 Hs1 H1 g1 e1 o1 _ => k σ1 Hs1 H1 p e1 g1.c o1 D fun us Hs2 H2 g2 n2 h2 r => q us Hs2 H2 (g1.trans g2) n2 h2 r
theorem ymf_ret : YMF K (tRet (tVar i)) i ρ ds ds := fun σ Hs H p e s o D q => by
  obtain ⟨h1, h2, vs, h3, h4⟩ := o
  exact ⟨.ref p, h1, q vs Hs H (Gr.refl s).o h2 h3 h4⟩
theorem yrf_own (h : YA K ta ρ ds) (hl : ds.length ≤ 100000) (k : YMF K u i (ρ.set i none) ds es) (hi : i < ρ.length) : YRF K (tSeq (tAsg (tLst ta) (gName i)) u) ρ es := by
  intro σ Hs H e s D q
  refine h σ Hs H e s _ fun vs Hs1 H1 g1 r => ⟨by rw [r.len]; exact sz_of hl, fun p hp => ?_⟩
  have hp1 : Hs1 p = none := same_none g1.c hp
  have hp0 : H p = none := same_none g1.b hp
  have g2 : Gr Hs H Hs1 (upd H1 p (.lst vs)) := g1.trans (Gr.fresh g1.c hp)
  exact k _ Hs1 _ p ((e.mono g1.a).del (x := some (.ref p)) i) g2.c ⟨List.getElem?_set_self (by rw [e.1]; exact hi), hp1, vs, upd_same, r⟩ D fun us Hs2 H2 go n2 h2 rv => q p us Hs2 H2 (g2.byO hp0 go) hp0 n2 h2 rv
theorem yf_callX {R : List PyData → List PyData → Prop} {X : List PyData → Addr → Prop} {E : XK} (h : YA K ta ρ ds) (hr : R ds es) : YF K (tCall (spFX K R X) [] E ta) ρ es := fun σ Hs H e s Q q => h σ Hs H e s _ fun vs Hs1 H1 g1 r1 =>
  ⟨ds, Hs1, g1.c, by rw [List.append_nil]; exact r1, .inl ⟨es, hr, fun a us Hs2 H2 g2 ha hs hl r2 => q a us Hs2 H2 (g1.trans g2) (same_none g1.b ha) hs hl r2⟩⟩
theorem yde_callFX {R : List PyData → List PyData → Prop} {X : List PyData → Addr → Prop} {E : XK} {C : Addr} (h : YA K ta ρ ds) (hr : X ds C) : YDE K E (tCall (spFX K R X) [] E ta) ρ C := fun σ Hs H e s q Q => h σ Hs H e s _ fun vs Hs1 H1 g1 r1 =>
  ⟨ds, Hs1, g1.c, by rw [List.append_nil]; exact r1, .inr ⟨C, hr, fun Hs2 H2 g2 => q Hs2 H2 (g1.trans g2)⟩⟩
theorem okFX {P : Program} {w : World} {mg : Str → Option Value} {base : Heap} {x qual : Str} {params : Arguments} {body : List Stmt} {scope : Scope} {f : Addr} {fd : FuncData} {N ps : List Str} {k : Nat} {R : List PyData → List PyData → Prop} {X : List PyData → Addr → Prop}
    (F : FunD K x qual params body scope [] [] f fd) (S : FnScope N ps scope) (len : ∀ ds d, R ds d → ds.length = ps.length) (lenX : ∀ ds C, X ds C → ds.length = ps.length)
    (hbody : ∀ (cdv : Value) (A : Around) (outer : List Env) (s : Shared) (H : Hp) (E : XK), Room k (A.deeper (envOfC qual scope s.heap.objs.size f cdv)) →
      ∃ t, PSs (cxOf (L2.CX P w) P w K mg base N qual scope f cdv A outer s H E) body t ∧ (∀ ds es, R ds es → YRF K t (startD N ds) es) ∧ ∀ ds C, X ds C → YE K E t (startD N ds) C) : FnOk P w K mg base (L2.CX P w) (k + 1) f fd ps (spFX K R X) := by
  refine F.ok S (fun vs H Q E h => ?_) (fun cdv A outer s H vs Q E hr h => ?_)
  · obtain ⟨ds, Hs, _, hp, ⟨es, hR, _⟩ | ⟨C, hX, _⟩⟩ := h
    · rw [hp.len]
      exact len ds es hR
    · rw [hp.len]
      exact lenX ds C hX
  · obtain ⟨ds, Hs, hs, hp, hh⟩ := h
    obtain ⟨t, h1, h2, h3⟩ := hbody cdv A outer s H E hr
    refine ⟨t, h1, ?_⟩
    rcases hh with ⟨es, hR, q⟩ | ⟨C, hX, q⟩
    · exact h2 ds es hR _ Hs H (env_start hp) hs _ q
    · exact h3 ds C hX _ Hs H (env_start hp) hs q _
end
/-! ### sightings of a land -/
structure OkS (L : Land) (S : List (Int × Int)) : Prop where
  len : S.length ≤ 8
  at_ : ∀ q ∈ S, 0 ≤ q.1 ∧ q.1 ≤ L.l ∧ 0 ≤ q.2 ∧ q.2 < L.n
theorem areS_ok {L : Land} {S : List (Int × Int)} (h : OkS L S) : areSights (sD S) L = true := by
  have h1 : (S.map dP).all (fun y => isSight y L) = true := by
    rw [List.all_eq_true]
    intro y hy
    obtain ⟨q, hq, rfl⟩ := List.mem_map.mp hy
    have := h.at_ q hq
    show ((decide (0 ≤ q.1) && decide (q.1 ≤ L.l)) && (decide (0 ≤ q.2) && decide (q.2 ≤ L.n - 1))) = true
    simp
    omega
  show (decide ((S.map dP).length ≤ 8) && (S.map dP).all fun y => isSight y L) = true
  rw [h1, List.length_map]
  have := h.len
  simp
  omega
section
variable {P : Program} {w : World} {K : PySem.W.Frag} {mg : Str → Option Value} {base : Heap} {f cL cQ cN cW : Addr} {fd : FuncData}
abbrev s_how_many : Stmt := (top 29)
theorem sc_how_many : FnScope ["land", "sightings"] ["land", "sightings"] (defScope s_how_many) := ⟨rfl, rfl, rfl, by decide +kernel, rfl, by decide +kernel, by decide +kernel⟩
def R_how_many (ds : List PyData) (d : PyData) : Prop := ∃ (L : Land) (S : List (Int × Int)), GoodLand L ∧ OkS L S ∧ ds = [landD L, sD S] ∧ d = .int (manyI L S)
theorem ok_how_many (F : FnP K "how_many" s_how_many f fd) (G : Gi mg) (c_check_question : Cal P w K mg base (L2.CX P w) 7 "check_question" (spX K R_check_question (X_check_question cL cQ))) (c_count_walks : Cal P w K mg base CX0 4 "count_walks" (spD K R_count_walks)) : FnOk P w K mg base (L2.CX P w) 8 f fd ["land", "sightings"] (spX K R_how_many (X_check_question cL cQ)) := by
  refine okX F sc_how_many (by rintro _ _ ⟨x, n, _, _, rfl, _⟩; rfl) (by rintro _ _ (⟨x, n, rfl, _⟩ | ⟨x, n, _, rfl, _⟩) <;> rfl) fun cdv A outer s H E hr => ⟨_, (pss_cons (ps_expr (pe_dX c_check_question hr (by decide) (takes_of rfl rfl rfl rfl) rfl (pa_cons (pv 0) (pa_cons (pv 1) pa_nil))))
      (pss_one (ps_ret (pe_d c_count_walks hr (by decide) rfl (pa_cons (pv 0) (pa_cons (pv 1) pa_nil)))))), ?_, ?_⟩
  · rintro _ _ ⟨L, S, gl, ok, rfl, rfl⟩
    exact .inl (yr_seq (yn_expr (d := .none) (yd_callX (ya_cons (yd_var rfl) (ya_cons (yd_var rfl) ya_nil)) ⟨L, sD S, gl, rfl, areS_ok ok, rfl⟩)) (yr_ret (yd_call (ya_cons (yd_var rfl) (ya_cons (yd_var rfl) ya_nil)) ⟨L, S, gl, by have := ok.len; omega, rfl, rfl⟩)))
  · rintro ds C hX
    obtain ⟨y, x, e⟩ : ∃ y x, ds = [y, x] := by
      rcases hX with ⟨y, x, rfl, _⟩ | ⟨L, x, _, rfl, _⟩
      · exact ⟨_, _, rfl⟩
      · exact ⟨_, _, rfl⟩
    subst e
    exact ye_seqE (ye_expr (yde_callX (ya_cons (yd_var rfl) (ya_cons (yd_var rfl) ya_nil)) hX))
abbrev s_walk_by : Stmt := (top 30)
theorem sc_walk_by : FnScope ["land", "sightings", "number", "table", "left", "walk", "row", "choices", "at"] ["land", "sightings", "number"] (defScope s_walk_by) := ⟨rfl, rfl, rfl, by decide +kernel, rfl, by decide +kernel, by decide +kernel⟩
def wlkI (L : Land) (S : List (Int × Int)) (x : Int) : List Int := runI L (tabI L S) (rgI L.n, x)
def R_walk_by (ds : List PyData) (es : List PyData) : Prop := ∃ (L : Land) (S : List (Int × Int)) (x : Int), GoodLand L ∧ OkS L S ∧ 0 ≤ x ∧ x < manyI L S ∧ ds = [landD L, sD S, .int x] ∧ es = (wlkI L S x).map .int
def X_walk_by (cN : Addr) (ds : List PyData) (C : Addr) : Prop := ∃ (L : Land) (S : List (Int × Int)) (x : PyData), GoodLand L ∧ OkS L S ∧ numIn x 0 (manyI L S - 1) = false ∧ ds = [landD L, sD S, x] ∧ C = cN
theorem stt0 {L : Land} {rows : List (List Int)} {z : List Int × Int} : sttI L rows z 0 = z := by cases rows <;> rfl
theorem cho_stt {L : Land} {rows : List (List Int)} {z : Int} : ∀ {k : Nat}, k < rows.length → choI L ((runI L rows (rgI L.n, z)).take k) = (sttI L rows (rgI L.n, z) k).1
  | 0, _ => by cases rows <;> rfl
  | k + 1, h => by
    have hk : rows[k]? = some rows[k] := List.getElem?_eq_getElem (by omega)
    have h1 := run_at L rows (rgI L.n, z) k _ hk
    unfold choI
    rw [List.take_add_one, h1]
    show (match ((runI L rows (rgI L.n, z)).take k ++ [cho rows[k] (sttI L rows (rgI L.n, z) k)]).getLast? with
      | none => rgI L.n
      | some p => nextI L p) = _
    rw [List.getLast?_concat, stt_succ L rows _ k _ hk]
    rfl
theorem len_cho {L : Land} (gl : GoodLand L) (B : List Int) : (choI L B).length ≤ 7 := by
  have := gl.n7
  unfold choI
  split
  · rw [len_rgI]; omega
  · exact Nat.le_trans (List.length_filter_le _ _) (by rw [len_rgI]; omega)
theorem all_scal (xs : List Int) : (xs.map PyData.int).all scalD = true := by
  rw [List.all_eq_true]
  intro d hd
  obtain ⟨x, _, rfl⟩ := List.mem_map.mp hd
  rfl
theorem ok_walk_by (F : FnP K "walk_by" s_walk_by f fd) (G : Gi mg) (x_BadNumber : Xc K mg "BadNumber" cN) (c_check_question : Cal P w K mg base (L2.CX P w) 7 "check_question" (spX K R_check_question (X_check_question cL cQ))) (c_ways_on : Cal P w K mg base CX0 3 "ways_on" (spD K R_ways_on))
    (c_is_within : Cal P w K mg base CX0 2 "is_within" (spD K R_is_within)) (c_choices_after : Cal P w K mg base CX0 2 "choices_after" (spF K R_choices_after)) : FnOk P w K mg base (L2.CX P w) 8 f fd ["land", "sightings", "number"] (spFX K R_walk_by (X_walk_by cN)) := by
  refine okFX F sc_walk_by (by rintro _ _ ⟨_, _, _, _, _, _, _, rfl, _⟩; rfl) (by rintro _ _ ⟨_, _, _, _, _, _, rfl, _⟩; rfl) fun cdv A outer s H E hr => ⟨_, (pss_cons (ps_expr (pe_dX c_check_question hr (by decide) (takes_of rfl rfl rfl rfl) rfl (pa_cons (pv 0) (pa_cons (pv 1) pa_nil))))
      (pss_cons (ps_set (i := 3) sc_walk_by.nd rfl (Or.inl rfl) (pe_d c_ways_on hr (by decide) rfl (pa_cons (pv 0) (pa_cons (pv 1) pa_nil))))
      (pss_cons (ps_if (pt_not (pt_val (pe_d c_is_within hr (by decide) rfl (pa_cons (pv 2) (pa_cons pe_int (pa_cons (pe_op op_sub (pe_callB (cr_sumk (K := K) rfl rfl) rfl G.b_sum (by decide +kernel) (pa_cons (pe_ix (ix_k (K := K) rfl) (pv 3) pe_int (fun _ _ => rfl)) pa_nil)) pe_int) pa_nil)))))) (pss_one (ps_raise rfl (takes_of rfl rfl rfl rfl) (pmk_own PySem.F.excBase_ValueError x_BadNumber.ex x_BadNumber.mg x_BadNumber.kp (raises_own x_BadNumber.sub x_BadNumber.ty) rfl))) pss_nil)
      (pss_cons (ps_set (i := 4) sc_walk_by.nd rfl (Or.inl rfl) (pv 2))
      (pss_cons (ps_set (i := 5) sc_walk_by.nd rfl (Or.inl rfl) (pe_lst pa_nil))
      (pss_cons (ps_for (passes_of rfl) rfl (pi_listk (K := K) rfl (pv 3)) (pg_name (i := 6) sc_walk_by.nd rfl (Or.inl rfl))
        (pss_cons (ps_set (i := 7) sc_walk_by.nd rfl (Or.inl rfl) (pe_d c_choices_after hr (by decide) rfl (pa_cons (pv 0) (pa_cons (pv 5) pa_nil))))
      (pss_cons (ps_set (i := 8) sc_walk_by.nd rfl (Or.inl rfl) pe_int)
      (pss_cons (ps_while (passes_of rfl) (pt_cmpR (op_ge) (pv 4) (pe_ix (ix_k (K := K) rfl) (pv 6) (pe_ix (ix_k (K := K) rfl) (pv 7) (pv 8) (fun _ _ => rfl)) (fun _ _ => rfl)) (nomark _))
        (pss_cons (ps_aug (i := 4) sc_walk_by.nd rfl (Or.inl rfl) (pe_ix (ix_k (K := K) rfl) (pv 6) (pe_ix (ix_k (K := K) rfl) (pv 7) (pv 8) (fun _ _ => rfl)) (fun _ _ => rfl)) ip_sub)
      (pss_one (ps_aug (i := 8) sc_walk_by.nd rfl (Or.inl rfl) pe_int ip_add))))
      (pss_one (ps_expr (pe_bm PySem.F.plainAttrs_list PySem.F.slot_list_append PySem.F.type_list_append mt_append (pv 5) (pa_cons (pe_ix (ix_k (K := K) rfl) (pv 7) (pv 8) (fun _ _ => rfl)) pa_nil))))))))
      (pss_one (ps_ret (pv 5))))))))), ?_, ?_⟩
  · rintro _ _ ⟨L, S, x, gl, ok, hx0, hx1, rfl, rfl⟩
    have h8 := ok.len
    have l1 := gl.l1
    have l10 := gl.l10
    have hw : numIn (.int x) 0 (manyI L S - 1) = true := by
      simp [numIn]
      omega
    have hA : x < (allW L S (L.l + 1).toNat (rgI L.n)).length := by rw [← many_all L S (by omega)]; exact hx1
    obtain ⟨_, hst⟩ := run_all L S (L.l + 1).toNat (rgI L.n) x (fun c hc => mem_rgI.mp hc) hx0 hA
    have htl : (tabI L S).length = (L.l + 1).toNat := rows_len L S _
    refine yrf_seq (yn_expr (d := .none) (yd_callX (ya_cons (yd_var rfl) (ya_cons (yd_var rfl) ya_nil)) ⟨L, sD S, gl, rfl, areS_ok ok, rfl⟩)) ?_
    refine yrf_seq (yn_asg (yd_call (ya_cons (yd_var rfl) (ya_cons (yd_var rfl) ya_nil)) ⟨L, S, gl, by omega, rfl, rfl⟩) yg_name) ?_
    refine yrf_seq (yn_ifF ((yt_not (yt_B (yd_call (ya_cons (yd_var rfl) (ya_cons yd_int (ya_cons (yd_op (yd_cb (ya_cons (yd_op (yd_var (d := .list ((tabI L S).map iD)) rfl) yd_int (rd_ixL (tab_at0 gl))) ya_nil) rc_sum) yd_int rd_I0) ya_nil))) ⟨_, _, _, rfl, rfl⟩))).eq (by rw [show numIn (.int x) 0 (((tabI L S).headD []).sum - 1) = true from hw]; rfl)) yn_next) ?_
    refine yrf_seq (yn_asg (yd_var rfl) yg_name) ?_
    refine yrf_own (ds := []) ya_nil (Nat.zero_le _) ?_ (Nat.le_of_ble_eq_true rfl)
    refine ymf_seq (ym_eq (ym_forV (xs := tabI L S) (slb := [7, 8, 4, 8]) iD (fun k => ((wlkI L S x).take k).map .int) (fun k => [some (landD L), some (sD S), some (.int x), some (.list ((tabI L S).map iD)), some (.int (sttI L (tabI L S) (rgI L.n, x) k).2), none, none, none, none]) (fun k row => _) (yi_list (yd_var rfl)) ⟨rfl, rfl, rfl, rfl, congrArg (fun z : List Int × Int => PyData.int z.2) stt0, trivial⟩ (by decide) (fun k row _ => yg_name) fun k row hrow => ?_) (ds2 := (wlkI L S x).map .int) ?_) ymf_ret
    · have hk : k < (tabI L S).length := (List.getElem?_eq_some_iff.mp hrow).1
      have ok2 := hst k row hrow
      obtain ⟨a1, a2, a3, a4⟩ := pk_ok (g := rowG row) ok2.lo ok2.hi
      have hrl : row.length = L.n.toNat := rows_row L S _ row (List.mem_of_getElem? hrow)
      have hcs := cho_stt (L := L) (z := x) hk
      have hat := run_at L (tabI L S) (rgI L.n, x) k row hrow
      have hnx := stt_succ L (tabI L S) (rgI L.n, x) k row hrow
      rw [show sttI L (tabI L S) (rgI L.n, x) = sttI L (rowsI L S (L.l + 1).toNat) (rgI L.n, x) from rfl] at *
      generalize sttI L (rowsI L S (L.l + 1).toNat) (rgI L.n, x) k = z at ok2 a1 a2 a3 a4 hcs hat hnx ⊢
      rw [hnx]
      have n7 : z.1.length ≤ 7 := by rw [← hcs]; exact len_cho gl _
      have ci : ∀ j, j < z.1.length → atI (z.1.map PyData.int) (j : Int) = some (.int (z.1.getD j 0)) := fun j hj => by
        have := atI_int (W := z.1) (i := (j : Int)) (by omega) (by omega)
        rw [this]
        rfl
      have ri : ∀ j, j < z.1.length → atI (row.map PyData.int) (z.1.getD j 0) = some (.int (rowG row (z.1.getD j 0))) := fun j hj => by
        obtain ⟨c0, c1⟩ := ok2.rg _ (getD_mem hj)
        exact atI_int c0 (by rw [hrl]; omega)
      refine ym_sub (ym_seq (ym_asg (d := iD z.1) (j := 7) (yw_fresh (yf_call (ya_cons (yd_var rfl) (ya_cons (yd_var (d := iD ((wlkI L S x).take k)) rfl) ya_nil)) ⟨L, _, gl, rfl, by rw [← hcs]; rfl⟩) (all_scal _)) (by decide)) (ym_seq (ym_n (yn_asg yd_int yg_name) (by decide)) (ym_seq (ym_n (yn_while (n := pk (rowG row) z.2 z.1) (st := fun j => [some (landD L), some (sD S), some (.int x), some (.list ((tabI L S).map iD)), some (.int (z.2 - sumG (rowG row) (z.1.take j))), none, some (iD row), some (iD z.1), some (.int (j : Int))]) ?_ (fun j hj => YT.eq (yt_test (yd_op (yd_var rfl) (yd_op (yd_var (d := iD row) rfl) (yd_op (yd_var (d := iD z.1) rfl) (yd_var rfl) (rd_ixL (ci j (by omega)))) (rd_ixL (ri j (by omega)))) rd_B0)) ?_) (fun j hj => yn_sub (yn_seq (yn_aug rfl (yd_op (yd_var (d := iD row) rfl) (yd_op (yd_var (d := iD z.1) rfl) (yd_var rfl) (rd_ixL (ci j (by omega)))) (rd_ixL (ri j (by omega))))) (yn_aug rfl yd_int)) ?_) (YT.eq (yt_test (yd_op (yd_var rfl) (yd_op (yd_var (d := iD row) rfl) (yd_op (yd_var (d := iD z.1) rfl) (yd_var rfl) (rd_ixL (ci _ a1))) (rd_ixL (ri _ a1))) rd_B0)) ?_)) (by decide)) (ym_eq (ym_app (yd_op (yd_var (d := iD z.1) rfl) (yd_var rfl) (rd_ixL (ci _ a1))) ?_) ?_)))) ⟨rfl, rfl, rfl, rfl, rfl, trivial⟩
      · refine ⟨rfl, rfl, rfl, rfl, ?_, rfl, rfl, rfl, trivial⟩
        show PyData.int (z.2 - 0) = PyData.int z.2
        rw [Int.sub_zero]
      · exact decide_eq_true (a2 j hj)
      · refine ⟨rfl, rfl, rfl, rfl, ?_, rfl, rfl, rfl, trivial⟩
        rw [sumG_take (by omega)]
        show _ = PyData.int (z.2 - sumG (rowG row) (z.1.take j) - rowG row (z.1.getD j 0))
        congr 1
        omega
      · exact decide_eq_false (by omega)
      · rw [List.length_map, List.length_take]
        omega
      · rw [List.take_add_one, show (wlkI L S x)[k]? = some (cho row z) from hat, List.map_append]
        rfl
    · rw [List.take_of_length_le]
      rw [show (wlkI L S x).length = (tabI L S).length from run_len L _ _]
      exact Nat.le_refl _
  · rintro _ _ ⟨L, S, x, gl, ok, hx, rfl, rfl⟩
    have h8 := ok.len
    refine ye_seq (yn_expr (d := .none) (yd_callX (ya_cons (yd_var rfl) (ya_cons (yd_var rfl) ya_nil)) ⟨L, sD S, gl, rfl, areS_ok ok, rfl⟩)) ?_
    refine ye_seq (yn_asg (yd_call (ya_cons (yd_var rfl) (ya_cons (yd_var rfl) ya_nil)) ⟨L, S, gl, by omega, rfl, rfl⟩) yg_name) ?_
    exact ye_seqE (ye_if (b := true) ((yt_not (yt_B (yd_call (ya_cons (yd_var rfl) (ya_cons yd_int (ya_cons (yd_op (yd_cb (ya_cons (yd_op (yd_var (d := .list ((tabI L S).map iD)) rfl) yd_int (rd_ixL (tab_at0 gl))) ya_nil) rc_sum) yd_int rd_I0) ya_nil))) ⟨_, _, _, rfl, rfl⟩))).eq (by rw [show numIn x 0 (((tabI L S).headD []).sum - 1) = false from hx]; rfl)) (fun _ => ye_raise) (fun h => nomatch h))
end
end SG
set_option Elab.async false
set_option linter.all false
set_option maxRecDepth 100000
set_option maxHeartbeats 4000000
namespace SG
open PySem PySem.Spec PyProof.Rows L2
/-! ### the number of a walk, shares -/
def partN (L : Land) (rows : List (List Int)) (W : List Int) : Nat → Int
  | 0 => 0
  | k + 1 => partN L rows W k + sumG (rowG (rows.getD k [])) ((choI L (W.take k)).filter fun p => decide (p < W.getD k 0))
/-- from a begun walk B on -/
def partB (L : Land) (B : List Int) (rows : List (List Int)) (W : List Int) : Nat → Int
  | 0 => 0
  | k + 1 => partB L B rows W k + sumG (rowG (rows.getD k [])) ((choI L (B ++ W.take k)).filter fun p => decide (p < W.getD k 0))
theorem partB_cons (L : Land) (B : List Int) (r : List Int) (rows : List (List Int)) (c : Int) (W : List Int) : ∀ k, partB L B (r :: rows) (c :: W) (k + 1) = sumG (rowG r) ((choI L B).filter fun p => decide (p < c)) + partB L (B ++ [c]) rows W k
  | 0 => by
    show 0 + sumG (rowG r) ((choI L (B ++ [])).filter _) = _ + 0
    rw [List.append_nil]
    show 0 + sumG (rowG r) ((choI L B).filter fun p => decide (p < c)) = sumG (rowG r) ((choI L B).filter fun p => decide (p < c)) + 0
    omega
  | k + 1 => by
    have ih := partB_cons L B r rows c W k
    have e1 : partB L B (r :: rows) (c :: W) (k + 1 + 1) = partB L B (r :: rows) (c :: W) (k + 1) + sumG (rowG ((r :: rows).getD (k + 1) [])) ((choI L (B ++ (c :: W).take (k + 1))).filter fun p => decide (p < (c :: W).getD (k + 1) 0)) := rfl
    have e2 : partB L (B ++ [c]) rows W (k + 1) = partB L (B ++ [c]) rows W k + sumG (rowG (rows.getD k [])) ((choI L ((B ++ [c]) ++ W.take k)).filter fun p => decide (p < W.getD k 0)) := rfl
    rw [e1, e2, ih, List.getD_cons_succ, List.getD_cons_succ, List.take_succ_cons, List.append_assoc]
    show _ + sumG (rowG (rows.getD k [])) ((choI L (B ++ (c :: W.take k))).filter fun p => decide (p < W.getD k 0)) = _ + (_ + sumG (rowG (rows.getD k [])) ((choI L (B ++ ([c] ++ W.take k))).filter fun p => decide (p < W.getD k 0)))
    rw [List.singleton_append]
    omega
theorem partB_nb (L : Land) : ∀ (rows : List (List Int)) (B W : List Int), W.length = rows.length → partB L B rows W rows.length = nbI L rows (choI L B) W
  | [], B, W, h => by
    cases W with
    | nil => rfl
    | cons c W => cases h
  | r :: rows, B, [], h => by cases h
  | r :: rows, B, c :: W, h => by
    rw [List.length_cons, partB_cons, partB_nb L rows (B ++ [c]) W (by simpa using h)]
    have : choI L (B ++ [c]) = nextI L c := by
      unfold choI
      rw [List.getLast?_concat]
    rw [this]
    rfl
theorem partN_B (L : Land) (rows : List (List Int)) (W : List Int) : ∀ k, partN L rows W k = partB L [] rows W k
  | 0 => rfl
  | k + 1 => by
    show partN L rows W k + _ = partB L [] rows W k + _
    rw [partN_B L rows W k, List.nil_append]
theorem part_nb {L : Land} {rows : List (List Int)} {W : List Int} (h : W.length = rows.length) : partN L rows W rows.length = nbI L rows (rgI L.n) W := by
  rw [partN_B, partB_nb L rows [] W h]
  rfl
theorem enum_rows (rows : List (List Int)) : enumD (rows.map iD) = (List.range rows.length).map fun (i : Nat) => .tuple [.int (i : Int), iD (rows.getD i [])] := by
  apply List.ext_getElem?
  intro i
  by_cases hi : i < rows.length
  · rw [List.getElem?_map, List.getElem?_range hi]
    rw [enumD_get.mpr ⟨iD (rows.getD i []), by rw [List.getElem?_map, List.getElem?_eq_getElem hi, List.getD_eq_getElem?_getD, List.getElem?_eq_getElem hi]; rfl, rfl⟩]
    rfl
  · rw [List.getElem?_eq_none (l := (List.range rows.length).map fun (i : Nat) => PyData.tuple [.int (i : Int), iD (rows.getD i [])]) (by rw [List.length_map, List.length_range]; omega)]
    cases e : (enumD (rows.map iD))[i]? with
    | none => rfl
    | some d =>
      obtain ⟨x, hx, _⟩ := enumD_get.mp e
      have := (List.getElem?_eq_some_iff.mp hx).1
      rw [List.length_map] at this
      omega
structure IsW (L : Land) (W : List Int) : Prop where
  len : (W.length : Int) = L.l + 1
  rg : ∀ p ∈ W, 0 ≤ p ∧ p < L.n
  nx : ∀ q ∈ W.zip (W.drop 1), q.2 ∈ nextI L q.1
theorem isW_ok {L : Land} {W : List Int} (h : IsW L W) : isWalkD (iD W) L = true := by
  have h1 : (W.map PyData.int).all (fun y => numIn y 0 (L.n - 1)) = true := by
    rw [List.all_eq_true]
    intro y hy
    obtain ⟨q, hq, rfl⟩ := List.mem_map.mp hy
    have := h.rg q hq
    simp [numIn]
    omega
  have h2 : ((W.map PyData.int).zip ((W.map PyData.int).drop 1)).all (fun p => decide (toI p.2 ∈ nextI L (toI p.1))) = true := by
    rw [← List.map_drop, List.zip_map, List.all_map, List.all_eq_true]
    intro q hq
    exact decide_eq_true (h.nx q hq)
  show (decide (((W.map PyData.int).length : Int) = L.l + 1) && ((W.map PyData.int).all (fun y => numIn y 0 (L.n - 1)) && ((W.map PyData.int).zip ((W.map PyData.int).drop 1)).all fun p => decide (toI p.2 ∈ nextI L (toI p.1)))) = true
  rw [h1, h2, List.length_map, decide_eq_true h.len]
  rfl
theorem cdivW {i j : Int} (h0 : 0 < j) (h1 : j < 2 ^ 40) : CDivW i j := wide_div h0 (b := 40) (by omega) (by decide) (by decide)
section
variable {P : Program} {w : World} {K : PySem.W.Frag} {mg : Str → Option Value} {base : Heap} {f cL cQ cN cW cO cP cT : Addr} {fd : FuncData}
abbrev s_number_of : Stmt := (top 31)
theorem sc_number_of : FnScope ["land", "sightings", "walk", "number", "tick", "row", "choices", "place"] ["land", "sightings", "walk"] (defScope s_number_of) := ⟨rfl, rfl, rfl, by decide +kernel, rfl, by decide +kernel, by decide +kernel⟩
def R_number_of (ds : List PyData) (d : PyData) : Prop := ∃ (L : Land) (S : List (Int × Int)) (W : List Int), GoodLand L ∧ OkS L S ∧ IsW L W ∧ (metI W S).length = S.length ∧ ds = [landD L, sD S, iD W] ∧ d = .int (nbI L (tabI L S) (rgI L.n) W)
def X_number_of (cW : Addr) (ds : List PyData) (C : Addr) : Prop := ∃ (L : Land) (S : List (Int × Int)) (x : PyData), GoodLand L ∧ OkS L S ∧ (isWalkD x L = false ∨ ∃ W, IsW L W ∧ x = iD W ∧ (metI W S).length < S.length) ∧ ds = [landD L, sD S, x] ∧ C = cW
theorem ok_number_of (F : FnP K "number_of" s_number_of f fd) (G : Gi mg) (x_BadWalk : Xc K mg "BadWalk" cW) (c_check_question : Cal P w K mg base (L2.CX P w) 7 "check_question" (spX K R_check_question (X_check_question cL cQ))) (c_ways_on : Cal P w K mg base CX0 3 "ways_on" (spD K R_ways_on))
    (c_is_walk : Cal P w K mg base CX0 3 "is_walk" (spD K R_is_walk)) (c_count_met : Cal P w K mg base CX0 1 "count_met" (spD K R_count_met)) (c_choices_after : Cal P w K mg base CX0 2 "choices_after" (spF K R_choices_after)) : FnOk P w K mg base (L2.CX P w) 8 f fd ["land", "sightings", "walk"] (spX K R_number_of (X_number_of cW)) := by
  refine okX F sc_number_of (by rintro _ _ ⟨_, _, _, _, _, _, _, rfl, _⟩; rfl) (by rintro _ _ ⟨_, _, _, _, _, _, rfl, _⟩; rfl) fun cdv A outer s H E hr => ⟨_, (pss_cons (ps_expr (pe_dX c_check_question hr (by decide) (takes_of rfl rfl rfl rfl) rfl (pa_cons (pv 0) (pa_cons (pv 1) pa_nil))))
      (pss_cons (ps_if (PW.pt (pw_or (pt_not (pt_val (pe_d c_is_walk hr (by decide) rfl (pa_cons (pv 2) (pa_cons (pv 0) pa_nil))))) (pw_or1 (pt_cmpR (op_lt) (pe_d c_count_met hr (by decide) rfl (pa_cons (pv 2) (pa_cons (pv 1) pa_nil))) (pe_callB (call_lenk (K := K) rfl) rfl G.b_len boot_len (pa_cons (pv 1) pa_nil)) (nomark _))))) (pss_one (ps_raise rfl (takes_of rfl rfl rfl rfl) (pmk_own PySem.F.excBase_ValueError x_BadWalk.ex x_BadWalk.mg x_BadWalk.kp (raises_own x_BadWalk.sub x_BadWalk.ty) rfl))) pss_nil)
      (pss_cons (ps_set (i := 3) sc_number_of.nd rfl (Or.inl rfl) pe_int)
      (pss_cons (ps_for (passes_of rfl) rfl (pi_enumk (K := K) rfl rfl G.b_enumerate (pa_cons (pe_d c_ways_on hr (by decide) rfl (pa_cons (pv 0) (pa_cons (pv 1) pa_nil))) pa_nil)) (pg_tupk (K := K) (n := 2) rfl rfl (pgs_cons (pg_name (i := 4) sc_number_of.nd rfl (Or.inr rfl)) (pgs_cons (pg_name (i := 5) sc_number_of.nd rfl (Or.inr rfl)) pgs_nil)))
        (pss_cons (ps_set (i := 6) sc_number_of.nd rfl (Or.inl rfl) (pe_d c_choices_after hr (by decide) rfl (pa_cons (pv 0) (pa_cons (pe_slice (sl_listk (K := K) rfl) (pv 2) po_none (po_some (pv 4))) pa_nil))))
      (pss_one (ps_aug (i := 3) sc_number_of.nd rfl (Or.inl rfl) (pe_callB (cr_sumk (K := K) rfl rfl) rfl G.b_sum (by decide +kernel) (pa_cons (pe_lc (own := [("place", 7)]) rfl sc_number_of.nd (pi_listk (K := K) rfl (pv 6)) (blkOk_by (N := ["land", "sightings", "walk", "number", "tick", "row", "choices", "place"]) (sc := defScope s_number_of) (by decide +kernel)) (fun _ _ _ _ _ => (pg_name (i := 7) sc_number_of.nd rfl (Or.inl rfl))) (fun _ _ _ _ _ => (pts_one (pt_cmpR (op_lt) (pv 7) (pe_ix (ix_k (K := K) rfl) (pv 2) (pv 4) (fun _ _ => rfl)) (nomark _)))) (fun _ _ _ _ _ => (pe_ix (ix_k (K := K) rfl) (pv 5) (pv 7) (fun _ _ => rfl)))) pa_nil)) ip_add))))
      (pss_one (ps_ret (pv 3))))))), ?_, ?_⟩
  · rintro _ _ ⟨L, S, W, gl, ok, hW, hm, rfl, rfl⟩
    have h8 := ok.len
    have l1 := gl.l1
    have l10 := gl.l10
    have htl : (tabI L S).length = (L.l + 1).toNat := rows_len L S _
    have hwl := hW.len
    have hS : ∀ q ∈ S, 0 ≤ q.1 ∧ q.1 < W.length := fun q hq => by
      have := ok.at_ q hq
      omega
    refine .inl (yr_seq (yn_expr (d := .none) (yd_callX (ya_cons (yd_var rfl) (ya_cons (yd_var rfl) ya_nil)) ⟨L, sD S, gl, rfl, areS_ok ok, rfl⟩)) ?_)
    refine yr_seq (yn_ifF (YT.eq (yt_or (yt_not (yt_B (yd_call (ya_cons (yd_var rfl) (ya_cons (yd_var rfl) ya_nil)) ⟨iD W, L, gl, rfl, rfl⟩))) fun _ => yt_test (yd_op (yd_call (ya_cons (yd_var rfl) (ya_cons (yd_var rfl) ya_nil)) ⟨W, S, by omega, hS, rfl, rfl⟩) (yd_cb (ya_cons (yd_var (d := sD S) rfl) ya_nil) rc_lenL) rd_B0)) ?_) yn_next) ?_
    · rw [isW_ok hW, hm, List.length_map]
      simp
    refine yr_seq (yn_asg yd_int yg_name) ?_
    refine yr_seq (yn_forV (xs := List.range (tabI L S).length) (slb := [6, 3]) (fun (i : Nat) => .tuple [.int (i : Int), iD ((tabI L S).getD i [])]) (fun k => [some (landD L), some (sD S), some (iD W), some (.int (partN L (tabI L S) W k)), none, none, none, none]) (fun k i => _) ((yi_enum (ya_cons (yd_call (ya_cons (yd_var rfl) (ya_cons (yd_var rfl) ya_nil)) ⟨L, S, gl, by omega, rfl, rfl⟩) ya_nil)).eq (enum_rows _)) ⟨rfl, rfl, rfl, rfl, trivial⟩ (fun k i _ => yg_tup (ygs_cons yg_name (ygs_cons yg_name ygs_nil)) rfl) fun k i hi => ?_) (yr_ret (YD.eq (yd_var rfl) ?_))
    · have hk : k < (tabI L S).length := by
        have := (List.getElem?_eq_some_iff.mp hi).1
        rwa [List.length_range] at this
      rw [List.getElem?_range hk] at hi
      cases hi
      have hrl : ((tabI L S).getD k []).length = L.n.toNat := rows_row L S _ _ (by rw [List.getD_eq_getElem?_getD, List.getElem?_eq_getElem hk]; exact List.getElem_mem hk)
      generalize hrow : (tabI L S).getD k [] = row at hrl
      have hcs : ∀ c ∈ choI L (W.take k), 0 ≤ c ∧ c < L.n := fun c hc => by
        unfold choI at hc
        split at hc
        · exact mem_rgI.mp hc
        · exact mem_nextI hc
      refine yn_sub (yn_seq (yn_asg (d := iD (choI L (W.take k))) (yf_call (ya_cons (yd_var rfl) (ya_cons (yd_slL (yd_var (d := iD W) rfl) yo_none (yo_some (yd_var rfl))) ya_nil)) ⟨L, W.take k, gl, by rw [cutD_to]; unfold iD; rw [List.map_take], rfl⟩).yd yg_name) (yn_aug rfl (yd_cb (ya_cons (YD.eq (yd_lcM (xs := choI L (W.take k)) (fun p => .int p) (fun p => decide (p < W.getD k 0)) (fun p => .int (rowG row p)) (fun p => _) (yi_list (yd_var rfl)) ?_ (by decide) (fun p _ => yg_name) (fun p _ => yt_test (yd_op (yd_var rfl) (yd_op (yd_var (d := iD W) rfl) (yd_var rfl) (rd_ixL (d := .int (W.getD k 0)) ?_)) rd_B0)) fun p hp _ => yd_op (yd_var (d := iD row) rfl) (yd_var rfl) (rd_ixL (atI_int (hcs p hp).1 ?_))) (d' := .list ((((choI L (W.take k)).filter fun p => decide (p < W.getD k 0)).map (rowG row)).map .int)) ?_) ya_nil) rc_sum))) ?_
      · have := len_cho gl (W.take k)
        omega
      · have := atI_int (W := W) (i := (k : Int)) (by omega) (by omega)
        rw [this]
        rfl
      · rw [hrl]
        have := hcs p hp
        omega
      · rw [List.map_map]
        rfl
      · refine ⟨rfl, rfl, rfl, ?_, trivial⟩
        show PyData.int (partN L (tabI L S) W k + sumG (rowG ((tabI L S).getD k [])) _) = _
        rw [hrow]
        rfl
    · rw [List.length_range, part_nb (by omega)]
  · rintro _ _ ⟨L, S, x, gl, ok, hx, rfl, rfl⟩
    have h8 := ok.len
    refine ye_seq (yn_expr (d := .none) (yd_callX (ya_cons (yd_var rfl) (ya_cons (yd_var rfl) ya_nil)) ⟨L, sD S, gl, rfl, areS_ok ok, rfl⟩)) ?_
    rcases hx with hx | ⟨W, hW, rfl, hm⟩
    · exact ye_seqE (ye_if (b := true) (YT.eq (yt_or (b := true) (yt_not (yt_B (yd_call (ya_cons (yd_var rfl) (ya_cons (yd_var rfl) ya_nil)) ⟨x, L, gl, rfl, rfl⟩))) fun h => (by rw [hx] at h; cases h)) (by rw [hx]; rfl)) (fun _ => ye_raise) (fun h => nomatch h))
    · have hwl := hW.len
      have hS : ∀ q ∈ S, 0 ≤ q.1 ∧ q.1 < W.length := fun q hq => by
        have := ok.at_ q hq
        omega
      refine ye_seqE (ye_if (b := true) (YT.eq (yt_or (yt_not (yt_B (yd_call (ya_cons (yd_var rfl) (ya_cons (yd_var rfl) ya_nil)) ⟨iD W, L, gl, rfl, rfl⟩))) fun _ => yt_test (yd_op (yd_call (ya_cons (yd_var rfl) (ya_cons (yd_var rfl) ya_nil)) ⟨W, S, by omega, hS, rfl, rfl⟩) (yd_cb (ya_cons (yd_var (d := sD S) rfl) ya_nil) rc_lenL) rd_B0)) ?_) (fun _ => ye_raise) (fun h => nomatch h))
      rw [isW_ok hW, List.length_map]
      simp
      omega
abbrev s_share : Stmt := (top 32)
theorem sc_share : FnScope ["land", "sightings", "place", "tick", "places", "ways", "last", "bottom", "top", "common"] ["land", "sightings", "place", "tick"] (defScope s_share) := ⟨rfl, rfl, rfl, by decide +kernel, rfl, by decide +kernel, by decide +kernel⟩
def topI (L : Land) (S : List (Int × Int)) (p t : Int) : Int := manyI L (S ++ [(t, p)])
def gcdI (L : Land) (S : List (Int × Int)) (p t : Int) : Int := (Nat.gcd (topI L S p t).toNat (manyI L S).toNat : Nat)
def R_share (ds : List PyData) (d : PyData) : Prop := ∃ (L : Land) (S : List (Int × Int)) (p t : Int), GoodLand L ∧ OkS L S ∧ 0 ≤ p ∧ p < L.n ∧ 0 ≤ t ∧ t ≤ L.l ∧ 0 < manyI L S ∧ ds = [landD L, sD S, .int p, .int t] ∧ d = .tuple [.int (topI L S p t / gcdI L S p t), .int (manyI L S / gcdI L S p t)]
def X_share (cO : Addr) (ds : List PyData) (C : Addr) : Prop := ∃ (L : Land) (S : List (Int × Int)) (p t : Int), GoodLand L ∧ OkS L S ∧ 0 ≤ p ∧ p < L.n ∧ 0 ≤ t ∧ t ≤ L.l ∧ manyI L S = 0 ∧ ds = [landD L, sD S, .int p, .int t] ∧ C = cO
theorem many_nn (L : Land) (S : List (Int × Int)) (h : 0 ≤ L.l) : 0 ≤ manyI L S := by
  rw [many_all L S h]
  omega
theorem all_le {L : Land} (gl : GoodLand L) (S : List (Int × Int)) : ∀ (k : Nat) (cs : List Int), cs.length ≤ 7 → (allW L S k cs).length ≤ 7 ^ k
  | 0, cs, _ => Nat.le_refl _
  | k + 1, cs, h => by
    have key : ∀ cs : List Int, (allW L S (k + 1) cs).length ≤ cs.length * 7 ^ k := fun cs => by
      induction cs with
      | nil => exact Nat.zero_le _
      | cons c cs ih =>
        rw [allW_cons, List.length_append, List.length_cons, Nat.succ_mul]
        have h1 : ((if badAt S (L.l + (k : Int) * (-1)) c then [] else (allW L S k (nextI L c)).map (c :: ·) : List (List Int))).length ≤ 7 ^ k := by
          split
          · exact Nat.zero_le _
          · rw [List.length_map]
            exact all_le gl S k (nextI L c) (Nat.le_trans (List.length_filter_le _ _) (by rw [len_rgI]; have := gl.n7; omega))
        omega
    refine Nat.le_trans (key cs) ?_
    rw [Nat.pow_succ, Nat.mul_comm]
    exact Nat.mul_le_mul_left _ h
theorem many_le {L : Land} (gl : GoodLand L) (S : List (Int × Int)) : manyI L S < 2 ^ 40 := by
  have l1 := gl.l1
  have l10 := gl.l10
  rw [many_all L S (by omega)]
  have h := all_le gl S (L.l + 1).toNat (rgI L.n) (by rw [len_rgI]; have := gl.n7; omega)
  have h2 : 7 ^ (L.l + 1).toNat ≤ 7 ^ 11 := Nat.pow_le_pow_right (by decide) (by omega)
  have h3 : (7 : Nat) ^ 11 < 2 ^ 40 := by decide
  have h4 : (allW L S (L.l + 1).toNat (rgI L.n)).length < 2 ^ 40 := by omega
  exact_mod_cast h4
theorem gcd_le {L : Land} {S : List (Int × Int)} {p t : Int} (h : 0 < manyI L S) : gcdI L S p t ≤ manyI L S := by
  have := Nat.gcd_le_right (topI L S p t).toNat (n := (manyI L S).toNat) (by omega)
  unfold gcdI
  omega
theorem ok_share (F : FnP K "share" s_share f fd) (G : Gi mg) (x_NoWalk : Xc K mg "NoWalk" cO) (c_check_question : Cal P w K mg base (L2.CX P w) 7 "check_question" (spX K R_check_question (X_check_question cL cQ))) (c_check_place : Cal P w K mg base (L2.CX P w) 3 "check_place" (spX K R_check_place (X_check_place cP))) (c_check_tick : Cal P w K mg base (L2.CX P w) 3 "check_tick" (spX K R_check_tick (X_check_tick cT)))
    (c_count_walks : Cal P w K mg base CX0 4 "count_walks" (spD K R_count_walks)) (c_common_measure : Cal P w K mg base CX0 1 "common_measure" (spD K R_common_measure)) : FnOk P w K mg base (L2.CX P w) 8 f fd ["land", "sightings", "place", "tick"] (spX K R_share (X_share cO)) := by
  refine okX F sc_share (by rintro _ _ ⟨_, _, _, _, _, _, _, _, _, _, _, rfl, _⟩; rfl) (by rintro _ _ ⟨_, _, _, _, _, _, _, _, _, _, _, rfl, _⟩; rfl) fun cdv A outer s H E hr => ⟨_, (pss_cons (ps_expr (pe_dX c_check_question hr (by decide) (takes_of rfl rfl rfl rfl) rfl (pa_cons (pv 0) (pa_cons (pv 1) pa_nil))))
      (pss_cons (ps_asg (pv 0) (pg_tupk (K := K) (n := 3) rfl rfl (pgs_cons (pg_name (i := 4) sc_share.nd rfl (Or.inl rfl)) (pgs_cons (pg_name (i := 5) sc_share.nd rfl (Or.inl rfl)) (pgs_cons (pg_name (i := 6) sc_share.nd rfl (Or.inl rfl)) pgs_nil)))))
      (pss_cons (ps_expr (pe_dX c_check_place hr (by decide) (takes_of rfl rfl rfl rfl) rfl (pa_cons (pv 2) (pa_cons (pv 4) pa_nil))))
      (pss_cons (ps_expr (pe_dX c_check_tick hr (by decide) (takes_of rfl rfl rfl rfl) rfl (pa_cons (pv 3) (pa_cons (pv 6) pa_nil))))
      (pss_cons (ps_set (i := 7) sc_share.nd rfl (Or.inl rfl) (pe_d c_count_walks hr (by decide) rfl (pa_cons (pv 0) (pa_cons (pv 1) pa_nil))))
      (pss_cons (ps_if (pt_cmpR (op_eqk (K := K) rfl hr.units) (pv 7) pe_int (nomark _)) (pss_one (ps_raise rfl (takes_of rfl rfl rfl rfl) (pmk_own PySem.F.excBase_ValueError x_NoWalk.ex x_NoWalk.mg x_NoWalk.kp (raises_own x_NoWalk.sub x_NoWalk.ty) rfl))) pss_nil)
      (pss_cons (ps_set (i := 8) sc_share.nd rfl (Or.inl rfl) (pe_d c_count_walks hr (by decide) rfl (pa_cons (pv 0) (pa_cons (pe_lst (pa_stark (K := K) rfl (pv 1) (pa_cons (pe_tup (pa_cons (pv 3) (pa_cons (pv 2) pa_nil))) pa_nil))) pa_nil))))
      (pss_cons (ps_set (i := 9) sc_share.nd rfl (Or.inl rfl) (pe_d c_common_measure hr (by decide) rfl (pa_cons (pv 8) (pa_cons (pv 7) pa_nil))))
      (pss_one (ps_ret (pe_tup (pa_cons (pe_op op_fdivW (pv 8) (pv 9)) (pa_cons (pe_op op_fdivW (pv 7) (pv 9)) pa_nil))))))))))))), ?_, ?_⟩
  · rintro _ _ ⟨L, S, p, t, gl, ok, p0, p1, t0, t1, hm, rfl, rfl⟩
    have h8 := ok.len
    have l1 := gl.l1
    have hp : numIn (.int p) 0 (L.n - 1) = true := by simp [numIn]; omega
    have ht : numIn (.int t) 0 L.l = true := by simp [numIn]; omega
    have tn : 0 ≤ topI L S p t := many_nn L _ (by omega)
    have gl2 : gcdI L S p t < 2 ^ 40 := Int.lt_of_le_of_lt (gcd_le hm) (many_le gl S)
    have gp : 0 < gcdI L S p t := by
      have := Nat.gcd_pos_of_pos_right (topI L S p t).toNat (n := (manyI L S).toNat) (by omega)
      unfold gcdI
      omega
    refine .inl (yr_seq (yn_expr (d := .none) (yd_callX (ya_cons (yd_var rfl) (ya_cons (yd_var rfl) ya_nil)) ⟨L, sD S, gl, rfl, areS_ok ok, rfl⟩)) ?_)
    refine yr_seq (yn_asg (yd_var (d := landD L) rfl) (yg_tup (ygs_cons yg_name (ygs_cons yg_name (ygs_cons yg_name ygs_nil))) rfl)) ?_
    refine yr_seq (yn_expr (d := .none) (yd_callX (ya_cons (yd_var rfl) (ya_cons (yd_var rfl) ya_nil)) ⟨_, _, rfl, hp, rfl⟩)) ?_
    refine yr_seq (yn_expr (d := .none) (yd_callX (ya_cons (yd_var rfl) (ya_cons (yd_var rfl) ya_nil)) ⟨_, _, rfl, ht, rfl⟩)) ?_
    refine yr_seq (yn_asg (yd_call (ya_cons (yd_var rfl) (ya_cons (yd_var rfl) ya_nil)) ⟨L, S, gl, by omega, rfl, rfl⟩) yg_name) ?_
    refine yr_seq (yn_ifF (YT.eq (yt_test (yd_op (yd_var rfl) yd_int (rd_eqD rfl rfl))) ?_) yn_next) ?_
    · rw [eqv_ii]
      exact decide_eq_false (by omega)
    refine yr_seq (yn_asg (d := .int (topI L S p t)) (yd_call (ya_cons (yd_var rfl) (ya_cons (yd_lst (ya_star (yd_var (d := sD S) rfl) (ya_cons (yd_tup (ya_cons (yd_var rfl) (ya_cons (yd_var rfl) ya_nil)) (Nat.le_of_ble_eq_true rfl)) ya_nil)) ?_) ya_nil)) ⟨L, S ++ [(t, p)], gl, ?_, ?_, rfl⟩) yg_name) ?_
    · rw [List.length_append, List.length_map]
      show S.length + 1 ≤ _
      omega
    · rw [List.length_append]
      show S.length + 1 ≤ _
      omega
    · unfold sD
      rw [List.map_append]
      rfl
    refine yr_seq (yn_asg (d := .int (gcdI L S p t)) (yd_call (ya_cons (yd_var rfl) (ya_cons (yd_var rfl) ya_nil)) ⟨(topI L S p t).toNat, (manyI L S).toNat, ?_, rfl⟩) yg_name) ?_
    · rw [Int.toNat_of_nonneg tn, Int.toNat_of_nonneg (by omega)]
    exact yr_ret (yd_tup (ya_cons (yd_op (yd_var rfl) (yd_var rfl) (rd_I (cdivW gp gl2))) (ya_cons (yd_op (yd_var rfl) (yd_var rfl) (rd_I (cdivW gp gl2))) ya_nil)) (Nat.le_of_ble_eq_true rfl))
  · rintro _ _ ⟨L, S, p, t, gl, ok, p0, p1, t0, t1, hm, rfl, rfl⟩
    have h8 := ok.len
    have hp : numIn (.int p) 0 (L.n - 1) = true := by simp [numIn]; omega
    have ht : numIn (.int t) 0 L.l = true := by simp [numIn]; omega
    refine ye_seq (yn_expr (d := .none) (yd_callX (ya_cons (yd_var rfl) (ya_cons (yd_var rfl) ya_nil)) ⟨L, sD S, gl, rfl, areS_ok ok, rfl⟩)) ?_
    refine ye_seq (yn_asg (yd_var (d := landD L) rfl) (yg_tup (ygs_cons yg_name (ygs_cons yg_name (ygs_cons yg_name ygs_nil))) rfl)) ?_
    refine ye_seq (yn_expr (d := .none) (yd_callX (ya_cons (yd_var rfl) (ya_cons (yd_var rfl) ya_nil)) ⟨_, _, rfl, hp, rfl⟩)) ?_
    refine ye_seq (yn_expr (d := .none) (yd_callX (ya_cons (yd_var rfl) (ya_cons (yd_var rfl) ya_nil)) ⟨_, _, rfl, ht, rfl⟩)) ?_
    refine ye_seq (yn_asg (yd_call (ya_cons (yd_var rfl) (ya_cons (yd_var rfl) ya_nil)) ⟨L, S, gl, by omega, rfl, rfl⟩) yg_name) ?_
    refine ye_seqE (ye_if (b := true) (YT.eq (yt_test (yd_op (yd_var rfl) yd_int (rd_eqD rfl rfl))) ?_) (fun _ => ye_raise) (fun h => nomatch h))
    rw [eqv_ii]
    exact decide_eq_true hm
end
end SG
set_option Elab.async false
set_option linter.all false
set_option maxRecDepth 100000
set_option maxHeartbeats 4000000
namespace SG
open PySem PySem.Spec PyProof.Rows L2
/-! ### drawn walks and sightings -/
def wNum (ns : List Int) (o k : Nat) : Int := valueI (ns.getD (o + k % 5) 0 + 7 * (k : Int)) 4 / 3
def wStep (ns : List Int) (o : Nat) (L : Land) (k : Nat) (last : Int) : Int := if 0 < wNum ns o k / 8 % 3 then (nextI L last).getD (wNum ns o k % (nextI L last).length).toNat 0 else last
def wLast (ns : List Int) (o : Nat) (L : Land) : Nat → Int
  | 0 => valueI (ns.getD o 0) 3 % L.n
  | k + 1 => wStep ns o L k (wLast ns o L k)
def walkL (ns : List Int) (o : Nat) (L : Land) (k : Nat) : List Int := (List.range (k + 1)).map (wLast ns o L)
theorem self_next {L : Land} {p : Int} (h : 0 ≤ p ∧ p < L.n) : p ∈ nextI L p := List.mem_filter.mpr ⟨mem_rgI.mpr h, by simp [isNear]⟩
theorem wLast_rg {ns : List Int} {o : Nat} {L : Land} (gl : GoodLand L) : ∀ k, 0 ≤ wLast ns o L k ∧ wLast ns o L k < L.n
  | 0 => ⟨Int.emod_nonneg _ (by have := gl.n1; omega), Int.emod_lt_of_pos _ (by have := gl.n1; omega)⟩
  | k + 1 => by
    have ih := wLast_rg (ns := ns) (o := o) gl k
    show 0 ≤ wStep ns o L k (wLast ns o L k) ∧ wStep ns o L k (wLast ns o L k) < L.n
    unfold wStep
    split
    · have hpos : 0 < (nextI L (wLast ns o L k)).length := List.length_pos_of_mem (self_next ih)
      have h1 : wNum ns o k % ((nextI L (wLast ns o L k)).length : Int) < (nextI L (wLast ns o L k)).length := Int.emod_lt_of_pos _ (by omega)
      have h0 : 0 ≤ wNum ns o k % ((nextI L (wLast ns o L k)).length : Int) := Int.emod_nonneg _ (by omega)
      exact mem_nextI (getD_mem (by omega))
    · exact ih
theorem walkL_succ (ns : List Int) (o : Nat) (L : Land) (k : Nat) : walkL ns o L (k + 1) = walkL ns o L k ++ [wLast ns o L (k + 1)] := by
  unfold walkL
  rw [List.range_succ, List.map_append]
  rfl
theorem walkL_last (ns : List Int) (o : Nat) (L : Land) (k : Nat) : (walkL ns o L k).getLast? = some (wLast ns o L k) := by
  unfold walkL
  rw [List.range_succ, List.map_append]
  exact List.getLast?_concat
theorem walkL_len (ns : List Int) (o : Nat) (L : Land) (k : Nat) : (walkL ns o L k).length = k + 1 := by
  unfold walkL
  rw [List.length_map, List.length_range]
theorem walkL_rg {ns : List Int} {o : Nat} {L : Land} (gl : GoodLand L) (k : Nat) : ∀ p ∈ walkL ns o L k, 0 ≤ p ∧ p < L.n := fun p hp => by
  obtain ⟨i, _, rfl⟩ := List.mem_map.mp hp
  exact wLast_rg gl i
def wlk (ns : List Int) (o : Nat) (L : Land) : List Int := walkL ns o L L.l.toNat
def sNum (ns : List Int) (o k : Nat) : Int := valueI (ns.getD (o + k % 4) 0 + 13 * (k : Int)) 5 / 3
def sMod (v : Int) : Int := [2, 4, 99].getD (v / 9 % 3).toNat 0
def sOne (ns : List Int) (o : Nat) (L : Land) (k : Nat) : Int × Int := (sNum ns o k % (L.l + 1), if 0 < sNum ns o k / 11 % sMod (valueI (ns.getD o 0) 8) then (wlk ns o L).getD (sNum ns o k % (L.l + 1)).toNat 0 else sNum ns o k / 1100 % L.n)
def seenL (ns : List Int) (o : Nat) (L : Land) : List (Int × Int) := (List.range (valueI (ns.getD o 0) 8 % 9).toNat).map (sOne ns o L)
theorem seen_ok {ns : List Int} {o : Nat} {L : Land} (gl : GoodLand L) : OkS L (seenL ns o L) := by
  refine ⟨?_, fun q hq => ?_⟩
  · unfold seenL
    rw [List.length_map, List.length_range]
    have := Int.emod_lt_of_pos (valueI (ns.getD o 0) 8) (show (0 : Int) < 9 by decide)
    omega
  · obtain ⟨k, _, rfl⟩ := List.mem_map.mp hq
    have l1 := gl.l1
    have n1 := gl.n1
    have t0 : 0 ≤ sNum ns o k % (L.l + 1) := Int.emod_nonneg _ (by omega)
    have t1 : sNum ns o k % (L.l + 1) < L.l + 1 := Int.emod_lt_of_pos _ (by omega)
    refine ⟨t0, (by show sNum ns o k % (L.l + 1) ≤ L.l; omega), ?_⟩
    unfold sOne
    dsimp only
    split
    · exact walkL_rg gl _ _ (getD_mem (by rw [walkL_len]; omega))
    · exact ⟨Int.emod_nonneg _ (by omega), Int.emod_lt_of_pos _ (by omega)⟩
section
variable {P : Program} {w : World} {K : PySem.W.Frag} {mg : Str → Option Value} {base : Heap} {f : Addr} {fd : FuncData}
abbrev s__law_whole : Stmt := (top 42)
theorem sc__law_whole : FnScope ["_law_number"] ["_law_number"] (defScope s__law_whole) := ⟨rfl, rfl, rfl, by decide +kernel, rfl, by decide +kernel, by decide +kernel⟩
def R_whole (ds : List PyData) (d : PyData) : Prop := ∃ x, ds = [x] ∧ d = .bool (isNum x)
theorem ok_whole (F : FnP K "_law_whole" s__law_whole f fd) (G : Gi mg) : FnOk P w K mg base CX0 1 f fd ["_law_number"] (spD K R_whole) := by
  refine okD F sc__law_whole (by rintro _ _ ⟨x, rfl, _⟩; rfl) fun cdv A outer s H E hr => ⟨_, (pss_one (ps_ret (pe_and (pe_callB (call_isik (K := K) rfl) rfl G.b_isinstance boot_isinstance (pa_cons (pv 0) (pa_cons (pe_ty (n := "int") rfl G.b_int (by decide +kernel)) pa_nil))) (pe_one (pe_not (pe_callB (call_isik (K := K) rfl) rfl G.b_isinstance boot_isinstance (pa_cons (pv 0) (pa_cons (pe_ty (n := "bool") rfl G.b_bool (by decide +kernel)) pa_nil)))))))), ?_⟩
  rintro _ _ ⟨x, rfl, rfl⟩
  refine yr_ret (YD.eq (yd_and (yd_isi (yd_var rfl) (kit_int x)) fun _ => yd_not (yd_isi (yd_var rfl) (kit_bool x))) ?_)
  cases x <;> rfl
abbrev s__law_beside : Stmt := (top 44)
theorem sc__law_beside : FnScope ["_law_land_here", "_law_place", "_law_other"] ["_law_land_here", "_law_place"] (defScope s__law_beside) := ⟨rfl, rfl, rfl, by decide +kernel, rfl, by decide +kernel, by decide +kernel⟩
def R_beside (ds : List PyData) (es : List PyData) : Prop := ∃ L p, GoodLand L ∧ ds = [landD L, .int p] ∧ es = (nextI L p).map .int
theorem ok_beside (F : FnP K "_law_beside" s__law_beside f fd) (G : Gi mg) : FnOk P w K mg base CX0 1 f fd ["_law_land_here", "_law_place"] (spF K R_beside) := by
  refine okF F sc__law_beside (by rintro _ _ ⟨x, n, _, rfl, _⟩; rfl) fun cdv A outer s H E hr => ⟨_, (pss_one (ps_ret (pe_lc (own := [("_law_other", 2)]) rfl sc__law_beside.nd (pi_range1 rfl G.b_range (pa_cons (pe_ix (ix_k (K := K) rfl) (pv 0) pe_int (fun _ _ => rfl)) pa_nil)) (blkOk_by (N := ["_law_land_here", "_law_place", "_law_other"]) (sc := defScope s__law_beside) (by decide +kernel)) (fun _ _ _ _ _ => (pg_name (i := 2) sc__law_beside.nd rfl (Or.inl rfl))) (fun _ _ _ _ _ => (pts_one (PW.pt (pw_or (pt_cmpR (op_eqk (K := K) rfl hr.units) (pv 2) (pv 1) (nomark _)) (pw_or1 (pt_cmpR (op_ink (K := K) rfl (hu65 hr)) (pe_tup (pa_cons (pe_callB (call_min2' rfl) rfl G.b_min (by decide +kernel) (pa_cons (pv 1) (pa_cons (pv 2) pa_nil))) (pa_cons (pe_callB (call_max2' rfl) rfl G.b_max (by decide +kernel) (pa_cons (pv 1) (pa_cons (pv 2) pa_nil))) pa_nil))) (pe_ix (ix_k (K := K) rfl) (pv 0) pe_int (fun _ _ => rfl)) rfl)))))) (fun _ _ _ _ _ => (pv 2))))), ?_⟩
  rintro _ _ ⟨L, p, gl, rfl, rfl⟩
  have h1 := gl.n1
  have h7 := gl.n7
  refine yrf_ret (YF.eq (yf_lc (xs := rgI L.n) (fun o => .int o) (isNear L p) (fun o => .int o) (fun o => _) ((yi_rng1 (n := L.n) (ya_cons (yd_op (yd_var (d := landD L) rfl) yd_int (rd_ixT rfl)) ya_nil) (by omega) (by omega)).eq map_rgI) (by rw [len_rgI]; omega) (by decide) (fun o _ => yg_name) (fun o _ => ?_) fun o _ _ => yd_var rfl) rfl)
  refine YT.eq (yt_or (a := decide (o = p)) (b := decide ((min p o, max p o) ∈ L.ws)) (YT.eq (yt_test (yd_op (yd_var rfl) (yd_var rfl) (rd_eqD rfl rfl))) rfl) fun _ => YT.eq (yt_test (yd_op (yd_tup (ya_cons (yd_cb (ya_cons (yd_var rfl) (ya_cons (yd_var rfl) ya_nil)) rc_min) (ya_cons (yd_cb (ya_cons (yd_var rfl) (ya_cons (yd_var rfl) ya_nil)) rc_max) ya_nil)) (Nat.le_of_ble_eq_true rfl)) (yd_op (yd_var (d := landD L) rfl) yd_int (rd_ixT (d := .list (L.ws.map dP)) rfl)) (rd_inD (shp_pair (min p o, max p o)) (shp_pairs _)))) (any_pairs (min p o, max p o) _)) rfl
abbrev s__law_walk : Stmt := (top 45)
theorem sc__law_walk : FnScope ["_law_script", "_law_by", "_law_land_here", "_law_found", "_law_tick", "_law_some", "_law_number"] ["_law_script", "_law_by", "_law_land_here"] (defScope s__law_walk) := ⟨rfl, rfl, rfl, by decide +kernel, rfl, by decide +kernel, by decide +kernel⟩
def R_law_walk (ds : List PyData) (d : PyData) : Prop := ∃ (ns : List Int) (o : Nat) (L : Land), GoodLand L ∧ ds = [.list (ns.map .int), .int o, landD L] ∧ d = iD (wlk ns o L)
theorem ok_law_walk (F : FnP K "_law_walk" s__law_walk f fd) (G : Gi mg) (c__law_cell_at : Cal P w K mg base CX0 1 "_law_cell_at" (spD K R_cell_at)) (c__law_value : Cal P w K mg base CX0 2 "_law_value" (spD K R_value)) (c__law_beside : Cal P w K mg base CX0 1 "_law_beside" (spF K R_beside)) : FnOk P w K mg base CX0 3 f fd ["_law_script", "_law_by", "_law_land_here"] (spD K R_law_walk) := by
  refine okD F sc__law_walk (by rintro _ _ ⟨_, _, _, _, rfl, _⟩; rfl) fun cdv A outer s H E hr => ⟨_, (pss_cons (ps_set (i := 3) sc__law_walk.nd rfl (Or.inl rfl) (pe_lst (pa_cons (pe_op op_mod (pe_d c__law_value hr (by decide) rfl (pa_cons (pe_d c__law_cell_at hr (by decide) rfl (pa_cons (pv 0) (pa_cons (pv 1) pa_nil))) (pa_cons pe_int pa_nil))) (pe_ix (ix_k (K := K) rfl) (pv 2) pe_int (fun _ _ => rfl))) pa_nil)))
      (pss_cons (ps_for PassesOwn.never rfl (pi_range1 rfl G.b_range (pa_cons (pe_ix (ix_k (K := K) rfl) (pv 2) pe_int (fun _ _ => rfl)) pa_nil)) (pg_name (i := 4) sc__law_walk.nd rfl (Or.inl rfl))
        (pss_cons (ps_set (i := 5) sc__law_walk.nd rfl (Or.inl rfl) (pe_d c__law_beside hr (by decide) rfl (pa_cons (pv 2) (pa_cons (pe_ix (ix_k (K := K) rfl) (pv 3) (pe_un un_neg pe_int) (fun _ _ => rfl)) pa_nil))))
      (pss_cons (ps_set (i := 6) sc__law_walk.nd rfl (Or.inl rfl) (pe_op op_fdiv (pe_d c__law_value hr (by decide) rfl (pa_cons (pe_op op_add (pe_d c__law_cell_at hr (by decide) rfl (pa_cons (pv 0) (pa_cons (pe_op op_add (pv 1) (pe_op op_mod (pv 4) pe_int)) pa_nil))) (pe_op op_mul pe_int (pv 4))) (pa_cons pe_int pa_nil))) pe_int))
      (pss_one (ps_expr (pe_bm PySem.F.plainAttrs_list PySem.F.slot_list_append PySem.F.type_list_append mt_append (pv 3) (pa_cons (pe_ifExp (pt_cmpR (op_gt) (pe_op op_mod (pe_op op_fdiv (pv 6) pe_int) pe_int) pe_int (nomark _)) (pe_ix (ix_k (K := K) rfl) (pv 5) (pe_op op_mod (pv 6) (pe_callB (call_lenk (K := K) rfl) rfl G.b_len boot_len (pa_cons (pv 5) pa_nil))) (fun _ _ => rfl)) (pe_ix (ix_k (K := K) rfl) (pv 3) (pe_un un_neg pe_int) (fun _ _ => rfl))) pa_nil)))))))
      (pss_one (ps_ret (pv 3))))), ?_⟩
  rintro _ _ ⟨ns, o, L, gl, rfl, rfl⟩
  have n1 := gl.n1
  have n7 := gl.n7
  have l1 := gl.l1
  have l10 := gl.l10
  refine yr_own (ds := (walkL ns o L 0).map .int) (ya_cons (YD.eq (yd_op (yd_call (ya_cons (yd_call (ya_cons (yd_var rfl) (ya_cons (yd_var rfl) ya_nil)) ⟨_, _, rfl, rfl⟩) (ya_cons yd_int ya_nil)) ⟨_, _, rfl, by decide, by decide, rfl⟩) (yd_op (yd_var (d := landD L) rfl) yd_int (rd_ixT rfl)) (rd_I (by omega))) (d' := .int (wLast ns o L 0)) rfl) ya_nil) (Nat.le_of_ble_eq_true rfl) ?_ (Nat.le_of_ble_eq_true rfl)
  refine ymr_seq (ym_eq (ym_for (xs := List.range L.l.toNat) (slb := [5, 6]) (ρw := [some (.list (ns.map .int)), some (.int o), some (landD L), none, none, none, none]) (fun (i : Nat) => .int (0 + (i : Int))) (fun k => (walkL ns o L k).map .int) (fun k x => _) (yi_rng1 (n := L.l) (ya_cons (yd_op (yd_var (d := landD L) rfl) yd_int (rd_ixT rfl)) ya_nil) (by omega) (by omega)) ⟨rfl, rfl, rfl, trivial⟩ (by decide) (fun k x _ => yg_name) fun k x hx => ?_) (ds2 := (wlk ns o L).map .int) ?_) (ymr_settle (yr_ret (yd_var rfl)))
  · have hk : k < L.l.toNat := by
      have := (List.getElem?_eq_some_iff.mp hx).1
      rwa [List.length_range] at this
    rw [List.getElem?_range hk] at hx
    cases hx
    have i0 : (0 : Int) + (k : Int) = (k : Int) := Int.zero_add _
    rw [i0]
    have hlast := atI_last (walkL_last ns o L k)
    have hrg := wLast_rg (ns := ns) (o := o) gl k
    have hpos : 0 < (nextI L (wLast ns o L k)).length := List.length_pos_of_mem (self_next hrg)
    have hmod : ((k : Int) % 5) = ((k % 5 : Nat) : Int) := by omega
    refine ym_sub (ym_seq (ym_asg (d := iD (nextI L (wLast ns o L k))) (yw_fresh (yf_call (ya_cons (yd_var rfl) (ya_cons (yd_op (yd_var (d := iD (walkL ns o L k)) rfl) (yd_un yd_int ru_neg) (rd_ixL hlast)) ya_nil)) ⟨L, _, gl, rfl, rfl⟩) (all_scal _)) (by decide)) (ym_seq (ym_n (yn_asg (YD.eq (yd_op (yd_call (ya_cons (yd_op (yd_call (ya_cons (yd_var rfl) (ya_cons (YD.eq (yd_op (yd_var rfl) (yd_op (yd_var rfl) yd_int (rd_I (by decide))) rd_I0) (d' := .int ((o + k % 5 : Nat) : Int)) ?_) ya_nil)) ⟨_, _, rfl, rfl⟩) (yd_op yd_int (yd_var rfl) (rd_I ?_)) rd_I0) (ya_cons yd_int ya_nil)) ⟨_, _, rfl, by decide, by decide, rfl⟩) yd_int (rd_I ⟨by decide, by decide⟩)) (d' := .int (wNum ns o k)) rfl) yg_name) (by decide)) (ym_eq (ym_appW (d := .int (wLast ns o L (k + 1))) (yw_if (b := decide (0 < wNum ns o k / 8 % 3)) (yt_test (yd_op (yd_op (yd_op (yd_var rfl) yd_int (rd_I ⟨by decide, by decide⟩)) yd_int (rd_I (by decide))) yd_int rd_B0)) (fun hb => yw_yd (YD.eq (yd_op (yd_var (d := iD (nextI L (wLast ns o L k))) rfl) (yd_op (yd_var rfl) (yd_cb (ya_cons (yd_var (d := iD (nextI L (wLast ns o L k))) rfl) ya_nil) rc_lenL) (rd_I ?_)) (rd_ixL (atI_int ?_ ?_))) ?_)) (fun hb => yw_scal (YD.eq (yd_op (yd_var (d := iD (walkL ns o L k)) rfl) (yd_un yd_int ru_neg) (rd_ixL hlast)) ?_) rfl)) ?_) ?_))) ⟨rfl, rfl, rfl, trivial⟩
    · rw [hmod]
      rfl
    · exact .inl ⟨by decide, by decide⟩
    · rw [List.length_map]
      show (0 : Int) < _
      omega
    · rw [List.length_map]
      exact Int.emod_nonneg _ (by omega)
    · rw [List.length_map]
      exact Int.emod_lt_of_pos _ (by omega)
    · rw [List.length_map]
      show _ = PyData.int (wStep ns o L k (wLast ns o L k))
      unfold wStep
      rw [if_pos (of_decide_eq_true hb)]
    · show _ = PyData.int (wStep ns o L k (wLast ns o L k))
      unfold wStep
      rw [if_neg (of_decide_eq_false hb)]
    · rw [List.length_map, walkL_len]
      omega
    · rw [walkL_succ, List.map_append]
      rfl
  · rw [List.length_range]
    rfl
end
end SG
set_option Elab.async false
set_option linter.all false
set_option maxRecDepth 100000
set_option maxHeartbeats 4000000
namespace SG
open PySem PySem.Spec PyProof.Rows L2
section
variable {K : PySem.W.Frag} {ρ : Rho} {i j : Nat} {te : TE} {u : TS} {d x : PyData} {ds : List PyData}
/-- a, b = e, []: b is filled from now on -/
theorem yr_ownP (h : YD K te ρ x) (k : YMR K u j ((ρ.set i (some x)).set j none) [] d) (hj : j < ρ.length) (hij : i ≠ j) : YR K (tSeq (tPar i j (tCons te (tCons (tLst tNil) tNil))) u) ρ d := by
  intro σ Hs H e s D q
  refine h σ Hs H e s _ fun v Hs1 H1 g1 r => ⟨Nat.zero_le _, fun p hp => ⟨_, _, rfl, ?_⟩⟩
  have hp1 : Hs1 p = none := same_none g1.c hp
  have hp0 : H p = none := same_none g1.b hp
  have g2 : Gr Hs H Hs1 (upd H1 p (.lst [])) := g1.trans (Gr.fresh g1.c hp)
  exact k _ Hs1 _ p (((e.mono g1.a).set i r).del (x := some (.ref p)) j) g2.c ⟨List.getElem?_set_self (by rw [List.length_set, e.1]; exact hj), hp1, [], upd_same, .nil⟩ D fun v Hs2 H2 go rv => q v Hs2 H2 (g2.byO hp0 go) rv
end
section
variable {P : Program} {w : World} {K : PySem.W.Frag} {mg : Str → Option Value} {base : Heap} {f : Addr} {fd : FuncData}
abbrev s__law_seen : Stmt := (top 46)
theorem sc__law_seen : FnScope ["_law_script", "_law_by", "_law_land_here", "_law_walk_here", "_law_found", "_law_value_here", "_law_at", "_law_number", "_law_tick", "_law_place"] ["_law_script", "_law_by", "_law_land_here"] (defScope s__law_seen) := ⟨rfl, rfl, rfl, by decide +kernel, rfl, by decide +kernel, by decide +kernel⟩
def R_law_seen (ds : List PyData) (d : PyData) : Prop := ∃ (ns : List Int) (o : Nat) (L : Land), GoodLand L ∧ ds = [.list (ns.map .int), .int o, landD L] ∧ d = sD (seenL ns o L)
theorem sMod_pos (v : Int) : 0 < sMod v ∧ atI [PyData.int 2, .int 4, .int 99] (v / 9 % 3) = some (.int (sMod v)) := by
  have h0 : 0 ≤ v / 9 % 3 := Int.emod_nonneg _ (by decide)
  have h1 : v / 9 % 3 < 3 := Int.emod_lt_of_pos _ (by decide)
  have h : v / 9 % 3 = 0 ∨ v / 9 % 3 = 1 ∨ v / 9 % 3 = 2 := by omega
  unfold sMod
  rcases h with h | h | h <;> rw [h] <;> exact ⟨by decide, rfl⟩
theorem ok_law_seen (F : FnP K "_law_seen" s__law_seen f fd) (G : Gi mg) (c__law_cell_at : Cal P w K mg base CX0 1 "_law_cell_at" (spD K R_cell_at)) (c__law_value : Cal P w K mg base CX0 2 "_law_value" (spD K R_value)) (c__law_walk : Cal P w K mg base CX0 3 "_law_walk" (spD K R_law_walk)) : FnOk P w K mg base CX0 4 f fd ["_law_script", "_law_by", "_law_land_here"] (spD K R_law_seen) := by
  refine okD F sc__law_seen (by rintro _ _ ⟨_, _, _, _, rfl, _⟩; rfl) fun cdv A outer s H E hr => ⟨_, (pss_cons (ps_par (i := 3) (j := 4) rfl sc__law_seen.nd rfl rfl (by decide) rfl rfl (pa_cons (pe_d c__law_walk hr (by decide) rfl (pa_cons (pv 0) (pa_cons (pv 1) (pa_cons (pv 2) pa_nil)))) (pa_cons (pe_lst pa_nil) pa_nil)) rfl)
      (pss_cons (ps_set (i := 5) sc__law_seen.nd rfl (Or.inl rfl) (pe_d c__law_value hr (by decide) rfl (pa_cons (pe_d c__law_cell_at hr (by decide) rfl (pa_cons (pv 0) (pa_cons (pv 1) pa_nil))) (pa_cons pe_int pa_nil))))
      (pss_cons (ps_for PassesOwn.never rfl (pi_range1 rfl G.b_range (pa_cons (pe_op op_mod (pv 5) pe_int) pa_nil)) (pg_name (i := 6) sc__law_seen.nd rfl (Or.inl rfl))
        (pss_cons (ps_set (i := 7) sc__law_seen.nd rfl (Or.inl rfl) (pe_op op_fdiv (pe_d c__law_value hr (by decide) rfl (pa_cons (pe_op op_add (pe_d c__law_cell_at hr (by decide) rfl (pa_cons (pv 0) (pa_cons (pe_op op_add (pv 1) (pe_op op_mod (pv 6) pe_int)) pa_nil))) (pe_op op_mul pe_int (pv 6))) (pa_cons pe_int pa_nil))) pe_int))
      (pss_cons (ps_set (i := 8) sc__law_seen.nd rfl (Or.inl rfl) (pe_op op_mod (pv 7) (pe_op op_add (pe_ix (ix_k (K := K) rfl) (pv 2) pe_int (fun _ _ => rfl)) pe_int)))
      (pss_cons (ps_set (i := 9) sc__law_seen.nd rfl (Or.inl rfl) (pe_op op_mod (pe_op op_fdiv (pv 7) pe_int) (pe_ix (ix_k (K := K) rfl) (pv 2) pe_int (fun _ _ => rfl))))
      (pss_cons (ps_if (pt_cmpR (op_gt) (pe_op op_mod (pe_op op_fdiv (pv 7) pe_int) (pe_ix (ix_k (K := K) rfl) (pe_tup (pa_cons pe_int (pa_cons pe_int (pa_cons pe_int pa_nil)))) (pe_op op_mod (pe_op op_fdiv (pv 5) pe_int) pe_int) (fun _ _ => rfl))) pe_int (nomark _)) (pss_one (ps_set (i := 9) sc__law_seen.nd rfl (Or.inl rfl) (pe_ix (ix_k (K := K) rfl) (pv 3) (pv 8) (fun _ _ => rfl)))) pss_nil)
      (pss_one (ps_expr (pe_bm PySem.F.plainAttrs_list PySem.F.slot_list_append PySem.F.type_list_append mt_append (pv 4) (pa_cons (pe_tup (pa_cons (pv 8) (pa_cons (pv 9) pa_nil))) pa_nil)))))))))
      (pss_one (ps_ret (pv 4)))))), ?_⟩
  rintro _ _ ⟨ns, o, L, gl, rfl, rfl⟩
  have n1 := gl.n1
  have n7 := gl.n7
  have l1 := gl.l1
  have l10 := gl.l10
  refine yr_ownP (x := iD (wlk ns o L)) (yd_call (ya_cons (yd_var rfl) (ya_cons (yd_var rfl) (ya_cons (yd_var rfl) ya_nil))) ⟨ns, o, L, gl, rfl, rfl⟩) ?_ (Nat.le_of_ble_eq_true rfl) (by decide)
  refine ymr_seq (ym_n (yn_asg (d := .int (valueI (ns.getD o 0) 8)) (yd_call (ya_cons (yd_call (ya_cons (yd_var rfl) (ya_cons (yd_var rfl) ya_nil)) ⟨_, _, rfl, rfl⟩) (ya_cons yd_int ya_nil)) ⟨_, _, rfl, by decide, by decide, rfl⟩) yg_name) (by decide)) ?_
  have hm0 : 0 ≤ valueI (ns.getD o 0) 8 % 9 := Int.emod_nonneg _ (by decide)
  have hm9 : valueI (ns.getD o 0) 8 % 9 < 9 := Int.emod_lt_of_pos _ (by decide)
  refine ymr_seq (ym_eq (ym_for (xs := List.range (valueI (ns.getD o 0) 8 % 9).toNat) (slb := [7, 8, 9, 9]) (ρw := [some (.list (ns.map .int)), some (.int o), some (landD L), some (iD (wlk ns o L)), none, some (.int (valueI (ns.getD o 0) 8)), none, none, none, none]) (fun (i : Nat) => .int (0 + (i : Int))) (fun k => ((List.range k).map (sOne ns o L)).map dP) (fun k x => _) (yi_rng1 (n := valueI (ns.getD o 0) 8 % 9) (ya_cons (yd_op (yd_var rfl) yd_int (rd_I (by decide))) ya_nil) (by omega) (by omega)) ⟨rfl, rfl, rfl, rfl, rfl, trivial⟩ (by decide) (fun k x _ => yg_name) fun k x hx => ?_) (ds2 := (seenL ns o L).map dP) ?_) (ymr_settle (yr_ret (yd_var rfl)))
  · have hk : k < (valueI (ns.getD o 0) 8 % 9).toNat := by
      have := (List.getElem?_eq_some_iff.mp hx).1
      rwa [List.length_range] at this
    rw [List.getElem?_range hk] at hx
    cases hx
    have i0 : (0 : Int) + (k : Int) = (k : Int) := Int.zero_add _
    rw [i0]
    have hmod : ((k : Int) % 4) = ((k % 4 : Nat) : Int) := by omega
    obtain ⟨mp, ma⟩ := sMod_pos (valueI (ns.getD o 0) 8)
    have t0 : 0 ≤ sNum ns o k % (L.l + 1) := Int.emod_nonneg _ (by omega)
    have t1 : sNum ns o k % (L.l + 1) < L.l + 1 := Int.emod_lt_of_pos _ (by omega)
    have wl : ((wlk ns o L).length : Int) = L.l + 1 := by
      rw [show (wlk ns o L).length = L.l.toNat + 1 from walkL_len ns o L _]
      omega
    refine ym_sub (ym_seq (ym_n (yn_asg (YD.eq (yd_op (yd_call (ya_cons (yd_op (yd_call (ya_cons (yd_var rfl) (ya_cons (YD.eq (yd_op (yd_var rfl) (yd_op (yd_var rfl) yd_int (rd_I (by decide))) rd_I0) (d' := .int ((o + k % 4 : Nat) : Int)) ?_) ya_nil)) ⟨_, _, rfl, rfl⟩) (yd_op yd_int (yd_var rfl) (rd_I ?_)) rd_I0) (ya_cons yd_int ya_nil)) ⟨_, _, rfl, by decide, by decide, rfl⟩) yd_int (rd_I ⟨by decide, by decide⟩)) (d' := .int (sNum ns o k)) rfl) yg_name) (by decide)) (ym_seq (ym_n (yn_asg (yd_op (yd_var rfl) (yd_op (yd_op (yd_var (d := landD L) rfl) yd_int (rd_ixT rfl)) yd_int rd_I0) (rd_I ?_)) yg_name) (by decide)) (ym_seq (ym_n (yn_asg (yd_op (yd_op (yd_var rfl) yd_int (rd_I ⟨by decide, by decide⟩)) (yd_op (yd_var (d := landD L) rfl) yd_int (rd_ixT rfl)) (rd_I ?_)) yg_name) (by decide)) (ym_seq (ym_n (yn_if (b := decide (0 < sNum ns o k / 11 % sMod (valueI (ns.getD o 0) 8))) (sl := [9]) (sl2 := []) (ρ1 := [some (.list (ns.map .int)), some (.int o), some (landD L), some (iD (wlk ns o L)), none, some (.int (valueI (ns.getD o 0) 8)), some (.int k), some (.int (sNum ns o k)), some (.int (sOne ns o L k).1), some (.int (sOne ns o L k).2)]) (yt_test (yd_op (yd_op (yd_op (yd_var rfl) yd_int (rd_I ⟨by decide, by decide⟩)) (yd_op (yd_tup (ya_cons yd_int (ya_cons yd_int (ya_cons yd_int ya_nil))) (Nat.le_of_ble_eq_true rfl)) (yd_op (yd_op (yd_var rfl) yd_int (rd_I ⟨by decide, by decide⟩)) yd_int (rd_I (by decide))) (rd_ixT ma)) (rd_I mp)) yd_int rd_B0)) (fun hb => yn_sub (yn_asg (d := .int (sOne ns o L k).2) (YD.eq (yd_op (yd_var (d := iD (wlk ns o L)) rfl) (yd_var rfl) (rd_ixL (atI_int t0 (by omega)))) ?_) yg_name) ?_) (fun hb => yn_sub yn_next ?_)) (by decide)) (ym_eq (ym_app (yd_tup (ya_cons (yd_var rfl) (ya_cons (yd_var rfl) ya_nil)) (Nat.le_of_ble_eq_true rfl)) ?_) ?_))))) ⟨rfl, rfl, rfl, rfl, rfl, trivial⟩
    · rw [hmod]
      rfl
    · exact .inl ⟨by decide, by decide⟩
    · show (0 : Int) < L.l + 1
      omega
    · show (0 : Int) < L.n
      omega
    · unfold sOne
      dsimp only
      rw [if_pos (of_decide_eq_true hb)]
    · exact ⟨rfl, rfl, rfl, rfl, rfl, rfl, rfl, rfl, rfl, trivial⟩
    · refine ⟨rfl, rfl, rfl, rfl, rfl, rfl, rfl, rfl, ?_, trivial⟩
      unfold sOne
      dsimp only
      rw [if_neg (of_decide_eq_false hb)]
    · rw [List.length_map, List.length_map, List.length_range]
      omega
    · rw [List.range_succ, List.map_append, List.map_append]
      rfl
  · rw [List.length_range]
    rfl
end
end SG
set_option Elab.async false
set_option linter.all false
set_option maxRecDepth 100000
set_option maxHeartbeats 4000000
namespace SG
open PySem PySem.Spec PyProof.Rows L2
/-! ### a block beside a list that is filled, the list looked at -/
theorem scal_not {K : PySem.W.Frag} {H H' : Hp} {v : V} {e d : PyData} (h1 : Rp K H v e) (h2 : Rp K H' v d) (s1 : scalD e = true) (s2 : scalD d = false) : False := by
  cases h1 <;> cases h2 <;> first | (cases s2; done) | (cases s1; done)
theorem ym_block {K : PySem.W.Frag} {t : TS} {i j : Nat} {sl : List Nat} {ρ ρ1 ρ2 : Rho} {ds es : List PyData} (h : YN K t sl (ρ.set i (some (.list ds))) ρ1) (hi : i ∉ sl) (hj : ρ1[j]? = some (some (.list es))) (hs : es.all scalD = true) (hne : es ≠ []) (hd : ds.all (fun d => !scalD d) = true)
    (hl1 : ρ1.length = ρ.length) (hl : ρ2.length = ρ.length) (h2 : ∀ (k : Nat) d, ρ2[k]? = some (some d) → (k = j ∧ d = .list es) ∨ (k ∉ sl ∧ ρ[k]? = some (some d))) : YM K t i sl ρ ds ρ2 ds := by
  intro σ Hs H p e s o D q
  obtain ⟨o1, o2, vs, o3, o4⟩ := o
  refine h σ (upd Hs p (.lst vs)) H (e.own o1 o2 o4) (same_own s o3) D fun σ' Hs2 H2 g e2 n2 => ?_
  have hp2 : Hs2 p = some (.lst vs) := g.a _ _ upd_same
  have sa : Same Hs (fun b => if b = p then none else Hs2 b) := fun b o hb => by
    have hne : b ≠ p := ne_of_none hb o2
    show (if b = p then none else Hs2 b) = some o
    rw [if_neg hne]
    exact g.a b o (by rw [upd_ne hne]; exact hb)
  refine q σ' (fun b => if b = p then none else Hs2 b) H2 ⟨sa, fun x o _ hx => g.b x o hx, fun b o hb => ?_, fun x n m hx => ?_⟩ ⟨?_, fun k d hk => ?_⟩ ⟨(n2 i hi).trans o1, if_pos rfl, vs, g.b _ _ o3, o4.mono sa⟩ n2
  · have hb : (if b = p then none else Hs2 b) = some o := hb
    split at hb
    · cases hb
    · exact g.c b o hb
  · show (if x = p then none else Hs2 x) = none
    rw [if_neg n]
    exact g.d x m (by rw [upd_ne n]; exact hx)
  · rw [hl, ← hl1]
    exact e2.1
  · rcases h2 k d hk with ⟨rfl, rfl⟩ | ⟨hk1, hk2⟩
    · obtain ⟨v, hv, rv⟩ := e2.2 _ _ hj
      refine ⟨v, hv, ?_⟩
      cases rv with
      | @lst r us _ hr ra =>
        have hrp : r ≠ p := fun z => by
          rw [z, hp2] at hr
          cases hr
          cases es with
          | nil => exact hne rfl
          | cons e0 es =>
            cases ra with
            | cons r0 _ =>
              cases o4 with
              | @cons _ _ d0 _ r1 _ =>
                rw [List.all_cons, Bool.and_eq_true] at hs hd
                exact scal_not r0 r1 hs.1 (by simpa using hd.1)
        exact .lst (by show (if r = p then none else Hs2 r) = _; rw [if_neg hrp]; exact hr) (ra.scal hs)
    · obtain ⟨v, hv, rv⟩ := e.2 k d hk2
      exact ⟨v, (n2 k hk1).trans hv, rv.mono sa⟩
/-! ### the law's own steps -/
theorem nx_at {L : Land} {W : List Int} (h : IsW L W) {i : Nat} (hi : i + 1 < W.length) : W.getD (i + 1) 0 ∈ nextI L (W.getD i 0) := by
  have h1 : (W.zip (W.drop 1))[i]? = some (W.getD i 0, W.getD (i + 1) 0) := by
    rw [List.getElem?_zip_eq_some]
    refine ⟨?_, ?_⟩
    · show _ = some (W.getD i 0)
      rw [List.getD_eq_getElem?_getD, List.getElem?_eq_getElem (by omega)]
      rfl
    · show _ = some (W.getD (i + 1) 0)
      rw [List.getElem?_drop, List.getD_eq_getElem?_getD, Nat.add_comm 1 i, List.getElem?_eq_getElem hi]
      rfl
  exact h.nx _ (List.mem_of_getElem? h1)
def fCell (L : Land) (S : List (Int × Int)) (prev : Option (List Int)) (t p : Int) : Int := if badAt S t p then 0 else match prev with
  | none => 1
  | some r => sumG (rowG r) (nextI L p)
def fRow (L : Land) (S : List (Int × Int)) : Nat → List Int
  | 0 => (rgI L.n).map fun p => fCell L S none 0 p
  | t + 1 => (rgI L.n).map fun p => fCell L S (some (fRow L S t)) (t + 1 : Nat) p
theorem fRow_len (L : Land) (S : List (Int × Int)) (t : Nat) : (fRow L S t).length = L.n.toNat := by
  cases t <;> (unfold fRow; rw [List.length_map, len_rgI])
def fTab (L : Land) (S : List (Int × Int)) (k : Nat) : List (List Int) := (List.range k).map (fRow L S)
theorem fTab_succ (L : Land) (S : List (Int × Int)) (k : Nat) : fTab L S (k + 1) = fTab L S k ++ [fRow L S k] := by
  unfold fTab
  rw [List.range_succ, List.map_append]
  rfl
theorem lay_rows : ∀ rs : List (List Int), PyData.canLayAll0 (rs.map iD) = true
  | [] => rfl
  | r :: rs => by
    show (PyData.canLayAll0 (r.map PyData.int) && PyData.canLayAll0 (rs.map iD)) = true
    rw [lay_rows rs, lay_ints r]
    rfl
theorem depth_rows : ∀ rs : List (List Int), PyData.depthAll (rs.map iD) ≤ 2
  | [] => Nat.zero_le _
  | r :: rs => by
    have h1 := depth_rows rs
    have h2 := depth_ints r
    show max (PyData.depthAll (r.map PyData.int) + 1) (PyData.depthAll (rs.map iD)) ≤ 2
    omega
theorem shp_rows (rs : List (List Int)) : SeqAt.shaped (.list (rs.map iD)) = true := shp (lay_rows rs) (by
  show PyData.depthAll (rs.map iD) + 1 ≤ 64
  have := depth_rows rs
  omega)
theorem good_bad (S : List (Int × Int)) (t p : Int) : ((S.filter fun q => decide (q.1 = t)).all fun q => decide (q.2 = p)) = !badAt S t p := by
  unfold badAt
  rw [List.all_filter, List.not_any_eq_all_not]
  congr 1
  funext q
  cases decide (q.1 = t) <;> cases decide (q.2 = p) <;> rfl
section
variable {P : Program} {w : World} {K : PySem.W.Frag} {mg : Str → Option Value} {base : Heap} {f : Addr} {fd : FuncData}
abbrev s__law_is_walk : Stmt := (top 47)
theorem sc__law_is_walk : FnScope ["_law_land_here", "_law_walk_here", "_law_place", "_law_at"] ["_law_land_here", "_law_walk_here"] (defScope s__law_is_walk) := ⟨rfl, rfl, rfl, by decide +kernel, rfl, by decide +kernel, by decide +kernel⟩
def R_law_is_walk (ds : List PyData) (d : PyData) : Prop := ∃ (L : Land) (W : List Int), GoodLand L ∧ IsW L W ∧ ds = [landD L, iD W] ∧ d = .bool true
theorem ok_law_is_walk (F : FnP K "_law_is_walk" s__law_is_walk f fd) (G : Gi mg) (c__law_beside : Cal P w K mg base CX0 1 "_law_beside" (spF K R_beside)) : FnOk P w K mg base CX0 2 f fd ["_law_land_here", "_law_walk_here"] (spD K R_law_is_walk) := by
  refine okD F sc__law_is_walk (by rintro _ _ ⟨_, _, _, _, rfl, _⟩; rfl) fun cdv A outer s H E hr => ⟨_, (pss_cons (ps_if (PW.pt (pw_or (pt_cmpR (op_nek (K := K) rfl hr.units) (pe_callB (call_lenk (K := K) rfl) rfl G.b_len boot_len (pa_cons (pv 1) pa_nil)) (pe_op op_add (pe_ix (ix_k (K := K) rfl) (pv 0) pe_int (fun _ _ => rfl)) pe_int) (nomark _)) (pw_or1 (pt_val (pe_callB (cr_anyk (K := K) rfl rfl) rfl G.b_any (by decide +kernel) (pa_cons (pe_lc (own := [("_law_place", 2)]) rfl sc__law_is_walk.nd (pi_listk (K := K) rfl (pv 1)) (blkOk_by (N := ["_law_land_here", "_law_walk_here", "_law_place", "_law_at"]) (sc := defScope s__law_is_walk) (by decide +kernel)) (fun _ _ _ _ _ => (pg_name (i := 2) sc__law_is_walk.nd rfl (Or.inl rfl))) (fun _ _ _ _ _ => pts_nil) (fun _ _ _ _ _ => (pe_cmpR (op_notInk (K := K) rfl (hu65 hr)) (pv 2) (pe_listRg rfl rfl G.b_list (prg_1 rfl G.b_range (pe_ix (ix_k (K := K) rfl) (pv 0) pe_int (fun _ _ => rfl)))) rfl))) pa_nil)))))) (pss_one (ps_ret pe_bl)) pss_nil)
      (pss_one (ps_ret (pe_callB (cr_allk (K := K) rfl rfl) rfl G.b_all (by decide +kernel) (pa_cons (pe_lc (own := [("_law_at", 3)]) rfl sc__law_is_walk.nd (pi_range2 rfl G.b_range (pa_cons pe_int (pa_cons (pe_callB (call_lenk (K := K) rfl) rfl G.b_len boot_len (pa_cons (pv 1) pa_nil)) pa_nil))) (blkOk_by (N := ["_law_land_here", "_law_walk_here", "_law_place", "_law_at"]) (sc := defScope s__law_is_walk) (by decide +kernel)) (fun _ _ _ _ _ => (pg_name (i := 3) sc__law_is_walk.nd rfl (Or.inl rfl))) (fun _ _ _ _ _ => pts_nil) (fun _ _ _ _ _ => (pe_cmpR (op_ink (K := K) rfl (hu65 hr)) (pe_ix (ix_k (K := K) rfl) (pv 1) (pv 3) (fun _ _ => rfl)) (pe_d c__law_beside hr (by decide) rfl (pa_cons (pv 0) (pa_cons (pe_ix (ix_k (K := K) rfl) (pv 1) (pe_op op_sub (pv 3) pe_int) (fun _ _ => rfl)) pa_nil))) rfl))) pa_nil))))), ?_⟩
  rintro _ _ ⟨L, W, gl, hW, rfl, rfl⟩
  have n1 := gl.n1
  have n7 := gl.n7
  have l10 := gl.l10
  have hwl := hW.len
  refine yr_ifs (b := false) (YT.eq (yt_or (YT.eq (yt_test (yd_op (yd_cb (ya_cons (yd_var (d := iD W) rfl) ya_nil) rc_lenL) (yd_op (yd_op (yd_var (d := landD L) rfl) yd_int (rd_ixT rfl)) yd_int rd_I0) (rd_neD rfl rfl))) (b' := false) ?_) fun _ => YT.eq (yt_B (yd_any (xs := W) (p := fun p => !decide (p ∈ rgI L.n)) (yd_lc0 (fun p => .int p) (fun p => .bool (!decide (p ∈ rgI L.n))) (fun p => _) (yi_list (yd_var rfl)) (by omega) (by decide) (fun p _ => yg_name) fun p _ => YD.eq (yd_op (yd_var rfl) (YD.eq (yf_rng (yd_op (yd_var (d := landD L) rfl) yd_int (rd_ixT (d := .int L.n) rfl)) (by omega) (by omega)).yd (d' := iD (rgI L.n)) (congrArg PyData.list map_rgI)) (rd_notInD rfl (shp_ints _))) (congrArg (fun b => PyData.bool (!b)) (any_ints p _))))) (b' := false) ?_) rfl) (fun h => nomatch h) (fun _ => yr_next ?_)
  · rw [List.length_map, eqv_ii, decide_eq_true hwl]
    rfl
  · rw [List.any_eq_false]
    intro p hp
    simp [mem_rgI.mpr (hW.rg p hp)]
  · refine yr_ret (YD.eq (yd_all (xs := List.range (W.length - 1)) (p := fun _ => true) (yd_lc0 (fun (i : Nat) => .int (1 + (i : Int))) (fun _ => .bool true) (fun (i : Nat) => _) ((yi_rng2 (m := 1) (n := (W.length : Int)) (ya_cons yd_int (ya_cons (YD.eq (yd_cb (ya_cons (yd_var (d := iD W) rfl) ya_nil) rc_lenL) (by rw [List.length_map])) ya_nil)) (by omega)).eq ?_) (by rw [List.length_range]; omega) (by decide) (fun i _ => yg_name) fun i hi => YD.eq (yd_op (yd_op (yd_var (d := iD W) rfl) (yd_var rfl) (rd_ixL (d := .int (W.getD (i + 1) 0)) ?_)) (yf_call (ya_cons (yd_var rfl) (ya_cons (yd_op (yd_var (d := iD W) rfl) (yd_op (yd_var rfl) yd_int rd_I0) (rd_ixL (d := .int (W.getD i 0)) ?_)) ya_nil)) ⟨L, W.getD i 0, gl, rfl, rfl⟩).yd (rd_inD rfl (shp_ints _))) ?_)) ?_)
    · have e : ((W.length : Int) - 1).toNat = W.length - 1 := by omega
      rw [e]
      rfl
    · have hi2 := List.mem_range.mp hi
      rw [atI_int (by omega) (by omega)]
      have e : (1 + (i : Int)).toNat = i + 1 := by omega
      rw [e]
    · have hi2 := List.mem_range.mp hi
      rw [atI_int (by omega) (by omega)]
      have e : (1 + (i : Int) - 1).toNat = i := by omega
      rw [e]
    · have hi2 := List.mem_range.mp hi
      rw [any_ints, decide_eq_true (nx_at hW (by omega))]
    · simp
abbrev s__law_met : Stmt := (top 48)
theorem sc__law_met : FnScope ["_law_seen_here", "_law_walk_here", "_law_number", "_law_one"] ["_law_seen_here", "_law_walk_here"] (defScope s__law_met) := ⟨rfl, rfl, rfl, by decide +kernel, rfl, by decide +kernel, by decide +kernel⟩
def R_law_met (ds : List PyData) (d : PyData) : Prop := ∃ (S : List (Int × Int)) (W : List Int), S.length ≤ 50000 ∧ (∀ q ∈ S, 0 ≤ q.1 ∧ q.1 < W.length ∧ W.getD q.1.toNat 0 = q.2) ∧ ds = [sD S, iD W] ∧ d = .list ((List.range S.length).map fun (i : Nat) => .int (i : Int))
theorem enum_pairs (S : List (Int × Int)) : enumD (S.map dP) = (List.range S.length).map fun (i : Nat) => .tuple [.int (i : Int), dP (S.getD i (0, 0))] := by
  apply List.ext_getElem?
  intro i
  by_cases hi : i < S.length
  · rw [List.getElem?_map, List.getElem?_range hi]
    rw [enumD_get.mpr ⟨dP (S.getD i (0, 0)), by rw [List.getElem?_map, List.getElem?_eq_getElem hi, List.getD_eq_getElem?_getD, List.getElem?_eq_getElem hi]; rfl, rfl⟩]
    rfl
  · rw [List.getElem?_eq_none (l := (List.range S.length).map fun (i : Nat) => PyData.tuple [.int (i : Int), dP (S.getD i (0, 0))]) (by rw [List.length_map, List.length_range]; omega)]
    cases e : (enumD (S.map dP))[i]? with
    | none => rfl
    | some d =>
      obtain ⟨x, hx, _⟩ := enumD_get.mp e
      have := (List.getElem?_eq_some_iff.mp hx).1
      rw [List.length_map] at this
      omega
theorem ok_law_met (F : FnP K "_law_met" s__law_met f fd) (G : Gi mg) : FnOk P w K mg base CX0 1 f fd ["_law_seen_here", "_law_walk_here"] (spD K R_law_met) := by
  refine okD F sc__law_met (by rintro _ _ ⟨_, _, _, _, rfl, _⟩; rfl) fun cdv A outer s H E hr => ⟨_, (pss_one (ps_ret (pe_lc (own := [("_law_number", 2), ("_law_one", 3)]) rfl sc__law_met.nd (pi_enumk (K := K) rfl rfl G.b_enumerate (pa_cons (pv 0) pa_nil)) (blkOk_by (N := ["_law_seen_here", "_law_walk_here", "_law_number", "_law_one"]) (sc := defScope s__law_met) (by decide +kernel)) (fun _ _ _ _ _ => (pg_tupk (K := K) (n := 2) rfl rfl (pgs_cons (pg_name (i := 2) sc__law_met.nd rfl (Or.inl rfl)) (pgs_cons (pg_name (i := 3) sc__law_met.nd rfl (Or.inl rfl)) pgs_nil)))) (fun _ _ _ _ _ => (pts_one (pt_cmpR (op_eqk (K := K) rfl hr.units) (pe_ix (ix_k (K := K) rfl) (pv 1) (pe_ix (ix_k (K := K) rfl) (pv 3) pe_int (fun _ _ => rfl)) (fun _ _ => rfl)) (pe_ix (ix_k (K := K) rfl) (pv 3) pe_int (fun _ _ => rfl)) (nomark _)))) (fun _ _ _ _ _ => (pv 2))))), ?_⟩
  rintro _ _ ⟨S, W, hl, hS, rfl, rfl⟩
  refine yr_ret (YD.eq (yd_lcM (xs := List.range S.length) (fun (i : Nat) => .tuple [.int (i : Int), dP (S.getD i (0, 0))]) (fun _ => true) (fun (i : Nat) => .int (i : Int)) (fun (i : Nat) => _) ((yi_enum (ya_cons (yd_var (d := sD S) rfl) ya_nil)).eq (enum_pairs S)) (by rw [List.length_range]; exact hl) (by decide) (fun i _ => yg_tup (ygs_cons yg_name (ygs_cons yg_name ygs_nil)) rfl) (fun i hi => ?_) fun i _ _ => yd_var rfl) ?_)
  · have hi2 := List.mem_range.mp hi
    have hm : S.getD i (0, 0) ∈ S := by
      rw [List.getD_eq_getElem?_getD, List.getElem?_eq_getElem hi2]
      exact List.getElem_mem hi2
    obtain ⟨a, b, c⟩ := hS _ hm
    generalize S.getD i (0, 0) = q at a b c
    refine YT.eq (yt_test (yd_op (yd_op (yd_var (d := iD W) rfl) (yd_op (yd_var (d := dP q) rfl) yd_int (rd_ixT (d := .int q.1) rfl)) (rd_ixL (atI_int a b))) (yd_op (yd_var (d := dP q) rfl) yd_int (rd_ixT (d := .int q.2) rfl)) (rd_eqD rfl rfl))) ?_
    rw [eqv_ii]
    exact decide_eq_true c
  · rw [List.filter_eq_self.mpr (fun _ _ => rfl)]
end
end SG
set_option Elab.async false
set_option linter.all false
set_option maxRecDepth 100000
set_option maxHeartbeats 4000000
namespace SG
/-! ### sums -/
theorem sumG_add (f g : Int → Int) : ∀ l : List Int, sumG (fun x => f x + g x) l = sumG f l + sumG g l
  | [] => rfl
  | x :: l => by
    rw [sumG_cons, sumG_cons, sumG_cons, sumG_add f g l]
    omega
theorem sumG_mul (c : Int) (f : Int → Int) : ∀ l : List Int, sumG (fun x => c * f x) l = c * sumG f l
  | [] => by
    show (0 : Int) = c * 0
    rw [Int.mul_zero]
  | x :: l => by rw [sumG_cons, sumG_cons, sumG_mul c f l, Int.mul_add]
theorem sumG_congr {f g : Int → Int} : ∀ {l : List Int}, (∀ x ∈ l, f x = g x) → sumG f l = sumG g l
  | [], _ => rfl
  | x :: l, h => by rw [sumG_cons, sumG_cons, h x List.mem_cons_self, sumG_congr fun y hy => h y (List.mem_cons_of_mem _ hy)]
theorem sumG_zero : ∀ l : List Int, sumG (fun _ => 0) l = 0
  | [] => rfl
  | x :: l => by rw [sumG_cons, sumG_zero l]; rfl
theorem sumG_swap (h : Int → Int → Int) (m : List Int) : ∀ l : List Int, sumG (fun x => sumG (fun y => h x y) m) l = sumG (fun y => sumG (fun x => h x y) l) m
  | [] => by
    show (0 : Int) = sumG (fun _ => 0) m
    rw [sumG_zero]
  | x :: l => by
    rw [sumG_cons, sumG_swap h m l, ← sumG_add]
    exact sumG_congr fun y _ => (sumG_cons (fun x => h x y) x l).symm
theorem sumG_filter (b : Int → Bool) (f : Int → Int) : ∀ l : List Int, sumG f (l.filter b) = sumG (fun x => if b x = true then f x else 0) l
  | [] => rfl
  | x :: l => by
    rw [List.filter_cons, sumG_cons]
    by_cases h : b x = true
    · rw [if_pos h, if_pos h, sumG_cons, sumG_filter b f l]
    · rw [if_neg h, if_neg h, sumG_filter b f l]
      omega
theorem sumG_one {f : Int → Int} {p : Int} : ∀ {l : List Int}, l.Pairwise (· < ·) → p ∈ l → sumG (fun x => if x = p then f x else 0) l = f p
  | [], _, h => nomatch h
  | x :: l, hp, h => by
    obtain ⟨h1, h2⟩ := List.pairwise_cons.mp hp
    rw [sumG_cons]
    rcases List.mem_cons.mp h with rfl | h
    · rw [if_pos rfl, sumG_congr (g := fun _ => 0) fun y hy => if_neg fun z => by have := h1 y hy; omega, sumG_zero]
      omega
    · rw [if_neg fun z => by have := h1 p h; omega, sumG_one h2 h]
      omega
theorem near_comm (L : Land) (p o : Int) : isNear L p o = isNear L o p := by
  unfold isNear
  rw [Int.min_comm, Int.max_comm]
  by_cases h : o = p
  · rw [decide_eq_true h, decide_eq_true h.symm]
  · have h2 : ¬ p = o := fun z => h z.symm
    rw [decide_eq_false h, decide_eq_false h2]
theorem next_swap (L : Land) (f g : Int → Int) : sumG (fun p => f p * sumG g (nextI L p)) (rgI L.n) = sumG (fun q => g q * sumG f (nextI L q)) (rgI L.n) := by
  have e : ∀ (f g : Int → Int), sumG (fun p => f p * sumG g (nextI L p)) (rgI L.n) = sumG (fun p => sumG (fun y => if isNear L p y = true then f p * g y else 0) (rgI L.n)) (rgI L.n) := fun f g => by
    refine sumG_congr fun p _ => ?_
    unfold nextI
    rw [sumG_filter, ← sumG_mul]
    refine sumG_congr fun y _ => ?_
    by_cases h : isNear L p y = true
    · rw [if_pos h, if_pos h]
    · rw [if_neg h, if_neg h, Int.mul_zero]
  rw [e, e, sumG_swap]
  refine sumG_congr fun y _ => sumG_congr fun x _ => ?_
  rw [near_comm L x y, Int.mul_comm]
/-! ### forward and backward -/
def cOf (L : Land) (a : Option (List Int)) (p : Int) : Int := match a with
  | none => 1
  | some r => sumG (rowG r) (nextI L p)
theorem ends_c {L : Land} {S : List (Int × Int)} {t p : Int} {a : Option (List Int)} : endsI L S t p a = if badAt S t p then 0 else cOf L a p := by cases a <;> rfl
theorem cell_c {L : Land} {S : List (Int × Int)} {t p : Int} {a : Option (List Int)} : fCell L S a t p = if badAt S t p then 0 else cOf L a p := by cases a <;> rfl
def fPrev (L : Land) (S : List (Int × Int)) : Nat → Option (List Int)
  | 0 => none
  | t + 1 => some (fRow L S t)
theorem fRow_eq (L : Land) (S : List (Int × Int)) (t : Nat) : fRow L S t = (rgI L.n).map fun p => fCell L S (fPrev L S t) (t : Int) p := by cases t <;> rfl
theorem map_at {f : Int → Int} {n p : Int} (h0 : 0 ≤ p) (h1 : p < n) : rowG ((rgI n).map f) p = f p := by
  unfold rowG rgI
  rw [List.map_map, List.getD_eq_getElem?_getD, List.getElem?_map, List.getElem?_range (by omega)]
  show f ((p.toNat : Nat) : Int) = _
  rw [Int.toNat_of_nonneg h0]
theorem fRow_at {L : Land} {S : List (Int × Int)} {t : Nat} {p : Int} (h0 : 0 ≤ p) (h1 : p < L.n) : rowG (fRow L S t) p = if badAt S t p then 0 else cOf L (fPrev L S t) p := by
  rw [fRow_eq, map_at h0 h1, cell_c]
theorem sum_row {f : Int → Int} {n : Int} : ((rgI n).map f).sum = sumG (rowG ((rgI n).map f)) (rgI n) := by
  unfold sumG
  have : (rgI n).map (rowG ((rgI n).map f)) = (rgI n).map f := by
    apply List.map_congr_left
    intro c hc
    exact map_at (mem_rgI.mp hc).1 (mem_rgI.mp hc).2
  rw [this]
theorem step_t (L : Land) (S : List (Int × Int)) (t k : Nat) (h : ((t + 1 : Nat) : Int) = L.l + (k : Int) * (-1)) :
    sumG (fun p => rowG (fRow L S t) p * cOf L (rowsI L S (k + 1)).head? p) (rgI L.n) = sumG (fun p => rowG (fRow L S (t + 1)) p * cOf L (rowsI L S k).head? p) (rgI L.n) := by
  have e1 : (rowsI L S (k + 1)).head? = some (hdR L S (k + 1)) := rfl
  rw [e1]
  show sumG (fun p => rowG (fRow L S t) p * sumG (rowG (hdR L S (k + 1))) (nextI L p)) (rgI L.n) = _
  rw [next_swap]
  refine sumG_congr fun q hq => ?_
  obtain ⟨q0, q1⟩ := mem_rgI.mp hq
  rw [hd_at q0 q1, ends_c, fRow_at q0 q1, ← h]
  by_cases hb : badAt S ((t + 1 : Nat) : Int) q = true
  · rw [if_pos hb, if_pos hb, Int.zero_mul, Int.zero_mul]
  · rw [if_neg hb, if_neg hb, Int.mul_comm]
    rfl
theorem many_sum {L : Land} {S : List (Int × Int)} {l : Nat} (h : (l : Int) = L.l) : manyI L S = sumG (fun p => rowG (hdR L S (l + 1)) p) (rgI L.n) := by
  have e : (L.l + 1).toNat = l + 1 := by omega
  unfold manyI tabI
  rw [e]
  show (hdR L S (l + 1)).sum = _
  have hh : hdR L S (l + 1) = (rgI L.n).map fun p => endsI L S (L.l + (l : Int) * (-1)) p (rowsI L S l).head? := rfl
  rw [hh]
  exact sum_row
/-- by the tick t -/
theorem many_at (L : Land) (S : List (Int × Int)) (h1 : 1 ≤ L.l) : ∀ t k : Nat, ((t + k : Nat) : Int) = L.l → sumG (fun p => rowG (fRow L S t) p * cOf L (rowsI L S k).head? p) (rgI L.n) = manyI L S
  | 0, k, h => by
    rw [many_sum (l := k) (by omega)]
    refine sumG_congr fun q hq => ?_
    obtain ⟨q0, q1⟩ := mem_rgI.mp hq
    rw [hd_at q0 q1, ends_c, fRow_at q0 q1]
    have e : L.l + (k : Int) * (-1) = ((0 : Nat) : Int) := by omega
    rw [e]
    by_cases hb : badAt S ((0 : Nat) : Int) q = true
    · rw [if_pos hb, if_pos hb, Int.zero_mul]
    · rw [if_neg hb, if_neg hb]
      show (1 : Int) * _ = _
      rw [Int.one_mul]
  | t + 1, k, h => by
    rw [← step_t L S t k (by omega)]
    exact many_at L S h1 t (k + 1) (by omega)
theorem fwd_sum (L : Land) (S : List (Int × Int)) (h1 : 1 ≤ L.l) : (fRow L S L.l.toNat).sum = manyI L S := by
  rw [← many_at L S h1 L.l.toNat 0 (by omega), fRow_eq, sum_row]
  refine sumG_congr fun q _ => ?_
  show _ = _ * (1 : Int)
  rw [Int.mul_one]
/-! ### one more sighting -/
theorem bad_snoc (S : List (Int × Int)) (t p s x : Int) : badAt (S ++ [(t, p)]) s x = (badAt S s x || (decide (t = s) && !decide (p = x))) := by
  unfold badAt
  rw [List.any_append]
  simp
theorem bad_other {S : List (Int × Int)} {t p s x : Int} (h : t ≠ s) : badAt (S ++ [(t, p)]) s x = badAt S s x := by
  rw [bad_snoc, decide_eq_false h]
  simp
theorem fRow_snoc (L : Land) (S : List (Int × Int)) (t : Nat) (p : Int) : ∀ s : Nat, s < t → fRow L (S ++ [((t : Int), p)]) s = fRow L S s
  | 0, h => by
    rw [fRow_eq, fRow_eq]
    refine List.map_congr_left fun x _ => ?_
    rw [cell_c, cell_c, bad_other (by omega)]
    rfl
  | s + 1, h => by
    rw [fRow_eq, fRow_eq]
    refine List.map_congr_left fun x _ => ?_
    rw [cell_c, cell_c, bad_other (by omega)]
    show (if _ then (0 : Int) else cOf L (some (fRow L (S ++ [((t : Int), p)]) s)) x) = if _ then 0 else cOf L (some (fRow L S s)) x
    rw [fRow_snoc L S t p s (by omega)]
theorem rows_snoc (L : Land) (S : List (Int × Int)) (t p : Int) : ∀ k : Nat, t < L.l + 1 - (k : Int) → rowsI L (S ++ [(t, p)]) k = rowsI L S k
  | 0, _ => rfl
  | k + 1, h => by
    show _ :: _ = _ :: _
    rw [rows_snoc L S t p k (by omega)]
    congr 1
    refine List.map_congr_left fun x _ => ?_
    rw [ends_c, ends_c, bad_other (by omega)]
theorem many_snoc (L : Land) (S : List (Int × Int)) (h1 : 1 ≤ L.l) {t k : Nat} {p : Int} (h : ((t + k : Nat) : Int) = L.l) (p0 : 0 ≤ p) (p1 : p < L.n) : manyI L (S ++ [((t : Int), p)]) = rowG (fRow L S t) p * cOf L (rowsI L S k).head? p := by
  rw [← many_at L _ h1 t k h, rows_snoc L S t p k (by omega)]
  rw [sumG_congr (g := fun x => if x = p then rowG (fRow L S t) x * cOf L (rowsI L S k).head? x else 0) fun x hx => ?_]
  · exact sumG_one (f := fun x => rowG (fRow L S t) x * cOf L (rowsI L S k).head? x) (rgI_inc _) (mem_rgI.mpr ⟨p0, p1⟩)
  · obtain ⟨x0, x1⟩ := mem_rgI.mp hx
    have ep : fPrev L (S ++ [((t : Int), p)]) t = fPrev L S t := by
      cases t with
      | zero => rfl
      | succ t => exact congrArg some (fRow_snoc L S (t + 1) p t (by omega))
    rw [fRow_at x0 x1, fRow_at x0 x1, bad_snoc, ep]
    by_cases e : x = p
    · subst e
      rw [if_pos rfl]
      simp
    · rw [if_neg e]
      have e2 : ¬ p = x := fun z => e z.symm
      simp [e2]
/-- the walks, each by its place at t -/
theorem many_parts (L : Land) (S : List (Int × Int)) (h1 : 1 ≤ L.l) {t : Int} (t0 : 0 ≤ t) (t1 : t ≤ L.l) : ((rgI L.n).map fun p => manyI L (S ++ [(t, p)])).sum = manyI L S := by
  have e : ((t.toNat : Nat) : Int) = t := by omega
  rw [← many_at L S h1 t.toNat (L.l - t).toNat (by omega)]
  show sumG (fun p => manyI L (S ++ [(t, p)])) (rgI L.n) = _
  refine sumG_congr fun p hp => ?_
  obtain ⟨p0, p1⟩ := mem_rgI.mp hp
  rw [← many_snoc L S h1 (t := t.toNat) (k := (L.l - t).toNat) (by omega) p0 p1, e]
/-! ### the walks -/
theorem all_head (L : Land) (S : List (Int × Int)) (k : Nat) : ∀ (cs : List Int) (W : List Int), W ∈ allW L S (k + 1) cs → ∃ c V, W = c :: V ∧ c ∈ cs ∧ V ∈ allW L S k (nextI L c) ∧ badAt S (L.l + (k : Int) * (-1)) c = false
  | [], W, h => by
    have e : allW L S (k + 1) [] = [] := rfl
    rw [e] at h
    nomatch h
  | c :: cs, W, h => by
    rw [allW_cons] at h
    rcases List.mem_append.mp h with h | h
    · split at h
      · nomatch h
      · rename_i hb
        obtain ⟨V, hV, rfl⟩ := List.mem_map.mp h
        exact ⟨c, V, rfl, List.mem_cons_self, hV, by simpa using hb⟩
    · obtain ⟨c', V, e, hc, r⟩ := all_head L S k cs W h
      exact ⟨c', V, e, List.mem_cons_of_mem _ hc, r⟩
structure IsP (L : Land) (S : List (Int × Int)) (k : Nat) (cs W : List Int) : Prop where
  len : W.length = k
  hd : ∀ c ∈ W.head?, c ∈ cs
  rg : (∀ c ∈ cs, 0 ≤ c ∧ c < L.n) → ∀ p ∈ W, 0 ≤ p ∧ p < L.n
  nx : ∀ q ∈ W.zip (W.drop 1), q.2 ∈ nextI L q.1
  ok : ∀ i : Nat, i < k → badAt S (L.l + 1 - (k : Int) + (i : Int)) (W.getD i 0) = false
theorem all_isP (L : Land) (S : List (Int × Int)) : ∀ (k : Nat) (cs W : List Int), W ∈ allW L S k cs → IsP L S k cs W
  | 0, cs, W, h => by
    have e : W = [] := List.mem_singleton.mp h
    subst e
    exact ⟨rfl, (fun c hc => nomatch hc), (fun _ p hp => nomatch hp), (fun q hq => nomatch hq), fun i hi => absurd hi (Nat.not_lt_zero _)⟩
  | k + 1, cs, W, h => by
    obtain ⟨c, V, rfl, hc, hV, hb⟩ := all_head L S k cs W h
    obtain ⟨a1, a2, a3, a4, a5⟩ := all_isP L S k _ V hV
    refine ⟨congrArg (· + 1) a1, fun d hd => ?_, fun hr p hp => ?_, fun q hq => ?_, fun i hi => ?_⟩
    · cases Option.some.inj hd
      exact hc
    · rcases List.mem_cons.mp hp with rfl | hp
      · exact hr _ hc
      · exact a3 (fun x hx => mem_nextI hx) p hp
    · cases V with
      | nil => nomatch hq
      | cons v V =>
        rcases List.mem_cons.mp (show q ∈ (c, v) :: (v :: V).zip V from hq) with rfl | hq
        · exact a2 v rfl
        · exact a4 q hq
    · cases i with
      | zero =>
        rw [List.getD_cons_zero]
        have e : L.l + 1 - ((k + 1 : Nat) : Int) + ((0 : Nat) : Int) = L.l + (k : Int) * (-1) := by omega
        rw [e]
        exact hb
      | succ i =>
        rw [List.getD_cons_succ]
        have e : L.l + 1 - ((k + 1 : Nat) : Int) + ((i + 1 : Nat) : Int) = L.l + 1 - (k : Int) + (i : Int) := by omega
        rw [e]
        exact a5 i (by omega)
theorem wlk_mem {L : Land} {S : List (Int × Int)} (gl : GoodLand L) {x : Int} (h0 : 0 ≤ x) (h1 : x < manyI L S) : (allW L S (L.l + 1).toNat (rgI L.n))[x.toNat]? = some (wlkI L S x) := by
  have l1 := gl.l1
  exact (run_all L S (L.l + 1).toNat (rgI L.n) x (fun c hc => mem_rgI.mp hc) h0 (by rw [← many_all L S (by omega)]; exact h1)).1
theorem wlk_isW {L : Land} {S : List (Int × Int)} (gl : GoodLand L) {x : Int} (h0 : 0 ≤ x) (h1 : x < manyI L S) : IsW L (wlkI L S x) := by
  have l1 := gl.l1
  have p := all_isP L S _ _ _ (List.mem_of_getElem? (wlk_mem gl h0 h1))
  exact ⟨by rw [p.len]; omega, p.rg fun c hc => mem_rgI.mp hc, p.nx⟩
theorem wlk_met {L : Land} {S : List (Int × Int)} (gl : GoodLand L) (ok : OkS L S) {x : Int} (h0 : 0 ≤ x) (h1 : x < manyI L S) : ∀ q ∈ S, (wlkI L S x).getD q.1.toNat 0 = q.2 := fun q hq => by
  have l1 := gl.l1
  have p := all_isP L S _ _ _ (List.mem_of_getElem? (wlk_mem gl h0 h1))
  obtain ⟨t0, t1, _, _⟩ := ok.at_ q hq
  have hb := p.ok q.1.toNat (by omega)
  have e : L.l + 1 - ((L.l + 1).toNat : Int) + (q.1.toNat : Int) = q.1 := by omega
  rw [e] at hb
  unfold badAt at hb
  rw [List.any_eq_false] at hb
  have := hb q hq
  simp at this
  exact this.symm
theorem met_all {W : List Int} {S : List (Int × Int)} (h : ∀ q ∈ S, W.getD q.1.toNat 0 = q.2) : (metI W S).length = S.length := by
  unfold metI
  rw [List.filter_eq_self.mpr fun q hq => decide_eq_true (h q hq)]
/-! ### their order -/
theorem lex_irr : ∀ a : List Int, HT.lexLt a a = false
  | [] => rfl
  | x :: a => by rw [HT.lexLt_cons, if_pos rfl, lex_irr a]
theorem lex_asym : ∀ a b : List Int, HT.lexLt a b = true → HT.lexLt b a = false
  | [], [], h => nomatch h
  | [], _ :: _, _ => rfl
  | _ :: _, [], h => nomatch h
  | x :: a, y :: b, h => by
    rw [HT.lexLt_cons] at h ⊢
    by_cases e : x = y
    · rw [if_pos e] at h
      rw [if_pos e.symm]
      exact lex_asym a b h
    · rw [if_neg e] at h
      rw [if_neg fun z => e z.symm]
      have := of_decide_eq_true h
      exact decide_eq_false (by omega)
theorem all_lex (L : Land) (S : List (Int × Int)) : ∀ (k : Nat) (cs : List Int), cs.Pairwise (· < ·) → (allW L S k cs).Pairwise fun a b => HT.lexLt a b = true
  | 0, cs, _ => List.pairwise_singleton _ _
  | k + 1, cs, h => by
    induction cs with
    | nil => exact List.Pairwise.nil
    | cons c cs ih =>
      obtain ⟨h1, h2⟩ := List.pairwise_cons.mp h
      rw [allW_cons]
      refine List.pairwise_append.mpr ⟨?_, ih h2, fun a ha b hb => ?_⟩
      · split
        · exact List.Pairwise.nil
        · refine List.pairwise_map.mpr ((all_lex L S k _ (next_inc L c)).imp fun {a b} hab => ?_)
          rw [HT.lexLt_cons, if_pos rfl]
          exact hab
      · split at ha
        · nomatch ha
        · obtain ⟨V, _, rfl⟩ := List.mem_map.mp ha
          obtain ⟨c', V', rfl, hc', _⟩ := all_head L S k cs b hb
          have := h1 c' hc'
          rw [HT.lexLt_cons, if_neg (by omega)]
          exact decide_eq_true this
theorem wlk_lex {L : Land} {S : List (Int × Int)} (gl : GoodLand L) {x y : Int} (x0 : 0 ≤ x) (x1 : x < manyI L S) (y0 : 0 ≤ y) (y1 : y < manyI L S) : HT.lexLt (wlkI L S x) (wlkI L S y) = decide (x < y) := by
  have hx := wlk_mem gl x0 x1
  have hy := wlk_mem gl y0 y1
  have hp := List.pairwise_iff_getElem.mp (all_lex L S (L.l + 1).toNat (rgI L.n) (rgI_inc _))
  obtain ⟨hx1, hx2⟩ := List.getElem?_eq_some_iff.mp hx
  obtain ⟨hy1, hy2⟩ := List.getElem?_eq_some_iff.mp hy
  by_cases h : x < y
  · rw [decide_eq_true h, ← hx2, ← hy2]
    exact hp _ _ hx1 hy1 (by omega)
  · rw [decide_eq_false h]
    by_cases e : x = y
    · rw [e]
      exact lex_irr _
    · rw [← hx2, ← hy2]
      exact lex_asym _ _ (hp _ _ hy1 hx1 (by omega))
/-! ### no ways -/
def bareL (L : Land) : Land := ⟨L.n, [], L.l⟩
theorem bare_good {L : Land} (gl : GoodLand L) : GoodLand (bareL L) := ⟨gl.n1, gl.n7, Nat.zero_le _, (fun p hp => nomatch hp), List.Pairwise.nil, gl.l1, gl.l10⟩
theorem bare_ok {L : Land} {S : List (Int × Int)} (ok : OkS L S) : OkS (bareL L) S := ⟨ok.len, ok.at_⟩
theorem filter_one {p : Int} : ∀ {l : List Int}, l.Pairwise (· < ·) → p ∈ l → l.filter (fun x => decide (x = p)) = [p]
  | [], _, h => nomatch h
  | x :: l, hp, h => by
    obtain ⟨h1, h2⟩ := List.pairwise_cons.mp hp
    rcases List.mem_cons.mp h with rfl | h
    · rw [List.filter_cons, if_pos (by simp), List.filter_eq_nil_iff.mpr fun y hy z => by have := h1 y hy; have := of_decide_eq_true z; omega]
    · rw [List.filter_cons, if_neg (by have := h1 p h; simp; omega), filter_one h2 h]
theorem bare_next {L : Land} {p : Int} (h0 : 0 ≤ p) (h1 : p < L.n) : nextI (bareL L) p = [p] := by
  have e : isNear (bareL L) p = fun x => decide (x = p) := by
    funext x
    unfold isNear bareL
    simp
  unfold nextI
  rw [e]
  exact filter_one (rgI_inc _) (mem_rgI.mpr ⟨h0, h1⟩)
theorem bare_rows (L : Land) : ∀ k : Nat, ∀ r ∈ rowsI (bareL L) [] k, ∀ p, 0 ≤ p → p < L.n → rowG r p = 1
  | 0, r, h, _, _, _ => nomatch h
  | k + 1, r, h, p, p0, p1 => by
    rcases List.mem_cons.mp (show r ∈ hdR (bareL L) [] (k + 1) :: rowsI (bareL L) [] k from h) with rfl | h
    · rw [hd_at (L := bareL L) p0 p1, ends_c]
      show cOf (bareL L) (rowsI (bareL L) [] k).head? p = 1
      cases e : (rowsI (bareL L) [] k).head? with
      | none => rfl
      | some r' =>
        show sumG (rowG r') (nextI (bareL L) p) = 1
        rw [bare_next p0 p1, sumG_cons, bare_rows L k r' (List.mem_of_mem_head? e) p p0 p1]
        rfl
    · exact bare_rows L k r h p p0 p1
theorem sum_ones : ∀ l : List Int, sumG (fun _ => 1) l = l.length
  | [] => rfl
  | x :: l => by
    rw [sumG_cons, sum_ones l, List.length_cons]
    omega
theorem bare_many {L : Land} (gl : GoodLand L) : manyI (bareL L) [] = L.n := by
  have l1 := gl.l1
  have n1 := gl.n1
  rw [many_sum (L := bareL L) (l := L.l.toNat) (by show _ = L.l; omega)]
  have hc : sumG (fun p => rowG (hdR (bareL L) [] (L.l.toNat + 1)) p) (rgI (bareL L).n) = sumG (fun _ => 1) (rgI (bareL L).n) := sumG_congr fun p hp => bare_rows L (L.l.toNat + 1) _ (List.mem_cons_self) p (mem_rgI.mp hp).1 (mem_rgI.mp hp).2
  rw [hc, sum_ones, len_rgI]
  show ((L.n.toNat : Nat) : Int) = L.n
  omega
theorem bare_top {L : Land} (gl : GoodLand L) : manyI (bareL L) [(0, 0)] = 1 := by
  have l1 := gl.l1
  have n1 := gl.n1
  have h := many_snoc (bareL L) [] gl.l1 (t := 0) (k := L.l.toNat) (p := 0) (by show _ = L.l; omega) (Int.le_refl _) (by show 0 < L.n; omega)
  have e0 : [] ++ [(((0 : Nat) : Int), (0 : Int))] = [((0 : Int), (0 : Int))] := rfl
  rw [e0] at h
  rw [h, fRow_at (L := bareL L) (Int.le_refl _) (by show 0 < L.n; omega)]
  have e : cOf (bareL L) (rowsI (bareL L) [] L.l.toNat).head? 0 = 1 := by
    cases e : (rowsI (bareL L) [] L.l.toNat).head? with
    | none => rfl
    | some r' =>
      show sumG (rowG r') (nextI (bareL L) 0) = 1
      rw [bare_next (Int.le_refl _) (by omega), sumG_cons, bare_rows L _ r' (List.mem_of_mem_head? e) 0 (Int.le_refl _) (by omega)]
      rfl
  rw [e]
  rfl
theorem bare_run {L : Land} (n1 : 0 < L.n) : ∀ (rows : List (List Int)) (cs : List Int), (∀ r ∈ rows, 0 < rowG r 0) → runI (bareL L) rows (0 :: cs, 0) = List.replicate rows.length 0
  | [], _, _ => rfl
  | r :: rows, cs, h => by
    have hr := h r List.mem_cons_self
    have e1 : pk (rowG r) 0 (0 :: cs) = 0 := by
      unfold pk
      rw [if_neg (by omega)]
    show cho r (0 :: cs, 0) :: runI (bareL L) rows (stp (bareL L) r (0 :: cs, 0)) = _
    unfold cho stp
    dsimp only
    rw [e1]
    show (0 : Int) :: runI (bareL L) rows (nextI (bareL L) 0, 0 - 0) = _
    rw [bare_next (Int.le_refl _) n1, Int.sub_zero, bare_run n1 rows [] fun r hr => h r (List.mem_cons_of_mem _ hr)]
    rfl
theorem bare_wlk {L : Land} (gl : GoodLand L) : wlkI (bareL L) [] 0 = List.replicate (L.l + 1).toNat 0 := by
  have n1 := gl.n1
  have e : ∃ cs, rgI L.n = 0 :: cs := by
    unfold rgI
    obtain ⟨m, hm⟩ : ∃ m, L.n.toNat = m + 1 := ⟨L.n.toNat - 1, by omega⟩
    rw [hm, List.range_succ_eq_map]
    exact ⟨_, rfl⟩
  obtain ⟨cs, e⟩ := e
  show runI (bareL L) (rowsI (bareL L) [] (L.l + 1).toNat) (rgI L.n, 0) = _
  rw [e, bare_run (by omega) _ _ fun r hr => by rw [bare_rows L _ r hr 0 (Int.le_refl _) (by omega)]; decide, rows_len]
end SG
set_option Elab.async false
set_option linter.all false
set_option maxRecDepth 100000
set_option maxHeartbeats 4000000
namespace SG
open PySem PySem.Spec PyProof.Rows L2
theorem atI_snoc {xs : List PyData} {d : PyData} : atI (xs ++ [d]) (-1) = some d := by
  unfold atI ixN
  rw [if_neg (by decide), List.length_append, List.length_singleton, if_pos (by omega)]
  show (xs ++ [d])[(-1 + ((xs.length + 1 : Nat) : Int)).toNat]? = _
  have e : (-1 + ((xs.length + 1 : Nat) : Int)).toNat = xs.length := by omega
  rw [e, List.getElem?_append_right (Nat.le_refl _), Nat.sub_self]
  rfl
theorem fTab_len (L : Land) (S : List (Int × Int)) (k : Nat) : (fTab L S k).length = k := by
  unfold fTab
  rw [List.length_map, List.length_range]
theorem tab_last (L : Land) (S : List (Int × Int)) (k : Nat) : atI ((fTab L S (k + 1)).map iD) (-1) = some (iD (fRow L S k)) := by
  rw [fTab_succ, List.map_append]
  exact atI_snoc
theorem ym_assoc {K : PySem.W.Frag} {a b c : TS} {i : Nat} {sl : List Nat} {ρ ρ' : Rho} {ds ds' : List PyData} (h : YM K (tSeq (tSeq a b) c) i sl ρ ds ρ' ds') : YM K (tSeq a (tSeq b c)) i sl ρ ds ρ' ds' := h
section
variable {P : Program} {w : World} {K : PySem.W.Frag} {mg : Str → Option Value} {base : Heap} {f : Addr} {fd : FuncData}
abbrev s__law_counts : Stmt := (top 50)
theorem sc__law_counts : FnScope ["_law_land_here", "_law_seen_here", "_law_found", "_law_tick", "_law_row", "_law_place", "_law_good", "_law_when", "_law_other", "_law_before", "_law_some"] ["_law_land_here", "_law_seen_here"] (defScope s__law_counts) := ⟨rfl, rfl, rfl, by decide +kernel, rfl, by decide +kernel, by decide +kernel⟩
def R_counts (ds : List PyData) (d : PyData) : Prop := ∃ (L : Land) (S : List (Int × Int)), GoodLand L ∧ S.length ≤ 50000 ∧ ds = [landD L, sD S] ∧ d = .list ((fTab L S (L.l + 1).toNat).map iD)
theorem ok_counts (F : FnP K "_law_counts" s__law_counts f fd) (G : Gi mg) (c__law_beside : Cal P w K mg base CX0 1 "_law_beside" (spF K R_beside)) : FnOk P w K mg base CX0 2 f fd ["_law_land_here", "_law_seen_here"] (spD K R_counts) := by
  refine okD F sc__law_counts (by rintro _ _ ⟨_, _, _, _, rfl, _⟩; rfl) fun cdv A outer s H E hr => ⟨_, (pss_cons (ps_set (i := 2) sc__law_counts.nd rfl (Or.inr rfl) (pe_lst pa_nil))
      (pss_cons (ps_for PassesOwn.never rfl (pi_range1 rfl G.b_range (pa_cons (pe_op op_add (pe_ix (ix_k (K := K) rfl) (pv 0) pe_int (fun _ _ => rfl)) pe_int) pa_nil)) (pg_name (i := 3) sc__law_counts.nd rfl (Or.inr rfl))
        (pss_cons (ps_set (i := 4) sc__law_counts.nd rfl (Or.inl rfl) (pe_lst pa_nil))
      (pss_cons (ps_for PassesOwn.never rfl (pi_range1 rfl G.b_range (pa_cons (pe_ix (ix_k (K := K) rfl) (pv 0) pe_int (fun _ _ => rfl)) pa_nil)) (pg_name (i := 5) sc__law_counts.nd rfl (Or.inr rfl))
        (pss_cons (ps_set (i := 6) sc__law_counts.nd rfl (Or.inl rfl) (pe_callB (cr_allk (K := K) rfl rfl) rfl G.b_all (by decide +kernel) (pa_cons (pe_lc (own := [("_law_when", 7), ("_law_other", 8)]) rfl sc__law_counts.nd (pi_listk (K := K) rfl (pv 1)) (blkOk_by (N := ["_law_land_here", "_law_seen_here", "_law_found", "_law_tick", "_law_row", "_law_place", "_law_good", "_law_when", "_law_other", "_law_before", "_law_some"]) (sc := defScope s__law_counts) (by decide +kernel)) (fun _ _ _ _ _ => (pg_tupk (K := K) (n := 2) rfl rfl (pgs_cons (pg_name (i := 7) sc__law_counts.nd rfl (Or.inl rfl)) (pgs_cons (pg_name (i := 8) sc__law_counts.nd rfl (Or.inl rfl)) pgs_nil)))) (fun _ _ _ _ _ => (pts_one (pt_cmpR (op_eqk (K := K) rfl hr.units) (pv 7) (pv 3) (nomark _)))) (fun _ _ _ _ _ => (pe_cmpR (op_eqk (K := K) rfl hr.units) (pv 8) (pv 5) (nomark _)))) pa_nil)))
      (pss_cons (ps_set (i := 9) sc__law_counts.nd rfl (Or.inl rfl) pe_int)
      (pss_cons (ps_if (pt_cmpR (op_nek (K := K) rfl hr.units) (pv 2) (pe_lst pa_nil) (nomark _)) (pss_cons (ps_set (i := 10) sc__law_counts.nd rfl (Or.inl rfl) (pe_d c__law_beside hr (by decide) rfl (pa_cons (pv 0) (pa_cons (pv 5) pa_nil))))
      (pss_one (ps_set (i := 9) sc__law_counts.nd rfl (Or.inl rfl) (pe_callB (cr_sumk (K := K) rfl rfl) rfl G.b_sum (by decide +kernel) (pa_cons (pe_lc (own := [("_law_other", 8)]) rfl sc__law_counts.nd (pi_listk (K := K) rfl (pv 10)) (blkOk_by (N := ["_law_land_here", "_law_seen_here", "_law_found", "_law_tick", "_law_row", "_law_place", "_law_good", "_law_when", "_law_other", "_law_before", "_law_some"]) (sc := defScope s__law_counts) (by decide +kernel)) (fun _ _ _ _ _ => (pg_name (i := 8) sc__law_counts.nd rfl (Or.inl rfl))) (fun _ _ _ _ _ => pts_nil) (fun _ _ _ _ _ => (pe_ix (ix_k (K := K) rfl) (pe_ix (ix_k (K := K) rfl) (pv 2) (pe_un un_neg pe_int) (fun _ _ => rfl)) (pv 8) (fun _ _ => rfl)))) pa_nil))))) pss_nil)
      (pss_one (ps_expr (pe_bm PySem.F.plainAttrs_list PySem.F.slot_list_append PySem.F.type_list_append mt_append (pv 4) (pa_cons (pe_ifExp (pt_val (pv 6)) (pv 9) pe_int) pa_nil))))))))
      (pss_one (ps_expr (pe_bm PySem.F.plainAttrs_list PySem.F.slot_list_append PySem.F.type_list_append mt_append (pv 2) (pa_cons (pv 4) pa_nil)))))))
      (pss_one (ps_ret (pv 2))))), ?_⟩
  rintro _ _ ⟨L, S, gl, hl, rfl, rfl⟩
  have l1 := gl.l1
  have l10 := gl.l10
  have n1 := gl.n1
  have n7 := gl.n7
  refine yr_own (ds := []) ya_nil (Nat.zero_le _) ?_ (Nat.le_of_ble_eq_true rfl)
  refine ymr_seq (ym_eq (ym_for (xs := List.range (L.l + 1).toNat) (slb := [4, 5, 6, 9, 10, 9]) (ρw := [some (landD L), some (sD S), none, none, none, none, none, none, none, none, none]) (fun (i : Nat) => .int (0 + (i : Int))) (fun k => (fTab L S k).map iD) (fun k x => _) (yi_rng1 (n := L.l + 1) (ya_cons (yd_op (yd_op (yd_var (d := landD L) rfl) yd_int (rd_ixT rfl)) yd_int rd_I0) ya_nil) (by omega) (by omega)) ⟨rfl, rfl, trivial⟩ (by decide) (fun k x _ => yg_name) fun k x hx => ?_) (ds2 := (fTab L S (L.l + 1).toNat).map iD) (by rw [List.length_range])) (ymr_settle (yr_ret (yd_var rfl)))
  have hk : k < (L.l + 1).toNat := by
    have := (List.getElem?_eq_some_iff.mp hx).1
    rwa [List.length_range] at this
  rw [List.getElem?_range hk] at hx
  cases hx
  have i0 : (0 : Int) + (k : Int) = (k : Int) := Int.zero_add _
  rw [i0]
  have hrow : iD (fRow L S k) = .list ([] ++ (rgI L.n).map fun p => .int (fCell L S (fPrev L S k) (k : Int) p)) := by
    rw [fRow_eq, List.nil_append]
    unfold iD
    rw [List.map_map]
    rfl
  have hfe : fTab L S k = [] ↔ k = 0 := by
    constructor
    · intro z
      have := fTab_len L S k
      rw [z] at this
      exact this.symm
    · rintro rfl
      rfl
  refine ym_sub (ym_assoc (ym_seq (ym_block (i := 2) (ds := (fTab L S k).map iD) (ρ := [some (landD L), some (sD S), none, some (.int (k : Int)), none, none, none, none, none, none, none]) (sl := [4, 5, 6, 9, 10, 9]) (ρ1 := [some (landD L), some (sD S), some (.list ((fTab L S k).map iD)), some (.int (k : Int)), some (.list ([] ++ (rgI L.n).map fun p => .int (fCell L S (fPrev L S k) (k : Int) p))), none, none, none, none, none, none]) (j := 4) (es := (fRow L S k).map .int) (ρ2 := [some (landD L), some (sD S), none, some (.int (k : Int)), some (iD (fRow L S k)), none, none, none, none, none, none]) ?blk (by decide) ?_ (all_scal _) ?_ ?_ rfl rfl ?_) (ym_eq (ym_app (yd_var rfl) ?_) ?_))) ⟨rfl, rfl, trivial⟩
  case blk =>
    refine yn_sub (yn_own (i := 4) (ds := []) ya_nil (Nat.zero_le _) (ym_forA (xs := rgI L.n) (slb := [6, 9, 10, 9]) (ρw := [some (landD L), some (sD S), some (.list ((fTab L S k).map iD)), some (.int (k : Int)), none, none, none, none, none, none, none]) (fun p => .int p) (fun p => .int (fCell L S (fPrev L S k) (k : Int) p)) (fun p => _) ((yi_rng1 (n := L.n) (ya_cons (yd_op (yd_var (d := landD L) rfl) yd_int (rd_ixT rfl)) ya_nil) (by omega) (by omega)).eq map_rgI) (by exact ⟨rfl, rfl, rfl, rfl, trivial⟩) (by decide) (fun p _ => yg_name) (fun p hp acc ha => ym_sub (ym_seq (ym_n (yn_asg (d := .bool (!badAt S (k : Int) p)) (YD.eq (yd_all (xs := S.filter fun q => decide (q.1 = (k : Int))) (p := fun q => decide (q.2 = p)) (yd_lcM (xs := S) (fun q : Int × Int => dP q) (fun q => decide (q.1 = (k : Int))) (fun q => .bool (decide (q.2 = p))) (fun q => _) (yi_list (yd_var rfl)) hl (by decide) (fun q _ => yg_tup (ygs_cons yg_name (ygs_cons yg_name ygs_nil)) rfl) (fun q _ => YT.eq (yt_test (yd_op (yd_var rfl) (yd_var rfl) (rd_eqD rfl rfl))) rfl) fun q _ _ => YD.eq (yd_op (yd_var rfl) (yd_var rfl) (rd_eqD rfl rfl)) rfl)) (by rw [good_bad])) yg_name) (by decide)) (ym_seq (ym_n (yn_asg yd_int yg_name) (by decide)) (ym_seq (ym_n (yn_if (b := !decide (k = 0)) (sl := [10, 9]) (sl2 := []) (ρ1 := [some (landD L), some (sD S), some (.list ((fTab L S k).map iD)), some (.int (k : Int)), none, some (.int p), some (.bool (!badAt S (k : Int) p)), none, none, some (.int (cOf L (fPrev L S k) p)), none]) (YT.eq (yt_test (yd_op (yd_var (d := .list ((fTab L S k).map iD)) rfl) (yd_lst ya_nil (Nat.zero_le _)) (rd_neD (shp_rows _) rfl))) ?e1) (fun hb => ?e2) (fun hb => yn_sub yn_next ?e3)) (by decide)) (ym_app (d := .int (fCell L S (fPrev L S k) (k : Int) p)) (yd_if (b := !badAt S (k : Int) p) (yt_B (yd_var rfl)) (fun hb => YD.eq (yd_var rfl) ?e4) (fun hb => YD.eq yd_int ?e5)) ?e6)))) ⟨rfl, rfl, rfl, rfl, trivial⟩)) (Nat.le_of_ble_eq_true rfl)) ⟨rfl, rfl, rfl, rfl, rfl, trivial⟩
    case e1 =>
      cases k with
      | zero => rfl
      | succ k =>
        rw [fTab_succ, List.map_append]
        cases (fTab L S k).map iD <;> rfl
    case e2 =>
      cases k with
      | zero => cases hb
      | succ k =>
        refine yn_sub (yn_seq (yn_asg (d := iD (nextI L p)) (yf_call (ya_cons (yd_var rfl) (ya_cons (yd_var rfl) ya_nil)) ⟨L, p, gl, rfl, rfl⟩).yd yg_name) (yn_asg (d := .int (sumG (rowG (fRow L S k)) (nextI L p))) (yd_cb (ya_cons (YD.eq (yd_lc0 (xs := nextI L p) (fun q => .int q) (fun q => .int (rowG (fRow L S k) q)) (fun q => _) (yi_list (yd_var rfl)) ?_ (by decide) (fun q _ => yg_name) fun q hq => yd_op (yd_op (yd_var (d := .list ((fTab L S (k + 1)).map iD)) rfl) (yd_un yd_int ru_neg) (rd_ixL (tab_last L S k))) (yd_var rfl) (rd_ixL (atI_int (mem_nextI hq).1 ?_))) (d' := .list (((nextI L p).map (rowG (fRow L S k))).map .int)) ?_) ya_nil) rc_sum) yg_name)) ⟨rfl, rfl, rfl, rfl, rfl, rfl, rfl, trivial⟩
        · exact Nat.le_trans (List.length_filter_le _ _) (by rw [len_rgI]; omega)
        · rw [fRow_len]
          have := mem_nextI hq
          omega
        · rw [List.map_map]
          rfl
    case e3 =>
      have : k = 0 := by simpa using hb
      subst this
      exact ⟨rfl, rfl, rfl, rfl, rfl, rfl, rfl, trivial⟩
    case e4 =>
      rw [cell_c]
      have : badAt S (k : Int) p = false := by simpa using hb
      rw [this]
      rfl
    case e5 =>
      rw [cell_c]
      have : badAt S (k : Int) p = true := by simpa using hb
      rw [this]
      rfl
    case e6 =>
      rw [len_rgI] at ha
      simp at ha
      omega
  · show some (some (PyData.list _)) = some (some (iD (fRow L S k)))
    rw [hrow]
  · intro z
    have := fRow_len L S k
    rw [List.map_eq_nil_iff.mp z] at this
    simp at this
    omega
  · rw [List.all_eq_true]
    intro d hd
    obtain ⟨r, _, rfl⟩ := List.mem_map.mp hd
    rfl
  · intro j d hj
    match j, hj with
    | 0, h => exact .inr ⟨by decide, h⟩
    | 1, h => exact .inr ⟨by decide, h⟩
    | 2, h => nomatch h
    | 3, h => exact .inr ⟨by decide, h⟩
    | 4, h => exact .inl ⟨rfl, by cases h; rfl⟩
    | 5, h => nomatch h
    | 6, h => nomatch h
    | 7, h => nomatch h
    | 8, h => nomatch h
    | 9, h => nomatch h
    | 10, h => nomatch h
    | _ + 11, h => simp at h
  · rw [List.length_map, fTab_len]
    omega
  · rw [fTab_succ, List.map_append]
    rfl
end
end SG
set_option Elab.async false
set_option linter.all false
set_option maxRecDepth 100000
set_option maxHeartbeats 4000000
namespace SG
open PySem PySem.Spec PyProof.Rows L2
structure ShOk (top many : Int) (a b : Nat) : Prop where
  g : Nat.gcd a b = 1
  b1 : 1 ≤ b
  dv : many % (b : Int) = 0
  tp : many / (b : Int) * (a : Int) = top
  le : (b : Int) ≤ many
theorem shr {top many : Int} (h0 : 0 ≤ top) (h1 : 0 < many) : ∃ a b : Nat, top / ((Nat.gcd top.toNat many.toNat : Nat) : Int) = (a : Int) ∧ many / ((Nat.gcd top.toNat many.toNat : Nat) : Int) = (b : Int) ∧ ShOk top many a b := by
  obtain ⟨A, hA⟩ : ∃ A : Nat, top = A := ⟨top.toNat, by omega⟩
  obtain ⟨B, hB⟩ : ∃ B : Nat, many = B := ⟨many.toNat, by omega⟩
  subst hA hB
  have hB0 : 0 < B := by omega
  have e1 : ((A : Int)).toNat = A := rfl
  have e2 : ((B : Int)).toNat = B := rfl
  rw [e1, e2]
  have gp : 0 < Nat.gcd A B := Nat.gcd_pos_of_pos_right A hB0
  have d1 : Nat.gcd A B ∣ A := Nat.gcd_dvd_left A B
  have d2 : Nat.gcd A B ∣ B := Nat.gcd_dvd_right A B
  have hb1 : 1 ≤ B / Nat.gcd A B := Nat.div_pos (Nat.le_of_dvd hB0 d2) gp
  refine ⟨A / Nat.gcd A B, B / Nat.gcd A B, rfl, rfl, (by rw [Nat.gcd_div d1 d2, Nat.div_self gp]), hb1, ?_, ?_, ?_⟩
  · have := Nat.mod_eq_zero_of_dvd (Nat.div_dvd_of_dvd d2)
    exact_mod_cast this
  · have h2 : B / (B / Nat.gcd A B) = Nat.gcd A B := Nat.div_div_self d2 (by omega)
    have h3 : B / (B / Nat.gcd A B) * (A / Nat.gcd A B) = A := by rw [h2, Nat.mul_div_cancel' d1]
    exact_mod_cast h3
  · have := Nat.div_le_self B (Nat.gcd A B)
    exact_mod_cast this
section
variable {P : Program} {w : World} {K : PySem.W.Frag} {mg : Str → Option Value} {base : Heap} {f cO : Addr} {fd : FuncData}
abbrev s__law_shares_right : Stmt := (top 53)
theorem sc__law_shares_right : FnScope ["_law_land_here", "_law_seen_here", "_law_tick", "_law_whole_here", "_law_tops", "_law_place", "_law_told", "_law_one", "_law_other"] ["_law_land_here", "_law_seen_here", "_law_tick", "_law_whole_here"] (defScope s__law_shares_right) := ⟨rfl, rfl, rfl, by decide +kernel, rfl, by decide +kernel, by decide +kernel⟩
def R_shares_right (ds : List PyData) (d : PyData) : Prop := ∃ (L : Land) (S : List (Int × Int)) (t : Int), GoodLand L ∧ OkS L S ∧ 0 ≤ t ∧ t ≤ L.l ∧ 0 < manyI L S ∧ ds = [landD L, sD S, .int t, .int (manyI L S)] ∧ d = .bool true
theorem ok_shares_right (F : FnP K "_law_shares_right" s__law_shares_right f fd) (G : Gi mg) (c_share : Cal P w K mg base (L2.CX P w) 8 "share" (spX K R_share (X_share cO))) (c__law_whole : Cal P w K mg base CX0 1 "_law_whole" (spD K R_whole)) (c__law_counts : Cal P w K mg base CX0 2 "_law_counts" (spD K R_counts)) : FnOk P w K mg base CX0 9 f fd ["_law_land_here", "_law_seen_here", "_law_tick", "_law_whole_here"] (spD K R_shares_right) := by
  refine okD F sc__law_shares_right (by rintro _ _ ⟨_, _, _, _, _, _, _, _, rfl, _⟩; rfl) fun cdv A outer s H E hr => ⟨_, (pss_cons (ps_set (i := 4) sc__law_shares_right.nd rfl (Or.inl rfl) (pe_lst pa_nil))
      (pss_cons (ps_for PassesOwn.never rfl (pi_range1 rfl G.b_range (pa_cons (pe_ix (ix_k (K := K) rfl) (pv 0) pe_int (fun _ _ => rfl)) pa_nil)) (pg_name (i := 5) sc__law_shares_right.nd rfl (Or.inl rfl))
        (pss_cons (ps_set (i := 6) sc__law_shares_right.nd rfl (Or.inl rfl) (pe_dX c_share hr (by decide) takes0 rfl (pa_cons (pv 0) (pa_cons (pv 1) (pa_cons (pv 5) (pa_cons (pv 2) pa_nil))))))
      (pss_cons (ps_if (PW.pt (pw_or (pt_not (pt_val (pe_callB (call_isik (K := K) rfl) rfl G.b_isinstance boot_isinstance (pa_cons (pv 6) (pa_cons (pe_ty (n := "tuple") rfl G.b_tuple (by decide +kernel)) pa_nil))))) (pw_or (pt_not (pt_val (pe_callB (cr_allk (K := K) rfl rfl) rfl G.b_all (by decide +kernel) (pa_cons (pe_lc (own := [("_law_one", 7)]) rfl sc__law_shares_right.nd (pi_tupk (K := K) rfl (pv 6)) (blkOk_by (N := ["_law_land_here", "_law_seen_here", "_law_tick", "_law_whole_here", "_law_tops", "_law_place", "_law_told", "_law_one", "_law_other"]) (sc := defScope s__law_shares_right) (by decide +kernel)) (fun _ _ _ _ _ => (pg_name (i := 7) sc__law_shares_right.nd rfl (Or.inl rfl))) (fun _ _ _ _ _ => pts_nil) (fun _ _ _ _ _ => (pe_d c__law_whole hr (by decide) rfl (pa_cons (pv 7) pa_nil)))) pa_nil)))) (pw_or1 (pt_cmpR (op_lt) (pe_ix (ix_k (K := K) rfl) (pv 6) pe_int (fun _ _ => rfl)) pe_int (nomark _)))))) (pss_one (ps_ret pe_bl)) pss_nil)
      (pss_cons (ps_asg (pv 6) (pg_tupk (K := K) (n := 2) rfl rfl (pgs_cons (pg_name (i := 7) sc__law_shares_right.nd rfl (Or.inl rfl)) (pgs_cons (pg_name (i := 8) sc__law_shares_right.nd rfl (Or.inl rfl)) pgs_nil))))
      (pss_cons (ps_while PassesOwn.never (pt_cmpR (op_gt) (pv 8) pe_int (nomark _))
        (pss_one (ps_par (i := 7) (j := 8) rfl sc__law_shares_right.nd rfl rfl (by decide) rfl rfl (pa_cons (pv 8) (pa_cons (pe_op op_mod (pv 7) (pv 8)) pa_nil)) rfl)))
      (pss_cons (ps_if (PW.pt (pw_or (pt_cmpR (op_nek (K := K) rfl hr.units) (pv 7) pe_int (nomark _)) (pw_or1 (pt_cmpR (op_nek (K := K) rfl hr.units) (pe_op op_mod (pv 3) (pe_ix (ix_k (K := K) rfl) (pv 6) pe_int (fun _ _ => rfl))) pe_int (nomark _))))) (pss_one (ps_ret pe_bl)) pss_nil)
      (pss_cons (ps_expr (pe_bm PySem.F.plainAttrs_list PySem.F.slot_list_append PySem.F.type_list_append mt_append (pv 4) (pa_cons (pe_op op_mul (pe_op op_fdivW (pv 3) (pe_ix (ix_k (K := K) rfl) (pv 6) pe_int (fun _ _ => rfl))) (pe_ix (ix_k (K := K) rfl) (pv 6) pe_int (fun _ _ => rfl))) pa_nil)))
      (pss_one (ps_if (pt_cmpR (op_nek (K := K) rfl hr.units) (pe_ix (ix_k (K := K) rfl) (pv 4) (pe_un un_neg pe_int) (fun _ _ => rfl)) (pe_callB (cr_sumk (K := K) rfl rfl) rfl G.b_sum (by decide +kernel) (pa_cons (pe_ix (ix_k (K := K) rfl) (pe_d c__law_counts hr (by decide) rfl (pa_cons (pv 0) (pa_cons (pe_op op_cat (pv 1) (pe_lst (pa_cons (pe_tup (pa_cons (pv 2) (pa_cons (pv 5) pa_nil))) pa_nil))) pa_nil))) (pe_un un_neg pe_int) (fun _ _ => rfl)) pa_nil)) (nomark _)) (pss_one (ps_ret pe_bl)) pss_nil)))))))))
      (pss_one (ps_ret (pe_cmpR (op_eqk (K := K) rfl hr.units) (pe_callB (cr_sumk (K := K) rfl rfl) rfl G.b_sum (by decide +kernel) (pa_cons (pv 4) pa_nil)) (pv 3) (nomark _)))))), ?_⟩
  rintro _ _ ⟨L, S, t, gl, ok, t0, t1, hm, rfl, rfl⟩
  have l1 := gl.l1
  have l10 := gl.l10
  have n1 := gl.n1
  have n7 := gl.n7
  have h8 := ok.len
  have ml := many_le gl S
  refine yr_own (ds := []) ya_nil (Nat.zero_le _) ?_ (Nat.le_of_ble_eq_true rfl)
  refine ymr_seq (ym_eq (ym_for (xs := rgI L.n) (slb := [6, 7, 8, 7, 8]) (ρw := [some (landD L), some (sD S), some (.int t), some (.int (manyI L S)), none, none, none, none, none]) (fun p => .int p) (fun k => ((rgI L.n).take k).map fun p => .int (manyI L (S ++ [(t, p)]))) (fun k p => _) ((yi_rng1 (n := L.n) (ya_cons (yd_op (yd_var (d := landD L) rfl) yd_int (rd_ixT rfl)) ya_nil) (by omega) (by omega)).eq map_rgI) ⟨rfl, rfl, rfl, rfl, trivial⟩ (by decide) (fun k p _ => yg_name) fun k p hp => ?_) (ds2 := ((rgI L.n).map fun p => manyI L (S ++ [(t, p)])).map .int) ?_) (ymr_settle (yr_ret (YD.eq (yd_op (yd_cb (ya_cons (yd_var rfl) ya_nil) rc_sum) (yd_var rfl) (rd_eqD rfl rfl)) ?_)))
  · have hpm : p ∈ rgI L.n := List.mem_of_getElem? hp
    obtain ⟨p0, p1⟩ := mem_rgI.mp hpm
    have tn : 0 ≤ topI L S p t := many_nn L _ (by omega)
    obtain ⟨a, b, ea, eb, so⟩ := shr tn hm
    have hb1 := so.b1
    have ble := so.le
    have hR : R_share [landD L, sD S, .int p, .int t] (.tuple [.int (a : Int), .int (b : Int)]) := ⟨L, S, p, t, gl, ok, p0, p1, t0, t1, hm, rfl, by unfold gcdI; rw [ea, eb]⟩
    obtain ⟨n, st, s0, s1, s2, s3⟩ := euclid b a
    have htp : topI L S p t = manyI L (S ++ [(t, p)]) := rfl
    refine ym_sub (ym_seq (ym_n (yn_asg (yd_callX (ya_cons (yd_var rfl) (ya_cons (yd_var rfl) (ya_cons (yd_var rfl) (ya_cons (yd_var rfl) ya_nil)))) hR) yg_name) (by decide)) (ym_seq (ym_n (yn_ifF (YT.eq (yt_or (yt_not (yt_B (yd_isi (yd_var rfl) (kit_tuple _)))) fun _ => yt_or (yt_not (yt_B (yd_all (xs := [PyData.int (a : Int), .int (b : Int)]) (p := fun y => isNum y) (yd_lc0 (fun d => d) (fun y => .bool (isNum y)) (fun d => _) ((yi_tup (yd_var rfl)).eq (List.map_id' _).symm) (Nat.le_of_ble_eq_true rfl) (by decide) (fun d _ => yg_name) fun d _ => yd_call (ya_cons (yd_var rfl) ya_nil) ⟨_, rfl, rfl⟩)))) fun _ => yt_test (yd_op (yd_op (yd_var rfl) yd_int (rd_ixT (d := .int (b : Int)) rfl)) yd_int rd_B0)) ?e1) yn_next) (by decide)) (ym_seq (ym_n (yn_asg (yd_var rfl) (yg_tup (ygs_cons yg_name (ygs_cons yg_name ygs_nil)) rfl)) (by decide)) (ym_seq (ym_n (yn_while (n := n) (st := fun k => [some (landD L), some (sD S), some (.int t), some (.int (manyI L S)), none, some (.int p), some (.tuple [.int (a : Int), .int (b : Int)]), some (.int ((st k).1 : Nat)), some (.int ((st k).2 : Nat))]) (by rw [s0]; exact ⟨rfl, rfl, rfl, rfl, rfl, rfl, rfl, rfl, trivial⟩) (fun k hk => YT.eq (yt_test (yd_op (yd_var rfl) yd_int rd_B0)) ?e2) (fun k hk => yn_sub (yn_par (ya_cons (yd_var rfl) (ya_cons (yd_op (yd_var rfl) (yd_var rfl) (rd_I ?e3)) ya_nil))) ?e4) (YT.eq (yt_test (yd_op (yd_var rfl) yd_int rd_B0)) ?e5)) (by decide)) (ym_seq (ym_n (yn_ifF (YT.eq (yt_or (YT.eq (yt_test (yd_op (yd_var rfl) yd_int (rd_neD rfl rfl))) (b' := false) ?e6) fun _ => YT.eq (yt_test (yd_op (yd_op (yd_var rfl) (yd_op (yd_var (d := .tuple [.int (a : Int), .int (b : Int)]) rfl) yd_int (rd_ixT (d := .int (b : Int)) rfl)) (rd_I ?e7)) yd_int (rd_neD rfl rfl))) (b' := false) ?e8) rfl) yn_next) (by decide)) (ym_seq (ym_app (d := .int (manyI L (S ++ [(t, p)]))) (YD.eq (yd_op (yd_op (yd_var rfl) (yd_op (yd_var (d := .tuple [.int (a : Int), .int (b : Int)]) rfl) yd_int (rd_ixT (d := .int (b : Int)) rfl)) (rd_I (cdivW ?e9 ?e10))) (yd_op (yd_var (d := .tuple [.int (a : Int), .int (b : Int)]) rfl) yd_int (rd_ixT (d := .int (a : Int)) rfl)) (rd_I ?e11)) ?e12) ?e13) (ym_if (b := false) (sl := []) (sl2 := []) (YT.eq (yt_test (yd_op (yd_op (yd_var rfl) (yd_un yd_int ru_neg) (rd_ixL atI_snoc)) (yd_cb (ya_cons (yd_op (yd_call (ya_cons (yd_var rfl) (ya_cons (yd_op (yd_var (d := sD S) rfl) (yd_lst (ya_cons (yd_tup (ya_cons (yd_var rfl) (ya_cons (yd_var rfl) ya_nil)) (Nat.le_of_ble_eq_true rfl)) ya_nil) (Nat.le_of_ble_eq_true rfl)) (rd_cat ?e14)) ya_nil)) ⟨L, S ++ [(t, p)], gl, ?e15, ?e16, rfl⟩) (yd_un yd_int ru_neg) (rd_ixL (d := iD (fRow L (S ++ [(t, p)]) L.l.toNat)) ?e17)) ya_nil) rc_sum) (rd_neD rfl rfl))) ?e18) (fun h => nomatch h) (fun _ => ym_eq ym_next ?e19)))))))) ⟨rfl, rfl, rfl, rfl, trivial⟩
    case e1 =>
      show (false || (false || decide ((b : Int) < 1))) = false
      rw [decide_eq_false (by omega)]
      rfl
    case e2 =>
      have := (s1 k hk).1
      exact decide_eq_true (by show (0 : Int) < ((st k).2 : Int); omega)
    case e3 =>
      have := (s1 k hk).1
      show (0 : Int) < ((st k).2 : Int)
      omega
    case e4 =>
      rw [(s1 k hk).2]
      exact ⟨rfl, rfl, rfl, rfl, rfl, rfl, rfl, rfl, trivial⟩
    case e5 =>
      rw [s2]
      rfl
    case e6 =>
      rw [s3, so.g]
      rfl
    case e7 =>
      show (0 : Int) < (b : Int)
      omega
    case e8 =>
      rw [so.dv]
      rfl
    case e9 => omega
    case e10 => omega
    case e11 =>
      refine .inl ⟨?_, ?_⟩
      · have : 0 ≤ manyI L S / (b : Int) := Int.ediv_nonneg (by omega) (by omega)
        omega
      · have : manyI L S / (b : Int) ≤ manyI L S := Int.ediv_le_self _ (by omega)
        omega
    case e12 => rw [so.tp, htp]
    case e13 =>
      rw [List.length_map, List.length_take, len_rgI]
      omega
    case e14 =>
      rw [List.length_map]
      show S.length + 1 ≤ 100000
      omega
    case e15 =>
      rw [List.length_append]
      show S.length + 1 ≤ 50000
      omega
    case e16 =>
      unfold sD
      rw [List.map_append]
      rfl
    case e17 =>
      have e : (L.l + 1).toNat = L.l.toNat + 1 := by omega
      rw [e]
      exact tab_last L _ _
    case e18 =>
      rw [fwd_sum L _ l1, eqv_ii, decide_eq_true rfl]
      rfl
    case e19 =>
      rw [List.take_add_one, hp, List.map_append]
      rfl
  · rw [List.take_of_length_le (Nat.le_refl _), List.map_map]
    rfl
  · rw [many_parts L S l1 t0 t1, eqv_ii, decide_eq_true rfl]
end
end SG
set_option Elab.async false
set_option linter.all false
set_option maxRecDepth 100000
set_option maxHeartbeats 4000000
namespace SG
open PySem PySem.Spec PyProof.Rows L2
theorem pss_ex {X : Cx} {α : Type} {Pp : α → Prop} {T : α → TS} {sts : List Stmt} (h : ∀ x, Pp x → PSs X sts (T x)) : PSs X sts (fun D σ H => ∃ x, Pp x ∧ T x D σ H) := ⟨fun pins s σ H D I ⟨x, px, hx⟩ => (h x px).run pins s σ H D I hx⟩
/-- a def by its name where what is raised is wished for at the slots -/
theorem pe_dS {X : Cx} {k j : Nat} {x : Str} {sp : Sp} {E : L2.St → XK} {e : Expr} {es : List Expr} {t : TA} {p pos : Pos} (c : Cal X.prog X.w X.K X.mg X.base (L2.CX X.prog X.w) k x sp) (hr : Room j X.A) (hk : k ≤ j) (hx : ∀ σ, PassesAt (L2.CX X.prog X.w) X σ (E σ)) (hg : Gl X x) (ha : PA X (e :: es) t)
    (hd : (x == ("__debug__" : Str)) = false := by decide) (he : starEach (e :: es) X.env = (false, eval e X.env) :: starEach es X.env := by rfl) (hpl : ((backTo pos (starEach es X.env)).any fun x => x.fst) = false := by rfl) : PE X (.Call (.Name x p) (e :: es) [] pos) (tCallS sp E t) := by
  obtain ⟨f, fd, ps, F, hm, hkp, hb⟩ := c.ex
  exact pe_callS (F.mono hk) hr hg hm hkp hb hx ha hd he hpl
theorem drop_callS {K : PySem.W.Frag} {sp : Sp} {E : L2.St → XK} {ta : TA} {ρ : Rho} {ds : List PyData} {σ : L2.St} {Hs H : Hp} {D : Ends} (h : YA K ta ρ ds) (e : EnvD K Hs σ ρ) (s : Same Hs H) (k : ∀ vs Hs2 H2, Gr Hs H Hs2 H2 → RpAll K Hs2 vs ds → sp vs H2 (fun _ H' => D.nx σ H') (E σ)) : tDrop (tCallS sp E ta) D σ H := h σ Hs H e s _ k
/-- the suite: which of two classes it is of -/
def tTwo (K : PySem.W.Frag) (i j : Nat) (c1 c2 D a : Addr) : TS := tAsg (tLst (tCons (tCB (rIsE K D a) (tCons (tVar i) (tCons (tC (.ref c1)) tNil))) (tCons (tCB (rIsE K D a) (tCons (tVar i) (tCons (tC (.ref c2)) tNil))) tNil))) (gName j)
def tTwoEnd (K : PySem.W.Frag) (j : Nat) : TS := tRet (tOp (rEqD K) (tVar j) (tLst (tCons (tC (.bl true)) (tCons (tC (.bl false)) tNil))))
section
variable {K : PySem.W.Frag} {cS c1 c2 : Addr} {i j : Nat} {σ : L2.St} {ρ : Rho} {Hs H Hs2 H2 : Hp} {Q : VK}
/-- behind the raise of c1: True is given back -/
theorem two_ok (ec : ExcC K c1) (k1 : PySem.W.kitOne K (.ref c1) (.ref c1) = some true) (k2 : PySem.W.kitOne K (.ref c1) (.ref c2) = some false) (ex : PySem.W.exmOne K (.ref c1) (.ref cS) = some true) (hij : i ≠ j) (hi : i < ρ.length) (hj : j < ρ.length)
    (e : EnvD K Hs σ ρ) (g : Gr Hs H Hs2 H2) (q : ∀ Hs2 H2, Gr Hs H Hs2 H2 → Q (.bl true) H2) :
    wAs K (.ref cS) i (fun a cls d D σ H => ∃ Dx, (cls = .ref Dx ∧ d = none ∧ ExcC K Dx) ∧ tTwo K i j c1 c2 Dx a D σ H) (fun _ _ _ _ => False) { nx := tTwoEnd K j { nx := fun _ H' => Q .non H', rt := Q }, rt := Q } (.ref c1) none σ H2 := by
  refine ⟨true, ex, fun _ a ha => ⟨c1, ⟨rfl, rfl, ec⟩, ?_⟩, fun z => nomatch z⟩
  have l0 : σ.length = ρ.length := e.1
  have s2 : (σ.set i (some (.ref a)))[i]? = some (some (.ref a)) := List.getElem?_set_self (by omega)
  refine ⟨.ref a, s2, .ref c1, .ref c1, _, rfl, (fun u r => r), k1, .ref a, s2, .ref c2, .ref c2, _, rfl, (fun u r => r), k2, by show 2 ≤ sizeLine; decide, fun pl hpl => ?_⟩
  have g3 := Gr.new (o := .lst [.bl true, .bl false]) g.c hpl
  have rl : Rp K _ (.ref pl) (.list [.bool true, .bool false]) := rp_lst (K := K) (H := H2) (same_none g.c hpl) (.cons (.bl _) (.cons (.bl _) .nil))
  have e3 := ((((e.mono g.a).mono g3.a).del (x := some (.ref a)) i).set j rl).del (x := none) i
  have hv : (((ρ.set i none).set j (some (.list [.bool true, .bool false]))).set i none)[j]? = some (some (.list [.bool true, .bool false])) := by
    rw [List.getElem?_set_ne hij, List.getElem?_set_self (by rw [List.length_set]; exact hj)]
  exact (yr_ret (yd_op (yd_var hv) (yd_lst (ya_cons yd_bl (ya_cons yd_bl ya_nil)) (Nat.le_of_ble_eq_true rfl)) (rd_eqD rfl rfl)) : YR K (tTwoEnd K j) _ _) _ _ _ e3 g3.c _ fun u Hs4 H4 g4 r4 => by
    cases r4
    exact q Hs4 H4 ((g.trans g3).trans g4)
end
section
variable {P : Program} {w : World} {K : PySem.W.Frag} {mg : Str → Option Value} {base : Heap} {f cS cO cN cQ : Addr} {fd : FuncData}
abbrev s__law_refused : Stmt := (top 51)
theorem sc__law_refused : FnScope ["_law_land_here", "_law_seen_here", "_law_sorts", "error"] ["_law_land_here", "_law_seen_here"] (defScope s__law_refused) := ⟨rfl, rfl, rfl, by decide +kernel, rfl, by decide +kernel, by decide +kernel⟩
def R_refused (ds : List PyData) (d : PyData) : Prop := ∃ (L : Land) (S : List (Int × Int)), GoodLand L ∧ OkS L S ∧ manyI L S = 0 ∧ ds = [landD L, sD S] ∧ d = .bool true
theorem ok_refused (F : FnP K "_law_refused" s__law_refused f fd) (G : Gi mg) (xS : mg "SightError" = some (.ref cS)) (x_NoWalk : Xc K mg "NoWalk" cO) (x_BadSightings : Xc K mg "BadSightings" cQ) (ec : ExcC K cO) (k1 : PySem.W.kitOne K (.ref cO) (.ref cO) = some true) (k2 : PySem.W.kitOne K (.ref cO) (.ref cQ) = some false) (ex : PySem.W.exmOne K (.ref cO) (.ref cS) = some true)
    (c_share : Cal P w K mg base (L2.CX P w) 8 "share" (spX K R_share (X_share cO))) : FnOk P w K mg base CX0 9 f fd ["_law_land_here", "_law_seen_here"] (spD K R_refused) := by
  refine okD F sc__law_refused (by rintro _ _ ⟨_, _, _, _, _, rfl, _⟩; rfl) fun cdv A outer s H E hr => ⟨_, PSs.nox (pss_cons (ps_set (i := 2) sc__law_refused.nd rfl (Or.inl rfl) (pe_lst pa_nil)) (pss_cons (ps_try_as (i := 3) (c := .ref cS) (ts := fun a cls d D σ H => ∃ Dx, (cls = .ref Dx ∧ d = none ∧ ExcC K Dx) ∧ tTwo K 3 2 cO cQ Dx a D σ H) rfl rfl sc__law_refused.nd rfl rfl ⟨rfl, by decide, .inl xS⟩ takes0
      (fun W pn xe tk _ => pss_one (ps_expr (pe_dS (E := WE W) c_share hr (by decide) (fun σ => passAt tk σ) rfl (pa_cons (pv 0) (pa_cons (pv 1) (pa_cons pe_int (pa_cons pe_int pa_nil)))))))
      (fun a oe cls d pn hz hf => pss_ex fun Dx hD => by
        obtain ⟨rfl, rfl, ec⟩ := hD
        exact pss_one (ps_set (i := 2) sc__law_refused.nd rfl (Or.inl rfl) (pe_lst (pa_cons (pe_callB (call_isE ec hz hf) rfl G.b_isinstance boot_isinstance (pa_cons (pv 3) (pa_cons (pe_glob rfl x_NoWalk.mg rfl) pa_nil))) (pa_cons (pe_callB (call_isE ec hz hf) rfl G.b_isinstance boot_isinstance (pa_cons (pv 3) (pa_cons (pe_glob rfl x_BadSightings.mg rfl) pa_nil))) pa_nil)))))) (pss_one (ps_ret (pe_cmpR (op_eqk (K := K) rfl hr.units) (pv 2) (pe_lst (pa_cons pe_bl (pa_cons pe_bl pa_nil))) (nomark _)))))), ?_⟩
  rintro _ _ ⟨L, S, gl, ok, hm, rfl, rfl⟩
  have l1 := gl.l1
  have n1 := gl.n1
  intro σ Hs H e s D q
  refine (yn_asg (yd_lst ya_nil (Nat.zero_le _)) yg_name : YN K _ _ _ _) σ Hs H e s _ fun σ1 Hs1 H1 g1 e1 n1 => ?_
  dsimp only [tSeq]
  refine drop_callS (ds := [landD L, sD S, .int 0, .int 0]) (ya_cons (yd_var rfl) (ya_cons (yd_var rfl) (ya_cons yd_int (ya_cons yd_int ya_nil)))) e1 g1.c fun vs Hs2 H2 g2 rv => ?_
  refine ⟨_, Hs2, g2.c, rv, .inr ⟨cO, ⟨L, S, 0, 0, gl, ok, Int.le_refl _, by omega, Int.le_refl _, by omega, hm, rfl, rfl⟩, fun Hs3 H3 g3 => ?_⟩⟩
  exact two_ok (Q := D.rt) ec k1 k2 ex (by decide) (Nat.le_of_ble_eq_true rfl) (Nat.le_of_ble_eq_true rfl) e1 (g2.trans g3) fun Hs4 H4 g4 => q _ Hs4 H4 (g1.trans g4) (.bl true)
abbrev s__law_beyond : Stmt := (top 52)
theorem sc__law_beyond : FnScope ["_law_land_here", "_law_seen_here", "_law_number", "_law_sorts", "error"] ["_law_land_here", "_law_seen_here", "_law_number"] (defScope s__law_beyond) := ⟨rfl, rfl, rfl, by decide +kernel, rfl, by decide +kernel, by decide +kernel⟩
def R_beyond (ds : List PyData) (d : PyData) : Prop := ∃ (L : Land) (S : List (Int × Int)) (x : Int), GoodLand L ∧ OkS L S ∧ (x < 0 ∨ manyI L S ≤ x) ∧ ds = [landD L, sD S, .int x] ∧ d = .bool true
theorem ok_beyond (F : FnP K "_law_beyond" s__law_beyond f fd) (G : Gi mg) (xS : mg "SightError" = some (.ref cS)) (x_BadNumber : Xc K mg "BadNumber" cN) (x_BadSightings : Xc K mg "BadSightings" cQ) (ec : ExcC K cN) (k1 : PySem.W.kitOne K (.ref cN) (.ref cN) = some true) (k2 : PySem.W.kitOne K (.ref cN) (.ref cQ) = some false) (ex : PySem.W.exmOne K (.ref cN) (.ref cS) = some true)
    (c_walk_by : Cal P w K mg base (L2.CX P w) 8 "walk_by" (spFX K R_walk_by (X_walk_by cN))) : FnOk P w K mg base CX0 9 f fd ["_law_land_here", "_law_seen_here", "_law_number"] (spD K R_beyond) := by
  refine okD F sc__law_beyond (by rintro _ _ ⟨_, _, _, _, _, _, rfl, _⟩; rfl) fun cdv A outer s H E hr => ⟨_, PSs.nox (pss_cons (ps_set (i := 3) sc__law_beyond.nd rfl (Or.inl rfl) (pe_lst pa_nil)) (pss_cons (ps_try_as (i := 4) (c := .ref cS) (ts := fun a cls d D σ H => ∃ Dx, (cls = .ref Dx ∧ d = none ∧ ExcC K Dx) ∧ tTwo K 4 3 cN cQ Dx a D σ H) rfl rfl sc__law_beyond.nd rfl rfl ⟨rfl, by decide, .inl xS⟩ takes0
      (fun W pn xe tk _ => pss_one (ps_expr (pe_dS (E := WE W) c_walk_by hr (by decide) (fun σ => passAt tk σ) rfl (pa_cons (pv 0) (pa_cons (pv 1) (pa_cons (pv 2) pa_nil))))))
      (fun a oe cls d pn hz hf => pss_ex fun Dx hD => by
        obtain ⟨rfl, rfl, ec⟩ := hD
        exact pss_one (ps_set (i := 3) sc__law_beyond.nd rfl (Or.inl rfl) (pe_lst (pa_cons (pe_callB (call_isE ec hz hf) rfl G.b_isinstance boot_isinstance (pa_cons (pv 4) (pa_cons (pe_glob rfl x_BadNumber.mg rfl) pa_nil))) (pa_cons (pe_callB (call_isE ec hz hf) rfl G.b_isinstance boot_isinstance (pa_cons (pv 4) (pa_cons (pe_glob rfl x_BadSightings.mg rfl) pa_nil))) pa_nil)))))) (pss_one (ps_ret (pe_cmpR (op_eqk (K := K) rfl hr.units) (pv 3) (pe_lst (pa_cons pe_bl (pa_cons pe_bl pa_nil))) (nomark _)))))), ?_⟩
  rintro _ _ ⟨L, S, x, gl, ok, hx, rfl, rfl⟩
  have hw : numIn (.int x) 0 (manyI L S - 1) = false := by
    simp [numIn]
    omega
  intro σ Hs H e s D q
  refine (yn_asg (yd_lst ya_nil (Nat.zero_le _)) yg_name : YN K _ _ _ _) σ Hs H e s _ fun σ1 Hs1 H1 g1 e1 n1 => ?_
  dsimp only [tSeq]
  refine drop_callS (ds := [landD L, sD S, .int x]) (ya_cons (yd_var rfl) (ya_cons (yd_var rfl) (ya_cons (yd_var rfl) ya_nil))) e1 g1.c fun vs Hs2 H2 g2 rv => ?_
  refine ⟨_, Hs2, g2.c, rv, .inr ⟨cN, ⟨L, S, .int x, gl, ok, hw, rfl, rfl⟩, fun Hs3 H3 g3 => ?_⟩⟩
  exact two_ok (Q := D.rt) ec k1 k2 ex (by decide) (Nat.le_of_ble_eq_true rfl) (Nat.le_of_ble_eq_true rfl) e1 (g2.trans g3) fun Hs4 H4 g4 => q _ Hs4 H4 (g1.trans g4) (.bl true)
end
end SG
set_option Elab.async false
set_option linter.all false
set_option maxRecDepth 100000
set_option maxHeartbeats 4000000
namespace SG
open PySem PySem.Spec PyProof.Rows L2
/-- a copy of a land: its list may still change -/
def spCopied (K : PySem.W.Frag) : Sp := fun vs H Q _ => ∃ (Hs : Hp) (L : Land) (v : V), vs = [v] ∧ Same Hs H ∧ Rp K Hs v (landD L) ∧ L.ws.length ≤ 100 ∧
  ∀ t q us Hs2 H2, Gr Hs H Hs2 H2 → H q = none → Hs2 q = none → H2 t = some (.tup [.int L.n, .ref q, .int L.l]) → Hs2 t = none → H2 q = some (.lst us) → RpAll K Hs2 us (L.ws.map dP) → Q (.ref t) H2
section
variable {P : Program} {w : World} {K : PySem.W.Frag} {mg : Str → Option Value} {base : Heap} {f : Addr} {fd : FuncData}
abbrev s__law_copied : Stmt := (top 49)
theorem sc__law_copied : FnScope ["_law_land_here"] ["_law_land_here"] (defScope s__law_copied) := ⟨rfl, rfl, rfl, by decide +kernel, rfl, by decide +kernel, by decide +kernel⟩
theorem ok_copied (F : FnP K "_law_copied" s__law_copied f fd) (G : Gi mg) : FnOk P w K mg base CX0 1 f fd ["_law_land_here"] (spCopied K) := by
  refine F.ok sc__law_copied (fun vs H Q E h => ?_) (fun cdv A outer s H vs Q E hr h => ⟨_, (pss_one (ps_ret (pe_tup (pa_cons (pe_ix (ix_k (K := K) rfl) (pv 0) pe_int (fun _ _ => rfl)) (pa_cons (pe_callTy (call_listk (K := K) rfl) rfl G.b_list (by decide +kernel) (pa_cons (pe_ix (ix_k (K := K) rfl) (pv 0) pe_int (fun _ _ => rfl)) pa_nil)) (pa_cons (pe_ix (ix_k (K := K) rfl) (pv 0) pe_int (fun _ _ => rfl)) pa_nil)))))), ?_⟩)
  · obtain ⟨Hs, L, v, rfl, _⟩ := h
    rfl
  · obtain ⟨Hs, L, v, rfl, hs, rv, hl, q⟩ := h
    have e : EnvD K Hs (L2.start ["_law_land_here"] [v]) [some (landD L)] := env_some rv env_nil
    generalize L2.start ["_law_land_here"] [v] = σ at e ⊢
    refine (yd_op (yd_var rfl) yd_int (rd_ixT rfl) : YD K _ _ (.int L.n)) σ Hs H e hs _ fun v1 Hs1 H1 g1 r1 => ?_
    cases r1
    refine (yd_op (yd_var rfl) yd_int (rd_ixT rfl) : YD K _ _ (.list (L.ws.map dP))) σ Hs1 H1 (e.mono g1.a) g1.c _ fun v2 Hs2 H2 g2 r2 => ?_
    cases r2 with
    | @lst al us _ h2 ra =>
      refine ⟨_, _, rfl, .inl (sqL_mono g2.c h2), fun ql hql => ?_⟩
      have G2 := g1.trans g2
      have g3 : Gr Hs2 H2 Hs2 (upd H2 ql (.lst us)) := Gr.fresh g2.c hql
      refine (yd_op (yd_var rfl) yd_int (rd_ixT rfl) : YD K _ _ (.int L.l)) σ Hs2 _ (e.mono G2.a) g3.c _ fun v4 Hs4 H4 g4 r4 => ?_
      cases r4
      refine ⟨by show 3 ≤ sizeLine; decide, fun t ht => ?_⟩
      have hq4 : H4 ql = some (.lst us) := g4.b _ _ upd_same
      have ntq : ql ≠ t := ne_of_none hq4 ht
      refine q t ql _ Hs4 _ (((G2.trans g3).trans g4).trans (Gr.fresh g4.c ht)) (same_none G2.b hql) (g4.d _ (by rw [upd_same]; trivial) (same_none g2.c hql)) upd_same (same_none g4.c ht) (by rw [upd_ne ntq]; exact hq4) (ra.mono g4.a)
end
/-! ### a copied land and copied sightings, which may change -/
structure HM (K : PySem.W.Frag) (i j : Nat) (t q m : Addr) (L : Land) (S : List (Int × Int)) (σ : L2.St) (Hs H : Hp) : Prop where
  si : σ[i]? = some (some (.ref t))
  sj : σ[j]? = some (some (.ref m))
  ht : Hs t = some (.tup [.int L.n, .ref q, .int L.l])
  nq : Hs q = none
  nm : Hs m = none
  ne : q ≠ m
  lq : ∃ us, H q = some (.lst us) ∧ RpAll K Hs us (L.ws.map dP)
  lm : ∃ us, H m = some (.lst us) ∧ RpAll K Hs us (S.map dP)
section
variable {K : PySem.W.Frag} {i j a b : Nat} {t q m : Addr} {L : Land} {S : List (Int × Int)} {σ σ2 : L2.St} {Hs H Hs2 H2 : Hp} {ρ : Rho} {D : Ends} {E : XK}
theorem HM.gr (w : HM K i j t q m L S σ Hs H) (g : Gr Hs H Hs2 H2) (h1 : σ2[i]? = σ[i]?) (h2 : σ2[j]? = σ[j]?) : HM K i j t q m L S σ2 Hs2 H2 := by
  obtain ⟨si, sj, ht, nq, nm, ne, ⟨us, lq, rq⟩, ⟨vs, lm, rm⟩⟩ := w
  exact ⟨h1.trans si, h2.trans sj, g.a _ _ ht, g.d q (by rw [lq]; trivial) nq, g.d m (by rw [lm]; trivial) nm, ne, ⟨us, g.b _ _ lq, rq.mono g.a⟩, ⟨vs, g.b _ _ lm, rm.mono g.a⟩⟩
theorem set_self {σ : L2.St} {i : Nat} {v : Option V} (h : σ[i]? = some v) : σ.set i v = σ := by
  apply List.ext_getElem?
  intro k
  by_cases hk : k = i
  · subst hk
    rw [List.getElem?_set_self (List.getElem?_eq_some_iff.mp h).1, h]
  · rw [List.getElem?_set_ne (Ne.symm hk)]
theorem HM.look (w : HM K i j t q m L S σ Hs H) (e : EnvD K Hs σ ρ) (s : Same Hs H) : ∃ Hv, Same Hs Hv ∧ Same Hv H ∧ EnvD K Hv σ ((ρ.set i (some (landD L))).set j (some (sD S))) := by
  obtain ⟨si, sj, ht, nq, nm, ne, ⟨us, lq, rq⟩, ⟨vs, lm, rm⟩⟩ := w
  have s1 : Same Hs (upd Hs q (.lst us)) := same_new nq
  have nm1 : (upd Hs q (.lst us)) m = none := by rw [upd_ne (Ne.symm ne)]; exact nm
  have s2 : Same (upd Hs q (.lst us)) (upd (upd Hs q (.lst us)) m (.lst vs)) := same_new nm1
  refine ⟨upd (upd Hs q (.lst us)) m (.lst vs), s1.trans s2, same_own (same_own s lq) lm, ?_⟩
  have r1 : Rp K (upd (upd Hs q (.lst us)) m (.lst vs)) (.ref t) (landD L) := .tup (s2 _ _ (s1 _ _ ht)) (.cons (.int _) (.cons (.lst (s2 _ _ upd_same) (rq.mono (s1.trans s2))) (.cons (.int _) .nil)))
  have r2 : Rp K (upd (upd Hs q (.lst us)) m (.lst vs)) (.ref m) (sD S) := .lst upd_same (rm.mono (s1.trans s2))
  have e2 := ((e.mono (s1.trans s2)).set i r1).set j r2
  rw [set_self si, set_self sj] at e2
  exact e2
theorem hm_make (e : EnvD K Hs σ ρ) (s : Same Hs H) (ha : ρ[a]? = some (some (landD L))) (hb : ρ[b]? = some (some (sD S))) (hl : L.ws.length ≤ 100) (hi : i < ρ.length) (hj : j < ρ.length) (hij : i ≠ j)
    (k : ∀ t q m σ2 Hs2 H2, Gr Hs H Hs2 H2 → H q = none → H m = none → EnvD K Hs2 σ2 ((ρ.set i none).set j none) → HM K i j t q m L S σ2 Hs2 H2 → D.nx σ2 H2) : tPar i j (tCons (tCall (spCopied K) [] E (tCons (tVar a) tNil)) (tCons (tCB (rListS K) (tCons (tVar b) tNil)) tNil)) D σ H := by
  obtain ⟨va, h1, ra⟩ := e.2 a _ ha
  refine ⟨va, h1, Hs, L, va, rfl, s, ra, hl, fun t q us Hs1 H1 g1 fq nq ht nt lq rq => ?_⟩
  have g2 := Gr.tup g1.c ht
  obtain ⟨vb, h2, rb⟩ := e.2 b _ hb
  refine ⟨vb, h2, ?_⟩
  have rb2 := (rb.mono g1.a).mono g2.a
  cases rb2 with
  | @lst al xs _ hs rs =>
    refine ⟨_, _, rfl, .inl (sqL_mono g2.c hs), fun m hm => ⟨_, _, rfl, ?_⟩⟩
    have g3 := Gr.fresh (o := .lst xs) g2.c hm
    have G := (g1.trans g2).trans g3
    have nqm : q ≠ m := ne_of_none lq hm
    have hl0 : σ.length = ρ.length := e.1
    refine k t q m _ _ _ G fq (same_none g1.b hm) (((e.mono G.a).del (x := some (.ref t)) i).del (x := some (.ref m)) j) ⟨?_, List.getElem?_set_self (by rw [List.length_set]; omega), upd_same, ?_, same_none g2.c hm, nqm, ⟨us, ?_, rq.mono g2.a⟩, ⟨_, upd_same, rs⟩⟩
    · rw [List.getElem?_set_ne (Ne.symm hij), List.getElem?_set_self (by omega)]
    · rw [upd_ne (ne_of lq ht (fun z => nomatch z))]
      exact nq
    · rw [upd_ne nqm]
      exact lq
/-- handed[1].clear() -/
theorem hm_clearQ (w : HM K i j t q m L S σ Hs H) (k : HM K i j t q m ⟨L.n, [], L.l⟩ S σ Hs (upd H q (.lst [])) → D.nx σ (upd H q (.lst []))) (s : Same Hs H) : tDrop (tBM0 K "list" rClear (tOp (rIx K) (tVar i) (tC (.int 1)))) D σ H := by
  obtain ⟨si, sj, ht, nq, nm, ne, ⟨us, lq, rq⟩, ⟨vs, lm, rm⟩⟩ := w
  refine ⟨.ref t, si, .inr (.inl ⟨t, _, 1, .ref q, rfl, rfl, sqT_mono s ht, rfl, .inl ⟨rfl, us, .inl (.inl lq)⟩, q, us, rfl, rfl, lq, k ⟨si, sj, ht, nq, nm, ne, ⟨[], upd_same, .nil⟩, ⟨vs, ?_, rm⟩⟩⟩)⟩
  rw [upd_ne (Ne.symm ne)]
  exact lm
/-- mine.clear() -/
theorem hm_clearM (w : HM K i j t q m L S σ Hs H) (k : HM K i j t q m L [] σ Hs (upd H m (.lst [])) → D.nx σ (upd H m (.lst []))) : tDrop (tBM0 K "list" rClear (tVar j)) D σ H := by
  obtain ⟨si, sj, ht, nq, nm, ne, ⟨us, lq, rq⟩, ⟨vs, lm, rm⟩⟩ := w
  refine ⟨.ref m, sj, .inl ⟨rfl, vs, .inl (.inl lm)⟩, m, vs, rfl, rfl, lm, k ⟨si, sj, ht, nq, nm, ne, ⟨us, ?_, rq⟩, ⟨[], upd_same, .nil⟩⟩⟩
  rw [upd_ne ne]
  exact lq
end
end SG
set_option Elab.async false
set_option linter.all false
set_option maxRecDepth 100000
set_option maxHeartbeats 4000000
namespace SG
open PySem PySem.Spec PyProof.Rows L2
theorem shp_land (L : Land) : SeqAt.shaped (landD L) = true := by
  refine shp ?_ ?_
  · show (true && (PyData.canLayAll0 (L.ws.map dP) && (true && true))) = true
    rw [lay_pairs]
    rfl
  · show max 0 (max (PyData.depthAll (L.ws.map dP) + 1) (max 0 0)) + 1 ≤ 64
    have := depth_pairs L.ws
    omega
theorem eqv_sh {d : PyData} (h : SeqAt.shaped d = true) : PyData.eqv d d = true := PySem.SeqAt.eqv_refl d (SeqAt.canLay_of_shaped h)
theorem cnt_last {L : Land} {S : List (Int × Int)} (gl : GoodLand L) : atI ((fTab L S (L.l + 1).toNat).map iD) (-1) = some (iD (fRow L S L.l.toNat)) := by
  have l1 := gl.l1
  have e : (L.l + 1).toNat = L.l.toNat + 1 := by omega
  rw [e]
  exact tab_last L S _
theorem nb_wlk {L : Land} {S : List (Int × Int)} (gl : GoodLand L) {x : Int} (h0 : 0 ≤ x) (h1 : x < manyI L S) : nbI L (tabI L S) (rgI L.n) (wlkI L S x) = x := by
  have l1 := gl.l1
  exact nb_run L S (L.l + 1).toNat (rgI L.n) x (rgI_inc _) (fun c hc => mem_rgI.mp hc) h0 (by rw [← many_all L S (by omega)]; exact h1)
def numsI (m v : Int) : List Int := rgI (min m 12) ++ sdI [m - 1, v % m, v / 7 % m]
theorem nums_rg {m v x : Int} (hm : 0 < m) (h : x ∈ numsI m v) : 0 ≤ x ∧ x < m := by
  rcases List.mem_append.mp h with h | h
  · have := mem_rgI.mp h
    omega
  · have h := mem_sdI.mp h
    have a1 := Int.emod_nonneg v (show m ≠ 0 by omega)
    have a2 := Int.emod_lt_of_pos v hm
    have b1 := Int.emod_nonneg (v / 7) (show m ≠ 0 by omega)
    have b2 := Int.emod_lt_of_pos (v / 7) hm
    simp at h
    rcases h with rfl | rfl | rfl <;> omega
def lastD (L : Land) (S : List (Int × Int)) (ns : List Int) : Nat → PyData
  | 0 => .none
  | k + 1 => .tuple [.int (ns.getD k 0), iD (wlkI L S (ns.getD k 0))]
theorem int_depth (xs : List Int) : PyData.depth (.list (xs.map PyData.int)) ≤ 64 := by
  show PyData.depthAll (xs.map PyData.int) + 1 ≤ 64
  have := depth_ints xs
  omega
section
variable {P : Program} {w : World} {K : PySem.W.Frag} {mg : Str → Option Value} {base : Heap} {f cL cQ cN cW cO : Addr} {fd : FuncData}
abbrev s__law_right : Stmt := (top 54)
theorem sc__law_right : FnScope ["_law_land_here", "_law_seen_here", "_law_value_here", "_law_handed", "_law_mine", "_law_whole_here", "_law_told", "_law_last", "_law_numbers", "_law_number", "_law_walk_here", "_law_same", "_law_bare"] ["_law_land_here", "_law_seen_here", "_law_value_here"] (defScope s__law_right) := ⟨rfl, rfl, rfl, by decide +kernel, rfl, by decide +kernel, by decide +kernel⟩
def R_right (ds : List PyData) (d : PyData) : Prop := ∃ (L : Land) (S : List (Int × Int)) (v : Int), GoodLand L ∧ OkS L S ∧ ds = [landD L, sD S, .int v] ∧ d = .bool true
theorem ok_right (F : FnP K "_law_right" s__law_right f fd) (G : Gi mg) (c_how_many : Cal P w K mg base (L2.CX P w) 8 "how_many" (spX K R_how_many (X_check_question cL cQ))) (c_walk_by : Cal P w K mg base (L2.CX P w) 8 "walk_by" (spFX K R_walk_by (X_walk_by cN))) (c_number_of : Cal P w K mg base (L2.CX P w) 8 "number_of" (spX K R_number_of (X_number_of cW))) (c_share : Cal P w K mg base (L2.CX P w) 8 "share" (spX K R_share (X_share cO)))
    (c__law_whole : Cal P w K mg base CX0 1 "_law_whole" (spD K R_whole)) (c__law_counts : Cal P w K mg base CX0 2 "_law_counts" (spD K R_counts)) (c__law_copied : Cal P w K mg base CX0 1 "_law_copied" (spCopied K)) (c__law_is_walk : Cal P w K mg base CX0 2 "_law_is_walk" (spD K R_law_is_walk)) (c__law_met : Cal P w K mg base CX0 1 "_law_met" (spD K R_law_met))
    (c__law_refused : Cal P w K mg base CX0 9 "_law_refused" (spD K R_refused)) (c__law_beyond : Cal P w K mg base CX0 9 "_law_beyond" (spD K R_beyond)) (c__law_shares_right : Cal P w K mg base CX0 9 "_law_shares_right" (spD K R_shares_right)) : FnOk P w K mg base CX0 10 f fd ["_law_land_here", "_law_seen_here", "_law_value_here"] (spD K R_right) := by
  refine okD F sc__law_right (by rintro _ _ ⟨_, _, _, _, _, rfl, _⟩; rfl) fun cdv A outer s H E hr => ⟨_, (pss_cons (ps_par (i := 3) (j := 4) rfl sc__law_right.nd rfl rfl (by decide) rfl rfl (pa_cons (pe_d c__law_copied hr (by decide) rfl (pa_cons (pv 0) pa_nil)) (pa_cons (pe_callTy (call_listk (K := K) rfl) rfl G.b_list (by decide +kernel) (pa_cons (pv 1) pa_nil)) pa_nil)) rfl)
      (pss_cons (ps_set (i := 5) sc__law_right.nd rfl (Or.inl rfl) (pe_callB (cr_sumk (K := K) rfl rfl) rfl G.b_sum (by decide +kernel) (pa_cons (pe_ix (ix_k (K := K) rfl) (pe_d c__law_counts hr (by decide) rfl (pa_cons (pv 0) (pa_cons (pv 1) pa_nil))) (pe_un un_neg pe_int) (fun _ _ => rfl)) pa_nil)))
      (pss_cons (ps_set (i := 6) sc__law_right.nd rfl (Or.inl rfl) (pe_dX c_how_many hr (by decide) takes0 rfl (pa_cons (pv 3) (pa_cons (pv 4) pa_nil))))
      (pss_cons (ps_if (PW.pt (pw_or (pt_cmpR (op_nek (K := K) rfl hr.units) (pv 6) (pv 5) (nomark _)) (pw_or (pt_not (pt_val (pe_d c__law_whole hr (by decide) rfl (pa_cons (pv 6) pa_nil)))) (pw_or (pt_cmpR (op_nek (K := K) rfl hr.units) (pv 3) (pv 0) (nomark _)) (pw_or1 (pt_cmpR (op_nek (K := K) rfl hr.units) (pv 4) (pv 1) (nomark _))))))) (pss_one (ps_ret pe_bl)) pss_nil)
      (pss_cons (ps_if (PW.pt (pw_or (pt_not (pt_val (pe_d c__law_beyond hr (by decide) rfl (pa_cons (pv 0) (pa_cons (pv 1) (pa_cons (pv 5) pa_nil)))))) (pw_or1 (pt_not (pt_val (pe_d c__law_beyond hr (by decide) rfl (pa_cons (pv 0) (pa_cons (pv 1) (pa_cons (pe_un un_neg pe_int) pa_nil))))))))) (pss_one (ps_ret pe_bl)) pss_nil)
      (pss_cons (ps_if (pt_cmpR (op_eqk (K := K) rfl hr.units) (pv 5) pe_int (nomark _)) (pss_one (ps_ret (pe_d c__law_refused hr (by decide) rfl (pa_cons (pv 0) (pa_cons (pv 1) pa_nil))))) pss_nil)
      (pss_cons (ps_set (i := 7) sc__law_right.nd rfl (Or.inl rfl) pe_non)
      (pss_cons (ps_set (i := 8) sc__law_right.nd rfl (Or.inl rfl) (pe_listRg rfl rfl G.b_list (prg_1 rfl G.b_range (pe_callB (call_min2' rfl) rfl G.b_min (by decide +kernel) (pa_cons (pv 5) (pa_cons pe_int pa_nil))))))
      (pss_cons (ps_set (i := 8) sc__law_right.nd rfl (Or.inl rfl) (pe_op op_cat (pv 8) (pe_sortSet (K := K) rfl rfl rfl G.b_sorted rfl G.b_set (pe_lst (pa_cons (pe_op op_sub (pv 5) pe_int) (pa_cons (pe_op op_mod (pv 2) (pv 5)) (pa_cons (pe_op op_mod (pe_op op_fdiv (pv 2) pe_int) (pv 5)) pa_nil)))))))
      (pss_cons (ps_for PassesOwn.never rfl (pi_listk (K := K) rfl (pv 8)) (pg_name (i := 9) sc__law_right.nd rfl (Or.inl rfl))
        (pss_cons (ps_set (i := 10) sc__law_right.nd rfl (Or.inl rfl) (pe_dX c_walk_by hr (by decide) takes0 rfl (pa_cons (pv 3) (pa_cons (pv 4) (pa_cons (pv 9) pa_nil)))))
      (pss_cons (ps_if (PW.pt (pw_or (pt_not (pt_val (pe_callB (call_isik (K := K) rfl) rfl G.b_isinstance boot_isinstance (pa_cons (pv 10) (pa_cons (pe_ty (n := "list") rfl G.b_list (by decide +kernel)) pa_nil))))) (pw_or (pt_not (pt_val (pe_d c__law_is_walk hr (by decide) rfl (pa_cons (pv 0) (pa_cons (pv 10) pa_nil))))) (pw_or1 (pt_cmpR (op_nek (K := K) rfl hr.units) (pe_callB (call_lenk (K := K) rfl) rfl G.b_len boot_len (pa_cons (pe_d c__law_met hr (by decide) rfl (pa_cons (pv 1) (pa_cons (pv 10) pa_nil))) pa_nil)) (pe_callB (call_lenk (K := K) rfl) rfl G.b_len boot_len (pa_cons (pv 1) pa_nil)) (nomark _)))))) (pss_one (ps_ret pe_bl)) pss_nil)
      (pss_cons (ps_set (i := 11) sc__law_right.nd rfl (Or.inl rfl) (pe_callTy (call_listk (K := K) rfl) rfl G.b_list (by decide +kernel) (pa_cons (pv 10) pa_nil)))
      (pss_cons (ps_if (PW.pt (pw_or (pt_cmpR (op_nek (K := K) rfl hr.units) (pe_dX c_number_of hr (by decide) takes0 rfl (pa_cons (pv 0) (pa_cons (pv 1) (pa_cons (pv 11) pa_nil)))) (pv 9) (nomark _)) (pw_or (pt_cmpR (op_nek (K := K) rfl hr.units) (pv 11) (pv 10) (nomark _)) (pw_or1 (pt_not (pt_val (pe_d c__law_whole hr (by decide) rfl (pa_cons (pe_dX c_number_of hr (by decide) takes0 rfl (pa_cons (pv 0) (pa_cons (pv 1) (pa_cons (pv 10) pa_nil)))) pa_nil)))))))) (pss_one (ps_ret pe_bl)) pss_nil)
      (pss_cons (ps_if (PW.pt (pw_and (pt_cmp (pc_notN (pv 7))) (pw_and1 (pt_cmpR (op_nek (K := K) rfl hr.units) (pe_cmpR (op_gt) (pv 9) (pe_ix (ix_k (K := K) rfl) (pv 7) pe_int (fun _ _ => rfl)) (nomark _)) (pe_cmpR (op_gtk (K := K) rfl hr.units) (pv 10) (pe_ix (ix_k (K := K) rfl) (pv 7) pe_int (fun _ _ => rfl)) (nomark _)) (nomark _))))) (pss_one (ps_ret pe_bl)) pss_nil)
      (pss_cons (ps_set (i := 7) sc__law_right.nd rfl (Or.inl rfl) (pe_tup (pa_cons (pv 9) (pa_cons (pe_callTy (call_listk (K := K) rfl) rfl G.b_list (by decide +kernel) (pa_cons (pv 10) pa_nil)) pa_nil))))
      (pss_one (ps_expr (pe_bm PySem.F.plainAttrs_list PySem.F.slot_list_append PySem.F.type_list_append mt_append (pv 10) (pa_cons pe_int pa_nil)))))))))))
      (pss_cons (ps_if (pt_not (pt_val (pe_d c__law_shares_right hr (by decide) rfl (pa_cons (pv 0) (pa_cons (pv 1) (pa_cons (pe_op op_mod (pe_op op_fdiv (pv 2) pe_int) (pe_op op_add (pe_ix (ix_k (K := K) rfl) (pv 0) pe_int (fun _ _ => rfl)) pe_int)) (pa_cons (pv 5) pa_nil))))))) (pss_one (ps_ret pe_bl)) pss_nil)
      (pss_cons (ps_expr (pe_bm0 PySem.F.plainAttrs_list PySem.F.slot_list_clear PySem.F.type_list_clear mt_clear (pe_ix (ix_k (K := K) rfl) (pv 3) pe_int (fun _ _ => rfl))))
      (pss_cons (ps_expr (pe_bm0 PySem.F.plainAttrs_list PySem.F.slot_list_clear PySem.F.type_list_clear mt_clear (pv 4)))
      (pss_cons (ps_set (i := 12) sc__law_right.nd rfl (Or.inl rfl) (pe_tup (pa_cons (pe_ix (ix_k (K := K) rfl) (pv 0) pe_int (fun _ _ => rfl)) (pa_cons (pe_lst pa_nil) (pa_cons (pe_ix (ix_k (K := K) rfl) (pv 0) pe_int (fun _ _ => rfl)) pa_nil)))))
      (pss_cons (ps_if (PW.pt (pw_or (pt_cmpR (op_nek (K := K) rfl hr.units) (pe_dX c_how_many hr (by decide) takes0 rfl (pa_cons (pv 3) (pa_cons (pv 4) pa_nil))) (pe_ix (ix_k (K := K) rfl) (pv 0) pe_int (fun _ _ => rfl)) (nomark _)) (pw_or1 (pt_cmpR (op_nek (K := K) rfl hr.units) (pe_dX c_share hr (by decide) takes0 rfl (pa_cons (pv 3) (pa_cons (pv 4) (pa_cons pe_int (pa_cons pe_int pa_nil))))) (pe_tup (pa_cons pe_int (pa_cons (pe_ix (ix_k (K := K) rfl) (pv 0) pe_int (fun _ _ => rfl)) pa_nil))) (nomark _))))) (pss_one (ps_ret pe_bl)) pss_nil)
      (pss_one (ps_ret (pe_and (pe_cmpR (op_eqk (K := K) rfl hr.units) (pe_dX c_how_many hr (by decide) takes0 rfl (pa_cons (pv 12) (pa_cons (pv 1) pa_nil))) (pe_callB (cr_sumk (K := K) rfl rfl) rfl G.b_sum (by decide +kernel) (pa_cons (pe_ix (ix_k (K := K) rfl) (pe_d c__law_counts hr (by decide) rfl (pa_cons (pv 12) (pa_cons (pv 1) pa_nil))) (pe_un un_neg pe_int) (fun _ _ => rfl)) pa_nil)) (nomark _)) (pe_one (pe_cmpR (op_eqk (K := K) rfl hr.units) (pe_dX c_walk_by hr (by decide) takes0 rfl (pa_cons (pv 3) (pa_cons (pv 4) (pa_cons pe_int pa_nil)))) (pe_op op_rep (pe_lst (pa_cons pe_int pa_nil)) (pe_op op_add (pe_ix (ix_k (K := K) rfl) (pv 0) pe_int (fun _ _ => rfl)) pe_int)) (nomark _))))))))))))))))))))), ?_⟩
  rintro _ _ ⟨L, S, v, gl, ok, rfl, rfl⟩
  have l1 := gl.l1
  have l10 := gl.l10
  have n1 := gl.n1
  have n7 := gl.n7
  have h8 := ok.len
  have wl := gl.wl
  have mn := many_nn L S (by omega)
  intro σ Hs H e s D q
  refine hm_make (i := 3) (j := 4) (a := 0) (b := 1) (L := L) (S := S) e s rfl rfl (by omega) (Nat.le_of_ble_eq_true rfl) (Nat.le_of_ble_eq_true rfl) (by decide) fun t q0 m σ1 Hs1 H1 g1 fq fm e1 w1 => ?_
  refine (yn_asg (d := .int (manyI L S)) (YD.eq (yd_cb (ya_cons (yd_op (yd_call (ya_cons (yd_var rfl) (ya_cons (yd_var rfl) ya_nil)) ⟨L, S, gl, by omega, rfl, rfl⟩) (yd_un yd_int ru_neg) (rd_ixL (cnt_last gl))) ya_nil) rc_sum) (by rw [fwd_sum L S l1])) yg_name : YN K _ _ _ _) σ1 Hs1 H1 e1 g1.c _ fun σ2 Hs2 H2 g2 e2 n2 => ?_
  have w2 := w1.gr g2 (n2 3 (by decide)) (n2 4 (by decide))
  have G2 := g1.trans g2
  obtain ⟨Hv, v1, v2, ev⟩ := w2.look e2 G2.c
  refine at_asgS (yd_callX (ya_cons (yd_var rfl) (ya_cons (yd_var rfl) ya_nil)) ⟨L, S, gl, ok, rfl, rfl⟩) rfl ev v1 v2 e2 fun σ3 H3 g3 e3 n3 => ?_
  have w3 := w2.gr g3 (n3 3 (by decide)) (n3 4 (by decide))
  have G3 := G2.trans g3
  clear Hv v1 v2 ev
  obtain ⟨Hv, v1, v2, ev⟩ := w3.look e3 G3.c
  refine at_ifF (YT.eq (yt_or (YT.eq (yt_test (yd_op (yd_var rfl) (yd_var rfl) (rd_neD rfl rfl))) (b' := false) ?c1) fun _ => yt_or (yt_not (yt_B (yd_call (ya_cons (yd_var rfl) ya_nil) ⟨_, rfl, rfl⟩))) fun _ => yt_or (YT.eq (yt_test (yd_op (yd_var (d := landD L) rfl) (yd_var (d := landD L) rfl) (rd_neD (shp_land L) (shp_land L)))) (b' := false) ?c2) fun _ => YT.eq (yt_test (yd_op (yd_var (d := sD S) rfl) (yd_var (d := sD S) rfl) (rd_neD (shp_pairs S) (shp_pairs S)))) (b' := false) ?c3) rfl) ev v1 v2 fun H4 g4 => ?_
  case c1 => rw [eqv_ii, decide_eq_true rfl]; rfl
  case c2 => rw [eqv_sh (shp_land L)]; rfl
  case c3 => rw [eqv_sh (d := sD S) (shp_pairs S)]; rfl
  have w4 := w3.gr g4 rfl rfl
  have G4 := G3.trans g4
  refine (yn_ifF (YT.eq (yt_or (yt_not (yt_B (yd_call (ya_cons (yd_var rfl) (ya_cons (yd_var rfl) (ya_cons (yd_var rfl) ya_nil))) ⟨L, S, manyI L S, gl, ok, .inr (Int.le_refl _), rfl, rfl⟩))) fun _ => yt_not (yt_B (yd_call (ya_cons (yd_var rfl) (ya_cons (yd_var rfl) (ya_cons (yd_un yd_int ru_neg) ya_nil))) ⟨L, S, -1, gl, ok, .inl (by decide), rfl, rfl⟩))) rfl) yn_next : YN K _ _ _ _) σ3 Hs2 H4 e3 G4.c _ fun σ5 Hs5 H5 g5 e5 n5 => ?_
  have w5 := w4.gr g5 (n5 3 (by decide)) (n5 4 (by decide))
  have G5 := G4.trans g5
  by_cases hz : manyI L S = 0
  · exact (yr_ifs (b := true) (YT.eq (yt_test (yd_op (yd_var rfl) yd_int (rd_eqD rfl rfl))) (by rw [hz]; rfl)) (fun _ => yr_seqR (yr_ret (yd_call (ya_cons (yd_var rfl) (ya_cons (yd_var rfl) ya_nil)) ⟨L, S, gl, ok, hz, rfl, rfl⟩))) (fun h => nomatch h) : YR K _ _ (.bool true)) σ5 Hs5 H5 e5 G5.c D fun u Hs6 H6 g6 r6 => q u Hs6 H6 (G5.trans g6) r6
  have hp : 0 < manyI L S := by omega
  refine (yn_ifF (YT.eq (yt_test (yd_op (yd_var rfl) yd_int (rd_eqD rfl rfl))) (by rw [eqv_ii]; exact decide_eq_false hz)) yn_next : YN K _ _ _ _) σ5 Hs5 H5 e5 G5.c _ fun σ6 Hs6 H6 g6 e6 n6 => ?_
  show tSeq (tAsg (tC .non) (gName 7)) _ _ σ6 H6
  refine at_n (yn_asg yd_non yg_name) e6 g6.c fun σ7 Hs7 H7 g7 e7 n7 => ?_
  refine (yn_asg (d := iD (rgI (min (manyI L S) 12))) (YD.eq (yf_rng (n := min (manyI L S) 12) (yd_cb (ya_cons (yd_var rfl) (ya_cons yd_int ya_nil)) rc_min) (by omega) (by omega)).yd (congrArg PyData.list map_rgI)) yg_name : YN K _ _ _ _) σ7 Hs7 H7 e7 g7.c _ fun σ8 Hs8 H8 g8 e8 n8 => ?_
  refine (yn_asg (d := iD (numsI (manyI L S) v)) (YD.eq (yd_op (yd_var (d := iD (rgI (min (manyI L S) 12))) rfl) (yf_sortSet (ns := [manyI L S - 1, v % manyI L S, v / 7 % manyI L S]) (yd_lst (ya_cons (yd_op (yd_var rfl) yd_int rd_I0) (ya_cons (yd_op (yd_var rfl) (yd_var rfl) (rd_I hp)) (ya_cons (yd_op (yd_op (yd_var rfl) yd_int (rd_I ⟨by decide, by decide⟩)) (yd_var rfl) (rd_I hp)) ya_nil))) (Nat.le_of_ble_eq_true rfl)) (Nat.le_of_ble_eq_true rfl)).yd (rd_cat ?c4)) ?c5) yg_name : YN K _ _ _ _) σ8 Hs8 H8 e8 g8.c _ fun σ9 Hs9 H9 g9 e9 n9 => ?_
  case c4 =>
    rw [List.length_map, List.length_map, len_rgI]
    have : (sdI [manyI L S - 1, v % manyI L S, v / 7 % manyI L S]).length ≤ 3 := by
      have ins : ∀ (x : Int) (l : List Int), (insS x l).length ≤ l.length + 1 := fun x l => by
        induction l with
        | nil => exact Nat.le_refl _
        | cons y r ih =>
          unfold insS
          split
          · exact Nat.le_refl _
          · split
            · exact Nat.le_succ _
            · exact Nat.succ_le_succ ih
      exact Nat.le_trans (ins _ _) (Nat.succ_le_succ (Nat.le_trans (ins _ _) (Nat.succ_le_succ (ins _ _))))
    omega
  case c5 =>
    unfold numsI iD
    rw [List.map_append]
  have w9 := (((w5.gr g6 (n6 3 (by decide)) (n6 4 (by decide))).gr g7 (n7 3 (by decide)) (n7 4 (by decide))).gr g8 (n8 3 (by decide)) (n8 4 (by decide))).gr g9 (n9 3 (by decide)) (n9 4 (by decide))
  have G9 := (((G5.trans g6).trans g7).trans g8).trans g9
  have hns : ∀ x ∈ numsI (manyI L S) v, 0 ≤ x ∧ x < manyI L S := fun x hx => nums_rg hp hx
  generalize numsI (manyI L S) v = ns at e9 hns
  have e9' : EnvD K Hs9 σ9 [some (landD L), some (sD S), some (.int v), none, none, some (.int (manyI L S)), some (.int (manyI L S)), some .none, some (iD ns), none, none, none, none] := e9.sub ⟨rfl, rfl, rfl, rfl, rfl, rfl, rfl, trivial⟩
  clear e9 e8 e7 e6 e5 e3 e2 e1 n9 n8 n7 n6 n5 n3 n2 w5 w4 w3 w2 w1 g9 g8 g7 g6 g5 g4 g3 g2 g1 G2 G3 G4 G5 ev v1 v2
  refine y_for (D := { D with nx := _ }) (yi_list (ds := ns.map .int) (yd_var rfl)) e9' G9.c fun Hs10 H10 g10 => ⟨fun k σ' Hs' H' => Gr Hs H Hs' H' ∧ Same Hs10 Hs' ∧ EnvD K Hs' σ' [some (landD L), some (sD S), some (.int v), none, none, some (.int (manyI L S)), some (.int (manyI L S)), some (lastD L S ns k), some (iD ns), none, none, none, none] ∧ HM K 3 4 t q0 m L S σ' Hs' H', ⟨G9.trans g10, Same.refl _, e9'.mono g10.a, w9.gr g10 rfl rfl⟩, fun k σ' Hs' H' p => ⟨p.2.1, p.1.c⟩, ?_, ?_⟩
  · rintro k z σ' Hs' H' hz ⟨G', s10, e', w'⟩ x Hs2 H2 g rx
    rw [List.getElem?_map] at hz
    obtain ⟨num, hnum, rfl⟩ := Option.map_eq_some_iff.mp hz
    obtain ⟨x0, x1⟩ := hns num (List.mem_of_getElem? hnum)
    have hgd : ns.getD k 0 = num := by rw [List.getD_eq_getElem?_getD, hnum]; rfl
    have hW := wlk_isW gl x0 x1
    have hM := wlk_met gl ok x0 x1
    have hML := met_all hM
    have hnb := nb_wlk gl x0 x1
    have hwl := hW.len
    have hlast : ∀ y, lastD L S ns k = y → y = .none ∨ ∃ b, 0 ≤ b ∧ b < manyI L S ∧ y = .tuple [.int b, iD (wlkI L S b)] := fun y hy => by
      cases k with
      | zero => exact .inl hy.symm
      | succ k =>
        have hk : k < ns.length := by
          have := (List.getElem?_eq_some_iff.mp hnum).1
          omega
        obtain ⟨b0, b1⟩ := hns _ (getD_mem hk)
        exact .inr ⟨_, b0, b1, hy.symm⟩
    refine (yg_name : YG K _ _ _ _ _) σ' Hs2 H2 x (e'.mono g.a) g.c rx _ fun σ2 e2 l2 n2 => ?_
    have w2 := w'.gr g (n2 3 (by decide)) (n2 4 (by decide))
    obtain ⟨Hv, v1, v2, ev⟩ := w2.look e2 g.c
    refine at_own (yf_callX (es := (wlkI L S num).map .int) (ya_cons (yd_var rfl) (ya_cons (yd_var rfl) (ya_cons (yd_var rfl) ya_nil))) ⟨L, S, num, gl, ok, x0, x1, rfl, rfl⟩) (all_scal _) ev v1 v2 e2 (Nat.le_of_ble_eq_true rfl) fun a H3 g3 fa e3 o3 => ?_
    have hS : ∀ q ∈ S, 0 ≤ q.1 ∧ q.1 < (wlkI L S num).length ∧ (wlkI L S num).getD q.1.toNat 0 = q.2 := fun q hq => by
      have := ok.at_ q hq
      exact ⟨by omega, by omega, hM q hq⟩
    have w3 := w2.gr (σ2 := σ2.set 10 (some (.ref a))) g3 (List.getElem?_set_ne (by decide)) (List.getElem?_set_ne (by decide))
    generalize hlw : lastD L S ns k = y at e3
    have hy := hlast y hlw
    generalize hWe : wlkI L S num = W at *
    generalize σ2.set 10 (some (.ref a)) = σ3 at e3 o3 w3 ⊢
    refine (ym_sub (ym_seq (ym_if (b := false) (sl := []) (sl2 := []) (YT.eq (yt_or (yt_not (yt_B (yd_isi (x := iD W) (yd_var rfl) (kit_list _)))) fun _ => yt_or (yt_not (yt_B (yd_call (ya_cons (yd_var rfl) (ya_cons (yd_var rfl) ya_nil)) ⟨L, W, gl, hW, rfl, rfl⟩))) fun _ => YT.eq (yt_test (yd_op (yd_cb (ya_cons (yd_call (ya_cons (yd_var rfl) (ya_cons (yd_var rfl) ya_nil)) ⟨S, W, by omega, hS, rfl, rfl⟩) ya_nil) rc_lenL) (yd_cb (ya_cons (yd_var (d := sD S) rfl) ya_nil) rc_lenL) (rd_neD rfl rfl))) (b' := false) ?d1) rfl) (fun h => nomatch h) (fun _ => ym_next)) (ym_seq (ym_asg (d := iD W) (yw_fresh (yf_listL (yd_var (d := iD W) rfl)) (all_scal _)) (by decide)) (ym_seq (ym_if (b := false) (sl := []) (sl2 := []) (YT.eq (yt_or (YT.eq (yt_test (yd_op (yd_callX (ya_cons (yd_var rfl) (ya_cons (yd_var rfl) (ya_cons (yd_var rfl) ya_nil))) ⟨L, S, W, gl, ok, hW, hML, rfl, rfl⟩) (yd_var rfl) (rd_neD rfl rfl))) (b' := false) ?d2) fun _ => yt_or (YT.eq (yt_test (yd_op (yd_var (d := iD W) rfl) (yd_var (d := iD W) rfl) (rd_neD (shp_ints W) (shp_ints W)))) (b' := false) ?d3) fun _ => yt_not (yt_B (yd_call (ya_cons (yd_callX (ya_cons (yd_var rfl) (ya_cons (yd_var rfl) (ya_cons (yd_var rfl) ya_nil))) ⟨L, S, W, gl, ok, hW, hML, rfl, rfl⟩) ya_nil) ⟨_, rfl, rfl⟩))) rfl) (fun h => nomatch h) (fun _ => ym_next)) (ym_seq (ym_if (b := false) (sl := []) (sl2 := []) ?d4 (fun h => nomatch h) (fun _ => ym_next)) (ym_seq (ym_asg (d := .tuple [.int num, iD W]) (yw_tup (ywa_cons (yw_yd (yd_var rfl)) (ywa_cons (yw_fresh (yf_listL (yd_var (d := iD W) rfl)) (all_scal _)) ywa_nil)) (Nat.le_of_ble_eq_true rfl)) (by decide)) (ym_app yd_int ?d5)))))) ?d6 : YM K _ 10 _ _ _ [some (landD L), some (sD S), some (.int v), none, none, some (.int (manyI L S)), some (.int (manyI L S)), some (lastD L S ns (k + 1)), some (iD ns), none, none, none, none] _) σ3 Hs2 H3 a e3 g3.c o3 _ fun σ4 Hs4 H4 g4 e4 o4 n4 => ⟨Hs4, ?_⟩
    case d1 =>
      rw [List.length_map, List.length_map, List.length_range, eqv_ii, decide_eq_true rfl]
      rfl
    case d2 =>
      rw [hnb, eqv_ii, decide_eq_true rfl]
      rfl
    case d3 =>
      rw [eqv_sh (shp_ints W)]
      rfl
    case d4 =>
      rcases hy with rfl | ⟨b, b0, b1, rfl⟩
      · exact YT.eq (yt_and (a := false) (b := false) (yt_test (yd_notN (yd_var rfl) rfl)) (fun h => nomatch h)) rfl
      · refine YT.eq (yt_and (a := true) (b := false) (yt_test (yd_notN (yd_var rfl) rfl)) (fun _ => YT.eq (yt_test (yd_op (yd_op (yd_var rfl) (yd_op (yd_var (d := .tuple [.int b, iD (wlkI L S b)]) rfl) yd_int (rd_ixT (d := .int b) rfl)) rd_B0) (yd_op (yd_var (d := iD W) rfl) (yd_op (yd_var (d := .tuple [.int b, iD (wlkI L S b)]) rfl) yd_int (rd_ixT (d := iD (wlkI L S b)) rfl)) (rd_gtI (shp_ints _) (shp_ints _) (int_depth _))) (rd_neD rfl rfl))) ?_)) rfl
        rw [← hWe, wlk_lex gl b0 b1 x0 x1, eqv_sh rfl]
        rfl
    case d5 =>
      rw [List.length_map]
      omega
    case d6 =>
      rw [show lastD L S ns (k + 1) = .tuple [.int (ns.getD k 0), iD (wlkI L S (ns.getD k 0))] from rfl, hgd, hWe]
      exact ⟨rfl, rfl, rfl, rfl, rfl, rfl, rfl, trivial⟩
    have g34 := g3.byO fa g4
    refine ⟨(G'.trans g).trans g34, s10.trans (g.a.trans g34.a), e4, w2.gr g34 ?_ ?_⟩
    · rw [n4 3 (by decide), w3.si, w2.si]
    · rw [n4 4 (by decide), w3.sj, w2.sj]
  · rintro σ' Hs' H' ⟨G', s10, e', w'⟩
    have t0 : 0 ≤ v / 3 % (L.l + 1) := Int.emod_nonneg _ (by omega)
    have t1 : v / 3 % (L.l + 1) < L.l + 1 := Int.emod_lt_of_pos _ (by omega)
    refine (yn_ifF (YT.eq (yt_not (yt_B (yd_call (ya_cons (yd_var rfl) (ya_cons (yd_var rfl) (ya_cons (yd_op (yd_op (yd_var rfl) yd_int (rd_I ⟨by decide, by decide⟩)) (yd_op (yd_op (yd_var (d := landD L) rfl) yd_int (rd_ixT rfl)) yd_int rd_I0) (rd_I ?f1)) (ya_cons (yd_var rfl) ya_nil)))) ⟨L, S, _, gl, ok, t0, by omega, hp, rfl, rfl⟩))) rfl) yn_next : YN K _ _ _ _) σ' Hs' H' e' G'.c _ fun σ1 Hs1 H1 g1 e1 n1 => ?_
    case f1 => show (0 : Int) < L.l + 1; omega
    have w1 := w'.gr g1 (n1 3 (by decide)) (n1 4 (by decide))
    have G1 := G'.trans g1
    refine hm_clearQ w1 (fun w2 => ?_) G1.c
    have G2 := G1.mut (o := .lst []) fq w1.nq
    refine hm_clearM w2 fun w3 => ?_
    have G3 := G2.mut (o := .lst []) fm w1.nm
    refine (yn_asg (YD.eq (yd_tup (ya_cons (yd_op (yd_var (d := landD L) rfl) yd_int (rd_ixT rfl)) (ya_cons (yd_lst ya_nil (Nat.zero_le _)) (ya_cons (yd_op (yd_var (d := landD L) rfl) yd_int (rd_ixT rfl)) ya_nil))) (Nat.le_of_ble_eq_true rfl)) (d' := landD (bareL L)) rfl) yg_name : YN K _ _ _ _) σ1 Hs1 _ e1 G3.c _ fun σ4 Hs4 H4 g4 e4 n4 => ?_
    have w4 := w3.gr g4 (n4 3 (by decide)) (n4 4 (by decide))
    have G4 := G3.trans g4
    obtain ⟨Hv, v1, v2, ev⟩ := w4.look e4 G4.c
    have okb : OkS (bareL L) [] := ⟨Nat.zero_le _, fun q hq => nomatch hq⟩
    have glb := bare_good gl
    have mb := bare_many gl
    have hsh : R_share [landD (bareL L), sD [], .int 0, .int 0] (.tuple [.int 1, .int L.n]) := by
      refine ⟨bareL L, [], 0, 0, glb, okb, Int.le_refl _, by show 0 < L.n; omega, Int.le_refl _, by show 0 ≤ L.l; omega, by rw [mb]; omega, rfl, ?_⟩
      have ht : topI (bareL L) [] 0 0 = 1 := bare_top gl
      unfold gcdI
      rw [ht, mb]
      have e : ((Nat.gcd (1 : Int).toNat L.n.toNat : Nat) : Int) = 1 := by
        rw [show (1 : Int).toNat = 1 from rfl, Nat.gcd_one_left]
        rfl
      rw [e, Int.ediv_one, Int.ediv_one]
    refine at_ifF (YT.eq (yt_or (YT.eq (yt_test (yd_op (yd_callX (ya_cons (yd_var rfl) (ya_cons (yd_var rfl) ya_nil)) ⟨bareL L, [], glb, okb, rfl, rfl⟩) (yd_op (yd_var (d := landD L) rfl) yd_int (rd_ixT (d := .int L.n) rfl)) (rd_neD rfl rfl))) (b' := false) ?g1) fun _ => YT.eq (yt_test (yd_op (yd_callX (ya_cons (yd_var rfl) (ya_cons (yd_var rfl) (ya_cons yd_int (ya_cons yd_int ya_nil)))) hsh) (yd_tup (ya_cons yd_int (ya_cons (yd_op (yd_var (d := landD L) rfl) yd_int (rd_ixT (d := .int L.n) rfl)) ya_nil)) (Nat.le_of_ble_eq_true rfl)) (rd_neD rfl rfl))) (b' := false) ?g2) rfl) ev v1 v2 fun H5 g5 => ?_
    case g1 => rw [mb, eqv_ii, decide_eq_true rfl]; rfl
    case g2 => rw [eqv_sh rfl]; rfl
    have w5 := w4.gr g5 rfl rfl
    have G5 := G4.trans g5
    clear Hv v1 v2 ev
    obtain ⟨Hv, v1, v2, ev⟩ := w5.look e4 G5.c
    have hrep : (List.replicate (L.l + 1).toNat [PyData.int 0]).flatten = (List.replicate (L.l + 1).toNat (0 : Int)).map PyData.int := by
      generalize (L.l + 1).toNat = k
      induction k with
      | zero => rfl
      | succ k ih =>
        rw [List.replicate_succ, List.flatten_cons, ih]
        rfl
    refine (yr_ret (YD.eq (yd_and (a := true) (b := true) (YD.eq (yd_op (yd_callX (ya_cons (yd_var rfl) (ya_cons (yd_var rfl) ya_nil)) ⟨bareL L, S, glb, bare_ok ok, rfl, rfl⟩) (yd_cb (ya_cons (yd_op (yd_call (ya_cons (yd_var rfl) (ya_cons (yd_var rfl) ya_nil)) ⟨bareL L, S, glb, by omega, rfl, rfl⟩) (yd_un yd_int ru_neg) (rd_ixL (cnt_last glb))) ya_nil) rc_sum) (rd_eqD rfl rfl)) ?i1) fun _ => YD.eq (yd_op (yf_callX (es := (wlkI (bareL L) [] 0).map .int) (ya_cons (yd_var rfl) (ya_cons (yd_var rfl) (ya_cons yd_int ya_nil))) ⟨bareL L, [], 0, glb, okb, Int.le_refl _, by rw [mb]; omega, rfl, rfl⟩).yd (YD.eq (yd_op (yd_lst (ya_cons yd_int ya_nil) (Nat.le_of_ble_eq_true rfl)) (yd_op (yd_op (yd_var (d := landD L) rfl) yd_int (rd_ixT rfl)) yd_int rd_I0) (rd_rep (k := L.l + 1) ?i2 (by omega) (by omega))) (d' := iD (List.replicate (L.l + 1).toNat 0)) (congrArg PyData.list hrep)) (rd_eqD (shp_ints _) (shp_ints _))) ?i3) rfl) : YR K _ _ (.bool true)) σ4 Hv H5 ev v2 D fun u Hx H6 g6 r6 => q u Hs4 H6 (G5.trans (Gr.back v1 g6)) (r6.scal rfl)
    case i1 => rw [fwd_sum (bareL L) S l1, eqv_ii, decide_eq_true rfl]
    case i2 => show 1 * (L.l + 1).toNat ≤ 100000; omega
    case i3 => rw [bare_wlk gl, show PyData.list _ = iD (List.replicate (L.l + 1).toNat 0) from rfl, eqv_sh (shp_ints _)]
end
end SG
set_option Elab.async false
set_option linter.all false
set_option maxRecDepth 100000
set_option maxHeartbeats 4000000
namespace SG
open PySem PySem.Spec PyProof.Rows L2
def trueL (ns : List Int) (o : Nat) (L : Land) (v : Int) : List (Int × Int) := (((List.range (L.l + 1).toNat).filter fun (i : Nat) => decide (v / ((0 + (i : Int)) + 1) % 4 = 0)).map fun (i : Nat) => ((0 + (i : Int)), (wlk ns o L).getD i 0)).take 8
theorem true_ok {ns : List Int} {o : Nat} {L : Land} {v : Int} (gl : GoodLand L) : OkS L (trueL ns o L v) := by
  refine ⟨?_, fun q hq => ?_⟩
  · unfold trueL
    rw [List.length_take]
    omega
  · obtain ⟨i, hi, rfl⟩ := List.mem_map.mp (List.mem_of_mem_take hq)
    have hi2 := List.mem_range.mp (List.mem_filter.mp hi).1
    have l1 := gl.l1
    have hl : i < (wlk ns o L).length := by
      rw [show (wlk ns o L).length = L.l.toNat + 1 from walkL_len ns o L _]
      omega
    have := walkL_rg gl _ _ (getD_mem hl)
    exact ⟨by show 0 ≤ 0 + (i : Int); omega, by show 0 + (i : Int) ≤ L.l; omega, this.1, this.2⟩
def pairL : Land := ⟨2, [(0, 1)], 3⟩
theorem pair_good : GoodLand pairL := ⟨by decide, by decide, by decide, by decide, by decide, by decide, by decide⟩
theorem pair_n1 : manyI pairL [] = 16 := by decide +kernel
theorem pair_n2 : manyI pairL [(0, 0), (3, 1)] = 4 := by decide +kernel
theorem pair_t2 : topI pairL [(0, 0), (3, 1)] 1 1 = 2 := by decide +kernel
theorem pair_n3 : manyI pairL [(3, 1)] = 8 := by decide +kernel
theorem pair_w3 : wlkI pairL [(3, 1)] 5 = [1, 0, 1, 1] := by decide +kernel
theorem pair_n4 : manyI pairL [(1, 0)] = 8 := by decide +kernel
theorem pair_t4 : topI pairL [(1, 0)] 1 1 = 0 := by decide +kernel
section
variable {P : Program} {w : World} {K : PySem.W.Frag} {mg : Str → Option Value} {base : Heap} {f cL cQ cN cW cO : Addr} {fd : FuncData}
abbrev s_law : Stmt := (top 55)
theorem sc_law : FnScope ["_law_script", "_law_by", "_law_land_here", "_law_value_here", "_law_seen_here", "_law_walk_here", "_law_true", "_law_tick", "_law_some", "_law_pair"] ["_law_script"] (defScope s_law) := ⟨rfl, rfl, rfl, by decide +kernel, rfl, by decide +kernel, by decide +kernel⟩
theorem ok_law (F : FnP K "law" s_law f fd) (G : Gi mg) (c_how_many : Cal P w K mg base (L2.CX P w) 8 "how_many" (spX K R_how_many (X_check_question cL cQ))) (c_walk_by : Cal P w K mg base (L2.CX P w) 8 "walk_by" (spFX K R_walk_by (X_walk_by cN))) (c_share : Cal P w K mg base (L2.CX P w) 8 "share" (spX K R_share (X_share cO)))
    (c__law_cell_at : Cal P w K mg base CX0 1 "_law_cell_at" (spD K R_cell_at)) (c__law_value : Cal P w K mg base CX0 2 "_law_value" (spD K R_value)) (c__law_land : Cal P w K mg base CX0 3 "_law_land" (spD K R_land)) (c__law_seen : Cal P w K mg base CX0 4 "_law_seen" (spD K R_law_seen)) (c__law_walk : Cal P w K mg base CX0 3 "_law_walk" (spD K R_law_walk))
    (c__law_right : Cal P w K mg base CX0 10 "_law_right" (spD K R_right)) : FnOk P w K mg base CX0 11 f fd ["_law_script"] (spLaw K) := by
  refine okLaw F sc_law (by decide) fun cdv A outer s H E hr => ⟨_, (pss_cons (ps_set (i := 0) sc_law.nd rfl (Or.inl rfl) (pe_slice (sl_listk (K := K) rfl) (pv 0) po_none (po_some pe_int)))
      (pss_cons (ps_for PassesOwn.never rfl (pi_range3 rfl G.b_range (pa_cons pe_int (pa_cons (pe_callB (call_max2' rfl) rfl G.b_max (by decide +kernel) (pa_cons pe_int (pa_cons (pe_callB (call_min2' rfl) rfl G.b_min (by decide +kernel) (pa_cons pe_int (pa_cons (pe_callB (call_lenk (K := K) rfl) rfl G.b_len boot_len (pa_cons (pv 0) pa_nil)) pa_nil))) pa_nil))) (pa_cons pe_int pa_nil)))) (pg_name (i := 1) sc_law.nd rfl (Or.inl rfl))
        (pss_cons (ps_set (i := 2) sc_law.nd rfl (Or.inl rfl) (pe_d c__law_land hr (by decide) rfl (pa_cons (pv 0) (pa_cons (pv 1) pa_nil))))
      (pss_cons (ps_set (i := 3) sc_law.nd rfl (Or.inr rfl) (pe_d c__law_value hr (by decide) rfl (pa_cons (pe_d c__law_cell_at hr (by decide) rfl (pa_cons (pv 0) (pa_cons (pv 1) pa_nil))) (pa_cons pe_int pa_nil))))
      (pss_cons (ps_set (i := 4) sc_law.nd rfl (Or.inl rfl) (pe_d c__law_seen hr (by decide) rfl (pa_cons (pv 0) (pa_cons (pv 1) (pa_cons (pv 2) pa_nil)))))
      (pss_cons (ps_set (i := 5) sc_law.nd rfl (Or.inr rfl) (pe_d c__law_walk hr (by decide) rfl (pa_cons (pv 0) (pa_cons (pv 1) (pa_cons (pv 2) pa_nil)))))
      (pss_cons (ps_set (i := 6) sc_law.nd rfl (Or.inl rfl) (pe_slice (sl_listk (K := K) rfl) (pe_lc (own := [("_law_tick", 7)]) rfl sc_law.nd (pi_range1 rfl G.b_range (pa_cons (pe_op op_add (pe_ix (ix_k (K := K) rfl) (pv 2) pe_int (fun _ _ => rfl)) pe_int) pa_nil)) (blkOk_by (N := ["_law_script", "_law_by", "_law_land_here", "_law_value_here", "_law_seen_here", "_law_walk_here", "_law_true", "_law_tick", "_law_some", "_law_pair"]) (sc := defScope s_law) (by decide +kernel)) (fun _ _ _ _ _ => (pg_name (i := 7) sc_law.nd rfl (Or.inl rfl))) (fun _ _ _ _ _ => (pts_one (pt_cmpR (op_eqk (K := K) rfl hr.units) (pe_op op_mod (pe_op op_fdivW (pv 3) (pe_op op_add (pv 7) pe_int)) pe_int) pe_int (nomark _)))) (fun _ _ _ _ _ => (pe_tup (pa_cons (pv 7) (pa_cons (pe_ix (ix_k (K := K) rfl) (pv 5) (pv 7) (fun _ _ => rfl)) pa_nil))))) po_none (po_some pe_int)))
      (pss_one (ps_for PassesOwn.never rfl (pi_tupk (K := K) rfl (pe_tup (pa_cons (pv 4) (pa_cons (pv 6) (pa_cons (pe_slice (sl_listk (K := K) rfl) (pv 6) po_none (po_some pe_int)) (pa_cons (pe_lst pa_nil) pa_nil)))))) (pg_name (i := 8) sc_law.nd rfl (Or.inl rfl))
        (pss_one (ps_if (pt_not (pt_val (pe_d c__law_right hr (by decide) rfl (pa_cons (pv 2) (pa_cons (pv 8) (pa_cons (pv 3) pa_nil)))))) (pss_one (ps_ret pe_bl)) pss_nil))))))))))
      (pss_cons (ps_set (i := 9) sc_law.nd rfl (Or.inl rfl) (pe_tup (pa_cons pe_int (pa_cons (pe_lst (pa_cons (pe_tup (pa_cons pe_int (pa_cons pe_int pa_nil))) pa_nil)) (pa_cons pe_int pa_nil)))))
      (pss_cons (ps_set (i := 4) sc_law.nd rfl (Or.inl rfl) (pe_lst (pa_cons (pe_tup (pa_cons pe_int (pa_cons pe_int pa_nil))) (pa_cons (pe_tup (pa_cons pe_int (pa_cons pe_int pa_nil))) pa_nil))))
      (pss_cons (ps_if (PW.pt (pw_or (pt_cmpR (op_nek (K := K) rfl hr.units) (pe_dX c_how_many hr (by decide) takes0 rfl (pa_cons (pv 9) (pa_cons (pe_lst pa_nil) pa_nil))) pe_int (nomark _)) (pw_or (pt_cmpR (op_nek (K := K) rfl hr.units) (pe_dX c_how_many hr (by decide) takes0 rfl (pa_cons (pv 9) (pa_cons (pv 4) pa_nil))) pe_int (nomark _)) (pw_or1 (pt_cmpR (op_nek (K := K) rfl hr.units) (pe_dX c_share hr (by decide) takes0 rfl (pa_cons (pv 9) (pa_cons (pv 4) (pa_cons pe_int (pa_cons pe_int pa_nil))))) (pe_tup (pa_cons pe_int (pa_cons pe_int pa_nil))) (nomark _)))))) (pss_one (ps_ret pe_bl)) pss_nil)
      (pss_one (ps_ret (pe_and (pe_cmpR (op_eqk (K := K) rfl hr.units) (pe_dX c_walk_by hr (by decide) takes0 rfl (pa_cons (pv 9) (pa_cons (pe_lst (pa_cons (pe_tup (pa_cons pe_int (pa_cons pe_int pa_nil))) pa_nil)) (pa_cons pe_int pa_nil)))) (pe_lst (pa_cons pe_int (pa_cons pe_int (pa_cons pe_int (pa_cons pe_int pa_nil))))) (nomark _)) (pe_one (pe_cmpR (op_eqk (K := K) rfl hr.units) (pe_dX c_share hr (by decide) takes0 rfl (pa_cons (pv 9) (pa_cons (pe_lst (pa_cons (pe_tup (pa_cons pe_int (pa_cons pe_int pa_nil))) pa_nil)) (pa_cons pe_int (pa_cons pe_int pa_nil))))) (pe_tup (pa_cons pe_int (pa_cons pe_int pa_nil))) (nomark _))))))))))), ?_⟩
  intro ns hlen
  have mb : 0 < max (1 : Int) (min 4 (ns.length : Int)) ∧ max (1 : Int) (min 4 (ns.length : Int)) < 1000 := by omega
  refine yr_for (xs := List.range ((max (1 : Int) (min 4 (ns.length : Int)) + 1) / 2).toNat) (sl2 := [2, 3, 4, 5, 6, 8]) (ρw := [some (.list (ns.map .int)), none, none, none, none, none, none, none, none, none]) (fun (i : Nat) => .int (0 + (i : Int) * 2)) (fun _ => none) (fun i => _) (yi_rngT (m := max 1 (min 4 (ns.length : Int))) (ya_cons yd_int (ya_cons (yd_cb (ya_cons yd_int (ya_cons (yd_cb (ya_cons yd_int (ya_cons (YD.eq (yd_cb (ya_cons (yd_var rfl) ya_nil) rc_lenL) (by rw [List.length_map])) ya_nil)) rc_min) ya_nil)) rc_max) (ya_cons yd_int ya_nil))) mb) (by exact ⟨rfl, trivial⟩) (fun i _ => yg_name) (fun i _ _ => ?_) (fun i _ r h => nomatch h) (fun r h => ?_) (fun _ => ?_)
  · have eo : (0 : Int) + (i : Int) * 2 = ((2 * i : Nat) : Int) := by omega
    rw [eo]
    generalize 2 * i = o
    have gl := land_good ns o
    generalize hL : landI ns o = L at gl
    have l1 := gl.l1
    have l10 := gl.l10
    have wl : (wlk ns o L).length = L.l.toNat + 1 := walkL_len ns o L _
    have cell : R_cell_at [.list (ns.map .int), .int (o : Int)] (.int (ns.getD o 0)) := ⟨_, _, rfl, rfl⟩
    generalize hv : valueI (ns.getD o 0) 9 = v
    refine yn_sub (yn_seq (yn_asg (d := landD L) (yd_call (ya_cons (yd_var rfl) (ya_cons (yd_var rfl) ya_nil)) ⟨ns, o, rfl, by rw [hL]⟩) yg_name) (yn_seq (yn_asg (d := .int v) (yd_call (ya_cons (yd_call (ya_cons (yd_var rfl) (ya_cons (yd_var rfl) ya_nil)) cell) (ya_cons yd_int ya_nil)) ⟨_, _, rfl, by decide, by decide, by rw [hv]⟩) yg_name) (yn_seq (yn_asg (yd_call (ya_cons (yd_var rfl) (ya_cons (yd_var rfl) (ya_cons (yd_var rfl) ya_nil))) ⟨ns, o, L, gl, rfl, rfl⟩) yg_name) (yn_seq (yn_asg (yd_call (ya_cons (yd_var rfl) (ya_cons (yd_var rfl) (ya_cons (yd_var rfl) ya_nil))) ⟨ns, o, L, gl, rfl, rfl⟩) yg_name) (yn_seq (yn_asg (d := sD (trueL ns o L v)) (YD.eq (yd_slL (yd_lcM (xs := List.range (L.l + 1).toNat) (fun (i : Nat) => .int (0 + (i : Int))) (fun (i : Nat) => decide (v / ((0 + (i : Int)) + 1) % 4 = 0)) (fun (i : Nat) => dP ((0 + (i : Int)), (wlk ns o L).getD i 0)) (fun i => _) (yi_rng1 (n := L.l + 1) (ya_cons (yd_op (yd_op (yd_var (d := landD L) rfl) yd_int (rd_ixT rfl)) yd_int rd_I0) ya_nil) (by omega) (by omega)) (by rw [List.length_range]; omega) (by decide) (fun i _ => yg_name) (fun i hi => YT.eq (yt_test (yd_op (yd_op (yd_op (yd_var rfl) (yd_op (yd_var rfl) yd_int rd_I0) (rd_I (cdivW ?a1 ?a2))) yd_int (rd_I (by decide))) yd_int (rd_eqD rfl rfl))) rfl) fun i hi _ => yd_tup (ya_cons (yd_var rfl) (ya_cons (yd_op (yd_var (d := iD (wlk ns o L)) rfl) (yd_var rfl) (rd_ixL ?a3)) ya_nil)) (Nat.le_of_ble_eq_true rfl)) yo_none (yo_some yd_int)) ?a4) yg_name) (yn_forV (xs := [seenL ns o L, trueL ns o L v, (trueL ns o L v).take 1, []]) (slb := []) sD (fun _ => [some (.list (ns.map .int)), some (.int (o : Int)), some (landD L), some (.int v), some (sD (seenL ns o L)), none, some (sD (trueL ns o L v)), none, none, none]) (fun _ S => _) ((yi_tup (ds := [sD (seenL ns o L), sD (trueL ns o L v), sD ((trueL ns o L v).take 1), sD []]) (yd_tup (ya_cons (yd_var rfl) (ya_cons (yd_var rfl) (ya_cons (YD.eq (yd_slL (yd_var (d := sD (trueL ns o L v)) rfl) yo_none (yo_some yd_int)) ?a5) (ya_cons (yd_lst ya_nil (Nat.zero_le _)) ya_nil)))) (Nat.le_of_ble_eq_true rfl))).eq rfl) (by exact ⟨rfl, rfl, rfl, rfl, rfl, rfl, trivial⟩) (fun k S _ => yg_name) fun k S hS => yn_sub (yn_ifF (YT.eq (yt_not (yt_B (yd_call (ya_cons (yd_var rfl) (ya_cons (yd_var rfl) (ya_cons (yd_var rfl) ya_nil))) ⟨L, S, v, gl, ?a6, rfl, rfl⟩))) rfl) yn_next) (by exact ⟨rfl, rfl, rfl, rfl, rfl, rfl, trivial⟩))))))) (by exact ⟨rfl, trivial⟩)
    case a1 => omega
    case a2 =>
      have := List.mem_range.mp hi
      omega
    case a3 =>
      have := List.mem_range.mp hi
      rw [atI_int (by omega) (by omega)]
      rw [show (0 + (i : Int)).toNat = i by omega]
    case a4 =>
      rw [show ∀ xs : List PyData, cutD xs none (some 8) = xs.take 8 from fun xs => cutD_to 8]
      unfold sD trueL
      rw [List.map_take, List.map_map]
      rfl
    case a5 =>
      rw [show ∀ xs : List PyData, cutD xs none (some 1) = xs.take 1 from fun xs => cutD_to 1]
      unfold sD
      rw [List.map_take]
    case a6 =>
      have tk := true_ok (ns := ns) (o := o) (v := v) gl
      rcases List.mem_cons.mp (List.mem_of_getElem? hS) with rfl | h
      · exact seen_ok gl
      rcases List.mem_cons.mp h with rfl | h
      · exact tk
      rcases List.mem_cons.mp h with rfl | h
      · exact ⟨Nat.le_trans (List.length_take_le _ _) (by decide), fun q hq => tk.at_ q (List.mem_of_mem_take hq)⟩
      rw [List.mem_singleton.mp h]
      exact ⟨Nat.zero_le _, fun q hq => nomatch hq⟩
  · rw [List.findSome?_eq_none_iff.mpr (fun _ _ => rfl)] at h
    cases h
  · have gp := pair_good
    have k1 : OkS pairL [] := ⟨by decide, by decide⟩
    have k2 : OkS pairL [(0, 0), (3, 1)] := ⟨by decide, by decide⟩
    have k3 : OkS pairL [(3, 1)] := ⟨by decide, by decide⟩
    have k4 : OkS pairL [(1, 0)] := ⟨by decide, by decide⟩
    have sh2 : R_share [landD pairL, sD [(0, 0), (3, 1)], .int 1, .int 1] (.tuple [.int 1, .int 2]) := ⟨pairL, _, 1, 1, gp, k2, by decide, by decide, by decide, by decide, by rw [pair_n2]; decide, rfl, by unfold gcdI; rw [pair_t2, pair_n2]; rfl⟩
    have sh4 : R_share [landD pairL, sD [(1, 0)], .int 1, .int 1] (.tuple [.int 0, .int 1]) := ⟨pairL, _, 1, 1, gp, k4, by decide, by decide, by decide, by decide, by rw [pair_n4]; decide, rfl, by unfold gcdI; rw [pair_t4, pair_n4]; rfl⟩
    have h1 : R_how_many [landD pairL, sD []] (.int 16) := ⟨pairL, [], gp, k1, rfl, by rw [pair_n1]⟩
    have h2 : R_how_many [landD pairL, sD [(0, 0), (3, 1)]] (.int 4) := ⟨pairL, _, gp, k2, rfl, by rw [pair_n2]⟩
    have w3 : R_walk_by [landD pairL, sD [(3, 1)], .int 5] ([1, 0, 1, 1].map .int) := ⟨pairL, _, 5, gp, k3, by decide, by rw [pair_n3]; decide, rfl, by rw [pair_w3]⟩
    have tp : ∀ {ρ : Rho} {a b : Int}, YD K (tTup (tCons (tC (.int a)) (tCons (tC (.int b)) tNil))) ρ (dP (a, b)) := yd_tup (ya_cons yd_int (ya_cons yd_int ya_nil)) (Nat.le_of_ble_eq_true rfl)
    refine yr_seq (yn_asg (d := landD pairL) (yd_tup (ya_cons yd_int (ya_cons (yd_lst (ya_cons tp ya_nil) (Nat.le_of_ble_eq_true rfl)) (ya_cons yd_int ya_nil))) (Nat.le_of_ble_eq_true rfl)) yg_name) ?_
    refine yr_seq (yn_asg (d := sD [(0, 0), (3, 1)]) (yd_lst (ya_cons tp (ya_cons tp ya_nil)) (Nat.le_of_ble_eq_true rfl)) yg_name) ?_
    refine yr_seq (yn_ifF (YT.eq (yt_or (YT.eq (yt_test (yd_op (yd_callX (ya_cons (yd_var rfl) (ya_cons (yd_lst ya_nil (Nat.zero_le _)) ya_nil)) h1) yd_int (rd_neD rfl rfl))) (b' := false) rfl) fun _ => yt_or (YT.eq (yt_test (yd_op (yd_callX (ya_cons (yd_var rfl) (ya_cons (yd_var rfl) ya_nil)) h2) yd_int (rd_neD rfl rfl))) (b' := false) rfl) fun _ => YT.eq (yt_test (yd_op (yd_callX (ya_cons (yd_var rfl) (ya_cons (yd_var rfl) (ya_cons yd_int (ya_cons yd_int ya_nil)))) sh2) (yd_tup (ya_cons yd_int (ya_cons yd_int ya_nil)) (Nat.le_of_ble_eq_true rfl)) (rd_neD rfl rfl))) (b' := false) rfl) rfl) yn_next) ?_
    exact yr_ret (YD.eq (yd_and (a := true) (b := true) (YD.eq (yd_op (yf_callX (ya_cons (yd_var rfl) (ya_cons (yd_lst (ya_cons tp ya_nil) (Nat.le_of_ble_eq_true rfl)) (ya_cons yd_int ya_nil))) w3).yd (yd_lst (ya_cons yd_int (ya_cons yd_int (ya_cons yd_int (ya_cons yd_int ya_nil)))) (Nat.le_of_ble_eq_true rfl)) (rd_eqD rfl rfl)) rfl) fun _ => YD.eq (yd_op (yd_callX (ya_cons (yd_var rfl) (ya_cons (yd_lst (ya_cons tp ya_nil) (Nat.le_of_ble_eq_true rfl)) (ya_cons yd_int (ya_cons yd_int ya_nil)))) sh4) (yd_tup (ya_cons yd_int (ya_cons yd_int ya_nil)) (Nat.le_of_ble_eq_true rfl)) (rd_eqD rfl rfl)) rfl) rfl)
end
end SG
set_option Elab.async false
set_option linter.all false
set_option maxRecDepth 100000
set_option maxHeartbeats 0
namespace SG
open PySem PySem.Spec PyProof.Rows L2
/-! ### the head -/
def erL : List Str := ["BadSightings", "BadNumber", "NoWalk"]
def d_is_number : He.DefD := ⟨("is_number", none), "is_number", "is_number", defArgs (top 14), defBody (top 14), defScope (top 14), [], []⟩
def d_is_within : He.DefD := ⟨("is_within", none), "is_within", "is_within", defArgs (top 15), defBody (top 15), defScope (top 15), [], []⟩
def d_is_way : He.DefD := ⟨("is_way", none), "is_way", "is_way", defArgs (top 16), defBody (top 16), defScope (top 16), [], []⟩
def d_are_ways : He.DefD := ⟨("are_ways", none), "are_ways", "are_ways", defArgs (top 17), defBody (top 17), defScope (top 17), [], []⟩
def d_is_land : He.DefD := ⟨("is_land", none), "is_land", "is_land", defArgs (top 18), defBody (top 18), defScope (top 18), [], []⟩
def d_is_sighting : He.DefD := ⟨("is_sighting", none), "is_sighting", "is_sighting", defArgs (top 19), defBody (top 19), defScope (top 19), [], []⟩
def d_are_sightings : He.DefD := ⟨("are_sightings", none), "are_sightings", "are_sightings", defArgs (top 20), defBody (top 20), defScope (top 20), [], []⟩
def d_is_walk : He.DefD := ⟨("is_walk", none), "is_walk", "is_walk", defArgs (top 21), defBody (top 21), defScope (top 21), [], []⟩
def d_check_land : He.DefD := ⟨("check_land", none), "check_land", "check_land", defArgs (top 22), defBody (top 22), defScope (top 22), [], []⟩
def d_check_place : He.DefD := ⟨("check_place", none), "check_place", "check_place", defArgs (top 23), defBody (top 23), defScope (top 23), [], []⟩
def d_check_tick : He.DefD := ⟨("check_tick", none), "check_tick", "check_tick", defArgs (top 24), defBody (top 24), defScope (top 24), [], []⟩
def d_check_question : He.DefD := ⟨("check_question", none), "check_question", "check_question", defArgs (top 25), defBody (top 25), defScope (top 25), [], []⟩
def d_next_places : He.DefD := ⟨("next_places", none), "next_places", "next_places", defArgs (top 26), defBody (top 26), defScope (top 26), [], []⟩
def d_count_met : He.DefD := ⟨("count_met", none), "count_met", "count_met", defArgs (top 27), defBody (top 27), defScope (top 27), [], []⟩
def d_how_many : He.DefD := ⟨("how_many", none), "how_many", "how_many", defArgs (top 29), defBody (top 29), defScope (top 29), [], []⟩
def d_walk_by : He.DefD := ⟨("walk_by", none), "walk_by", "walk_by", defArgs (top 30), defBody (top 30), defScope (top 30), [], []⟩
def d_number_of : He.DefD := ⟨("number_of", none), "number_of", "number_of", defArgs (top 31), defBody (top 31), defScope (top 31), [], []⟩
def d_share : He.DefD := ⟨("share", none), "share", "share", defArgs (top 32), defBody (top 32), defScope (top 32), [], []⟩
def d_count_walks : He.DefD := ⟨("count_walks", none), "count_walks", "count_walks", defArgs (top 33), defBody (top 33), defScope (top 33), [], []⟩
def d_ways_on : He.DefD := ⟨("ways_on", none), "ways_on", "ways_on", defArgs (top 34), defBody (top 34), defScope (top 34), [], []⟩
def d_ends_from : He.DefD := ⟨("ends_from", none), "ends_from", "ends_from", defArgs (top 35), defBody (top 35), defScope (top 35), [], []⟩
def d_choices_after : He.DefD := ⟨("choices_after", none), "choices_after", "choices_after", defArgs (top 36), defBody (top 36), defScope (top 36), [], []⟩
def d_common_measure : He.DefD := ⟨("common_measure", none), "common_measure", "common_measure", defArgs (top 37), defBody (top 37), defScope (top 37), [], []⟩
def d__law_cell_at : He.DefD := ⟨("_law_cell_at", none), "_law_cell_at", "_law_cell_at", defArgs (top 39), defBody (top 39), defScope (top 39), [], []⟩
def d__law_draw : He.DefD := ⟨("_law_draw", none), "_law_draw", "_law_draw", defArgs (top 40), defBody (top 40), defScope (top 40), [], []⟩
def d__law_value : He.DefD := ⟨("_law_value", none), "_law_value", "_law_value", defArgs (top 41), defBody (top 41), defScope (top 41), [], []⟩
def d__law_whole : He.DefD := ⟨("_law_whole", none), "_law_whole", "_law_whole", defArgs (top 42), defBody (top 42), defScope (top 42), [], []⟩
def d__law_land : He.DefD := ⟨("_law_land", none), "_law_land", "_law_land", defArgs (top 43), defBody (top 43), defScope (top 43), [], []⟩
def d__law_beside : He.DefD := ⟨("_law_beside", none), "_law_beside", "_law_beside", defArgs (top 44), defBody (top 44), defScope (top 44), [], []⟩
def d__law_walk : He.DefD := ⟨("_law_walk", none), "_law_walk", "_law_walk", defArgs (top 45), defBody (top 45), defScope (top 45), [], []⟩
def d__law_seen : He.DefD := ⟨("_law_seen", none), "_law_seen", "_law_seen", defArgs (top 46), defBody (top 46), defScope (top 46), [], []⟩
def d__law_is_walk : He.DefD := ⟨("_law_is_walk", none), "_law_is_walk", "_law_is_walk", defArgs (top 47), defBody (top 47), defScope (top 47), [], []⟩
def d__law_met : He.DefD := ⟨("_law_met", none), "_law_met", "_law_met", defArgs (top 48), defBody (top 48), defScope (top 48), [], []⟩
def d__law_copied : He.DefD := ⟨("_law_copied", none), "_law_copied", "_law_copied", defArgs (top 49), defBody (top 49), defScope (top 49), [], []⟩
def d__law_counts : He.DefD := ⟨("_law_counts", none), "_law_counts", "_law_counts", defArgs (top 50), defBody (top 50), defScope (top 50), [], []⟩
def d__law_refused : He.DefD := ⟨("_law_refused", none), "_law_refused", "_law_refused", defArgs (top 51), defBody (top 51), defScope (top 51), [], []⟩
def d__law_beyond : He.DefD := ⟨("_law_beyond", none), "_law_beyond", "_law_beyond", defArgs (top 52), defBody (top 52), defScope (top 52), [], []⟩
def d__law_shares_right : He.DefD := ⟨("_law_shares_right", none), "_law_shares_right", "_law_shares_right", defArgs (top 53), defBody (top 53), defScope (top 53), [], []⟩
def d__law_right : He.DefD := ⟨("_law_right", none), "_law_right", "_law_right", defArgs (top 54), defBody (top 54), defScope (top 54), [], []⟩
def d_law : He.DefD := ⟨("law", none), "law", "law", defArgs (top 55), defBody (top 55), defScope (top 55), [], []⟩
def fn : List He.DefD := [d_is_number, d_is_within, d_is_way, d_are_ways, d_is_land, d_is_sighting, d_are_sightings, d_is_walk, d_check_land, d_check_place, d_check_tick, d_check_question, d_next_places, d_count_met, d_how_many, d_walk_by, d_number_of, d_share, d_count_walks, d_ways_on, d_ends_from, d_choices_after, d_common_measure, d__law_cell_at, d__law_draw, d__law_value, d__law_whole, d__law_land, d__law_beside, d__law_walk, d__law_seen, d__law_is_walk, d__law_met, d__law_copied, d__law_counts, d__law_refused, d__law_beyond, d__law_shares_right, d__law_right, d_law]
def fa : List He.Fa := [.glo "SightError", .glo "BadLand", .glo "BadPlace", .glo "BadTick", .glo "BadSightings", .glo "BadNumber", .glo "BadWalk", .glo "NoWalk", .glo "is_number", .glo "is_within", .glo "is_way", .glo "are_ways", .glo "is_land", .glo "is_sighting", .glo "are_sightings", .glo "is_walk", .glo "check_land", .glo "check_place", .glo "check_tick", .glo "check_question", .glo "next_places", .glo "count_met", .glo "how_many", .glo "walk_by", .glo "number_of", .glo "share", .glo "count_walks", .glo "ways_on", .glo "ends_from", .glo "choices_after", .glo "common_measure", .glo "_law_cell_at", .glo "_law_draw", .glo "_law_value", .glo "_law_whole", .glo "_law_land", .glo "_law_beside", .glo "_law_walk", .glo "_law_seen", .glo "_law_is_walk", .glo "_law_met", .glo "_law_copied", .glo "_law_counts", .glo "_law_refused", .glo "_law_beyond", .glo "_law_shares_right", .glo "_law_right", .glo "law", .int "MOST_PLACES" 7, .int "MOST_WAYS" 10, .int "MOST_LAST" 10, .int "MOST_SIGHTINGS" 8, .free "len", .free "isinstance", .free "all", .free "any", .free "min", .free "max", .free "sorted", .free "abs", .free "sum", .free "int", .free "bool", .free "tuple", .free "list", .free "range", .free "zip", .free "enumerate", .free "reversed", .free "set", .free "dict", .exc "SightError", .exc "BadLand", .exc "BadPlace", .exc "BadTick", .exc "BadSightings", .exc "BadNumber", .exc "BadWalk", .exc "NoWalk"]
def names : List PySem.Str := (["SightError", "BadLand", "BadPlace", "BadTick", "BadSightings", "BadNumber", "BadWalk", "NoWalk", "MOST_PLACES", "MOST_WAYS", "MOST_LAST", "MOST_SIGHTINGS", "is_number", "is_within", "is_way", "are_ways", "is_land", "is_sighting", "are_sightings", "is_walk", "check_land", "check_place", "check_tick", "check_question", "next_places", "count_met", "how_many", "walk_by", "number_of", "share"] : List PySem.Str) ++ (["count_walks", "ways_on", "ends_from", "choices_after", "common_measure", "_law_cell_at", "_law_draw", "_law_value", "_law_whole", "_law_land", "_law_beside", "_law_walk", "_law_seen", "_law_is_walk", "_law_met", "_law_copied", "_law_counts", "_law_refused", "_law_beyond", "_law_shares_right", "_law_right"] : List PySem.Str)
def exq : PySem.W.Frag → Bool := fun K => errB erL "SightError" K
abbrev Rw : PySem.W.OpenRow := PySem.W.OpenLaw.row PySem.Challenge.rw_sightings_k05_whole_walks
abbrev hk : PySem.W.Hook := hookM 5 fa fn exq
def ob (s : PySem.W.SharedT) : AlM := obsM 5 fa fn exq (HandSHeadRun.getT s)
theorem ob_eq (s : PySem.W.SharedT) : ob s = hk.obs s.abs := obsM_eq (HandSHeadRun.getT_eq s)
theorem run (w : World) : HandSHeadRun.RunEq Rw (PySem.W.view Rw.prog [55]) hk ob 4000 names w := by
  intro os
  kernel_rfl
theorem facts {P : Program} {w : World} {K : PySem.W.Frag} {h : Heap} {mg : Str → Option Value} {f : Addr} (X : K.In h) (G : h.Ns mainGlobals mg) (hfa : mg ("law" : Str) = some (.ref f)) (c : SaysM fa fn exq K) :
    ∃ fd : FuncData, (∀ (s : Shared) (v : Value), BindsTo s fd ⟨[v], []⟩ [("_law_script", v)]) ∧ ∀ base : Heap, K.In base → base.Ns mainGlobals mg → FnOk P w K mg base CX0 11 f fd ["_law_script"] (spLaw K) := by
  obtain ⟨fd_is_number, F_is_number⟩ := c.d.def_ 0 (d := d_is_number) rfl
  replace F_is_number : FnP K "is_number" (top 14) (He.ga K "is_number") fd_is_number := F_is_number
  have m_is_number : mg "is_number" = some (.ref (He.ga K "is_number")) := He.glo_ok X G (c.d.fact 8 (f := .glo "is_number") rfl)
  obtain ⟨fd_is_within, F_is_within⟩ := c.d.def_ 1 (d := d_is_within) rfl
  replace F_is_within : FnP K "is_within" (top 15) (He.ga K "is_within") fd_is_within := F_is_within
  have m_is_within : mg "is_within" = some (.ref (He.ga K "is_within")) := He.glo_ok X G (c.d.fact 9 (f := .glo "is_within") rfl)
  obtain ⟨fd_is_way, F_is_way⟩ := c.d.def_ 2 (d := d_is_way) rfl
  replace F_is_way : FnP K "is_way" (top 16) (He.ga K "is_way") fd_is_way := F_is_way
  have m_is_way : mg "is_way" = some (.ref (He.ga K "is_way")) := He.glo_ok X G (c.d.fact 10 (f := .glo "is_way") rfl)
  obtain ⟨fd_are_ways, F_are_ways⟩ := c.d.def_ 3 (d := d_are_ways) rfl
  replace F_are_ways : FnP K "are_ways" (top 17) (He.ga K "are_ways") fd_are_ways := F_are_ways
  have m_are_ways : mg "are_ways" = some (.ref (He.ga K "are_ways")) := He.glo_ok X G (c.d.fact 11 (f := .glo "are_ways") rfl)
  obtain ⟨fd_is_land, F_is_land⟩ := c.d.def_ 4 (d := d_is_land) rfl
  replace F_is_land : FnP K "is_land" (top 18) (He.ga K "is_land") fd_is_land := F_is_land
  have m_is_land : mg "is_land" = some (.ref (He.ga K "is_land")) := He.glo_ok X G (c.d.fact 12 (f := .glo "is_land") rfl)
  obtain ⟨fd_is_sighting, F_is_sighting⟩ := c.d.def_ 5 (d := d_is_sighting) rfl
  replace F_is_sighting : FnP K "is_sighting" (top 19) (He.ga K "is_sighting") fd_is_sighting := F_is_sighting
  have m_is_sighting : mg "is_sighting" = some (.ref (He.ga K "is_sighting")) := He.glo_ok X G (c.d.fact 13 (f := .glo "is_sighting") rfl)
  obtain ⟨fd_are_sightings, F_are_sightings⟩ := c.d.def_ 6 (d := d_are_sightings) rfl
  replace F_are_sightings : FnP K "are_sightings" (top 20) (He.ga K "are_sightings") fd_are_sightings := F_are_sightings
  have m_are_sightings : mg "are_sightings" = some (.ref (He.ga K "are_sightings")) := He.glo_ok X G (c.d.fact 14 (f := .glo "are_sightings") rfl)
  obtain ⟨fd_is_walk, F_is_walk⟩ := c.d.def_ 7 (d := d_is_walk) rfl
  replace F_is_walk : FnP K "is_walk" (top 21) (He.ga K "is_walk") fd_is_walk := F_is_walk
  have m_is_walk : mg "is_walk" = some (.ref (He.ga K "is_walk")) := He.glo_ok X G (c.d.fact 15 (f := .glo "is_walk") rfl)
  obtain ⟨fd_check_land, F_check_land⟩ := c.d.def_ 8 (d := d_check_land) rfl
  replace F_check_land : FnP K "check_land" (top 22) (He.ga K "check_land") fd_check_land := F_check_land
  have m_check_land : mg "check_land" = some (.ref (He.ga K "check_land")) := He.glo_ok X G (c.d.fact 16 (f := .glo "check_land") rfl)
  obtain ⟨fd_check_place, F_check_place⟩ := c.d.def_ 9 (d := d_check_place) rfl
  replace F_check_place : FnP K "check_place" (top 23) (He.ga K "check_place") fd_check_place := F_check_place
  have m_check_place : mg "check_place" = some (.ref (He.ga K "check_place")) := He.glo_ok X G (c.d.fact 17 (f := .glo "check_place") rfl)
  obtain ⟨fd_check_tick, F_check_tick⟩ := c.d.def_ 10 (d := d_check_tick) rfl
  replace F_check_tick : FnP K "check_tick" (top 24) (He.ga K "check_tick") fd_check_tick := F_check_tick
  have m_check_tick : mg "check_tick" = some (.ref (He.ga K "check_tick")) := He.glo_ok X G (c.d.fact 18 (f := .glo "check_tick") rfl)
  obtain ⟨fd_check_question, F_check_question⟩ := c.d.def_ 11 (d := d_check_question) rfl
  replace F_check_question : FnP K "check_question" (top 25) (He.ga K "check_question") fd_check_question := F_check_question
  have m_check_question : mg "check_question" = some (.ref (He.ga K "check_question")) := He.glo_ok X G (c.d.fact 19 (f := .glo "check_question") rfl)
  obtain ⟨fd_next_places, F_next_places⟩ := c.d.def_ 12 (d := d_next_places) rfl
  replace F_next_places : FnP K "next_places" (top 26) (He.ga K "next_places") fd_next_places := F_next_places
  have m_next_places : mg "next_places" = some (.ref (He.ga K "next_places")) := He.glo_ok X G (c.d.fact 20 (f := .glo "next_places") rfl)
  obtain ⟨fd_count_met, F_count_met⟩ := c.d.def_ 13 (d := d_count_met) rfl
  replace F_count_met : FnP K "count_met" (top 27) (He.ga K "count_met") fd_count_met := F_count_met
  have m_count_met : mg "count_met" = some (.ref (He.ga K "count_met")) := He.glo_ok X G (c.d.fact 21 (f := .glo "count_met") rfl)
  obtain ⟨fd_how_many, F_how_many⟩ := c.d.def_ 14 (d := d_how_many) rfl
  replace F_how_many : FnP K "how_many" (top 29) (He.ga K "how_many") fd_how_many := F_how_many
  have m_how_many : mg "how_many" = some (.ref (He.ga K "how_many")) := He.glo_ok X G (c.d.fact 22 (f := .glo "how_many") rfl)
  obtain ⟨fd_walk_by, F_walk_by⟩ := c.d.def_ 15 (d := d_walk_by) rfl
  replace F_walk_by : FnP K "walk_by" (top 30) (He.ga K "walk_by") fd_walk_by := F_walk_by
  have m_walk_by : mg "walk_by" = some (.ref (He.ga K "walk_by")) := He.glo_ok X G (c.d.fact 23 (f := .glo "walk_by") rfl)
  obtain ⟨fd_number_of, F_number_of⟩ := c.d.def_ 16 (d := d_number_of) rfl
  replace F_number_of : FnP K "number_of" (top 31) (He.ga K "number_of") fd_number_of := F_number_of
  have m_number_of : mg "number_of" = some (.ref (He.ga K "number_of")) := He.glo_ok X G (c.d.fact 24 (f := .glo "number_of") rfl)
  obtain ⟨fd_share, F_share⟩ := c.d.def_ 17 (d := d_share) rfl
  replace F_share : FnP K "share" (top 32) (He.ga K "share") fd_share := F_share
  have m_share : mg "share" = some (.ref (He.ga K "share")) := He.glo_ok X G (c.d.fact 25 (f := .glo "share") rfl)
  obtain ⟨fd_count_walks, F_count_walks⟩ := c.d.def_ 18 (d := d_count_walks) rfl
  replace F_count_walks : FnP K "count_walks" (top 33) (He.ga K "count_walks") fd_count_walks := F_count_walks
  have m_count_walks : mg "count_walks" = some (.ref (He.ga K "count_walks")) := He.glo_ok X G (c.d.fact 26 (f := .glo "count_walks") rfl)
  obtain ⟨fd_ways_on, F_ways_on⟩ := c.d.def_ 19 (d := d_ways_on) rfl
  replace F_ways_on : FnP K "ways_on" (top 34) (He.ga K "ways_on") fd_ways_on := F_ways_on
  have m_ways_on : mg "ways_on" = some (.ref (He.ga K "ways_on")) := He.glo_ok X G (c.d.fact 27 (f := .glo "ways_on") rfl)
  obtain ⟨fd_ends_from, F_ends_from⟩ := c.d.def_ 20 (d := d_ends_from) rfl
  replace F_ends_from : FnP K "ends_from" (top 35) (He.ga K "ends_from") fd_ends_from := F_ends_from
  have m_ends_from : mg "ends_from" = some (.ref (He.ga K "ends_from")) := He.glo_ok X G (c.d.fact 28 (f := .glo "ends_from") rfl)
  obtain ⟨fd_choices_after, F_choices_after⟩ := c.d.def_ 21 (d := d_choices_after) rfl
  replace F_choices_after : FnP K "choices_after" (top 36) (He.ga K "choices_after") fd_choices_after := F_choices_after
  have m_choices_after : mg "choices_after" = some (.ref (He.ga K "choices_after")) := He.glo_ok X G (c.d.fact 29 (f := .glo "choices_after") rfl)
  obtain ⟨fd_common_measure, F_common_measure⟩ := c.d.def_ 22 (d := d_common_measure) rfl
  replace F_common_measure : FnP K "common_measure" (top 37) (He.ga K "common_measure") fd_common_measure := F_common_measure
  have m_common_measure : mg "common_measure" = some (.ref (He.ga K "common_measure")) := He.glo_ok X G (c.d.fact 30 (f := .glo "common_measure") rfl)
  obtain ⟨fd__law_cell_at, F__law_cell_at⟩ := c.d.def_ 23 (d := d__law_cell_at) rfl
  replace F__law_cell_at : FnP K "_law_cell_at" (top 39) (He.ga K "_law_cell_at") fd__law_cell_at := F__law_cell_at
  have m__law_cell_at : mg "_law_cell_at" = some (.ref (He.ga K "_law_cell_at")) := He.glo_ok X G (c.d.fact 31 (f := .glo "_law_cell_at") rfl)
  obtain ⟨fd__law_draw, F__law_draw⟩ := c.d.def_ 24 (d := d__law_draw) rfl
  replace F__law_draw : FnP K "_law_draw" (top 40) (He.ga K "_law_draw") fd__law_draw := F__law_draw
  have m__law_draw : mg "_law_draw" = some (.ref (He.ga K "_law_draw")) := He.glo_ok X G (c.d.fact 32 (f := .glo "_law_draw") rfl)
  obtain ⟨fd__law_value, F__law_value⟩ := c.d.def_ 25 (d := d__law_value) rfl
  replace F__law_value : FnP K "_law_value" (top 41) (He.ga K "_law_value") fd__law_value := F__law_value
  have m__law_value : mg "_law_value" = some (.ref (He.ga K "_law_value")) := He.glo_ok X G (c.d.fact 33 (f := .glo "_law_value") rfl)
  obtain ⟨fd__law_whole, F__law_whole⟩ := c.d.def_ 26 (d := d__law_whole) rfl
  replace F__law_whole : FnP K "_law_whole" (top 42) (He.ga K "_law_whole") fd__law_whole := F__law_whole
  have m__law_whole : mg "_law_whole" = some (.ref (He.ga K "_law_whole")) := He.glo_ok X G (c.d.fact 34 (f := .glo "_law_whole") rfl)
  obtain ⟨fd__law_land, F__law_land⟩ := c.d.def_ 27 (d := d__law_land) rfl
  replace F__law_land : FnP K "_law_land" (top 43) (He.ga K "_law_land") fd__law_land := F__law_land
  have m__law_land : mg "_law_land" = some (.ref (He.ga K "_law_land")) := He.glo_ok X G (c.d.fact 35 (f := .glo "_law_land") rfl)
  obtain ⟨fd__law_beside, F__law_beside⟩ := c.d.def_ 28 (d := d__law_beside) rfl
  replace F__law_beside : FnP K "_law_beside" (top 44) (He.ga K "_law_beside") fd__law_beside := F__law_beside
  have m__law_beside : mg "_law_beside" = some (.ref (He.ga K "_law_beside")) := He.glo_ok X G (c.d.fact 36 (f := .glo "_law_beside") rfl)
  obtain ⟨fd__law_walk, F__law_walk⟩ := c.d.def_ 29 (d := d__law_walk) rfl
  replace F__law_walk : FnP K "_law_walk" (top 45) (He.ga K "_law_walk") fd__law_walk := F__law_walk
  have m__law_walk : mg "_law_walk" = some (.ref (He.ga K "_law_walk")) := He.glo_ok X G (c.d.fact 37 (f := .glo "_law_walk") rfl)
  obtain ⟨fd__law_seen, F__law_seen⟩ := c.d.def_ 30 (d := d__law_seen) rfl
  replace F__law_seen : FnP K "_law_seen" (top 46) (He.ga K "_law_seen") fd__law_seen := F__law_seen
  have m__law_seen : mg "_law_seen" = some (.ref (He.ga K "_law_seen")) := He.glo_ok X G (c.d.fact 38 (f := .glo "_law_seen") rfl)
  obtain ⟨fd__law_is_walk, F__law_is_walk⟩ := c.d.def_ 31 (d := d__law_is_walk) rfl
  replace F__law_is_walk : FnP K "_law_is_walk" (top 47) (He.ga K "_law_is_walk") fd__law_is_walk := F__law_is_walk
  have m__law_is_walk : mg "_law_is_walk" = some (.ref (He.ga K "_law_is_walk")) := He.glo_ok X G (c.d.fact 39 (f := .glo "_law_is_walk") rfl)
  obtain ⟨fd__law_met, F__law_met⟩ := c.d.def_ 32 (d := d__law_met) rfl
  replace F__law_met : FnP K "_law_met" (top 48) (He.ga K "_law_met") fd__law_met := F__law_met
  have m__law_met : mg "_law_met" = some (.ref (He.ga K "_law_met")) := He.glo_ok X G (c.d.fact 40 (f := .glo "_law_met") rfl)
  obtain ⟨fd__law_copied, F__law_copied⟩ := c.d.def_ 33 (d := d__law_copied) rfl
  replace F__law_copied : FnP K "_law_copied" (top 49) (He.ga K "_law_copied") fd__law_copied := F__law_copied
  have m__law_copied : mg "_law_copied" = some (.ref (He.ga K "_law_copied")) := He.glo_ok X G (c.d.fact 41 (f := .glo "_law_copied") rfl)
  obtain ⟨fd__law_counts, F__law_counts⟩ := c.d.def_ 34 (d := d__law_counts) rfl
  replace F__law_counts : FnP K "_law_counts" (top 50) (He.ga K "_law_counts") fd__law_counts := F__law_counts
  have m__law_counts : mg "_law_counts" = some (.ref (He.ga K "_law_counts")) := He.glo_ok X G (c.d.fact 42 (f := .glo "_law_counts") rfl)
  obtain ⟨fd__law_refused, F__law_refused⟩ := c.d.def_ 35 (d := d__law_refused) rfl
  replace F__law_refused : FnP K "_law_refused" (top 51) (He.ga K "_law_refused") fd__law_refused := F__law_refused
  have m__law_refused : mg "_law_refused" = some (.ref (He.ga K "_law_refused")) := He.glo_ok X G (c.d.fact 43 (f := .glo "_law_refused") rfl)
  obtain ⟨fd__law_beyond, F__law_beyond⟩ := c.d.def_ 36 (d := d__law_beyond) rfl
  replace F__law_beyond : FnP K "_law_beyond" (top 52) (He.ga K "_law_beyond") fd__law_beyond := F__law_beyond
  have m__law_beyond : mg "_law_beyond" = some (.ref (He.ga K "_law_beyond")) := He.glo_ok X G (c.d.fact 44 (f := .glo "_law_beyond") rfl)
  obtain ⟨fd__law_shares_right, F__law_shares_right⟩ := c.d.def_ 37 (d := d__law_shares_right) rfl
  replace F__law_shares_right : FnP K "_law_shares_right" (top 53) (He.ga K "_law_shares_right") fd__law_shares_right := F__law_shares_right
  have m__law_shares_right : mg "_law_shares_right" = some (.ref (He.ga K "_law_shares_right")) := He.glo_ok X G (c.d.fact 45 (f := .glo "_law_shares_right") rfl)
  obtain ⟨fd__law_right, F__law_right⟩ := c.d.def_ 38 (d := d__law_right) rfl
  replace F__law_right : FnP K "_law_right" (top 54) (He.ga K "_law_right") fd__law_right := F__law_right
  have m__law_right : mg "_law_right" = some (.ref (He.ga K "_law_right")) := He.glo_ok X G (c.d.fact 46 (f := .glo "_law_right") rfl)
  obtain ⟨fd_law, F_law⟩ := c.d.def_ 39 (d := d_law) rfl
  replace F_law : FnP K "law" (top 55) (He.ga K "law") fd_law := F_law
  have m_law : mg "law" = some (.ref (He.ga K "law")) := He.glo_ok X G (c.d.fact 47 (f := .glo "law") rfl)
  have x_SightError : Xc K mg "SightError" (He.ga K "SightError") := xc_of X G (c.d.fact 0 (f := .glo "SightError") rfl) (c.d.fact 71 (f := .exc "SightError") rfl)
  have x_BadLand : Xc K mg "BadLand" (He.ga K "BadLand") := xc_of X G (c.d.fact 1 (f := .glo "BadLand") rfl) (c.d.fact 72 (f := .exc "BadLand") rfl)
  have x_BadPlace : Xc K mg "BadPlace" (He.ga K "BadPlace") := xc_of X G (c.d.fact 2 (f := .glo "BadPlace") rfl) (c.d.fact 73 (f := .exc "BadPlace") rfl)
  have x_BadTick : Xc K mg "BadTick" (He.ga K "BadTick") := xc_of X G (c.d.fact 3 (f := .glo "BadTick") rfl) (c.d.fact 74 (f := .exc "BadTick") rfl)
  have x_BadSightings : Xc K mg "BadSightings" (He.ga K "BadSightings") := xc_of X G (c.d.fact 4 (f := .glo "BadSightings") rfl) (c.d.fact 75 (f := .exc "BadSightings") rfl)
  have x_BadNumber : Xc K mg "BadNumber" (He.ga K "BadNumber") := xc_of X G (c.d.fact 5 (f := .glo "BadNumber") rfl) (c.d.fact 76 (f := .exc "BadNumber") rfl)
  have x_BadWalk : Xc K mg "BadWalk" (He.ga K "BadWalk") := xc_of X G (c.d.fact 6 (f := .glo "BadWalk") rfl) (c.d.fact 77 (f := .exc "BadWalk") rfl)
  have x_NoWalk : Xc K mg "NoWalk" (He.ga K "NoWalk") := xc_of X G (c.d.fact 7 (f := .glo "NoWalk") rfl) (c.d.fact 78 (f := .exc "NoWalk") rfl)
  have GG : Gi mg := ⟨⟨He.free_ok X G (c.d.fact 52 (f := .free "len") rfl), He.free_ok X G (c.d.fact 53 (f := .free "isinstance") rfl), He.free_ok X G (c.d.fact 54 (f := .free "all") rfl), He.free_ok X G (c.d.fact 55 (f := .free "any") rfl), He.free_ok X G (c.d.fact 56 (f := .free "min") rfl), He.free_ok X G (c.d.fact 57 (f := .free "max") rfl), He.free_ok X G (c.d.fact 58 (f := .free "sorted") rfl), He.free_ok X G (c.d.fact 59 (f := .free "abs") rfl), He.free_ok X G (c.d.fact 60 (f := .free "sum") rfl), He.free_ok X G (c.d.fact 61 (f := .free "int") rfl), He.free_ok X G (c.d.fact 62 (f := .free "bool") rfl), He.free_ok X G (c.d.fact 63 (f := .free "tuple") rfl), He.free_ok X G (c.d.fact 64 (f := .free "list") rfl), He.free_ok X G (c.d.fact 65 (f := .free "range") rfl), He.free_ok X G (c.d.fact 66 (f := .free "zip") rfl), He.free_ok X G (c.d.fact 67 (f := .free "enumerate") rfl), He.free_ok X G (c.d.fact 68 (f := .free "reversed") rfl), He.free_ok X G (c.d.fact 69 (f := .free "set") rfl), He.free_ok X G (c.d.fact 70 (f := .free "dict") rfl)⟩, He.int_ok X G (c.d.fact 48 (f := .int "MOST_PLACES" 7) rfl), He.int_ok X G (c.d.fact 49 (f := .int "MOST_WAYS" 10) rfl), He.int_ok X G (c.d.fact 50 (f := .int "MOST_LAST" 10) rfl), He.int_ok X G (c.d.fact 51 (f := .int "MOST_SIGHTINGS" 8) rfl)⟩
  have e := hfa.symm.trans m_law
  cases e
  have b := FunD.bindsA (ps := ["_law_script"]) F_law fun _ _ _ _ _ _ us hl => match us, hl with | [_], _ => rfl
  have i1 : ("BadSightings" : Str) ∈ erL := by decide
  have i2 : ("BadNumber" : Str) ∈ erL := by decide
  have i3 : ("NoWalk" : Str) ∈ erL := by decide
  refine ⟨fd_law, fun s v => b s [v] rfl, fun base _ _ => ?_⟩
  have c_is_number := cal_of F_is_number m_is_number (ok_is_number (P := P) (w := w) (base := base) F_is_number GG) fun _ _ _ _ _ _ us hl => match us, hl with | [_], _ => rfl
  have c_is_within := cal_of F_is_within m_is_within (ok_is_within (P := P) (w := w) (base := base) F_is_within GG c_is_number) fun _ _ _ _ _ _ us hl => match us, hl with | [_, _, _], _ => rfl
  have c_is_way := cal_of F_is_way m_is_way (ok_is_way (P := P) (w := w) (base := base) F_is_way GG c_is_within) fun _ _ _ _ _ _ us hl => match us, hl with | [_, _], _ => rfl
  have c_are_ways := cal_of F_are_ways m_are_ways (ok_are_ways (P := P) (w := w) (base := base) F_are_ways GG c_is_way) fun _ _ _ _ _ _ us hl => match us, hl with | [_, _], _ => rfl
  have c_is_land := cal_of F_is_land m_is_land (ok_is_land (P := P) (w := w) (base := base) F_is_land GG c_is_within c_are_ways) fun _ _ _ _ _ _ us hl => match us, hl with | [_], _ => rfl
  have c_check_land := cal_of F_check_land m_check_land (ok_check_land (P := P) (w := w) (base := base) F_check_land GG x_BadLand c_is_land) fun _ _ _ _ _ _ us hl => match us, hl with | [_], _ => rfl
  have c_check_place := cal_of F_check_place m_check_place (ok_check_place (P := P) (w := w) (base := base) F_check_place GG x_BadPlace c_is_within) fun _ _ _ _ _ _ us hl => match us, hl with | [_, _], _ => rfl
  have c_check_tick := cal_of F_check_tick m_check_tick (ok_check_tick (P := P) (w := w) (base := base) F_check_tick GG x_BadTick c_is_within) fun _ _ _ _ _ _ us hl => match us, hl with | [_, _], _ => rfl
  have c_is_sighting := cal_of F_is_sighting m_is_sighting (ok_is_sighting (P := P) (w := w) (base := base) F_is_sighting GG c_is_within) fun _ _ _ _ _ _ us hl => match us, hl with | [_, _], _ => rfl
  have c_are_sightings := cal_of F_are_sightings m_are_sightings (ok_are_sightings (P := P) (w := w) (base := base) F_are_sightings GG c_is_sighting) fun _ _ _ _ _ _ us hl => match us, hl with | [_, _], _ => rfl
  have c_next_places := cal_of F_next_places m_next_places (ok_next_places (P := P) (w := w) (base := base) F_next_places GG) fun _ _ _ _ _ _ us hl => match us, hl with | [_, _], _ => rfl
  have c_is_walk := cal_of F_is_walk m_is_walk (ok_is_walk (P := P) (w := w) (base := base) F_is_walk GG c_is_within c_next_places) fun _ _ _ _ _ _ us hl => match us, hl with | [_, _], _ => rfl
  have c_count_met := cal_of F_count_met m_count_met (ok_count_met (P := P) (w := w) (base := base) F_count_met GG) fun _ _ _ _ _ _ us hl => match us, hl with | [_, _], _ => rfl
  have c_check_question := cal_of F_check_question m_check_question (ok_check_question (P := P) (w := w) (base := base) F_check_question GG x_BadSightings c_check_land c_are_sightings) fun _ _ _ _ _ _ us hl => match us, hl with | [_, _], _ => rfl
  have c_ends_from := cal_of F_ends_from m_ends_from (ok_ends_from (P := P) (w := w) (base := base) F_ends_from GG c_next_places) fun _ _ _ _ _ _ us hl => match us, hl with | [_, _, _, _, _], _ => rfl
  have c_ways_on := cal_of F_ways_on m_ways_on (ok_ways_on (P := P) (w := w) (base := base) F_ways_on GG c_ends_from) fun _ _ _ _ _ _ us hl => match us, hl with | [_, _], _ => rfl
  have c_count_walks := cal_of F_count_walks m_count_walks (ok_count_walks (P := P) (w := w) (base := base) F_count_walks GG c_ways_on) fun _ _ _ _ _ _ us hl => match us, hl with | [_, _], _ => rfl
  have c_choices_after := cal_of F_choices_after m_choices_after (ok_choices_after (P := P) (w := w) (base := base) F_choices_after GG c_next_places) fun _ _ _ _ _ _ us hl => match us, hl with | [_, _], _ => rfl
  have c_common_measure := cal_of F_common_measure m_common_measure (ok_common_measure (P := P) (w := w) (base := base) F_common_measure GG) fun _ _ _ _ _ _ us hl => match us, hl with | [_, _], _ => rfl
  have c_how_many := cal_of F_how_many m_how_many (ok_how_many (P := P) (w := w) (base := base) F_how_many GG c_check_question c_count_walks) fun _ _ _ _ _ _ us hl => match us, hl with | [_, _], _ => rfl
  have c_walk_by := cal_of F_walk_by m_walk_by (ok_walk_by (P := P) (w := w) (base := base) F_walk_by GG x_BadNumber c_check_question c_ways_on c_is_within c_choices_after) fun _ _ _ _ _ _ us hl => match us, hl with | [_, _, _], _ => rfl
  have c_number_of := cal_of F_number_of m_number_of (ok_number_of (P := P) (w := w) (base := base) F_number_of GG x_BadWalk c_check_question c_ways_on c_is_walk c_count_met c_choices_after) fun _ _ _ _ _ _ us hl => match us, hl with | [_, _, _], _ => rfl
  have c_share := cal_of F_share m_share (ok_share (P := P) (w := w) (base := base) F_share GG x_NoWalk c_check_question c_check_place c_check_tick c_count_walks c_common_measure) fun _ _ _ _ _ _ us hl => match us, hl with | [_, _, _, _], _ => rfl
  have c__law_cell_at := cal_of F__law_cell_at m__law_cell_at (ok_cell_at (P := P) (w := w) (base := base) F__law_cell_at GG) fun _ _ _ _ _ _ us hl => match us, hl with | [_, _], _ => rfl
  have c__law_draw := cal_of F__law_draw m__law_draw (ok_draw (P := P) (w := w) (base := base) F__law_draw GG) fun _ _ _ _ _ _ us hl => match us, hl with | [_, _, _], _ => rfl
  have c__law_value := cal_of F__law_value m__law_value (ok_value (P := P) (w := w) (base := base) F__law_value GG c__law_draw) fun _ _ _ _ _ _ us hl => match us, hl with | [_, _], _ => rfl
  have c__law_land := cal_of F__law_land m__law_land (ok_land (P := P) (w := w) (base := base) F__law_land GG c__law_cell_at c__law_value) fun _ _ _ _ _ _ us hl => match us, hl with | [_, _], _ => rfl
  have c__law_whole := cal_of F__law_whole m__law_whole (ok_whole (P := P) (w := w) (base := base) F__law_whole GG) fun _ _ _ _ _ _ us hl => match us, hl with | [_], _ => rfl
  have c__law_beside := cal_of F__law_beside m__law_beside (ok_beside (P := P) (w := w) (base := base) F__law_beside GG) fun _ _ _ _ _ _ us hl => match us, hl with | [_, _], _ => rfl
  have c__law_walk := cal_of F__law_walk m__law_walk (ok_law_walk (P := P) (w := w) (base := base) F__law_walk GG c__law_cell_at c__law_value c__law_beside) fun _ _ _ _ _ _ us hl => match us, hl with | [_, _, _], _ => rfl
  have c__law_seen := cal_of F__law_seen m__law_seen (ok_law_seen (P := P) (w := w) (base := base) F__law_seen GG c__law_cell_at c__law_value c__law_walk) fun _ _ _ _ _ _ us hl => match us, hl with | [_, _, _], _ => rfl
  have c__law_is_walk := cal_of F__law_is_walk m__law_is_walk (ok_law_is_walk (P := P) (w := w) (base := base) F__law_is_walk GG c__law_beside) fun _ _ _ _ _ _ us hl => match us, hl with | [_, _], _ => rfl
  have c__law_met := cal_of F__law_met m__law_met (ok_law_met (P := P) (w := w) (base := base) F__law_met GG) fun _ _ _ _ _ _ us hl => match us, hl with | [_, _], _ => rfl
  have c__law_copied := cal_of F__law_copied m__law_copied (ok_copied (P := P) (w := w) (base := base) F__law_copied GG) fun _ _ _ _ _ _ us hl => match us, hl with | [_], _ => rfl
  have c__law_counts := cal_of F__law_counts m__law_counts (ok_counts (P := P) (w := w) (base := base) F__law_counts GG c__law_beside) fun _ _ _ _ _ _ us hl => match us, hl with | [_, _], _ => rfl
  have c__law_refused := cal_of F__law_refused m__law_refused (ok_refused (P := P) (w := w) (base := base) F__law_refused GG x_SightError.mg x_NoWalk x_BadSightings (errB_ec c.more i3) (errB_kit c.more i3 i3) (errB_kit c.more i3 i1) (errB_exm c.more i3) c_share) fun _ _ _ _ _ _ us hl => match us, hl with | [_, _], _ => rfl
  have c__law_beyond := cal_of F__law_beyond m__law_beyond (ok_beyond (P := P) (w := w) (base := base) F__law_beyond GG x_SightError.mg x_BadNumber x_BadSightings (errB_ec c.more i2) (errB_kit c.more i2 i2) (errB_kit c.more i2 i1) (errB_exm c.more i2) c_walk_by) fun _ _ _ _ _ _ us hl => match us, hl with | [_, _, _], _ => rfl
  have c__law_shares_right := cal_of F__law_shares_right m__law_shares_right (ok_shares_right (P := P) (w := w) (base := base) F__law_shares_right GG c_share c__law_whole c__law_counts) fun _ _ _ _ _ _ us hl => match us, hl with | [_, _, _, _], _ => rfl
  have c__law_right := cal_of F__law_right m__law_right (ok_right (P := P) (w := w) (base := base) F__law_right GG c_how_many c_walk_by c_number_of c_share c__law_whole c__law_counts c__law_copied c__law_is_walk c__law_met c__law_refused c__law_beyond c__law_shares_right) fun _ _ _ _ _ _ us hl => match us, hl with | [_, _, _], _ => rfl
  exact ok_law F_law GG c_how_many c_walk_by c_share c__law_cell_at c__law_value c__law_land c__law_seen c__law_walk c__law_right
end SG
open PySem PySem.W PySem.Calls PyProof.Rows
theorem PySem.Challenge.cw_sightings_k05_whole_walks_holds : PySem.Challenge.rw_sightings_k05_whole_walks.Holds := by
  w_on; o_law
  refine HandSHeadRun.head_any (r := OpenLaw.row PySem.Challenge.rw_sightings_k05_whole_walks) (q := view (OpenLaw.row PySem.Challenge.rw_sightings_k05_whole_walks).prog [55]) (H := SG.hk) (ob := SG.ob) (M := 4000) (loose := SG.names) (d := HandSHeadRun.topDef (OpenLaw.row PySem.Challenge.rw_sightings_k05_whole_walks).prog 55) (kwd := []) SG.ob_eq
    (by kernel_rfl) (fun s => by kernel_rfl) SG.run (by kernel_rfl) (by kernel_rfl) (by kernel_rfl) (by rfl) (by first | assumption | decide +kernel) (by decide +kernel) ⟨rfl, rfl, rfl, rfl, rfl, by decide +kernel⟩ ?hw ?hc
  case hw => w_witness2
  case hc =>
    refine L2.walk_ofE (l := PySem.Challenge.rw_sightings_k05_whole_walks) (n := 63) (k := 11) (x := "_law_script") (CX := L2.CX0) rfl (by decide) (by kernel_rfl) ⟨rfl, by decide, by decide⟩ ?F (fun _ _ _ _ z => z)
    intro w mg fa h Y G hmg0
    obtain ⟨K, KX, c⟩ := Y
    have hmg : mg ("law" : PySem.Str) = some (.ref fa) := by
      have e : (HandSHeadRun.topDef (OpenLaw.row PySem.Challenge.rw_sightings_k05_whole_walks).prog 55).name = ("law" : PySem.Str) := by kernel_rfl
      rw [← e]
      exact hmg0
    obtain ⟨fd, hb, hF⟩ := SG.facts (P := (PySem.Challenge.rw_sightings_k05_whole_walks).prog) (w := w) KX G hmg c
    exact ⟨K, fd, SG.spLaw K, KX, hb, fun H a ns hl _ hS => ⟨a, ns, rfl, hS, hl, fun _ => rfl⟩, hF⟩
