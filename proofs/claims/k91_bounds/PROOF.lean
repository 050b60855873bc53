import PyProof.Rows.All
import Wide.All
import OpenK.AllK
import Wide.FinOn
import PySem.Challenge.RW_ledquestions_k91_bounds
import HandS.ForMost
import HandS.Deep
import HandS.IsInst
import HandS.TupAny
import HandS.SetBool
import HandS.Strs
import HandS.Style
import KE.GoesEnum
set_option Elab.async false
set_option linter.all false
set_option maxRecDepth 100000
set_option maxHeartbeats 2000000
/-! A layer over HandS: the program's immutable data as PyData; each construct has a mirror (a partial function), the mirror of a def comes by unification. -/
namespace LQ
open PySem PySem.Spec PyProof.Rows L2
abbrev St := L2.St

/-! ### data in a frozen heap -/
theorem sqT_mono {K : PySem.W.Frag} {F F' : Hp} {a : Addr} {xs : List V} (s : Same F F') : SqT K F a xs → SqT K F' a xs
  | .inl (.inl h) => .inl (.inl (s _ _ h))
  | .inl (.inr ⟨o, h⟩) => .inl (.inr ⟨o, s _ _ h⟩)
  | .inr h => .inr h
mutual
theorem dp_mono {K : PySem.W.Frag} {F F' : Hp} (e : Same F F') : ∀ (d : PyData) (v : V), Dp K F v d → Dp K F' v d
  | .none, _, h => by cases h; exact .non
  | .bool b, _, h => by cases h; exact .bl b
  | .int i, _, h => by cases h; exact .int i
  | .str x, _, h => by cases h; exact .str x
  | .list ds, _, h => by
    cases h with
    | lst hs ha => exact .lst (e.seq hs) (dpAll_mono e ds _ ha)
  | .tuple ds, _, h => by
    cases h with
    | tup hs ha => exact .tup (sqT_mono e hs) (dpAll_mono e ds _ ha)
  | .dict _, _, h => by cases h
theorem dpAll_mono {K : PySem.W.Frag} {F F' : Hp} (e : Same F F') : ∀ (ds : List PyData) (vs : List V), DpAll K F vs ds → DpAll K F' vs ds
  | [], _, h => by cases h; exact .nil
  | d :: ds, _, h => by
    cases h with
    | cons h1 h2 => exact .cons (dp_mono e d _ h1) (dpAll_mono e ds _ h2)
end
theorem dpAll_len {K : PySem.W.Frag} {F : Hp} : ∀ {ds : List PyData} {vs : List V}, DpAll K F vs ds → vs.length = ds.length
  | [], _, h => by cases h; rfl
  | d :: ds, _, h => by
    cases h with
    | cons h1 h2 => rw [List.length_cons, List.length_cons, dpAll_len h2]
theorem dpAll_get {K : PySem.W.Frag} {F : Hp} : ∀ {ds : List PyData} {vs : List V} {i : Nat} {v : V}, DpAll K F vs ds → vs[i]? = some v → ∃ d, ds[i]? = some d ∧ Dp K F v d
  | [], _, i, v, h, e => by cases h; simp at e
  | d :: ds, _, 0, v, h, e => by
    cases h with
    | cons h1 h2 => simp at e; subst e; exact ⟨d, rfl, h1⟩
  | d :: ds, _, i + 1, v, h, e => by
    cases h with
    | cons h1 h2 =>
      obtain ⟨d', e', q⟩ := dpAll_get (i := i) (v := v) h2 (by simpa using e)
      exact ⟨d', by simpa using e', q⟩
theorem dpAll_get' {K : PySem.W.Frag} {F : Hp} {ds : List PyData} {vs : List V} {i : Nat} {d : PyData} (h : DpAll K F vs ds) (e : ds[i]? = some d) : ∃ v, vs[i]? = some v ∧ Dp K F v d := by
  have hl := dpAll_len h
  have hi : i < vs.length := by
    have := (List.getElem?_eq_some_iff.mp e).1
    omega
  obtain ⟨d', e', q⟩ := dpAll_get h (List.getElem?_eq_getElem hi)
  rw [e] at e'
  cases e'
  exact ⟨_, List.getElem?_eq_getElem hi, q⟩
theorem dpAll_app {K : PySem.W.Frag} {F : Hp} : ∀ {ds es : List PyData} {vs us : List V}, DpAll K F vs ds → DpAll K F us es → DpAll K F (vs ++ us) (ds ++ es)
  | [], _, _, _, h, g => by cases h; exact g
  | d :: ds, _, _, _, h, g => by
    cases h with
    | cons h1 h2 => exact .cons h1 (dpAll_app h2 g)
theorem dpAll_drop {K : PySem.W.Frag} {F : Hp} : ∀ {ds : List PyData} {vs : List V} (n : Nat), DpAll K F vs ds → DpAll K F (vs.drop n) (ds.drop n)
  | _, _, 0, h => h
  | [], _, n + 1, h => by cases h; exact .nil
  | d :: ds, _, n + 1, h => by
    cases h with
    | cons h1 h2 => exact dpAll_drop n h2
theorem dpAll_take {K : PySem.W.Frag} {F : Hp} : ∀ {ds : List PyData} {vs : List V} (n : Nat), DpAll K F vs ds → DpAll K F (vs.take n) (ds.take n)
  | _, _, 0, h => .nil
  | [], _, n + 1, h => by cases h; exact .nil
  | d :: ds, _, n + 1, h => by
    cases h with
    | cons h1 h2 => exact .cons h1 (dpAll_take n h2)
theorem dpAll_set {K : PySem.W.Frag} {F : Hp} {x : V} {d : PyData} (hx : Dp K F x d) : ∀ {ds : List PyData} {vs : List V} (n : Nat), DpAll K F vs ds → DpAll K F (vs.set n x) (ds.set n d)
  | [], _, _, h => by cases h; exact .nil
  | _ :: ds, _, 0, h => by
    cases h with
    | cons h1 h2 => exact .cons hx h2
  | _ :: ds, _, n + 1, h => by
    cases h with
    | cons h1 h2 => exact .cons h1 (dpAll_set hx n h2)
theorem dpAll_ints {K : PySem.W.Frag} {F : Hp} : ∀ ns : List Int, DpAll K F (ns.map V.int) (ns.map PyData.int)
  | [] => .nil
  | n :: ns => .cons (.int n) (dpAll_ints ns)
/-- the same data, wherever -/
def Sc (K : PySem.W.Frag) (v : V) (d : PyData) : Prop := ∀ F, Dp K F v d

/-! ### the state -/
/-- the law's deck of cards: its cells, the great cells, a place in these, a count -/
structure Dk where
  cells : List Int
  gs : List Int
  i : Nat
  c : Nat
/-- a def's entry: what was frozen, the whole heap, where the deck lies -/
structure Cz where
  F0 : Hp
  H0 : Hp
  dk : Option (Addr × Addr × Addr)
def dkAt (dk : Option (Addr × Addr × Addr)) (a : Addr) : Bool := match dk with
  | none => false
  | some (p, _, g) => a == p || a == g
abbrev Cz.isDk (z : Cz) (a : Addr) : Bool := dkAt z.dk a
def Cz.cut (z : Cz) (H : Hp) : Hp := fun a => if z.isDk a = true then none else H a
def DkOk (dk : Option (Addr × Addr × Addr)) (F H : Hp) (T : Dk) : Prop := match dk with
  | none => True
  | some (p, c, g) => H p = some (.lst [.ref c, .ref g, .int (T.i : Nat), .int (T.c : Nat)]) ∧ F c = some (.lst (T.cells.map V.int)) ∧ H g = some (.lst (T.gs.map V.int)) ∧ p ≠ g
/-- what a slot holds: data; a list that no one else holds; the deck -/
inductive Sl where
  | dat (d : PyData)
  | own (ds : List PyData)
  | deck
abbrev En := List (Option Sl)
def Stp (z : Cz) (H H' : Hp) : Prop := ∀ a o, H a = some o → z.isDk a = false → H' a = some o
structure Bs (z : Cz) (F H : Hp) (T : Dk) : Prop where
  fh : Same F H
  ff : Same z.F0 F
  vis : ∀ a, F a ≠ none → z.F0 a ≠ none ∨ z.H0 a = none
  out : Stp z z.H0 H
  nodk : ∀ a, z.isDk a = true → F a = none
  dkin : ∀ a, z.isDk a = true → z.H0 a ≠ none
  dk : DkOk z.dk F H T
structure Nxt (z : Cz) (F H F' H' : Hp) : Prop where
  s : Same F F'
  st : Stp z H H'
  nw : ∀ a, F' a ≠ none → F a ≠ none ∨ H a = none
theorem Nxt.refl {z : Cz} {F H : Hp} : Nxt z F H F H := ⟨Same.refl _, fun _ _ h _ => h, fun _ h => .inl h⟩
theorem Nxt.trans {z : Cz} {F H F1 H1 F2 H2 : Hp} {T : Dk} (a : Nxt z F H F1 H1) (b : Nxt z F1 H1 F2 H2) (B : Bs z F2 H2 T) : Nxt z F H F2 H2 := by
  refine ⟨a.s.trans b.s, fun x o h hd => b.st x o (a.st x o h hd) hd, fun x hx => ?_⟩
  rcases b.nw x hx with h | h
  · exact a.nw x h
  · refine .inr ?_
    cases q : H x with
    | none => rfl
    | some o =>
      cases hd : z.isDk x with
      | true => exact absurd (B.nodk x hd) hx
      | false =>
        rw [a.st x o q hd] at h
        cases h
def SlOk (z : Cz) (K : PySem.W.Frag) (F H : Hp) (v : Option V) : Sl → Prop
  | .dat d => ∃ x, v = some x ∧ Dp K F x d
  | .own ds => ∃ a xs, v = some (.ref a) ∧ H a = some (.lst xs) ∧ F a = none ∧ z.H0 a = none ∧ DpAll K F xs ds
  | .deck => ∃ p c g, z.dk = some (p, c, g) ∧ v = some (.ref p)
structure Ok (z : Cz) (K : PySem.W.Frag) (F H : Hp) (σ : St) (en : En) (T : Dk) : Prop where
  b : Bs z F H T
  len : σ.length = en.length
  sl : ∀ (i : Nat) (s : Sl), en[i]? = some (some s) → ∃ v, σ[i]? = some v ∧ SlOk z K F H v s
  ne : ∀ (i j : Nat) (ds es : List PyData) (a : Addr), i ≠ j → en[i]? = some (some (.own ds)) → en[j]? = some (some (.own es)) → σ[i]? = some (some (.ref a)) → σ[j]? ≠ some (some (.ref a))
section
variable {z : Cz} {K : PySem.W.Frag} {F H F' H' : Hp} {σ : St} {en : En} {T T' : Dk}
theorem SlOk.nxt {v : Option V} {s : Sl} (B : Bs z F H T) (n : Nxt z F H F' H') (B' : Bs z F' H' T') (h : SlOk z K F H v s) : SlOk z K F' H' v s := by
  cases s with
  | dat d =>
    obtain ⟨x, e, q⟩ := h
    exact ⟨x, e, dp_mono n.s d x q⟩
  | own ds =>
    obtain ⟨a, xs, e, h1, h2, h3, q⟩ := h
    have nd : z.isDk a = false := by
      cases hd : z.isDk a with
      | true => exact absurd h3 (B.dkin a hd)
      | false => rfl
    refine ⟨a, xs, e, n.st a _ h1 nd, ?_, h3, dpAll_mono n.s ds xs q⟩
    cases q2 : F' a with
    | none => rfl
    | some o =>
      rcases n.nw a (by rw [q2]; simp) with h | h
      · exact absurd h2 h
      · rw [h1] at h; cases h
  | deck => exact h
theorem Ok.nxt (k : Ok z K F H σ en T) (n : Nxt z F H F' H') (B' : Bs z F' H' T') : Ok z K F' H' σ en T' := by
  refine ⟨B', k.len, fun i s e => ?_, k.ne⟩
  obtain ⟨v, hv, q⟩ := k.sl i s e
  exact ⟨v, hv, q.nxt k.b n B'⟩
theorem Bs.cut (B : Bs z F H T) : Same F (z.cut H) := fun a o h => by
  unfold Cz.cut
  cases hd : z.isDk a with
  | true => rw [B.nodk a hd] at h; cases h
  | false => rw [if_neg (by simp)]; exact B.fh a o h
theorem cut_same (z : Cz) (H : Hp) : Same (z.cut H) H := fun a o h => by
  unfold Cz.cut at h
  split at h
  · cases h
  · exact h
theorem Stp.cut (n : Stp z H H') : Same (z.cut H) (z.cut H') := fun a o h => by
  unfold Cz.cut at h ⊢
  split at h
  · cases h
  · rename_i hd
    rw [if_neg hd]
    exact n a o h (by simpa using hd)
/-- a new object is frozen at once -/
theorem Bs.lay {p : Addr} {o : HO} (B : Bs z F H T) (hp : H p = none) : Bs z (upd F p o) (upd H p o) T ∧ Nxt z F H (upd F p o) (upd H p o) := by
  have nd : z.isDk p = false := by
    cases hd : z.isDk p with
    | false => rfl
    | true =>
      have hk := B.dk
      unfold DkOk at hk
      unfold Cz.isDk dkAt at hd
      cases e : z.dk with
      | none => rw [e] at hd; cases hd
      | some t =>
        obtain ⟨p1, c1, g1⟩ := t
        rw [e] at hd hk
        obtain ⟨k1, k2, k3, _⟩ := hk
        simp only [Bool.or_eq_true, beq_iff_eq] at hd
        rcases hd with rfl | rfl
        · rw [k1] at hp; cases hp
        · rw [k3] at hp; cases hp
  have h0 : z.H0 p = none := by
    cases e : z.H0 p with
    | none => rfl
    | some o' => rw [B.out p o' e nd] at hp; cases hp
  have fp : F p = none := by
    cases e : F p with
    | none => rfl
    | some o' => rw [B.fh p o' e] at hp; cases hp
  have ne : ∀ a, a ≠ p → upd H p o a = H a := fun a ha => upd_ne ha
  refine ⟨⟨fun a o' h => ?_, fun a o' h => ?_, fun a h => ?_, fun a o' h hd => ?_, fun a hd => ?_, B.dkin, ?_⟩, ⟨fun a o' h => ?_, fun a o' h hd => ?_, fun a h => ?_⟩⟩
  · by_cases ha : a = p
    · subst ha; rw [upd_same] at h ⊢; exact h
    · rw [upd_ne ha] at h ⊢; exact B.fh a o' h
  · have ha : a ≠ p := fun e => by subst e; rw [B.ff a o' h] at fp; cases fp
    rw [upd_ne ha]; exact B.ff a o' h
  · by_cases ha : a = p
    · subst ha; exact .inr h0
    · rw [upd_ne ha] at h; exact B.vis a h
  · have ha : a ≠ p := fun e => by subst e; rw [h0] at h; cases h
    rw [upd_ne ha]; exact B.out a o' h hd
  · have ha : a ≠ p := fun e => by subst e; rw [hd] at nd; cases nd
    rw [upd_ne ha]; exact B.nodk a hd
  · have hk := B.dk
    unfold DkOk at hk ⊢
    cases e : z.dk with
    | none => trivial
    | some t =>
      obtain ⟨p1, c1, g1⟩ := t
      rw [e] at hk
      obtain ⟨k1, k2, k3, k4⟩ := hk
      refine ⟨?_, ?_, ?_, k4⟩
      · rw [upd_ne (ne_of_none k1 hp)]; exact k1
      · rw [upd_ne (ne_of_none k2 fp)]; exact k2
      · rw [upd_ne (ne_of_none k3 hp)]; exact k3
  · have ha : a ≠ p := fun e => by subst e; rw [h] at fp; cases fp
    rw [upd_ne ha]; exact h
  · rw [upd_ne (ne_of_none h hp)]; exact h
  · by_cases ha : a = p
    · subst ha; exact .inr hp
    · rw [upd_ne ha] at h; exact .inl h
/-- a new object is laid, not frozen -/
theorem Bs.put {p : Addr} {o : HO} (B : Bs z F H T) (hp : H p = none) : Bs z F (upd H p o) T ∧ Nxt z F H F (upd H p o) ∧ F p = none ∧ z.H0 p = none := by
  obtain ⟨L, N⟩ := B.lay (o := o) hp
  have fp : F p = none := by
    cases e : F p with
    | none => rfl
    | some o' => rw [B.fh p o' e] at hp; cases hp
  have h0 : z.H0 p = none := by
    rcases L.vis p (by rw [upd_same]; simp) with h | h
    · cases e : z.F0 p with
      | none => exact absurd e h
      | some o' => rw [B.ff p o' e] at fp; cases fp
    · exact h
  refine ⟨⟨fun a o' h => by rw [upd_ne (ne_of_none h fp)]; exact B.fh a o' h, B.ff, B.vis, L.out, B.nodk, B.dkin, ?_⟩, ⟨Same.refl _, N.st, fun _ h => .inl h⟩, fp, h0⟩
  have hk := B.dk
  unfold DkOk at hk ⊢
  cases e : z.dk with
  | none => trivial
  | some t =>
    obtain ⟨p1, c1, g1⟩ := t
    rw [e] at hk
    obtain ⟨k1, k2, k3, k4⟩ := hk
    refine ⟨?_, k2, ?_, k4⟩
    · rw [upd_ne (ne_of_none k1 hp)]; exact k1
    · rw [upd_ne (ne_of_none k3 hp)]; exact k3
/-- a list of one's own is frozen -/
theorem Bs.freeze {a : Addr} {o : HO} (B : Bs z F H T) (ha : H a = some o) (h0 : z.H0 a = none) : Bs z (upd F a o) H T := by
  have nd : z.isDk a = false := by
    cases hd : z.isDk a with
    | true => exact absurd h0 (B.dkin a hd)
    | false => rfl
  refine ⟨fun b o' h => ?_, fun b o' h => ?_, fun b h => ?_, B.out, fun b hd => ?_, B.dkin, ?_⟩
  · by_cases hb : b = a
    · subst hb; rw [upd_same] at h; rw [ha]; exact h
    · rw [upd_ne hb] at h; exact B.fh b o' h
  · by_cases hb : b = a
    · subst hb
      have q := B.fh b o' (B.ff b o' h)
      rw [ha] at q
      cases q
      exact upd_same
    · rw [upd_ne hb]; exact B.ff b o' h
  · by_cases hb : b = a
    · subst hb; exact .inr h0
    · rw [upd_ne hb] at h; exact B.vis b h
  · have hb : b ≠ a := fun e => by subst e; rw [hd] at nd; cases nd
    rw [upd_ne hb]; exact B.nodk b hd
  · have hk := B.dk
    unfold DkOk at hk ⊢
    cases e : z.dk with
    | none => trivial
    | some t =>
      obtain ⟨p1, c1, g1⟩ := t
      rw [e] at hk
      obtain ⟨k1, k2, k3, k4⟩ := hk
      refine ⟨k1, ?_, k3, k4⟩
      by_cases hb : c1 = a
      · subst hb
        have q := B.fh _ _ k2
        rw [ha] at q
        cases q
        exact upd_same
      · rw [upd_ne hb]; exact k2
end

/-! ### readings -/
abbrev ME := En → Dk → Option (PyData × Dk)
abbrev MA := En → Dk → Option (List PyData × Dk)
abbrev MT := En → Dk → Option (Bool × Dk)
section
variable (z : Cz) (K : PySem.W.Frag)
/-- data that may be kept -/
def tD (m : ME) : TE := fun σ H Q => ∃ F en T d T', Ok z K F H σ en T ∧ m en T = some (d, T') ∧ ∀ F' H' v, Bs z F' H' T' → Nxt z F H F' H' → Dp K F' v d → Q v H'
/-- data that is looked at -/
def tB (m : ME) : TE := fun σ H Q => ∃ F en T d T', Ok z K F H σ en T ∧ m en T = some (d, T') ∧ ∀ F' H' v, Bs z F' H' T' → Nxt z F H F' H' → Dp K (z.cut H') v d → Q v H'
/-- a new list -/
def tF (m : MA) : TE := fun σ H Q => ∃ F en T ds T', Ok z K F H σ en T ∧ m en T = some (ds, T') ∧ ∀ F' H' a xs, Bs z F' H' T' → Nxt z F H F' H' → H a = none → H' a = some (.lst xs) → F' a = none → z.H0 a = none → DpAll K F' xs ds → Q (.ref a) H'
def tDs (m : MA) : TA := fun σ H Q => ∃ F en T ds T', Ok z K F H σ en T ∧ m en T = some (ds, T') ∧ ∀ F' H' vs, Bs z F' H' T' → Nxt z F H F' H' → DpAll K F' vs ds → Q vs H'
def tBs (m : MA) : TA := fun σ H Q => ∃ F en T ds T', Ok z K F H σ en T ∧ m en T = some (ds, T') ∧ ∀ F' H' vs, Bs z F' H' T' → Nxt z F H F' H' → DpAll K (z.cut H') vs ds → Q vs H'
def tQ (m : MT) : TT := fun σ H Q => ∃ F en T b T', Ok z K F H σ en T ∧ m en T = some (b, T') ∧ ∀ F' H', Bs z F' H' T' → Nxt z F H F' H' → Q b H'
end
section
variable {X : Cx} {z : Cz} {e e1 e2 : Expr} {m m1 m2 : ME}
theorem pe_to {t t' : TE} (h : PE X e t) (w : ∀ σ H Q, t' σ H Q → t σ H Q) : PE X e t' := ⟨fun pins s σ H Q I q => h.run pins s σ H Q I (w σ H Q q)⟩
theorem pt_to {t t' : TT} (h : PT X e t) (w : ∀ σ H Q, t' σ H Q → t σ H Q) : PT X e t' := ⟨fun pins s σ H Q I q => h.run pins s σ H Q I (w σ H Q q)⟩
theorem pw_to {t t' : TT} (h : PW X e t) (w : ∀ σ H Q, t' σ H Q → t σ H Q) : PW X e t' := ⟨fun wh pins s σ H Q I q => h.run wh pins s σ H Q I (w σ H Q q)⟩
theorem pa_to {es : List Expr} {t t' : TA} (h : PA X es t) (w : ∀ σ H Q, t' σ H Q → t σ H Q) : PA X es t' := ⟨fun pos pins s σ H Q I q => h.run pos pins s σ H Q I (w σ H Q q)⟩
theorem ps_to {st : Stmt} {t t' : TS} (h : PS X st t) (w : ∀ D σ H, t' D σ H → t D σ H) : PS X st t' := ⟨fun pins s σ H D I q => h.run pins s σ H D I (w D σ H q)⟩
theorem pss_to {st : List Stmt} {t t' : TS} (h : PSs X st t) (w : ∀ D σ H, t' D σ H → t D σ H) : PSs X st t' := ⟨fun pins s σ H D I q => h.run pins s σ H D I (w D σ H q)⟩
/-- what may be kept may be looked at -/
theorem tD_of_tB {K : PySem.W.Frag} {σ : St} {H : Hp} {Q : VK} (h : tB z K m σ H Q) : tD z K m σ H Q := by
  obtain ⟨F, en, T, d, T', ok, e, k⟩ := h
  exact ⟨F, en, T, d, T', ok, e, fun F' H' v B n p => k F' H' v B n (dp_mono B.cut d v p)⟩
theorem bw (h : PE X e (tD z X.K m)) : PE X e (tB z X.K m) := pe_to h fun _ _ _ q => tD_of_tB q
theorem tD_of_sc {K : PySem.W.Frag} {v : V} {d : PyData} (hs : Sc K v d) {σ : St} {H : Hp} {Q : VK} (h : tD z K (fun _ T => some (d, T)) σ H Q) : Q v H := by
  obtain ⟨F, en, T, d', T', ok, e, k⟩ := h
  cases e
  exact k F H v ok.b Nxt.refl (hs F)
/-! ### constants, names -/
def mC (d : PyData) : ME := fun _ T => some (d, T)
def mVar (i : Nat) : ME := fun en T => match en[i]? with
  | some (some (.dat d)) => some (d, T)
  | _ => none
def mVarB (i : Nat) : ME := fun en T => match en[i]? with
  | some (some (.dat d)) => some (d, T)
  | some (some (.own ds)) => some (.list ds, T)
  | _ => none
theorem d_const {v : V} {d : PyData} (h : PE X e (tC v)) (hs : Sc X.K v d) : PE X e (tD z X.K (mC d)) := pe_to h fun _ _ _ q => tD_of_sc hs q
theorem d_int {i : Int} {j pos} : PE X (.Constant (.int i) j pos) (tD z X.K (mC (.int i))) := d_const pe_int fun _ => .int i
theorem d_bl {b : Bool} {j pos} : PE X (.Constant (.bool b) j pos) (tD z X.K (mC (.bool b))) := d_const pe_bl fun _ => .bl b
theorem d_non {j pos} : PE X (.Constant .none j pos) (tD z X.K (mC .none)) := d_const pe_non fun _ => .non
theorem d_str {x : Str} {j pos} : PE X (.Constant (.str x) j pos) (tD z X.K (mC (.str x))) := d_const pe_str fun _ => .str x
theorem d_var (i : Nat) {x : Str} {pos : Pos} (hN : X.N[i]? = some x := by rfl) (hv : Vis X.env.scope x := by first | exact Or.inl rfl | exact Or.inr (Or.inl rfl) | exact Or.inr (Or.inr rfl)) (hd : (x == ("__debug__" : Str)) = false := by decide)
    (hcd : (x == ("__classdict__" : Str)) = false := by decide) : PE X (.Name x pos) (tD z X.K (mVar i)) := pe_to (pe_var (i := i) hN hv hd hcd) fun σ H Q q => by
  obtain ⟨F, en, T, d, T', ok, e, k⟩ := q
  unfold mVar at e
  split at e
  · rename_i d' e'
    cases e
    obtain ⟨v, hv, x, ex, p⟩ := ok.sl i _ e'
    subst ex
    exact ⟨x, hv, k F H x ok.b Nxt.refl p⟩
  · cases e
theorem b_var (i : Nat) {x : Str} {pos : Pos} (hN : X.N[i]? = some x := by rfl) (hv : Vis X.env.scope x := by first | exact Or.inl rfl | exact Or.inr (Or.inl rfl) | exact Or.inr (Or.inr rfl)) (hd : (x == ("__debug__" : Str)) = false := by decide)
    (hcd : (x == ("__classdict__" : Str)) = false := by decide) : PE X (.Name x pos) (tB z X.K (mVarB i)) := pe_to (pe_var (i := i) hN hv hd hcd) fun σ H Q q => by
  obtain ⟨F, en, T, d, T', ok, e, k⟩ := q
  unfold mVarB at e
  split at e
  · rename_i d' e'
    cases e
    obtain ⟨v, hv, x, ex, p⟩ := ok.sl i _ e'
    subst ex
    exact ⟨x, hv, k F H x ok.b Nxt.refl (dp_mono ok.b.cut _ x p)⟩
  · rename_i ds e'
    cases e
    obtain ⟨v, hv, a, xs, ex, h1, h2, h3, p⟩ := ok.sl i _ e'
    subst ex
    have nd : z.isDk a = false := by
      cases hd : z.isDk a with
      | true => exact absurd h3 (ok.b.dkin a hd)
      | false => rfl
    refine ⟨.ref a, hv, k F H _ ok.b Nxt.refl (.lst (xs := xs) (.inl (.inl ?_)) (dpAll_mono ok.b.cut _ _ p))⟩
    unfold Cz.cut
    rw [nd, if_neg (by simp)]
    exact h1
  · cases e
/-- a new list is frozen -/
def mL (m : MA) : ME := fun en T => (m en T).map fun p => (.list p.1, p.2)
theorem tF_of {m : MA} {K : PySem.W.Frag} {σ : St} {H : Hp} {Q : VK} (q : tD z K (mL m) σ H Q) : tF z K m σ H Q := by
  obtain ⟨F, en, T, d, T', ok, e, k⟩ := q
  unfold mL at e
  cases q : m en T with
  | none => rw [q] at e; cases e
  | some p =>
    obtain ⟨ds, T1⟩ := p
    rw [q] at e
    cases e
    refine ⟨F, en, T, ds, T1, ok, q, fun F' H' a xs B n ha ha' fa h0 p => ?_⟩
    have s : Same F' (upd F' a (.lst xs)) := fun b o h => by rw [upd_ne (ne_of_none h fa)]; exact h
    have B2 := B.freeze ha' h0
    refine k _ H' _ B2 ⟨n.s.trans s, n.st, fun b h => ?_⟩ (.lst (.inl (.inl upd_same)) (dpAll_mono s _ _ p))
    by_cases hb : b = a
    · subst hb; exact .inr ha
    · rw [upd_ne hb] at h; exact n.nw b h
theorem fz {m : MA} (h : PE X e (tF z X.K m)) : PE X e (tD z X.K (mL m)) := pe_to h fun _ _ _ q => tF_of q
end
end LQ

set_option Elab.async false
set_option linter.all false
set_option maxRecDepth 100000
set_option maxHeartbeats 2000000
namespace LQ
open PySem PySem.Spec PyProof.Rows L2
/-! ### two places -/
abbrev G2 := PyData → PyData → Option PyData
def mBin (g : G2) (m1 m2 : ME) : ME := fun en T => (m1 en T).bind fun p => (m2 en p.2).bind fun q => (g p.1 q.1).map fun b => (b, q.2)
def Lift2 (K : PySem.W.Frag) (r : R2) (g : G2) : Prop := ∀ (H : Hp) (x y : V) (d e b : PyData) (Q : VK), Dp K H x d → Dp K H y e → g d e = some b → (∀ v, Sc K v b → Q v H) → r x y H Q
theorem mBin_some {g : G2} {m1 m2 : ME} {en : En} {T T' : Dk} {d : PyData} (e : mBin g m1 m2 en T = some (d, T')) : ∃ d1 T1 d2, m1 en T = some (d1, T1) ∧ m2 en T1 = some (d2, T') ∧ g d1 d2 = some d := by
  unfold mBin at e
  cases h1 : m1 en T with
  | none => rw [h1] at e; cases e
  | some p =>
    obtain ⟨d1, T1⟩ := p
    rw [h1] at e
    simp only [Option.bind_some] at e
    cases h2 : m2 en T1 with
    | none => rw [h2] at e; cases e
    | some q =>
      obtain ⟨d2, T2⟩ := q
      rw [h2] at e
      simp only [Option.bind_some] at e
      cases h3 : g d1 d2 with
      | none => rw [h3] at e; cases e
      | some b =>
        rw [h3] at e
        simp only [Option.map_some, Option.some.injEq, Prod.mk.injEq] at e
        obtain ⟨rfl, rfl⟩ := e
        exact ⟨d1, T1, d2, rfl, h2, h3⟩
section
variable {X : Cx} {z : Cz} {a b c : Expr} {m m1 m2 m3 : ME} {pos : Pos}
theorem lift2 {K : PySem.W.Frag} {r : R2} {g : G2} (L : Lift2 K r g) {σ : St} {H : Hp} {Q : VK} (h : tD z K (mBin g m1 m2) σ H Q) : tOp r (tB z K m1) (tB z K m2) σ H Q := by
  obtain ⟨F, en, T, d, T', ok, e, k⟩ := h
  obtain ⟨d1, T1, d2, e1, e2, e3⟩ := mBin_some e
  refine ⟨F, en, T, d1, T1, ok, e1, fun F1 H1 x B1 n1 p1 => ⟨F1, en, T1, d2, T', ok.nxt n1 B1, e2, fun F2 H2 y B2 n2 p2 => ?_⟩⟩
  exact L H2 x y d1 d2 d Q (dp_mono (n2.st.cut.trans (cut_same z H2)) _ _ p1) (dp_mono (cut_same z H2) _ _ p2) e3 fun v hv => k F2 H2 v B2 (n1.trans n2 B2) (hv F2)
theorem d_op {op : Operator} {r : R2} {g : G2} (ho : OpR X (binaryOp op) r) (L : Lift2 X.K r g) (ha : PE X a (tB z X.K m1)) (hb : PE X b (tB z X.K m2)) : PE X (.BinOp a op b pos) (tD z X.K (mBin g m1 m2)) := pe_to (pe_op ho ha hb) fun _ _ _ h => lift2 L h
theorem d_cmp {op : CmpOp} {r : R2} {g : G2} (ho : OpR X (compareOp op) r) (L : Lift2 X.K r g) (ha : PE X a (tB z X.K m1)) (hb : PE X b (tB z X.K m2)) (hm : behindInMarks op b = false) : PE X (.Compare a [op] [b] pos) (tD z X.K (mBin g m1 m2)) := pe_to (pe_cmpR ho ha hb hm) fun _ _ _ h => lift2 L h
/-! ### tests -/
def mQ (m : ME) : MT := fun en T => match m en T with
  | some (.bool b, T') => some (b, T')
  | _ => none
theorem mQ_some {en : En} {T T' : Dk} {b : Bool} (e : mQ m en T = some (b, T')) : m en T = some (.bool b, T') := by
  unfold mQ at e
  split at e
  · rename_i b' T1 h
    cases e
    exact h
  · cases e
theorem tQ_of {K : PySem.W.Frag} {σ : St} {H : Hp} {Q : Bool → Hp → Prop} (h : tQ z K (mQ m) σ H Q) : tD z K m σ H fun x H' => ∃ k, x = .bl k ∧ Q k H' := by
  obtain ⟨F, en, T, b, T', ok, e, k⟩ := h
  refine ⟨F, en, T, .bool b, T', ok, mQ_some e, fun F' H' v B n p => ?_⟩
  cases p
  exact ⟨b, rfl, k F' H' B n⟩
theorem q_cmp {op : CmpOp} {r : R2} {g : G2} (ho : OpR X (compareOp op) r) (L : Lift2 X.K r g) (ha : PE X a (tB z X.K m1)) (hb : PE X b (tB z X.K m2)) (hm : behindInMarks op b = false) : PT X (.Compare a [op] [b] pos) (tQ z X.K (mQ (mBin g m1 m2))) := pt_to (pt_cmpR ho ha hb hm) fun _ _ _ h => lift2 L (tQ_of h)
theorem q_val (h : PE X a (tD z X.K m)) (he : ∀ whole, isTrue a X.env whole = (do let v ← whole; standAt a.pos; holding [v] (truthy v)) := by intro _; rfl) : PT X a (tQ z X.K (mQ m)) := pt_to (pt_val h he) fun _ _ _ q => tQ_of q
/-- a value's truth -/
def truD : PyData → Option Bool
  | .none => some false
  | .bool b => some b
  | .int i => some (i != 0)
  | .str y => if y.length ≤ 16777216 then some ((y.length : Int) != 0) else none
  | .list ds => some (!ds.isEmpty)
  | .tuple ds => some (!ds.isEmpty)
  | .dict _ => none
def mTru (m : ME) : MT := fun en T => (m en T).bind fun p => (truD p.1).map fun b => (b, p.2)
theorem isEmpty_dp {K : PySem.W.Frag} {F : Hp} {xs : List V} {ds : List PyData} (h : DpAll K F xs ds) : xs.isEmpty = ds.isEmpty := by cases h <;> rfl
theorem truV_of {K : PySem.W.Frag} {H : Hp} {x : V} {d : PyData} {b : Bool} (h : Dp K H x d) (e : truD d = some b) : TruV K x H b := by
  have hl := sizeLine_eq
  cases h with
  | non => cases e; rfl
  | bl c => cases e; rfl
  | int i => cases e; rfl
  | str y =>
    replace e : (if y.length ≤ 16777216 then some ((y.length : Int) != 0) else none) = some b := e
    split at e
    · rename_i hy
      cases e
      exact ⟨by omega, rfl⟩
    · cases e
  | lst hs ha =>
    cases e
    exact .inl ⟨_, hs, by rw [isEmpty_dp ha]⟩
  | tup hs ha =>
    cases e
    exact .inr (.inl ⟨_, hs, by rw [isEmpty_dp ha]⟩)
theorem q_truth (h : PE X a (tB z X.K m)) (he : ∀ whole, isTrue a X.env whole = (do let v ← whole; standAt a.pos; holding [v] (truthy v)) := by intro _; rfl) : PT X a (tQ z X.K (mTru m)) := pt_to (pt_truth h he) fun σ H Q q => by
  obtain ⟨F, en, T, b, T', ok, e, k⟩ := q
  unfold mTru at e
  cases h1 : m en T with
  | none => rw [h1] at e; cases e
  | some p =>
    obtain ⟨d, T1⟩ := p
    rw [h1] at e
    simp only [Option.bind_some] at e
    cases h2 : truD d with
    | none => rw [h2] at e; cases e
    | some c =>
      rw [h2] at e
      cases e
      exact ⟨F, en, T, d, _, ok, h1, fun F' H' v B n p => ⟨_, truV_of (dp_mono (cut_same z H') _ _ p) h2, k F' H' B n⟩⟩
def mAnd (m1 m2 : MT) : MT := fun en T => (m1 en T).bind fun p => if p.1 = true then m2 en p.2 else some (false, p.2)
def mOr (m1 m2 : MT) : MT := fun en T => (m1 en T).bind fun p => if p.1 = true then some (true, p.2) else m2 en p.2
def mNot (m1 : MT) : MT := fun en T => (m1 en T).map fun p => (!p.1, p.2)
theorem q_and {rest : List Expr} {n1 n2 : MT} (ha : PT X a (tQ z X.K n1)) (hb : PW X (.BoolOp .And (b :: rest) pos) (tQ z X.K n2)) : PW X (.BoolOp .And (a :: b :: rest) pos) (tQ z X.K (mAnd n1 n2)) := pw_to (pw_and ha hb) fun σ H Q q => by
  obtain ⟨F, en, T, c, T', ok, e, k⟩ := q
  unfold mAnd at e
  cases h1 : n1 en T with
  | none => rw [h1] at e; cases e
  | some p =>
    obtain ⟨d, T1⟩ := p
    rw [h1] at e
    simp only [Option.bind_some] at e
    refine ⟨F, en, T, d, T1, ok, h1, fun F1 H1 B1 k1 => ?_⟩
    cases d with
    | true => exact ⟨F1, en, T1, c, T', ok.nxt k1 B1, e, fun F2 H2 B2 k2 => k F2 H2 B2 (k1.trans k2 B2)⟩
    | false => cases e; exact k F1 H1 B1 k1
theorem q_or {rest : List Expr} {n1 n2 : MT} (ha : PT X a (tQ z X.K n1)) (hb : PW X (.BoolOp .Or (b :: rest) pos) (tQ z X.K n2)) : PW X (.BoolOp .Or (a :: b :: rest) pos) (tQ z X.K (mOr n1 n2)) := pw_to (pw_or ha hb) fun σ H Q q => by
  obtain ⟨F, en, T, c, T', ok, e, k⟩ := q
  unfold mOr at e
  cases h1 : n1 en T with
  | none => rw [h1] at e; cases e
  | some p =>
    obtain ⟨d, T1⟩ := p
    rw [h1] at e
    simp only [Option.bind_some] at e
    refine ⟨F, en, T, d, T1, ok, h1, fun F1 H1 B1 k1 => ?_⟩
    cases d with
    | false => exact ⟨F1, en, T1, c, T', ok.nxt k1 B1, e, fun F2 H2 B2 k2 => k F2 H2 B2 (k1.trans k2 B2)⟩
    | true => cases e; exact k F1 H1 B1 k1
theorem q_and1 {n1 : MT} (ha : PT X a (tQ z X.K n1)) : PW X (.BoolOp .And [a] pos) (tQ z X.K n1) := pw_and1 ha
theorem q_or1 {n1 : MT} (ha : PT X a (tQ z X.K n1)) : PW X (.BoolOp .Or [a] pos) (tQ z X.K n1) := pw_or1 ha
theorem q_not {n1 : MT} (ha : PT X a (tQ z X.K n1)) : PT X (.UnaryOp .Not a pos) (tQ z X.K (mNot n1)) := pt_to (pt_not ha) fun σ H Q q => by
  obtain ⟨F, en, T, c, T', ok, e, k⟩ := q
  unfold mNot at e
  cases h1 : n1 en T with
  | none => rw [h1] at e; cases e
  | some p =>
    obtain ⟨d, T1⟩ := p
    rw [h1] at e
    cases e
    exact ⟨F, en, T, d, T1, ok, h1, fun F1 H1 B1 k1 => k F1 H1 B1 k1⟩
/-! ### and, or, not as values (of truths) -/
def mAndV (m1 m2 : ME) : ME := fun en T => (m1 en T).bind fun p => match p.1 with
  | .bool true => m2 en p.2
  | .bool false => some (.bool false, p.2)
  | _ => none
def mOrV (m1 m2 : ME) : ME := fun en T => (m1 en T).bind fun p => match p.1 with
  | .bool true => some (.bool true, p.2)
  | .bool false => m2 en p.2
  | _ => none
def mNotV (m1 : ME) : ME := fun en T => (m1 en T).bind fun p => match p.1 with
  | .bool c => some (.bool (!c), p.2)
  | _ => none
theorem d_and {rest : List Expr} (ha : PE X a (tD z X.K m1)) (hb : PE X (.BoolOp .And (b :: rest) pos) (tD z X.K m2)) : PE X (.BoolOp .And (a :: b :: rest) pos) (tD z X.K (mAndV m1 m2)) := pe_to (pe_and ha hb) fun σ H Q q => by
  obtain ⟨F, en, T, c, T', ok, e, k⟩ := q
  unfold mAndV at e
  cases h1 : m1 en T with
  | none => rw [h1] at e; cases e
  | some p =>
    obtain ⟨d, T1⟩ := p
    rw [h1] at e
    simp only [Option.bind_some] at e
    refine ⟨F, en, T, d, T1, ok, h1, fun F1 H1 v B1 k1 p1 => ?_⟩
    split at e
    · cases p1
      exact ⟨true, rfl, ⟨F1, en, T1, c, T', ok.nxt k1 B1, e, fun F2 H2 v B2 k2 p2 => k F2 H2 v B2 (k1.trans k2 B2) p2⟩⟩
    · cases p1
      cases e
      exact ⟨false, rfl, k F1 H1 _ B1 k1 (.bl false)⟩
    · cases e
theorem d_or {rest : List Expr} (ha : PE X a (tD z X.K m1)) (hb : PE X (.BoolOp .Or (b :: rest) pos) (tD z X.K m2)) : PE X (.BoolOp .Or (a :: b :: rest) pos) (tD z X.K (mOrV m1 m2)) := pe_to (pe_or ha hb) fun σ H Q q => by
  obtain ⟨F, en, T, c, T', ok, e, k⟩ := q
  unfold mOrV at e
  cases h1 : m1 en T with
  | none => rw [h1] at e; cases e
  | some p =>
    obtain ⟨d, T1⟩ := p
    rw [h1] at e
    simp only [Option.bind_some] at e
    refine ⟨F, en, T, d, T1, ok, h1, fun F1 H1 v B1 k1 p1 => ?_⟩
    split at e
    · cases p1
      cases e
      exact ⟨true, rfl, k F1 H1 _ B1 k1 (.bl true)⟩
    · cases p1
      exact ⟨false, rfl, ⟨F1, en, T1, c, T', ok.nxt k1 B1, e, fun F2 H2 v B2 k2 p2 => k F2 H2 v B2 (k1.trans k2 B2) p2⟩⟩
    · cases e
theorem d_one {op} (ha : PE X a (tD z X.K m)) : PE X (.BoolOp op [a] pos) (tD z X.K m) := pe_one ha
theorem d_not (ha : PE X a (tD z X.K m)) : PE X (.UnaryOp .Not a pos) (tD z X.K (mNotV m)) := pe_to (pe_not ha) fun σ H Q q => by
  obtain ⟨F, en, T, c, T', ok, e, k⟩ := q
  unfold mNotV at e
  cases h1 : m en T with
  | none => rw [h1] at e; cases e
  | some p =>
    obtain ⟨d, T1⟩ := p
    rw [h1] at e
    simp only [Option.bind_some] at e
    refine ⟨F, en, T, d, T1, ok, h1, fun F1 H1 v B1 k1 p1 => ?_⟩
    split at e
    · cases p1
      cases e
      exact ⟨_, rfl, k F1 H1 _ B1 k1 (.bl _)⟩
    · cases e
def mIfx (n : MT) (m1 m2 : ME) : ME := fun en T => (n en T).bind fun p => if p.1 = true then m1 en p.2 else m2 en p.2
theorem d_ifx {n : MT} (hc : PT X c (tQ z X.K n)) (ha : PE X a (tD z X.K m1)) (hb : PE X b (tD z X.K m2)) : PE X (.IfExp c a b pos) (tD z X.K (mIfx n m1 m2)) := pe_to (pe_ifExp hc ha hb) fun σ H Q q => by
  obtain ⟨F, en, T, d, T', ok, e, k⟩ := q
  unfold mIfx at e
  cases h1 : n en T with
  | none => rw [h1] at e; cases e
  | some p =>
    obtain ⟨t, T1⟩ := p
    rw [h1] at e
    simp only [Option.bind_some] at e
    refine ⟨F, en, T, t, T1, ok, h1, fun F1 H1 B1 k1 => ?_⟩
    cases t with
    | true => exact ⟨F1, en, T1, d, T', ok.nxt k1 B1, e, fun F2 H2 v B2 k2 p2 => k F2 H2 v B2 (k1.trans k2 B2) p2⟩
    | false => exact ⟨F1, en, T1, d, T', ok.nxt k1 B1, e, fun F2 H2 v B2 k2 p2 => k F2 H2 v B2 (k1.trans k2 B2) p2⟩
/-! ### arguments, displays -/
def mNil : MA := fun _ T => some ([], T)
def mCons (m : ME) (ms : MA) : MA := fun en T => (m en T).bind fun p => (ms en p.2).map fun q => (p.1 :: q.1, q.2)
theorem mCons_some {ms : MA} {en : En} {T T' : Dk} {ds : List PyData} (e : mCons m ms en T = some (ds, T')) : ∃ d T1 r, m en T = some (d, T1) ∧ ms en T1 = some (r, T') ∧ ds = d :: r := by
  unfold mCons at e
  cases h1 : m en T with
  | none => rw [h1] at e; cases e
  | some p =>
    obtain ⟨d1, T1⟩ := p
    rw [h1] at e
    simp only [Option.bind_some] at e
    cases h2 : ms en T1 with
    | none => rw [h2] at e; cases e
    | some q =>
      obtain ⟨d2, T2⟩ := q
      rw [h2] at e
      simp only [Option.map_some, Option.some.injEq, Prod.mk.injEq] at e
      obtain ⟨rfl, rfl⟩ := e
      exact ⟨d1, T1, d2, rfl, h2, rfl⟩
theorem a_nil : PA X [] (tDs z X.K mNil) := pa_to pa_nil fun σ H Q q => by
  obtain ⟨F, en, T, ds, T', ok, e, k⟩ := q
  cases e
  exact k F H [] ok.b Nxt.refl .nil
theorem a_cons {es : List Expr} {ms : MA} (ha : PE X a (tD z X.K m)) (hr : PA X es (tDs z X.K ms)) (hs : starEach (a :: es) X.env = (false, eval a X.env) :: starEach es X.env := by rfl) : PA X (a :: es) (tDs z X.K (mCons m ms)) := pa_to (pa_cons ha hr hs) fun σ H Q q => by
  obtain ⟨F, en, T, ds, T', ok, e, k⟩ := q
  obtain ⟨d, T1, r, e1, e2, rfl⟩ := mCons_some e
  exact ⟨F, en, T, d, T1, ok, e1, fun F1 H1 v B1 n1 p1 => ⟨F1, en, T1, r, T', ok.nxt n1 B1, e2, fun F2 H2 vs B2 n2 p2 => k F2 H2 _ B2 (n1.trans n2 B2) (.cons (dp_mono n2.s _ _ p1) p2)⟩⟩
theorem ab_nil : PA X [] (tBs z X.K mNil) := pa_to pa_nil fun σ H Q q => by
  obtain ⟨F, en, T, ds, T', ok, e, k⟩ := q
  cases e
  exact k F H [] ok.b Nxt.refl .nil
theorem ab_cons {es : List Expr} {ms : MA} (ha : PE X a (tB z X.K m)) (hr : PA X es (tBs z X.K ms)) (hs : starEach (a :: es) X.env = (false, eval a X.env) :: starEach es X.env := by rfl) : PA X (a :: es) (tBs z X.K (mCons m ms)) := pa_to (pa_cons ha hr hs) fun σ H Q q => by
  obtain ⟨F, en, T, ds, T', ok, e, k⟩ := q
  obtain ⟨d, T1, r, e1, e2, rfl⟩ := mCons_some e
  exact ⟨F, en, T, d, T1, ok, e1, fun F1 H1 v B1 n1 p1 => ⟨F1, en, T1, r, T', ok.nxt n1 B1, e2, fun F2 H2 vs B2 n2 p2 => k F2 H2 _ B2 (n1.trans n2 B2) (.cons (dp_mono n2.st.cut _ _ p1) p2)⟩⟩
def mTup (ms : MA) : ME := fun en T => (ms en T).bind fun p => if p.1.length ≤ 1000 then some (.tuple p.1, p.2) else none
def mLst (ms : MA) : MA := fun en T => (ms en T).bind fun p => if p.1.length ≤ 1000 then some p else none
theorem d_tup {es : List Expr} {ms : MA} {x1} (h : PA X es (tDs z X.K ms)) : PE X (.Tuple es x1 pos) (tD z X.K (mTup ms)) := pe_to (pe_tup h) fun σ H Q q => by
  obtain ⟨F, en, T, d, T', ok, e, k⟩ := q
  unfold mTup at e
  cases h1 : ms en T with
  | none => rw [h1] at e; cases e
  | some p =>
    obtain ⟨ds, T1⟩ := p
    rw [h1] at e
    simp only [Option.bind_some] at e
    split at e
    · rename_i hl
      cases e
      refine ⟨F, en, T, _, _, ok, h1, fun F1 H1 vs B1 n1 p1 => ⟨by have := dpAll_len p1; have := sizeLine_eq; omega, fun q hq => ?_⟩⟩
      obtain ⟨B2, n2⟩ := B1.lay (o := .tup vs) hq
      exact k _ _ _ B2 (n1.trans n2 B2) (.tup (.inl (.inl upd_same)) (dpAll_mono n2.s _ _ p1))
    · cases e
theorem f_lst {es : List Expr} {ms : MA} (h : PA X es (tDs z X.K ms)) : PE X (.List es pos) (tF z X.K (mLst ms)) := pe_to (pe_lst h) fun σ H Q q => by
  obtain ⟨F, en, T, d, T', ok, e, k⟩ := q
  unfold mLst at e
  cases h1 : ms en T with
  | none => rw [h1] at e; cases e
  | some p =>
    obtain ⟨ds, T1⟩ := p
    rw [h1] at e
    simp only [Option.bind_some] at e
    split at e
    · rename_i hl
      cases e
      refine ⟨F, en, T, _, _, ok, h1, fun F1 H1 vs B1 n1 p1 => ⟨by have := dpAll_len p1; have := sizeLine_eq; omega, fun q hq => ?_⟩⟩
      obtain ⟨B2, n2, f2, h2⟩ := B1.put (o := .lst vs) hq
      refine k _ _ _ _ B2 (n1.trans n2 B2) ?_ upd_same f2 h2 p1
      cases e0 : H q with
      | none => rfl
      | some o =>
        have nd : z.isDk q = false := by
          cases hd : z.isDk q with
          | true => exact absurd h2 (B1.dkin q hd)
          | false => rfl
        rw [n1.st q o e0 nd] at hq
        cases hq
    · cases e
/-- scalars that are looked at may be kept -/
def scD : PyData → Bool
  | .none => true
  | .bool _ => true
  | .int _ => true
  | .str _ => true
  | _ => false
theorem sc_of {K : PySem.W.Frag} {F : Hp} {v : V} {d : PyData} (h : Dp K F v d) (hs : scD d = true) : Sc K v d := by
  intro F'
  cases h with
  | non => exact .non
  | bl b => exact .bl b
  | int i => exact .int i
  | str x => exact .str x
  | lst _ _ => cases hs
  | tup _ _ => cases hs
def mSc (m : ME) : ME := fun en T => (m en T).bind fun p => if scD p.1 = true then some p else none
theorem sb (h : PE X a (tB z X.K m)) : PE X a (tD z X.K (mSc m)) := pe_to h fun σ H Q q => by
  obtain ⟨F, en, T, d, T', ok, e, k⟩ := q
  unfold mSc at e
  cases h1 : m en T with
  | none => rw [h1] at e; cases e
  | some p =>
    obtain ⟨ds, T1⟩ := p
    rw [h1] at e
    simp only [Option.bind_some] at e
    split at e
    · rename_i hl
      cases e
      exact ⟨F, en, T, _, _, ok, h1, fun F1 H1 v B1 n1 p1 => k F1 H1 v B1 n1 (sc_of p1 hl F1)⟩
    · cases e
/-! ### built-in functions with scalar answers -/
abbrev G1 := List PyData → Option PyData
def LiftC (K : PySem.W.Frag) (r : List V → Hp → VK → Prop) (g : G1) : Prop := ∀ (H : Hp) (vs : List V) (ds : List PyData) (b : PyData) (Q : VK), DpAll K H vs ds → g ds = some b → (∀ v, Sc K v b → Q v H) → r vs H Q
def mCall (g : G1) (ms : MA) : ME := fun en T => (ms en T).bind fun p => (g p.1).map fun b => (b, p.2)
theorem liftC {K : PySem.W.Frag} {r : List V → Hp → VK → Prop} {g : G1} {ms : MA} (L : LiftC K r g) {σ : St} {H : Hp} {Q : VK} (h : tD z K (mCall g ms) σ H Q) : tCB r (tBs z K ms) σ H Q := by
  obtain ⟨F, en, T, d, T', ok, e, k⟩ := h
  unfold mCall at e
  cases h1 : ms en T with
  | none => rw [h1] at e; cases e
  | some p =>
    obtain ⟨ds, T1⟩ := p
    rw [h1] at e
    simp only [Option.bind_some] at e
    cases h2 : g ds with
    | none => rw [h2] at e; cases e
    | some b =>
      rw [h2] at e
      cases e
      exact ⟨F, en, T, ds, _, ok, h1, fun F1 H1 vs B1 n1 p1 => L H1 vs ds _ Q (dpAll_mono (cut_same z H1) _ _ p1) h2 fun v hv => k F1 H1 v B1 n1 (hv F1)⟩
theorem d_callB {id : String} {x : Str} {es : List Expr} {p : Pos} {r : List V → Hp → VK → Prop} {g : G1} {ms : MA} (hc : CallR X (.builtin id) r) (L : LiftC X.K r g) (hg : Gl X x) (hm : X.mg x = none) (hv : bootBuiltins x = some (.builtin id)) (ha : PA X (a :: es) (tBs z X.K ms)) (hn : x ≠ "__name__" := by decide) (hdb : (x == ("__debug__" : Str)) = false := by decide)
    (he : starEach (a :: es) X.env = (false, eval a X.env) :: starEach es X.env := by rfl) (hpl : (backTo pos (starEach es X.env)).any (·.1) = false := by rfl) : PE X (.Call (.Name x p) (a :: es) [] pos) (tD z X.K (mCall g ms)) :=
  pe_to (pe_callB hc hg hm hv ha hn hdb he hpl) fun _ _ _ h => liftC L h
theorem d_callTy {id : String} {x : Str} {es : List Expr} {p : Pos} {r : List V → Hp → VK → Prop} {g : G1} {ms : MA} (hc : CallR X (.type id) r) (L : LiftC X.K r g) (hg : Gl X x) (hm : X.mg x = none) (hv : bootBuiltins x = some (.type id)) (ha : PA X (a :: es) (tBs z X.K ms)) (hn : x ≠ "__name__" := by decide) (hdb : (x == ("__debug__" : Str)) = false := by decide)
    (he : starEach (a :: es) X.env = (false, eval a X.env) :: starEach es X.env := by rfl) (hpl : (backTo pos (starEach es X.env)).any (·.1) = false := by rfl) : PE X (.Call (.Name x p) (a :: es) [] pos) (tD z X.K (mCall g ms)) :=
  pe_to (pe_callTy hc hg hm hv ha hn hdb he hpl) fun _ _ _ h => liftC L h
/-! ### the operators' own functions -/
def gLen : G1
  | [.list ds] => some (.int (ds.length : Nat))
  | [.tuple ds] => some (.int (ds.length : Nat))
  | [.str x] => if x.length ≤ 16777216 then some (.int (x.length : Nat)) else none
  | _ => none
theorem l_len {K : PySem.W.Frag} : LiftC K (fun xs H Q => ∃ x n, xs = [x] ∧ LenV K x H n ∧ Q (.int n) H) gLen := by
  intro H vs ds b Q h e k
  have hl := sizeLine_eq
  unfold gLen at e
  split at e
  · cases h with
    | cons h1 h2 =>
      cases h2
      cases h1 with
      | lst hs ha => cases e; exact ⟨_, _, rfl, .inl ⟨_, hs, rfl⟩, by rw [dpAll_len ha]; exact k _ fun _ => .int _⟩
  · cases h with
    | cons h1 h2 =>
      cases h2
      cases h1 with
      | tup hs ha => cases e; exact ⟨_, _, rfl, .inr ⟨_, hs, rfl⟩, by rw [dpAll_len ha]; exact k _ fun _ => .int _⟩
  · cases h with
    | cons h1 h2 =>
      cases h2
      cases h1
      split at e
      · rename_i hx
        cases e
        exact ⟨_, _, rfl, ⟨by omega, rfl⟩, k _ fun _ => .int _⟩
      · cases e
  · cases e
def boolsOf : List PyData → Option (List Bool)
  | [] => some []
  | .bool b :: r => (boolsOf r).map (b :: ·)
  | _ :: _ => none
theorem boolsOf_dp {K : PySem.W.Frag} {H : Hp} : ∀ {ds : List PyData} {xs : List V} {bs : List Bool}, DpAll K H xs ds → boolsOf ds = some bs → xs = bs.map V.bl
  | [], _, _, h, e => by cases h; cases e; rfl
  | d :: r, _, bs, h, e => by
    cases h with
    | cons h1 h2 =>
      cases h1 with
      | bl b =>
        unfold boolsOf at e
        cases q : boolsOf r with
        | none => rw [q] at e; cases e
        | some bs' =>
          rw [q] at e
          cases e
          rw [boolsOf_dp h2 q]
          rfl
      | _ => cases e
def gAll : G1
  | [.list ds] => (boolsOf ds).map fun bs => .bool (bs.all id)
  | _ => none
def gAny : G1
  | [.list ds] => (boolsOf ds).map fun bs => .bool (bs.any id)
  | _ => none
theorem l_all {K : PySem.W.Frag} : LiftC K (rAll K) gAll := by
  intro H vs ds b Q h e k
  unfold gAll at e
  split at e
  · rename_i ds
    cases h with
    | cons h1 h2 =>
      cases h2
      cases h1 with
      | lst hs ha =>
        cases q : boolsOf ds with
        | none => rw [q] at e; cases e
        | some bs =>
          rw [q] at e
          cases e
          have := boolsOf_dp ha q
          subst this
          exact ⟨_, bs, rfl, hs, k _ fun _ => .bl _⟩
  · cases e
theorem l_any {K : PySem.W.Frag} : LiftC K (rAny K) gAny := by
  intro H vs ds b Q h e k
  unfold gAny at e
  split at e
  · rename_i ds
    cases h with
    | cons h1 h2 =>
      cases h2
      cases h1 with
      | lst hs ha =>
        cases q : boolsOf ds with
        | none => rw [q] at e; cases e
        | some bs =>
          rw [q] at e
          cases e
          have := boolsOf_dp ha q
          subst this
          exact ⟨_, bs, rfl, hs, k _ fun _ => .bl _⟩
  · cases e
def intsOf : List PyData → Option (List Int)
  | [] => some []
  | .int b :: r => (intsOf r).map (b :: ·)
  | _ :: _ => none
theorem intsOf_dp {K : PySem.W.Frag} {H : Hp} : ∀ {ds : List PyData} {xs : List V} {bs : List Int}, DpAll K H xs ds → intsOf ds = some bs → xs = bs.map V.int
  | [], _, _, h, e => by cases h; cases e; rfl
  | d :: r, _, bs, h, e => by
    cases h with
    | cons h1 h2 =>
      cases h1 with
      | int b =>
        unfold intsOf at e
        cases q : intsOf r with
        | none => rw [q] at e; cases e
        | some bs' =>
          rw [q] at e
          cases e
          rw [intsOf_dp h2 q]
          rfl
      | _ => cases e
theorem intsOf_ints : ∀ ns : List Int, intsOf (ns.map PyData.int) = some ns
  | [] => rfl
  | n :: ns => by
    show (intsOf (ns.map PyData.int)).map (n :: ·) = _
    rw [intsOf_ints ns]
    rfl
def gSum : G1
  | [.list ds] => (intsOf ds).map fun bs => .int bs.sum
  | _ => none
theorem l_sum {K : PySem.W.Frag} : LiftC K (rSum K) gSum := by
  intro H vs ds b Q h e k
  unfold gSum at e
  split at e
  · rename_i ds
    cases h with
    | cons h1 h2 =>
      cases h2
      cases h1 with
      | lst hs ha =>
        cases q : intsOf ds with
        | none => rw [q] at e; cases e
        | some bs =>
          rw [q] at e
          cases e
          have := intsOf_dp ha q
          subst this
          exact ⟨_, bs, rfl, hs, k _ fun _ => .int _⟩
  · cases e
def gAbs : G1
  | [.int i] => some (.int (if i < 0 then -i else i))
  | _ => none
theorem l_abs {K : PySem.W.Frag} : LiftC K (fun xs H Q => ∃ i, xs = [.int i] ∧ Q (.int (if i < 0 then -i else i)) H) gAbs := by
  intro H vs ds b Q h e k
  unfold gAbs at e
  split at e
  · cases h with
    | cons h1 h2 =>
      cases h2
      cases h1
      cases e
      exact ⟨_, rfl, k _ fun _ => .int _⟩
  · cases e
/-- an operator upon ints -/
def gI (C : Int → Int → Bool) (f : Int → Int → PyData) : G2
  | .int i, .int j => if C i j = true then some (f i j) else none
  | _, _ => none
theorem l_rI {K : PySem.W.Frag} {C : Int → Int → Prop} {c : Int → Int → Bool} {g : Int → Int → V} {f : Int → Int → PyData} (hc : ∀ i j, c i j = true → C i j) (hs : ∀ i j, Sc K (g i j) (f i j)) : Lift2 K (rI C g) (gI c f) := by
  intro H x y d e b Q h1 h2 eq k
  unfold gI at eq
  split at eq
  · cases h1
    cases h2
    split at eq
    · rename_i hq
      cases eq
      exact ⟨_, _, rfl, rfl, hc _ _ hq, k _ (hs _ _)⟩
    · cases eq
  · cases eq
def gI0 (f : Int → Int → PyData) : G2
  | .int i, .int j => some (f i j)
  | _, _ => none
theorem l_rI0 {K : PySem.W.Frag} {g : Int → Int → V} {f : Int → Int → PyData} (hs : ∀ i j, Sc K (g i j) (f i j)) : Lift2 K (rI0 g) (gI0 f) := by
  intro H x y d e b Q h1 h2 eq k
  unfold gI0 at eq
  split at eq
  · cases h1
    cases h2
    cases eq
    exact ⟨_, _, rfl, rfl, k _ (hs _ _)⟩
  · cases eq
def gEq : G2 := fun d e => if SeqAt.shaped d = true ∧ SeqAt.shaped e = true then some (.bool (PyData.eqv d e)) else none
def gNe : G2 := fun d e => if SeqAt.shaped d = true ∧ SeqAt.shaped e = true then some (.bool (!PyData.eqv d e)) else none
theorem l_eq {K : PySem.W.Frag} : Lift2 K (rEqD K) gEq := by
  intro H x y d e b Q h1 h2 eq k
  unfold gEq at eq
  split at eq
  · rename_i hq
    cases eq
    exact ⟨d, e, h1, h2, hq.1, hq.2, k _ fun _ => .bl _⟩
  · cases eq
theorem l_ne {K : PySem.W.Frag} : Lift2 K (rNeD K) gNe := by
  intro H x y d e b Q h1 h2 eq k
  unfold gNe at eq
  split at eq
  · rename_i hq
    cases eq
    exact ⟨d, e, h1, h2, hq.1, hq.2, k _ fun _ => .bl _⟩
  · cases eq
/-- isinstance -/
def tyD : PyData → String
  | .none => "NoneType"
  | .bool _ => "bool"
  | .int _ => "int"
  | .str _ => "str"
  | .list _ => "list"
  | .tuple _ => "tuple"
  | .dict _ => "dict"
theorem tyX_of {K : PySem.W.Frag} {H : Hp} {x : V} {d : PyData} (h : Dp K H x d) : TyX K H x (.type (tyD d)) := by
  cases h with
  | non => exact .base .non
  | bl b => exact .base (.bl b)
  | int i => exact .base (.int i)
  | str y => exact .base (.str y)
  | lst hs ha =>
    rcases hs with (h | ⟨o, h⟩) | ⟨o, its, n, h, hc, _⟩
    · exact .base (.lst h)
    · exact .base (.frz h)
    · exact .kList h hc
  | tup hs ha =>
    rcases hs with (h | ⟨o, h⟩) | ⟨o, its, n, h, hc, _⟩
    · exact .base (.tup h)
    · exact .fTuple h
    · exact .kTuple h hc
def mIsi (T : String) (m : ME) : ME := fun en t => (m en t).bind fun p => (kitB (tyD p.1) T).map fun b => (.bool b, p.2)
theorem d_isi {T : String} {p : Pos} (hg : Gl X "isinstance") (hm : X.mg "isinstance" = none) (ha : PE X a (tB z X.K m)) (hb : PE X b (tC (.ty T)))
    (he : starEach (a :: [b]) X.env = (false, eval a X.env) :: starEach [b] X.env := by rfl) (he2 : starEach (b :: []) X.env = (false, eval b X.env) :: starEach [] X.env := by rfl) (hpl : (backTo pos (starEach [b] X.env)).any (·.1) = false := by rfl) : PE X (.Call (.Name "isinstance" p) [a, b] [] pos) (tD z X.K (mIsi T m)) :=
  pe_to (pe_callB call_isi hg hm (by decide +kernel) (pa_cons ha (pa_cons hb pa_nil he2) he) (by decide) (by decide) he hpl) fun σ H Q q => by
    obtain ⟨F, en, t, d, t', ok, e, k⟩ := q
    unfold mIsi at e
    cases h1 : m en t with
    | none => rw [h1] at e; cases e
    | some p =>
      obtain ⟨d1, T1⟩ := p
      rw [h1] at e
      simp only [Option.bind_some] at e
      cases h2 : kitB (tyD d1) T with
      | none => rw [h2] at e; cases e
      | some r =>
        rw [h2] at e
        cases e
        refine ⟨F, en, t, d1, _, ok, h1, fun F1 H1 v B1 n1 p1 => ?_⟩
        show rIsi X.K [v, .ty T] H1 Q
        exact ⟨v, .ty T, _, _, r, rfl, .ty T, tyX_of (dp_mono (cut_same z H1) _ _ p1), kit_ty h2, k F1 H1 _ B1 n1 (.bl r)⟩
end
end LQ

set_option Elab.async false
set_option linter.all false
set_option maxRecDepth 100000
set_option maxHeartbeats 2000000
namespace LQ
open PySem PySem.Spec PyProof.Rows L2
/-! ### a sequence whose items may be kept -/
def DpE (K : PySem.W.Frag) (F G : Hp) (v : V) : PyData → Prop
  | .list ds => ∃ a xs, v = .ref a ∧ SqL K G a xs ∧ DpAll K F xs ds
  | .tuple ds => ∃ a xs, v = .ref a ∧ SqT K G a xs ∧ DpAll K F xs ds
  | d => Dp K F v d
theorem dpE_of {K : PySem.W.Frag} {F G : Hp} {v : V} {d : PyData} (s : Same F G) (h : Dp K F v d) : DpE K F G v d := by
  cases h with
  | lst hs ha => exact ⟨_, _, rfl, s.seq hs, ha⟩
  | tup hs ha => exact ⟨_, _, rfl, sqT_mono s hs, ha⟩
  | non => exact .non
  | bl b => exact .bl b
  | int i => exact .int i
  | str x => exact .str x
theorem dpE_dp {K : PySem.W.Frag} {F G : Hp} {v : V} {d : PyData} (s : Same F G) (h : DpE K F G v d) : Dp K G v d := by
  cases d with
  | list ds =>
    obtain ⟨a, xs, rfl, hs, ha⟩ := h
    exact .lst hs (dpAll_mono s _ _ ha)
  | tuple ds =>
    obtain ⟨a, xs, rfl, hs, ha⟩ := h
    exact .tup hs (dpAll_mono s _ _ ha)
  | _ => exact dp_mono s _ _ h
theorem dpE_mono {K : PySem.W.Frag} {F G F' G' : Hp} {v : V} {d : PyData} (s : Same F F') (s' : Same G G') (h : DpE K F G v d) : DpE K F' G' v d := by
  cases d with
  | list ds =>
    obtain ⟨a, xs, rfl, hs, ha⟩ := h
    exact ⟨_, _, rfl, s'.seq hs, dpAll_mono s _ _ ha⟩
  | tuple ds =>
    obtain ⟨a, xs, rfl, hs, ha⟩ := h
    exact ⟨_, _, rfl, sqT_mono s' hs, dpAll_mono s _ _ ha⟩
  | _ => exact dp_mono s _ _ h
def tE (z : Cz) (K : PySem.W.Frag) (m : ME) : TE := fun σ H Q => ∃ F en T d T', Ok z K F H σ en T ∧ m en T = some (d, T') ∧ ∀ F' H' v, Bs z F' H' T' → Nxt z F H F' H' → DpE K F' (z.cut H') v d → Q v H'
section
variable {X : Cx} {z : Cz} {a b c : Expr} {m m1 m2 m3 : ME} {pos : Pos}
theorem ed (h : PE X a (tD z X.K m)) : PE X a (tE z X.K m) := pe_to h fun σ H Q q => by
  obtain ⟨F, en, T, d, T', ok, e, k⟩ := q
  exact ⟨F, en, T, d, T', ok, e, fun F' H' v B n p => k F' H' v B n (dpE_of B.cut p)⟩
theorem be (h : PE X a (tE z X.K m)) : PE X a (tB z X.K m) := pe_to h fun σ H Q q => by
  obtain ⟨F, en, T, d, T', ok, e, k⟩ := q
  exact ⟨F, en, T, d, T', ok, e, fun F' H' v B n p => k F' H' v B n (dpE_dp B.cut p)⟩
theorem e_var (i : Nat) {x : Str} {pos : Pos} (hN : X.N[i]? = some x := by rfl) (hv : Vis X.env.scope x := by first | exact Or.inl rfl | exact Or.inr (Or.inl rfl) | exact Or.inr (Or.inr rfl)) (hd : (x == ("__debug__" : Str)) = false := by decide)
    (hcd : (x == ("__classdict__" : Str)) = false := by decide) : PE X (.Name x pos) (tE z X.K (mVarB i)) := pe_to (pe_var (i := i) hN hv hd hcd) fun σ H Q q => by
  obtain ⟨F, en, T, d, T', ok, e, k⟩ := q
  unfold mVarB at e
  split at e
  · rename_i d' e'
    cases e
    obtain ⟨v, hv, x, ex, p⟩ := ok.sl i _ e'
    subst ex
    exact ⟨x, hv, k F H x ok.b Nxt.refl (dpE_of ok.b.cut p)⟩
  · rename_i ds e'
    cases e
    obtain ⟨v, hv, a, xs, ex, h1, h2, h3, p⟩ := ok.sl i _ e'
    subst ex
    have nd : z.isDk a = false := by
      cases hd : z.isDk a with
      | true => exact absurd h3 (ok.b.dkin a hd)
      | false => rfl
    refine ⟨.ref a, hv, k F H _ ok.b Nxt.refl ⟨a, xs, rfl, .inl (.inl ?_), p⟩⟩
    unfold Cz.cut
    rw [nd, if_neg (by simp)]
    exact h1
  · cases e
/-! ### an item -/
theorem atI_dp {K : PySem.W.Frag} {F : Hp} {vs : List V} {ds : List PyData} {i : Int} {d : PyData} (h : DpAll K F vs ds) (e : atI ds i = some d) : ∃ v, atI vs i = some v ∧ Dp K F v d := by
  unfold atI at e ⊢
  rw [dpAll_len h]
  cases q : ixN ds.length i with
  | none => rw [q] at e; cases e
  | some j =>
    rw [q] at e
    exact dpAll_get' h e
def ixD : G2
  | .list ds, .int i => atI ds i
  | .tuple ds, .int i => atI ds i
  | .str x, .int i => if x.length ≤ 16777216 then (atI x.cps.toList i).map fun c => .str ⟨#[c]⟩ else none
  | _, _ => none
theorem rIx_of {K : PySem.W.Frag} {F H G G' : Hp} {x y : V} {d e r : PyData} {Q : VK} (s : Same G H) (h1 : DpE K F G x d) (h2 : Dp K G' y e) (eq : ixD d e = some r) (k : ∀ v, Dp K F v r → Q v H) : rIx K x y H Q := by
  have hl := sizeLine_eq
  unfold ixD at eq
  split at eq
  · obtain ⟨a, xs, rfl, hs, ha⟩ := h1
    cases h2
    obtain ⟨v, hv, p⟩ := atI_dp ha eq
    exact .inl ⟨a, xs, _, v, rfl, rfl, s.seq hs, hv, k v p⟩
  · obtain ⟨a, xs, rfl, hs, ha⟩ := h1
    cases h2
    obtain ⟨v, hv, p⟩ := atI_dp ha eq
    exact .inr (.inl ⟨a, xs, _, v, rfl, rfl, sqT_mono s hs, hv, k v p⟩)
  · rename_i x' i'
    replace h1 : Dp K F x (.str x') := h1
    cases h1
    cases h2
    split at eq
    · rename_i hx
      cases q : atI x'.cps.toList i' with
      | none => rw [q] at eq; cases eq
      | some c =>
        rw [q] at eq
        cases eq
        exact .inr (.inr ⟨x', i', c, rfl, rfl, by omega, q, k _ (.str _)⟩)
    · cases eq
  · cases eq
theorem d_ix (ha : PE X a (tE z X.K m1)) (hb : PE X b (tB z X.K m2)) (hs : PlainIx b := by exact fun _ _ => rfl) : PE X (.Subscript a b pos) (tD z X.K (mBin ixD m1 m2)) := pe_to (pe_ix ix_seq ha hb hs) fun σ H Q q => by
  obtain ⟨F, en, T, d, T', ok, e, k⟩ := q
  obtain ⟨d1, T1, d2, e1, e2, e3⟩ := mBin_some e
  refine ⟨F, en, T, d1, T1, ok, e1, fun F1 H1 x B1 n1 p1 => ⟨F1, en, T1, d2, T', ok.nxt n1 B1, e2, fun F2 H2 y B2 n2 p2 => ?_⟩⟩
  exact rIx_of (G := z.cut H2) (F := F2) (cut_same z H2) (dpE_mono n2.s n2.st.cut p1) p2 e3 fun v hv => k F2 H2 v B2 (n1.trans n2 B2) hv
/-! ### a slice -/
abbrev MO := En → Dk → Option (Option Int × Dk)
def tP (z : Cz) (K : PySem.W.Frag) (m : MO) : TO := fun σ H Q => ∃ F en T d T', Ok z K F H σ en T ∧ m en T = some (d, T') ∧ ∀ F' H', Bs z F' H' T' → Nxt z F H F' H' → Q d H'
def mP0 : MO := fun _ T => some (none, T)
def mP (m : ME) : MO := fun en T => match m en T with
  | some (.int i, T') => some (some i, T')
  | _ => none
theorem po_to {o : Option Expr} {t t' : TO} (h : PO X o t) (w : ∀ σ H Q, t' σ H Q → t σ H Q) : PO X o t' := ⟨fun pins s σ H Q I q => h.run pins s σ H Q I (w σ H Q q)⟩
theorem p_none : PO X none (tP z X.K mP0) := po_to po_none fun σ H Q q => by
  obtain ⟨F, en, T, d, T', ok, e, k⟩ := q
  cases e
  exact k F H ok.b Nxt.refl
theorem p_some (h : PE X a (tB z X.K m)) : PO X (some a) (tP z X.K (mP m)) := po_to (po_some h) fun σ H Q q => by
  obtain ⟨F, en, T, d, T', ok, e, k⟩ := q
  unfold mP at e
  split at e
  · rename_i i T1 h1
    cases e
    refine ⟨F, en, T, _, _, ok, h1, fun F' H' v B n p => ?_⟩
    cases p
    exact ⟨_, rfl, k F' H' B n⟩
  · cases e
def cutD (ds : List PyData) (lo hi : Option Int) : List PyData := (ds.drop (HT.sIx ds.length 0 lo)).take (HT.sIx ds.length ds.length hi - HT.sIx ds.length 0 lo)
theorem cut_dp {K : PySem.W.Frag} {F : Hp} {xs : List V} {ds : List PyData} (h : DpAll K F xs ds) (lo hi : Option Int) : DpAll K F (cutV xs lo hi) (cutD ds lo hi) := by
  unfold cutV cutD
  rw [dpAll_len h]
  exact dpAll_take _ (dpAll_drop _ h)
def mSl (g : PyData → Option Int → Option Int → Option PyData) (m : ME) (o1 o2 : MO) : ME := fun en T => (m en T).bind fun p => (o1 en p.2).bind fun q => (o2 en q.2).bind fun r => (g p.1 q.1 r.1).map fun d => (d, r.2)
def mSlF (m : ME) (o1 o2 : MO) : MA := fun en T => (m en T).bind fun p => (o1 en p.2).bind fun q => (o2 en q.2).bind fun r => match p.1 with
  | .list ds => some (cutD ds q.1 r.1, r.2)
  | _ => none
/-- of a list: a new list -/
theorem f_slice {lo hi : Option Expr} {o1 o2 : MO} {p2 : Pos} (ha : PE X a (tE z X.K m)) (hl : PO X lo (tP z X.K o1)) (hh : PO X hi (tP z X.K o2)) : PE X (.Subscript a (.Slice lo hi none p2) pos) (tF z X.K (mSlF m o1 o2)) := pe_to (pe_slice sl_list ha hl hh) fun σ H Q q => by
  obtain ⟨F, en, T, ds, T', ok, e, k⟩ := q
  unfold mSlF at e
  cases h1 : m en T with
  | none => rw [h1] at e; cases e
  | some p =>
    obtain ⟨d, T1⟩ := p
    rw [h1] at e
    simp only [Option.bind_some] at e
    cases h2 : o1 en T1 with
    | none => rw [h2] at e; cases e
    | some p =>
      obtain ⟨l1, T2⟩ := p
      rw [h2] at e
      simp only [Option.bind_some] at e
      cases h3 : o2 en T2 with
      | none => rw [h3] at e; cases e
      | some p =>
        obtain ⟨l2, T3⟩ := p
        rw [h3] at e
        simp only [Option.bind_some] at e
        refine ⟨F, en, T, d, T1, ok, h1, fun F1 H1 x B1 n1 p1 => ⟨F1, en, T1, l1, T2, ok.nxt n1 B1, h2, fun F2 H2 B2 n2 => ⟨F2, en, T2, l2, T3, (ok.nxt n1 B1).nxt n2 B2, h3, fun F3 H3 B3 n3 => ?_⟩⟩⟩
        split at e
        · cases e
          obtain ⟨a, xs, rfl, hs, hx⟩ := p1
          have n13 := n2.trans n3 B3
          refine ⟨a, xs, rfl, ((n13.st.cut).trans (cut_same z H3)).seq hs, fun q hq => ?_⟩
          obtain ⟨B4, n4, f4, h4⟩ := B3.put (o := .lst (cutV xs l1 l2)) hq
          have n14 := n1.trans (n13.trans n4 B4) B4
          refine k _ _ _ _ B4 n14 ?_ upd_same f4 h4 (cut_dp (dpAll_mono n13.s _ _ hx) l1 l2)
          cases e0 : H q with
          | none => rfl
          | some o =>
            have nd : z.isDk q = false := by
              cases hd : z.isDk q with
              | true => exact absurd h4 (B1.dkin q hd)
              | false => rfl
            rw [(n1.trans n13 B3).st q o e0 nd] at hq
            cases hq
        · cases e
def gSlT : PyData → Option Int → Option Int → Option PyData
  | .tuple ds, lo, hi => some (.tuple (cutD ds lo hi))
  | _, _, _ => none
def gSlS : PyData → Option Int → Option Int → Option PyData
  | .str x, lo, hi => if x.length ≤ 16777216 then some (.str (cutS x lo hi)) else none
  | _, _, _ => none
theorem mSl_some {g : PyData → Option Int → Option Int → Option PyData} {o1 o2 : MO} {en : En} {T T' : Dk} {d : PyData} (e : mSl g m o1 o2 en T = some (d, T')) : ∃ d1 T1 l1 T2 l2, m en T = some (d1, T1) ∧ o1 en T1 = some (l1, T2) ∧ o2 en T2 = some (l2, T') ∧ g d1 l1 l2 = some d := by
  unfold mSl at e
  cases h1 : m en T with
  | none => rw [h1] at e; cases e
  | some p =>
    obtain ⟨d1, T1⟩ := p
    rw [h1] at e
    simp only [Option.bind_some] at e
    cases h2 : o1 en T1 with
    | none => rw [h2] at e; cases e
    | some p =>
      obtain ⟨l1, T2⟩ := p
      rw [h2] at e
      simp only [Option.bind_some] at e
      cases h3 : o2 en T2 with
      | none => rw [h3] at e; cases e
      | some p =>
        obtain ⟨l2, T3⟩ := p
        rw [h3] at e
        simp only [Option.bind_some] at e
        cases h4 : g d1 l1 l2 with
        | none => rw [h4] at e; cases e
        | some r =>
          rw [h4] at e
          simp only [Option.map_some, Option.some.injEq, Prod.mk.injEq] at e
          obtain ⟨rfl, rfl⟩ := e
          exact ⟨d1, T1, l1, T2, l2, rfl, h2, h3, h4⟩
theorem cutV_all (xs : List V) (lo hi : Option Int) (h : HT.sIx xs.length 0 lo = 0 ∧ HT.sIx xs.length xs.length hi = xs.length) : cutV xs lo hi = xs := by
  unfold cutV
  rw [h.1, h.2]
  simp
theorem d_sliceT {lo hi : Option Expr} {o1 o2 : MO} {p2 : Pos} (ha : PE X a (tD z X.K m)) (hl : PO X lo (tP z X.K o1)) (hh : PO X hi (tP z X.K o2)) : PE X (.Subscript a (.Slice lo hi none p2) pos) (tD z X.K (mSl gSlT m o1 o2)) := pe_to (pe_slice sl_tupA ha hl hh) fun σ H Q q => by
  obtain ⟨F, en, T, ds, T', ok, e, k⟩ := q
  obtain ⟨d1, T1, l1, T2, l2, h1, h2, h3, h4⟩ := mSl_some e
  refine ⟨F, en, T, d1, T1, ok, h1, fun F1 H1 x B1 n1 p1 => ⟨F1, en, T1, l1, T2, ok.nxt n1 B1, h2, fun F2 H2 B2 n2 => ⟨F2, en, T2, l2, T', (ok.nxt n1 B1).nxt n2 B2, h3, fun F3 H3 B3 n3 => ?_⟩⟩⟩
  unfold gSlT at h4
  split at h4
  · cases h4
    cases p1 with
    | tup hs hx =>
      rename_i a xs
      have n13 := n2.trans n3 B3
      have s3 : SqT X.K F3 a xs := sqT_mono n13.s hs
      have x3 := dpAll_mono n13.s _ _ hx
      refine ⟨a, xs, rfl, sqT_mono B3.fh s3, fun hw => ?_, fun hw q hq => ?_⟩
      · have e := cut_dp x3 l1 l2
        rw [cutV_all xs l1 l2 hw] at e
        exact k F3 H3 _ B3 (n1.trans n13 B3) (.tup s3 e)
      · obtain ⟨B4, n4⟩ := B3.lay (o := .tup (cutV xs l1 l2)) hq
        exact k _ _ _ B4 (n1.trans (n13.trans n4 B4) B4) (.tup (.inl (.inl upd_same)) (dpAll_mono n4.s _ _ (cut_dp x3 l1 l2)))
  · cases h4
theorem d_sliceS {lo hi : Option Expr} {o1 o2 : MO} {p2 : Pos} (ha : PE X a (tB z X.K m)) (hl : PO X lo (tP z X.K o1)) (hh : PO X hi (tP z X.K o2)) : PE X (.Subscript a (.Slice lo hi none p2) pos) (tD z X.K (mSl gSlS m o1 o2)) := pe_to (pe_slice sl_str ha hl hh) fun σ H Q q => by
  obtain ⟨F, en, T, ds, T', ok, e, k⟩ := q
  obtain ⟨d1, T1, l1, T2, l2, h1, h2, h3, h4⟩ := mSl_some e
  refine ⟨F, en, T, d1, T1, ok, h1, fun F1 H1 x B1 n1 p1 => ⟨F1, en, T1, l1, T2, ok.nxt n1 B1, h2, fun F2 H2 B2 n2 => ⟨F2, en, T2, l2, T', (ok.nxt n1 B1).nxt n2 B2, h3, fun F3 H3 B3 n3 => ?_⟩⟩⟩
  have hl := sizeLine_eq
  unfold gSlS at h4
  split at h4
  · split at h4
    · rename_i hx
      cases h4
      cases p1
      exact ⟨_, rfl, by omega, k F3 H3 _ B3 (n1.trans (n2.trans n3 B3) B3) (.str _)⟩
    · cases h4
  · cases h4
end
/-! ### statements -/
inductive Res where
  | nx (en : En) (T : Dk)
  | rt (d : PyData) (T : Dk)
  | bk (en : En) (T : Dk)
  | ct (en : En) (T : Dk)
abbrev MS := En → Dk → Option Res
def EndR (z : Cz) (K : PySem.W.Frag) (F : Hp) (D : Ends) : Res → Prop
  | .nx en T => ∀ F' H' σ', Ok z K F' H' σ' en T → Same F F' → D.nx σ' H'
  | .rt d T => ∀ F' H' v, Bs z F' H' T → Dp K F' v d → D.rt v H'
  | .bk en T => ∀ F' H' σ', Ok z K F' H' σ' en T → Same F F' → D.bk σ' H'
  | .ct en T => ∀ F' H' σ', Ok z K F' H' σ' en T → Same F F' → D.ct σ' H'
def tS (z : Cz) (K : PySem.W.Frag) (m : MS) : TS := fun D σ H => ∃ F en T r, Ok z K F H σ en T ∧ m en T = some r ∧ EndR z K F D r
theorem EndR.mono {z : Cz} {K : PySem.W.Frag} {F F' : Hp} {D : Ends} {r : Res} (s : Same F F') (h : EndR z K F D r) : EndR z K F' D r := by
  cases r with
  | nx en T => exact fun F2 H2 σ2 ok s2 => h F2 H2 σ2 ok (s.trans s2)
  | rt d T => exact h
  | bk en T => exact fun F2 H2 σ2 ok s2 => h F2 H2 σ2 ok (s.trans s2)
  | ct en T => exact fun F2 H2 σ2 ok s2 => h F2 H2 σ2 ok (s.trans s2)
section
variable {X : Cx} {z : Cz} {a b c : Expr} {m m1 m2 m3 : ME} {s1 s2 : MS} {pos : Pos} {K : PySem.W.Frag} {F H : Hp} {σ : St} {en : En} {T : Dk}
theorem Ok.set {i : Nat} {x : V} {d : PyData} (k : Ok z K F H σ en T) (p : Dp K F x d) : Ok z K F H (σ.set i (some x)) (en.set i (some (.dat d))) T := by
  refine ⟨k.b, by rw [List.length_set, List.length_set]; exact k.len, fun j s e => ?_, fun j l ds es a hjl e1 e2 h1 h2 => ?_⟩
  · by_cases hj : i = j
    · subst hj
      by_cases hi : i < en.length
      · rw [List.getElem?_set_self hi] at e
        cases e
        exact ⟨some x, List.getElem?_set_self (by rw [k.len]; exact hi), x, rfl, p⟩
      · rw [List.getElem?_eq_none (by rw [List.length_set]; omega)] at e
        cases e
    · rw [List.getElem?_set_ne hj] at e
      rw [List.getElem?_set_ne hj]
      exact k.sl j s e
  · have hj : i ≠ j := fun q => by
      subst q
      by_cases hi : i < en.length
      · rw [List.getElem?_set_self hi] at e1; cases e1
      · rw [List.getElem?_eq_none (by rw [List.length_set]; omega)] at e1; cases e1
    have hl : i ≠ l := fun q => by
      subst q
      by_cases hi : i < en.length
      · rw [List.getElem?_set_self hi] at e2; cases e2
      · rw [List.getElem?_eq_none (by rw [List.length_set]; omega)] at e2; cases e2
    rw [List.getElem?_set_ne hj] at e1 h1
    rw [List.getElem?_set_ne hl] at e2 h2
    exact k.ne j l ds es a hjl e1 e2 h1 h2
theorem Ok.setOwn {i : Nat} {a : Addr} {xs : List V} {ds : List PyData} (k : Ok z K F H σ en T) (ha : H a = some (.lst xs)) (hf : F a = none) (h0 : z.H0 a = none) (p : DpAll K F xs ds) (hn : ∀ (j : Nat) (es : List PyData), en[j]? = some (some (.own es)) → σ[j]? ≠ some (some (.ref a))) :
    Ok z K F H (σ.set i (some (.ref a))) (en.set i (some (.own ds))) T := by
  refine ⟨k.b, by rw [List.length_set, List.length_set]; exact k.len, fun j s e => ?_, fun j l ds' es b hjl e1 e2 h1 h2 => ?_⟩
  · by_cases hj : i = j
    · subst hj
      by_cases hi : i < en.length
      · rw [List.getElem?_set_self hi] at e
        cases e
        exact ⟨_, List.getElem?_set_self (by rw [k.len]; exact hi), a, xs, rfl, ha, hf, h0, p⟩
      · rw [List.getElem?_eq_none (by rw [List.length_set]; omega)] at e
        cases e
    · rw [List.getElem?_set_ne hj] at e
      rw [List.getElem?_set_ne hj]
      exact k.sl j s e
  · by_cases hj : i = j
    · subst hj
      have hl : i ≠ l := hjl
      rw [List.getElem?_set_ne hl] at e2 h2
      by_cases hi : i < σ.length
      · rw [List.getElem?_set_self hi] at h1
        cases h1
        exact hn l es e2 h2
      · rw [List.getElem?_eq_none (by rw [List.length_set]; omega)] at h1; cases h1
    · rw [List.getElem?_set_ne hj] at e1 h1
      by_cases hl : i = l
      · subst hl
        by_cases hi : i < σ.length
        · rw [List.getElem?_set_self hi] at h2
          cases h2
          exact hn j _ e1 h1
        · rw [List.getElem?_eq_none (by rw [List.length_set]; omega)] at h2; cases h2
      · rw [List.getElem?_set_ne hl] at e2 h2
        exact k.ne j l _ es b hjl e1 e2 h1 h2
def mNext : MS := fun en T => some (.nx en T)
def mSeq (s1 s2 : MS) : MS := fun en T => (s1 en T).bind fun r => match r with
  | .nx en' T' => s2 en' T'
  | r => some r
theorem ss_nil : PSs X [] (tS z X.K mNext) := pss_to pss_nil fun D σ H q => by
  obtain ⟨F, en, T, r, ok, e, k⟩ := q
  cases e
  exact k F H σ ok (Same.refl _)
theorem tS_seq {D : Ends} (h : tS z K (mSeq s1 s2) D σ H) : tSeq (tS z K s1) (tS z K s2) D σ H := by
  obtain ⟨F, en, T, r, ok, e, k⟩ := h
  unfold mSeq at e
  cases h1 : s1 en T with
  | none => rw [h1] at e; cases e
  | some q =>
    rw [h1] at e
    simp only [Option.bind_some] at e
    cases q with
    | nx en' T' => exact ⟨F, en, T, _, ok, h1, fun F' H' σ' ok' s => ⟨F', en', T', r, ok', e, k.mono s⟩⟩
    | rt d T' => cases e; exact ⟨F, en, T, _, ok, h1, k⟩
    | bk en' T' => cases e; exact ⟨F, en, T, _, ok, h1, k⟩
    | ct en' T' => cases e; exact ⟨F, en, T, _, ok, h1, k⟩
theorem ss_cons {st : Stmt} {rest : List Stmt} (h1 : PS X st (tS z X.K s1)) (h2 : PSs X rest (tS z X.K s2)) : PSs X (st :: rest) (tS z X.K (mSeq s1 s2)) := pss_to (pss_cons h1 h2) fun D σ H q => tS_seq q
theorem ss_one {st : Stmt} (h1 : PS X st (tS z X.K s1)) : PSs X [st] (tS z X.K s1) := pss_one h1
def mRet (m : ME) : MS := fun en T => (m en T).map fun p => .rt p.1 p.2
theorem s_ret (h : PE X a (tD z X.K m)) : PS X (.Return (some a) pos) (tS z X.K (mRet m)) := ps_to (ps_ret h) fun D σ H q => by
  obtain ⟨F, en, T, r, ok, e, k⟩ := q
  unfold mRet at e
  cases h1 : m en T with
  | none => rw [h1] at e; cases e
  | some p =>
    obtain ⟨d, T1⟩ := p
    rw [h1] at e
    cases e
    exact ⟨F, en, T, d, T1, ok, h1, fun F' H' v B n p => k F' H' v B p⟩
def mRetN : MS := fun en T => some (.rt .none T)
theorem s_retN : PS X (.Return none pos) (tS z X.K mRetN) := ps_to ps_retN fun D σ H q => by
  obtain ⟨F, en, T, r, ok, e, k⟩ := q
  cases e
  exact k F H .non ok.b .non
/-- return x, x a list of one's own -/
def mRetV (i : Nat) : MS := fun en T => match en[i]? with
  | some (some (.dat d)) => some (.rt d T)
  | some (some (.own ds)) => some (.rt (.list ds) T)
  | _ => none
theorem s_retV (i : Nat) {x : Str} {pos pos' : Pos} (hN : X.N[i]? = some x := by rfl) (hv : Vis X.env.scope x := by first | exact Or.inl rfl | exact Or.inr (Or.inl rfl) | exact Or.inr (Or.inr rfl)) (hd : (x == ("__debug__" : Str)) = false := by decide)
    (hcd : (x == ("__classdict__" : Str)) = false := by decide) : PS X (.Return (some (.Name x pos')) pos) (tS z X.K (mRetV i)) := ps_to (ps_ret (pe_var (i := i) hN hv hd hcd)) fun D σ H q => by
  obtain ⟨F, en, T, r, ok, e, k⟩ := q
  unfold mRetV at e
  split at e
  · rename_i d' e'
    cases e
    obtain ⟨v, hv, x, ex, p⟩ := ok.sl i _ e'
    subst ex
    exact ⟨x, hv, k F H x ok.b p⟩
  · rename_i ds e'
    cases e
    obtain ⟨v, hv, a, xs, ex, h1, h2, h3, p⟩ := ok.sl i _ e'
    subst ex
    have s : Same F (upd F a (.lst xs)) := fun b o h => by rw [upd_ne (ne_of_none h h2)]; exact h
    exact ⟨.ref a, hv, k _ H _ (ok.b.freeze h1 h3) (.lst (.inl (.inl upd_same)) (dpAll_mono s _ _ p))⟩
  · cases e
def mSet (i : Nat) (m : ME) : MS := fun en T => (m en T).map fun p => .nx (en.set i (some (.dat p.1))) p.2
theorem tS_set {i : Nat} {D : Ends} (h : tS z K (mSet i m) D σ H) : tAsg (tD z K m) (gName i) D σ H := by
  obtain ⟨F, en, T, r, ok, e, k⟩ := h
  unfold mSet at e
  cases h1 : m en T with
  | none => rw [h1] at e; cases e
  | some p =>
    obtain ⟨d, T1⟩ := p
    rw [h1] at e
    cases e
    exact ⟨F, en, T, d, T1, ok, h1, fun F' H' v B n p => k F' H' _ ((ok.nxt n B).set p) n.s⟩
theorem s_set (i : Nat) {x : Str} {pos' : Pos} (hN : X.N.Nodup) (he : PE X a (tD z X.K m)) (hi : X.N[i]? = some x := by rfl) (hx : Loc X.env.scope x := by first | exact Or.inl rfl | exact Or.inr rfl) (hs : swapsWith a (some (.Name x pos')) pos.line X.env = pure false := by rfl) (hf : X.fn x = true ∨ X.env.scope.names.lookup x = some .local := by first | exact .inl rfl | exact .inr rfl | assumption) :
    PS X (.Assign [.Name x pos'] a pos) (tS z X.K (mSet i m)) := ps_to (ps_set (i := i) hN hi hx he hs hf) fun D σ H q => tS_set q
def mSetF (i : Nat) (m : MA) : MS := fun en T => (m en T).map fun p => .nx (en.set i (some (.own p.1))) p.2
theorem tS_setF {i : Nat} {m : MA} {D : Ends} (q : tS z K (mSetF i m) D σ H) : tAsg (tF z K m) (gName i) D σ H := by
  obtain ⟨F, en, T, r, ok, e, k⟩ := q
  unfold mSetF at e
  cases h1 : m en T with
  | none => rw [h1] at e; cases e
  | some p =>
    obtain ⟨d, T1⟩ := p
    rw [h1] at e
    cases e
    refine ⟨F, en, T, d, T1, ok, h1, fun F' H' a xs B n h0 h' f' hz p => ?_⟩
    have ok' := ok.nxt n B
    refine k F' H' _ (ok'.setOwn h' f' hz p fun j es ej hj => ?_) n.s
    obtain ⟨v, hv, b, ys, ev, hb, _⟩ := ok.sl j _ ej
    rw [hv] at hj
    subst ev
    cases hj
    rw [h0] at hb
    cases hb
theorem s_setF (i : Nat) {x : Str} {pos' : Pos} {m : MA} (hN : X.N.Nodup) (he : PE X a (tF z X.K m)) (hi : X.N[i]? = some x := by rfl) (hx : Loc X.env.scope x := by first | exact Or.inl rfl | exact Or.inr rfl) (hs : swapsWith a (some (.Name x pos')) pos.line X.env = pure false := by rfl) (hf : X.fn x = true ∨ X.env.scope.names.lookup x = some .local := by first | exact .inl rfl | exact .inr rfl | assumption) :
    PS X (.Assign [.Name x pos'] a pos) (tS z X.K (mSetF i m)) := ps_to (ps_set (i := i) hN hi hx he hs hf) fun _ _ _ q => tS_setF q
def mIf (n : MT) (s1 s2 : MS) : MS := fun en T => (n en T).bind fun p => if p.1 = true then s1 en p.2 else s2 en p.2
theorem s_if {n : MT} {A B : List Stmt} (hc : PT X c (tQ z X.K n)) (ha : PSs X A (tS z X.K s1)) (hb : PSs X B (tS z X.K s2)) : PS X (.If c A B pos) (tS z X.K (mIf n s1 s2)) := ps_to (ps_if hc ha hb) fun D σ H q => by
  obtain ⟨F, en, T, r, ok, e, k⟩ := q
  unfold mIf at e
  cases h1 : n en T with
  | none => rw [h1] at e; cases e
  | some p =>
    obtain ⟨t, T1⟩ := p
    rw [h1] at e
    simp only [Option.bind_some] at e
    refine ⟨F, en, T, t, T1, ok, h1, fun F1 H1 B1 k1 => ?_⟩
    cases t with
    | true => exact ⟨F1, en, T1, r, ok.nxt k1 B1, e, k.mono k1.s⟩
    | false => exact ⟨F1, en, T1, r, ok.nxt k1 B1, e, k.mono k1.s⟩
def mExpr (m : ME) : MS := fun en T => (m en T).map fun p => .nx en p.2
theorem s_expr (he : PE X a (tD z X.K m)) (hs : swapsWith a none pos.line X.env = pure false := by rfl) : PS X (.Expr a pos) (tS z X.K (mExpr m)) := ps_to (ps_expr he hs) fun D σ H q => by
  obtain ⟨F, en, T, r, ok, e, k⟩ := q
  unfold mExpr at e
  cases h1 : m en T with
  | none => rw [h1] at e; cases e
  | some p =>
    obtain ⟨d, T1⟩ := p
    rw [h1] at e
    cases e
    exact ⟨F, en, T, d, T1, ok, h1, fun F' H' v B n p => k F' H' σ (ok.nxt n B) n.s⟩
def mBreak : MS := fun en T => some (.bk en T)
def mCont : MS := fun en T => some (.ct en T)
theorem s_break : PS X (.Break pos) (tS z X.K mBreak) := ps_to ps_break fun D σ H q => by
  obtain ⟨F, en, T, r, ok, e, k⟩ := q
  cases e
  exact k F H σ ok (Same.refl _)
theorem s_cont : PS X (.Continue pos) (tS z X.K mCont) := ps_to ps_continue fun D σ H q => by
  obtain ⟨F, en, T, r, ok, e, k⟩ := q
  cases e
  exact k F H σ ok (Same.refl _)
end
end LQ

set_option Elab.async false
set_option linter.all false
set_option maxRecDepth 100000
set_option maxHeartbeats 2000000
namespace LQ
open PySem PySem.Spec PyProof.Rows L2
/-! ### slots that are left as they were -/
def Out (vs : List Nat) (σ σ' : St) : Prop := σ'.length = σ.length ∧ ∀ k, k ∉ vs → σ'[k]? = σ[k]?
theorem wipe_in {σ : St} {i : Nat} : ∀ {vs : List Nat}, i ∈ vs → i < σ.length → (wipe σ vs)[i]? = some none
  | [], h, _ => by simp at h
  | v :: vs, h, hl => by
    unfold wipe
    by_cases hv : v = i
    · subst hv
      exact List.getElem?_set_self (by rw [wipe_length]; exact hl)
    · rw [List.getElem?_set_ne hv]
      refine wipe_in ?_ hl
      cases List.mem_cons.mp h with
      | inl q => exact absurd q.symm hv
      | inr q => exact q
theorem Out.wipe {vs : List Nat} {σ σ' : St} (h : Out vs σ σ') : wipe σ' vs = wipe σ vs := by
  refine List.ext_getElem? fun i => ?_
  by_cases hi : i ∈ vs
  · by_cases hl : i < σ.length
    · rw [wipe_in hi hl, wipe_in hi (by rw [h.1]; exact hl)]
    · rw [List.getElem?_eq_none (by rw [wipe_length, h.1]; omega), List.getElem?_eq_none (by rw [wipe_length]; omega)]
  · rw [wipe_out hi, wipe_out hi]
    exact h.2 i hi
theorem Out.trans {vs us : List Nat} {σ σ1 σ2 : St} (a : Out vs σ σ1) (b : Out us σ1 σ2) : Out (vs ++ us) σ σ2 :=
  ⟨b.1.trans a.1, fun k hk => by
    rw [List.mem_append, not_or] at hk
    rw [b.2 k hk.2, a.2 k hk.1]⟩
def wipeE (en : En) : List Nat → En
  | [] => en
  | v :: vs => (wipeE en vs).set v none
section
variable {z : Cz} {K : PySem.W.Frag} {F H : Hp} {σ : St} {en : En} {T : Dk}
theorem Ok.wipe1 {i : Nat} (k : Ok z K F H σ en T) : Ok z K F H (σ.set i none) (en.set i none) T := by
  have no : ∀ (j : Nat) (s : Sl), (en.set i none)[j]? = some (some s) → i ≠ j ∧ en[j]? = some (some s) := fun j s e => by
    by_cases hj : i = j
    · subst hj
      by_cases hi : i < en.length
      · rw [List.getElem?_set_self hi] at e; cases e
      · rw [List.getElem?_eq_none (by rw [List.length_set]; omega)] at e; cases e
    · rw [List.getElem?_set_ne hj] at e
      exact ⟨hj, e⟩
  refine ⟨k.b, by rw [List.length_set, List.length_set]; exact k.len, fun j s e => ?_, fun j l ds es a hjl e1 e2 h1 h2 => ?_⟩
  · obtain ⟨hj, e⟩ := no j s e
    rw [List.getElem?_set_ne hj]
    exact k.sl j s e
  · obtain ⟨hj, e1⟩ := no j _ e1
    obtain ⟨hl, e2⟩ := no l _ e2
    rw [List.getElem?_set_ne hj] at h1
    rw [List.getElem?_set_ne hl] at h2
    exact k.ne j l ds es a hjl e1 e2 h1 h2
theorem Ok.wipe (k : Ok z K F H σ en T) : ∀ vs : List Nat, Ok z K F H (L2.wipe σ vs) (wipeE en vs) T
  | [] => k
  | v :: vs => (Ok.wipe k vs).wipe1
end
/-! ### targets -/
abbrev MG := PyData → En → Option En
abbrev MGs := List PyData → En → Option En
def tG (z : Cz) (K : PySem.W.Frag) (vs : List Nat) (mt : MG) : TG := fun v σ H Q => ∃ F en T d en', Ok z K F H σ en T ∧ Dp K F v d ∧ mt d en = some en' ∧ ∀ σ', Ok z K F H σ' en' T → Out vs σ σ' → Q σ' H
def tGs (z : Cz) (K : PySem.W.Frag) (vs : List Nat) (mt : MGs) : TGs := fun v σ H Q => ∃ F en T d en', Ok z K F H σ en T ∧ DpAll K F v d ∧ mt d en = some en' ∧ ∀ σ', Ok z K F H σ' en' T → Out vs σ σ' → Q σ' H
section
variable {X : Cx} {z : Cz} {pos : Pos} {tg : Expr}
theorem pg_to {t t' : TG} (h : PG X tg t) (w : ∀ v σ H Q, t' v σ H Q → t v σ H Q) : PG X tg t' := ⟨fun pins s σ H v u Q I r q => h.run pins s σ H v u Q I r (w v σ H Q q)⟩
theorem pgs_to {es : List Expr} {t t' : TGs} (h : PGs X es t) (w : ∀ v σ H Q, t' v σ H Q → t v σ H Q) : PGs X es t' := ⟨fun pins s σ H v u Q I r q => h.run pins s σ H v u Q I r (w v σ H Q q)⟩
def gtName (i : Nat) : MG := fun d en => some (en.set i (some (.dat d)))
theorem g_name (i : Nat) {x : Str} (hN : X.N.Nodup) (hi : X.N[i]? = some x := by rfl) (hx : Loc X.env.scope x := by first | exact Or.inl rfl | exact Or.inr rfl) (hf : X.fn x = true ∨ X.env.scope.names.lookup x = some .local := by first | exact .inl rfl | exact .inr rfl | assumption) : PG X (.Name x pos) (tG z X.K [i] (gtName i)) := pg_to (pg_name hN hi hx hf) fun v σ H Q q => by
  obtain ⟨F, en, T, d, en', ok, p, e, k⟩ := q
  cases e
  refine k _ (ok.set p) ⟨List.length_set, fun j hj => List.getElem?_set_ne ?_⟩
  intro e
  subst e
  simp at hj
def gtNil : MGs := fun ds en => match ds with
  | [] => some en
  | _ => none
def gtCons (g : MG) (gs : MGs) : MGs := fun ds en => match ds with
  | d :: r => (g d en).bind fun en' => gs r en'
  | [] => none
theorem gs_nil : PGs X [] (tGs z X.K [] gtNil) := pgs_to pgs_nil fun v σ H Q q => by
  obtain ⟨F, en, T, d, en', ok, p, e, k⟩ := q
  unfold gtNil at e
  split at e
  · cases e
    cases p
    exact ⟨rfl, k σ ok ⟨rfl, fun _ _ => rfl⟩⟩
  · cases e
theorem gs_cons {es : List Expr} {vs us : List Nat} {g : MG} {gs : MGs} (h1 : PG X tg (tG z X.K vs g)) (h2 : PGs X es (tGs z X.K us gs))
    (hs : (assignEach (tg :: es) X.env).map (·.2) = assign tg X.env :: (assignEach es X.env).map (·.2) := by rfl) : PGs X (tg :: es) (tGs z X.K (vs ++ us) (gtCons g gs)) := pgs_to (pgs_cons h1 h2 hs) fun v σ H Q q => by
  obtain ⟨F, en, T, d, en', ok, p, e, k⟩ := q
  unfold gtCons at e
  split at e
  · rename_i d r
    cases p with
    | cons p1 p2 =>
      cases q : g d en with
      | none => rw [q] at e; cases e
      | some en1 =>
        rw [q] at e
        simp only [Option.bind_some] at e
        exact ⟨_, _, rfl, F, en, T, d, en1, ok, p1, q, fun σ1 ok1 o1 => ⟨F, en1, T, r, en', ok1, p2, e, fun σ2 ok2 o2 => k σ2 ok2 (o1.trans o2)⟩⟩
  · cases e
def gtTup (n : Nat) (gs : MGs) : MG := fun d en => match d with
  | .tuple ds => if ds.length = n then gs ds en else none
  | _ => none
theorem g_tup {es : List Expr} {k n : Nat} {vs : List Nat} {gs : MGs} (hc : X.calm = true) (h : PGs X es (tGs z X.K vs gs))
    (hn : (assignEach es X.env).length = n := by rfl) (hst : (assignEach es X.env).findIdx? (·.1) = none := by rfl) : PG X (.Tuple es k pos) (tG z X.K vs (gtTup n gs)) := pg_to (pg_tup hc h hn hst) fun v σ H Q q => by
  obtain ⟨F, en, T, d, en', ok, p, e, k⟩ := q
  unfold gtTup at e
  split at e
  · split at e
    · rename_i hl
      cases p with
      | tup hs ha => exact ⟨_, _, rfl, sqT_mono ok.b.fh hs, by rw [dpAll_len ha]; exact hl, F, en, T, _, en', ok, ha, e, k⟩
    · cases e
  · cases e
/-- a, b = e -/
def mAsg (m : ME) (g : MG) : MS := fun en T => (m en T).bind fun p => (g p.1 en).map fun en' => .nx en' p.2
theorem s_asg {a : Expr} {m : ME} {g : MG} {vs : List Nat} (he : PE X a (tD z X.K m)) (hg : PG X tg (tG z X.K vs g)) (hs : swapsWithSole [tg] a pos.line X.env = pure false := by rfl) (hw : swappedStores [tg] a X.env = pure none := by rfl)
    (h1 : (assignEach [tg] X.env).map (·.2) = [assign tg X.env] := by rfl) : PS X (.Assign [tg] a pos) (tS z X.K (mAsg m g)) := ps_to (ps_asg he hg hs hw h1) fun D σ H q => by
  obtain ⟨F, en, T, r, ok, e, k⟩ := q
  unfold mAsg at e
  cases h1 : m en T with
  | none => rw [h1] at e; cases e
  | some p =>
    obtain ⟨d, T1⟩ := p
    rw [h1] at e
    simp only [Option.bind_some] at e
    cases h2 : g d en with
    | none => rw [h2] at e; cases e
    | some en' =>
      rw [h2] at e
      cases e
      exact ⟨F, en, T, d, T1, ok, h1, fun F' H' v B n p => ⟨F', en, T1, d, en', ok.nxt n B, p, h2, fun σ' ok' _ => k F' H' σ' ok' n.s⟩⟩
/-! ### what is walked -/
def Walks (F : Hp) (J : It) (xs : List V) : Prop := ∀ H, Same F H → ∀ i, (∀ x, xs[i]? = some x → J.go i H) ∧ (i < xs.length → ∀ x H', J.yld i H x H' → H' = H ∧ xs[i]? = some x) ∧ (i = xs.length → J.stop i H)
theorem Walks.mono {F F' : Hp} {J : It} {xs : List V} (s : Same F F') (w : Walks F J xs) : Walks F' J xs := fun H h i => w H (s.trans h) i
theorem walks_list {K : PySem.W.Frag} {F : Hp} {a : Addr} {xs : List V} (h : SqL K F a xs) : Walks F (Itl K a) xs := fun H s i =>
  ⟨fun x e => ⟨xs, x, s.seq h, e⟩, fun _ x H' q => ⟨q.1, q.2 xs (s.seq h)⟩, fun hi => ⟨xs, s.seq h, Nat.le_of_eq hi.symm⟩⟩
theorem walks_tup {K : PySem.W.Frag} {F : Hp} {a : Addr} {xs : List V} (h : SqT K F a xs) : Walks F (Itt K a) xs := fun H s i =>
  ⟨fun x e => ⟨xs, x, sqT_mono s h, e⟩, fun _ x H' q => ⟨q.1, q.2 xs (sqT_mono s h)⟩, fun hi => ⟨xs, sqT_mono s h, Nat.le_of_eq hi.symm⟩⟩
def signs (x : Str) : List Str := x.cps.toList.map fun c => ⟨#[c]⟩
theorem walks_str {F : Hp} (x : Str) : Walks F (Its x) ((signs x).map V.str) := fun H s i => by
  have hl : ((signs x).map V.str).length = x.cps.size := by simp [signs]
  refine ⟨fun y e => ?_, fun hi y H' q => ?_, fun hi => ?_⟩
  · have := (List.getElem?_eq_some_iff.mp e).1
    rw [hl] at this
    exact this
  · obtain ⟨e, c, hc, rfl⟩ := q
    refine ⟨e, ?_⟩
    rw [List.getElem?_map]
    unfold signs
    rw [List.getElem?_map, Array.getElem?_toList, hc]
    rfl
  · rw [hl] at hi
    exact Nat.le_of_eq hi.symm
def rng (lo : Int) (n : Nat) : List Int := (List.range n).map fun k => lo + (k : Nat)
theorem walks_rng {F : Hp} (lo : Int) (n : Nat) : Walks F (Itr lo n) ((rng lo n).map V.int) := fun H s i => by
  have hl : ((rng lo n).map V.int).length = n := by simp [rng]
  refine ⟨fun y e => ?_, fun hi y H' q => ?_, fun hi => ?_⟩
  · have := (List.getElem?_eq_some_iff.mp e).1
    rw [hl] at this
    exact this
  · obtain ⟨e, rfl⟩ := q
    refine ⟨e, ?_⟩
    rw [hl] at hi
    simp [rng, hi]
  · rw [hl] at hi
    exact Nat.le_of_eq hi.symm
theorem dp_strs {K : PySem.W.Frag} {F : Hp} : ∀ xs : List Str, DpAll K F (xs.map V.str) (xs.map PyData.str)
  | [] => .nil
  | x :: xs => .cons (.str x) (dp_strs xs)
def itemsD : PyData → Option (List PyData)
  | .list ds => some ds
  | .tuple ds => some ds
  | .str x => some ((signs x).map PyData.str)
  | _ => none
/-- a walk over data: each turn's value, frozen -/
def Wk (z : Cz) (K : PySem.W.Frag) (F1 G1 : Hp) (J : It) (ds : List PyData) : Prop := ∀ F H T, Bs z F H T → Same F1 F → Same G1 H → ∀ i, (i < ds.length → J.go i H) ∧
  (∀ d, ds[i]? = some d → ∀ x H', J.yld i H x H' → ∃ F', Bs z F' H' T ∧ Nxt z F H F' H' ∧ Dp K F' x d) ∧ (i = ds.length → J.stop i H)
theorem wk_of {K : PySem.W.Frag} {F1 G1 : Hp} {J : It} {xs : List V} {ds : List PyData} (w : Walks G1 J xs) (p : DpAll K F1 xs ds) : Wk z K F1 G1 J ds := fun F H T B s1 s2 i => by
  have hl := dpAll_len p
  obtain ⟨w1, w2, w3⟩ := w H s2 i
  refine ⟨fun hi => w1 _ (List.getElem?_eq_getElem (by omega)), fun d hd x H' hy => ?_, fun hi => w3 (by omega)⟩
  obtain ⟨rfl, ex⟩ := w2 (by have := (List.getElem?_eq_some_iff.mp hd).1; omega) x H' hy
  obtain ⟨v, hv, q⟩ := dpAll_get' p hd
  rw [ex] at hv
  cases hv
  exact ⟨F, B, Nxt.refl, dp_mono s1 _ _ q⟩
theorem Wk.any {K : PySem.W.Frag} {F1 G : Hp} {J : It} {ds : List PyData} (w : Wk z K F1 F1 J ds) : Wk z K F1 G J ds := fun F H T B s1 _ i => w F H T B s1 (s1.trans B.fh) i
/-- items that stand frozen | items of a list that stands while nothing but the deck changes -/
def iD (z : Cz) (K : PySem.W.Frag) (m : MA) : TI := fun σ H R => ∃ F en T ds T', Ok z K F H σ en T ∧ m en T = some (ds, T') ∧ ∀ F' H' J, Bs z F' H' T' → Nxt z F H F' H' → Wk z K F' F' J ds → R J H'
def iE (z : Cz) (K : PySem.W.Frag) (m : MA) : TI := fun σ H R => ∃ F en T ds T', Ok z K F H σ en T ∧ m en T = some (ds, T') ∧ ∀ F' H' J, Bs z F' H' T' → Nxt z F H F' H' → Wk z K F' (z.cut H') J ds → R J H'
theorem pi_to {it : Expr} {t t' : TI} (h : PI X tg it t) (w : ∀ σ H Q, t' σ H Q → t σ H Q) : PI X tg it t' := ⟨fun pins s σ H Q I q => h.run pins s σ H Q I (w σ H Q q)⟩
theorem ie_of {it : Expr} {m : MA} (h : PI X tg it (iD z X.K m)) : PI X tg it (iE z X.K m) := pi_to h fun σ H R q => by
  obtain ⟨F, en, T, ds, T', ok, e, k⟩ := q
  exact ⟨F, en, T, ds, T', ok, e, fun F' H' J B n w => k F' H' J B n w.any⟩
def iAny (K : PySem.W.Frag) (tl : TE) : TI := fun σ H R => tl σ H fun x H1 => (∃ a, x = .ref a ∧ (∃ xs, SqL K H1 a xs) ∧ R (Itl K a) H1) ∨ (∃ a, x = .ref a ∧ (∃ xs, SqT K H1 a xs) ∧ R (Itt K a) H1) ∨ ∃ y, x = .str y ∧ R (Its y) H1
theorem pi_any {l : Expr} {tl : TE} (hl : PE X l tl) : PI X tg l (iAny X.K tl) := by
  constructor
  intro pins st σ H want inv h
  refine thn (hl.run pins st σ H _ inv h) ?_
  rintro u s1 ⟨x, H1, i1, rel, hx⟩
  have fresh : ∀ b ∈ [s1.heap.objs.size], FpOk X pins H1 b := fun b hb => by
    rw [List.mem_singleton] at hb
    subst hb
    exact i1.fpOk (Nat.le_refl _) i1.fresh
  have grown : ∀ o : Obj, Inv X pins σ H1 { s1 with heap := s1.heap.push o } := fun o => i1.kept (t' := s1.toks) fun _ _ e => Heap.get?_push_of_some _ e
  rcases hx with ⟨a, rfl, ⟨xs, sq⟩, go⟩ | ⟨a, rfl, ⟨xs, sq⟩, go⟩ | ⟨y, rfl, go⟩
  · cases rel
    obtain ⟨us, _, pl, _⟩ := i1.list sq
    apply wpAny_pyIter_list pl.isList
    exact ⟨_, _, _, _, H1, rfl, grown _, turn_list a s1.heap.objs.size, ⟨_, Heap.get?_push_size _ rfl, rfl, rfl⟩, fresh, go⟩
  · cases rel
    obtain ⟨us, _, pt, _⟩ := i1.tuple sq
    have pt : s1.heap.IsTuple a us.toArray := pt
    apply wpAny_pyIter_tuple pt
    exact ⟨_, _, _, _, H1, rfl, grown _, turn_tuple a s1.heap.objs.size, ⟨_, Heap.get?_push_size _ rfl, rfl, rfl⟩, fresh, go⟩
  · obtain ⟨t, rfl⟩ := rel
    by_cases ascii : y.cps.all (· < 128) = true
    · exact wpAny_pyIter_ascii ascii (pi_one (tk := s1.toks) i1 _ (turn_str _ y t "str_ascii_iterator" (.inl rfl)) ⟨_, Heap.get?_push_size _ rfl, rfl, rfl⟩ go)
    · exact wpAny_pyIter_wide (by simpa using ascii) (pi_one (tk := s1.toks) i1 _ (turn_str _ y t "str_iterator" (.inr rfl)) ⟨_, Heap.get?_push_size _ rfl, rfl, rfl⟩ go)
def mIt (m : ME) : MA := fun en T => (m en T).bind fun p => (itemsD p.1).map fun ds => (ds, p.2)
theorem mIt_some {m : ME} {en : En} {T T' : Dk} {ds : List PyData} (e : mIt m en T = some (ds, T')) : ∃ d, m en T = some (d, T') ∧ itemsD d = some ds := by
  unfold mIt at e
  cases h1 : m en T with
  | none => rw [h1] at e; cases e
  | some p =>
    obtain ⟨d, T1⟩ := p
    rw [h1] at e
    simp only [Option.bind_some] at e
    cases h2 : itemsD d with
    | none => rw [h2] at e; cases e
    | some r =>
      rw [h2] at e
      simp only [Option.map_some, Option.some.injEq, Prod.mk.injEq] at e
      obtain ⟨rfl, rfl⟩ := e
      exact ⟨d, rfl, h2⟩
theorem i_seq {a : Expr} {m : ME} (h : PE X a (tD z X.K m)) : PI X tg a (iD z X.K (mIt m)) := pi_to (pi_any h) fun σ H R q => by
  obtain ⟨F, en, T, ds, T', ok, e, k⟩ := q
  obtain ⟨d, h1, h2⟩ := mIt_some e
  refine ⟨F, en, T, d, T', ok, h1, fun F' H' v B n p => ?_⟩
  cases p with
  | lst hs ha => cases h2; exact .inl ⟨_, rfl, ⟨_, B.fh.seq hs⟩, k F' H' _ B n (wk_of (walks_list hs) ha)⟩
  | tup hs ha => cases h2; exact .inr (.inl ⟨_, rfl, ⟨_, sqT_mono B.fh hs⟩, k F' H' _ B n (wk_of (walks_tup hs) ha)⟩)
  | str x => cases h2; exact .inr (.inr ⟨x, rfl, k F' H' _ B n (wk_of (walks_str x) (dp_strs _))⟩)
  | _ => cases h2
theorem i_seqE {a : Expr} {m : ME} (h : PE X a (tE z X.K m)) : PI X tg a (iE z X.K (mIt m)) := pi_to (pi_any h) fun σ H R q => by
  obtain ⟨F, en, T, ds, T', ok, e, k⟩ := q
  obtain ⟨d, h1, h2⟩ := mIt_some e
  refine ⟨F, en, T, d, T', ok, h1, fun F' H' v B n p => ?_⟩
  cases d with
  | list ds =>
    obtain ⟨a, xs, rfl, hs, ha⟩ := p
    cases h2
    exact .inl ⟨_, rfl, ⟨_, (cut_same z H').seq hs⟩, k F' H' _ B n (wk_of (walks_list hs) ha)⟩
  | tuple ds =>
    obtain ⟨a, xs, rfl, hs, ha⟩ := p
    cases h2
    exact .inr (.inl ⟨_, rfl, ⟨_, sqT_mono (cut_same z H') hs⟩, k F' H' _ B n (wk_of (walks_tup hs) ha)⟩)
  | str x =>
    replace p : Dp X.K F' v (.str x) := p
    cases p
    cases h2
    exact .inr (.inr ⟨x, rfl, k F' H' _ B n (wk_of (walks_str x) (dp_strs _))⟩)
  | _ => cases h2
def mRng1 (m : ME) : MA := fun en T => (m en T).bind fun p => match p.1 with
  | .int j => if -4611686018427387904 ≤ j ∧ j < 4611686018427387904 then some ((rng 0 j.toNat).map PyData.int, p.2) else none
  | _ => none
def mRng2 (m1 m2 : ME) : MA := fun en T => (m1 en T).bind fun p => (m2 en p.2).bind fun q => match p.1, q.1 with
  | .int i, .int j => if -4611686018427387904 ≤ j ∧ j < 4611686018427387904 ∧ -4611686018427387904 ≤ i ∧ i < 4611686018427387904 then some ((rng i (j - i).toNat).map PyData.int, q.2) else none
  | _, _ => none
theorem i_rng1 {a : Expr} {m : ME} {p : Pos} (hg : Gl X "range") (hm : X.mg "range" = none) (ha : PE X a (tB z X.K m)) (hs : starEach [a] X.env = [(false, eval a X.env)] := by rfl) : PI X tg (.Call (.Name "range" p) [a] [] pos) (iD z X.K (mRng1 m)) := pi_to (pi_range1 hg hm (pa_cons ha pa_nil hs) hs) fun σ H R q => by
  obtain ⟨F, en, T, ds, T', ok, e, k⟩ := q
  unfold mRng1 at e
  cases h1 : m en T with
  | none => rw [h1] at e; cases e
  | some p =>
    obtain ⟨d, T1⟩ := p
    rw [h1] at e
    simp only [Option.bind_some] at e
    split at e
    · split at e
      · rename_i j hj
        cases e
        refine ⟨F, en, T, _, _, ok, h1, fun F' H' v B n p => ?_⟩
        cases p
        exact ⟨j, rfl, by omega, by omega, k F' H' _ B n (wk_of (walks_rng 0 j.toNat) (dpAll_ints _))⟩
      · cases e
    · cases e
theorem i_rng2 {a b : Expr} {m1 m2 : ME} {p : Pos} (hg : Gl X "range") (hm : X.mg "range" = none) (ha : PE X a (tB z X.K m1)) (hb : PE X b (tB z X.K m2)) (hs : starEach [a, b] X.env = [(false, eval a X.env), (false, eval b X.env)] := by rfl) (hs2 : starEach [b] X.env = [(false, eval b X.env)] := by rfl) : PI X tg (.Call (.Name "range" p) [a, b] [] pos) (iD z X.K (mRng2 m1 m2)) := pi_to (pi_range2 hg hm (pa_cons ha (pa_cons hb pa_nil hs2) (by rw [hs, hs2])) hs hs2) fun σ H R q => by
  obtain ⟨F, en, T, ds, T', ok, e, k⟩ := q
  unfold mRng2 at e
  cases h1 : m1 en T with
  | none => rw [h1] at e; cases e
  | some p =>
    obtain ⟨d, T1⟩ := p
    rw [h1] at e
    simp only [Option.bind_some] at e
    cases h2 : m2 en T1 with
    | none => rw [h2] at e; cases e
    | some p =>
      obtain ⟨d2, T2⟩ := p
      rw [h2] at e
      simp only [Option.bind_some] at e
      split at e
      · split at e
        · rename_i i j hj
          cases e
          refine ⟨F, en, T, _, _, ok, h1, fun F' H' v B n p => ⟨F', en, _, _, _, ok.nxt n B, h2, fun F2 H2 v2 B2 n2 p2 => ?_⟩⟩
          cases p
          cases p2
          exact ⟨i, j, rfl, ⟨by omega, by omega, by omega, by omega⟩, k F2 H2 _ B2 (n.trans n2 B2) (wk_of (walks_rng i (j - i).toNat) (dpAll_ints _))⟩
        · cases e
      · cases e
/-! ### for -/
def mFold (mt : MG) (mb : MS) : List PyData → En → Dk → Option Res
  | [], en, T => some (.nx en T)
  | d :: ds, en, T => (mt d en).bind fun en1 => (mb en1 T).bind fun r => match r with
    | .nx en' T' => mFold mt mb ds en' T'
    | .ct en' T' => mFold mt mb ds en' T'
    | .bk en' T' => some (.nx en' T')
    | .rt d T' => some (.rt d T')
def mFor (mi : MA) (mt : MG) (mb : MS) : MS := fun en T => (mi en T).bind fun p => mFold mt mb p.1 en p.2
theorem s_for {it : Expr} {body : List Stmt} {mi : MA} {mt : MG} {mb : MS} {vs : List Nat} (hp : PassesOwn (model X.prog X.w) X.A X.env X.xe) (hc : X.calm = true) (hi : PI X tg it (iD z X.K mi)) (hg : PG X tg (tG z X.K vs mt)) (hb : PSs X body (tS z X.K mb))
    (hs : ∀ x, foldedSetIterable it X.env x = pure x := by intro _; rfl) : PS X (.For tg it body [] pos) (tS z X.K (mFor mi mt mb)) := ps_to (ps_for hp hc hi hg hb hs) fun D σ H q => by
  obtain ⟨F, en, T, r, ok, e, k⟩ := q
  unfold mFor at e
  cases h1 : mi en T with
  | none => rw [h1] at e; cases e
  | some p =>
    obtain ⟨ds, T1⟩ := p
    rw [h1] at e
    simp only [Option.bind_some] at e
    refine ⟨F, en, T, ds, T1, ok, h1, fun F1 H1 J B1 n1 wk => ?_⟩
    refine ⟨fun i q σ' H' => ∃ F' en' T', Ok z X.K F' H' σ' en' T' ∧ Same F1 F' ∧ i + q = ds.length ∧ mFold mt mb (ds.drop i) en' T' = some r, ⟨ds.length, F1, en, T1, ok.nxt n1 B1, Same.refl _, by omega, e⟩, fun i q σ' H' hW => ?_⟩
    obtain ⟨F', en', T', ok', sf, hq, ef⟩ := hW
    obtain ⟨w1, w2, w3⟩ := wk F' H' T' ok'.b sf (sf.trans ok'.b.fh) i
    by_cases hi : i < ds.length
    · right
      have hdr : ds.drop i = ds[i] :: ds.drop (i + 1) := List.drop_eq_getElem_cons hi
      rw [hdr] at ef
      unfold mFold at ef
      cases h2 : mt ds[i] en' with
      | none => rw [h2] at ef; cases ef
      | some en1 =>
        rw [h2] at ef
        simp only [Option.bind_some] at ef
        cases h3 : mb en1 T' with
        | none => rw [h3] at ef; cases ef
        | some rb =>
          rw [h3] at ef
          simp only [Option.bind_some] at ef
          refine ⟨w1 hi, fun σ2 H2 => ∃ F2 en2 T2, Ok z X.K F2 H2 σ2 en2 T2 ∧ Same F1 F2 ∧ mFold mt mb (ds.drop (i + 1)) en2 T2 = some r, fun σ2 H2 hN => ?_, fun x H2 hy => ?_⟩
          · obtain ⟨F2, en2, T2, a1, a2, a3⟩ := hN
            exact ⟨q - 1, by omega, F2, en2, T2, a1, a2, by omega, a3⟩
          · obtain ⟨Fy, By, ny, py⟩ := w2 _ (List.getElem?_eq_getElem hi) x H2 hy
            have sf := sf.trans ny.s
            refine ⟨Fy, en', T', ds[i], en1, ok'.nxt ny By, py, h2, fun σ2 ok2 _ => ⟨Fy, en1, T', rb, ok2, h3, ?_⟩⟩
            cases rb with
            | nx en2 T2 => exact fun F3 H3 σ3 ok3 s3 => ⟨F3, en2, T2, ok3, sf.trans s3, ef⟩
            | ct en2 T2 => exact fun F3 H3 σ3 ok3 s3 => ⟨F3, en2, T2, ok3, sf.trans s3, ef⟩
            | bk en2 T2 =>
              cases ef
              exact fun F3 H3 σ3 ok3 s3 => k F3 H3 σ3 ok3 (n1.s.trans (sf.trans s3))
            | rt d2 T2 =>
              cases ef
              exact k
    · left
      rw [List.drop_eq_nil_of_le (by omega)] at ef
      cases ef
      exact ⟨w3 (by omega), k F' H' σ' ok' (n1.s.trans sf)⟩
/-! ### while, by a number of turns that is enough -/
def mWhile (n : MT) (mb : MS) : Nat → En → Dk → Option Res
  | 0, _, _ => none
  | q + 1, en, T => (n en T).bind fun p => if p.1 = true then (mb en p.2).bind fun r => match r with
      | .nx en' T' => mWhile n mb q en' T'
      | .ct en' T' => mWhile n mb q en' T'
      | .bk en' T' => some (.nx en' T')
      | .rt d T' => some (.rt d T')
    else some (.nx en p.2)
theorem s_while {c : Expr} {body : List Stmt} {n : MT} {mb : MS} (fuel : En → Dk → Nat) (hp : PassesOwn (model X.prog X.w) X.A X.env X.xe) (hc : PT X c (tQ z X.K n)) (hb : PSs X body (tS z X.K mb)) : PS X (.While c body [] pos) (tS z X.K (fun en T => mWhile n mb (fuel en T) en T)) := ps_to (ps_while hp hc hb) fun D σ H q => by
  obtain ⟨F, en, T, r, ok, e, k⟩ := q
  replace e : mWhile n mb (fuel en T) en T = some r := e
  generalize fuel en T = q at e
  refine ⟨fun q σ' H' => ∃ F' en' T', Ok z X.K F' H' σ' en' T' ∧ Same F F' ∧ mWhile n mb q en' T' = some r, ⟨q, F, en, T, ok, Same.refl _, e⟩, fun q σ' H' hW => ?_⟩
  obtain ⟨F', en', T', ok', sf, ef⟩ := hW
  cases q with
  | zero => cases ef
  | succ q =>
    unfold mWhile at ef
    cases h1 : n en' T' with
    | none => rw [h1] at ef; cases ef
    | some p =>
      obtain ⟨t, T1⟩ := p
      rw [h1] at ef
      simp only [Option.bind_some] at ef
      refine ⟨F', en', T', t, T1, ok', h1, fun F1 H1 B1 n1 => ?_⟩
      cases t with
      | false =>
        cases ef
        exact k F1 H1 σ' (ok'.nxt n1 B1) (sf.trans n1.s)
      | true =>
        simp only [if_true] at ef
        cases h3 : mb en' T1 with
        | none => rw [h3] at ef; cases ef
        | some rb =>
          rw [h3] at ef
          simp only [Option.bind_some] at ef
          refine ⟨fun σ2 H2 => ∃ F2 en2 T2, Ok z X.K F2 H2 σ2 en2 T2 ∧ Same F F2 ∧ mWhile n mb q en2 T2 = some r, fun σ2 H2 hN => ⟨q, by omega, hN⟩, F1, en', T1, rb, ok'.nxt n1 B1, h3, ?_⟩
          have s1 := sf.trans n1.s
          cases rb with
          | nx en2 T2 => exact fun F3 H3 σ3 ok3 s3 => ⟨F3, en2, T2, ok3, s1.trans s3, ef⟩
          | ct en2 T2 => exact fun F3 H3 σ3 ok3 s3 => ⟨F3, en2, T2, ok3, s1.trans s3, ef⟩
          | bk en2 T2 =>
            cases ef
            exact fun F3 H3 σ3 ok3 s3 => k F3 H3 σ3 ok3 (s1.trans s3)
          | rt d2 T2 =>
            cases ef
            exact k
end
end LQ

set_option Elab.async false
set_option linter.all false
set_option maxRecDepth 100000
set_option maxHeartbeats 2000000
namespace LQ
open PySem PySem.Spec PyProof.Rows L2
/-! ### list comprehensions -/
def mYes : MT := fun _ T => some (true, T)
theorem Bs.own {z : Cz} {F H : Hp} {T : Dk} {a : Addr} {o : HO} (B : Bs z F H T) (hf : F a = none) (h0 : z.H0 a = none) : Bs z F (upd H a o) T := by
  have nd : z.isDk a = false := by
    cases hd : z.isDk a with
    | true => exact absurd h0 (B.dkin a hd)
    | false => rfl
  refine ⟨fun b o' h => ?_, B.ff, B.vis, fun b o' h hd => ?_, B.nodk, B.dkin, ?_⟩
  · rw [upd_ne (ne_of_none h hf)]; exact B.fh b o' h
  · rw [upd_ne (ne_of_none h h0)]; exact B.out b o' h hd
  · have hk := B.dk
    unfold DkOk at hk ⊢
    unfold Cz.isDk dkAt at nd
    cases e : z.dk with
    | none => trivial
    | some t =>
      obtain ⟨p1, c1, g1⟩ := t
      rw [e] at hk nd
      simp only [Bool.or_eq_false_iff, beq_eq_false_iff_ne, ne_eq] at nd
      obtain ⟨q1, q3⟩ := nd
      obtain ⟨k1, k2, k3, k4⟩ := hk
      refine ⟨?_, k2, ?_, k4⟩
      · rw [upd_ne (fun e => q1 e.symm)]; exact k1
      · rw [upd_ne (fun e => q3 e.symm)]; exact k3
def mLoop (mt : MG) (mq : MT) (me : ME) (en : En) : List PyData → Dk → Option (List PyData × Dk)
  | [], T => some ([], T)
  | d :: ds, T => (mt d en).bind fun en2 => (mq en2 T).bind fun b => if b.1 = true then (me en2 b.2).bind fun y => (mLoop mt mq me en ds y.2).map fun r => (y.1 :: r.1, r.2) else mLoop mt mq me en ds b.2
def mLc (vs : List Nat) (mi : MA) (mt : MG) (mq : MT) (me : ME) : MA := fun en T => (mi en T).bind fun p => if p.1.length ≤ 16777216 then mLoop mt mq me (wipeE en vs) p.1 p.2 else none
section
variable {X : Cx} {z : Cz} {pos : Pos} {tg : Expr}
theorem pts_to {cs : List Expr} {t t' : TT} (h : PTs X cs t) (w : ∀ σ H Q, t' σ H Q → t σ H Q) : PTs X cs t' := ⟨fun pins s σ H Q I q => h.run pins s σ H Q I (w σ H Q q)⟩
theorem qs_nil : PTs X [] (tQ z X.K mYes) := pts_to pts_nil fun σ H Q q => by
  obtain ⟨F, en, T, b, T', ok, e, k⟩ := q
  cases e
  exact k F H ok.b Nxt.refl
theorem qs_one {c : Expr} {n : MT} (h : PT X c (tQ z X.K n)) : PTs X [c] (tQ z X.K n) := pts_one h
theorem lc_rd {K : PySem.W.Frag} {vs : List Nat} {mi : MA} {mt : MG} {mq : MT} {me : ME} {σ : St} {H : Hp} {Q : VK} (q : tF z K (mLc vs mi mt mq me) σ H Q) : tLc (iE z K mi) (tG z K vs mt) (tQ z K mq) (tD z K me) vs σ H Q := by
  obtain ⟨F, en, T, fin, Te, ok, e, k⟩ := q
  unfold mLc at e
  cases h1 : mi en T with
  | none => rw [h1] at e; cases e
  | some p =>
    obtain ⟨ds, T1⟩ := p
    rw [h1] at e
    simp only [Option.bind_some] at e
    split at e
    · rename_i hsz
      refine ⟨F, en, T, ds, T1, ok, h1, fun F1 H1 J B1 n1 wk => fun D hD => ?_⟩
      obtain ⟨BD, nD, fD, h0D⟩ := B1.put (o := .lst []) hD
      have ndD : z.isDk D = false := by
        cases hd : z.isDk D with
        | true => exact absurd h0D (B1.dkin D hd)
        | false => rfl
      have ok1 := ok.nxt n1 B1
      refine ⟨fun i q H' => ∃ F' T' acc accv rest, Bs z F' H' T' ∧ Nxt z F1 H1 F' H' ∧ H' D = some (.lst accv) ∧ F' D = none ∧ DpAll K F' accv acc ∧ acc ++ rest = fin ∧ acc.length ≤ i ∧ i + q = ds.length ∧ mLoop mt mq me (wipeE en vs) (ds.drop i) T' = some (rest, Te),
        ⟨ds.length, F1, T1, [], [], fin, BD, nD, upd_same, fD, .nil, rfl, Nat.zero_le _, by omega, e⟩, fun i q H' hW => ?_⟩
      obtain ⟨F', T', acc, accv, rest, B', n', hD', fD', pa, ea, hal, hq, el⟩ := hW
      have sJ : Same (z.cut H1) H' := n'.st.cut.trans (cut_same z H')
      obtain ⟨w1, w2, w3⟩ := wk F' H' T' B' n'.s sJ i
      by_cases hi : i < ds.length
      · right
        have hdr : ds.drop i = ds[i] :: ds.drop (i + 1) := List.drop_eq_getElem_cons hi
        rw [hdr] at el
        unfold mLoop at el
        cases h2 : mt ds[i] (wipeE en vs) with
        | none => rw [h2] at el; cases el
        | some en2 =>
          rw [h2] at el
          simp only [Option.bind_some] at el
          cases h3 : mq en2 T' with
          | none => rw [h3] at el; cases el
          | some pb =>
            obtain ⟨b, T2⟩ := pb
            rw [h3] at el
            simp only [Option.bind_some] at el
            refine ⟨w1 hi, fun H2 => ∃ F2 T2 acc accv rest, Bs z F2 H2 T2 ∧ Nxt z F1 H1 F2 H2 ∧ H2 D = some (.lst accv) ∧ F2 D = none ∧ DpAll K F2 accv acc ∧ acc ++ rest = fin ∧ acc.length ≤ i + 1 ∧ mLoop mt mq me (wipeE en vs) (ds.drop (i + 1)) T2 = some (rest, Te), fun H2 hN => ?_, fun x H2 hy => ?_⟩
            · obtain ⟨F2, T2, acc2, accv2, rest2, a1, a2, a3, a4, a5, a6, a7, a8⟩ := hN
              exact ⟨q - 1, by omega, F2, T2, acc2, accv2, rest2, a1, a2, a3, a4, a5, a6, a7, by omega, a8⟩
            · obtain ⟨Fy, By, ny, py⟩ := w2 _ (List.getElem?_eq_getElem hi) x H2 hy
              have fD' : Fy D = none := by
                cases q2 : Fy D with
                | none => rfl
                | some o =>
                  rcases ny.nw D (by rw [q2]; simp) with h | h
                  · exact absurd fD' h
                  · rw [hD'] at h; cases h
              have hD' := ny.st D _ hD' ndD
              have pa := dpAll_mono ny.s _ _ pa
              have n' := n'.trans ny By
              have okw := (ok1.nxt n' By).wipe vs
              refine ⟨Fy, _, T', ds[i], en2, okw, py, h2, fun σ2 ok2 out => ⟨?_, ?_⟩⟩
              · have hw := out.wipe
                have : ∀ vs : List Nat, L2.wipe (L2.wipe σ vs) vs = L2.wipe σ vs := fun vs => by
                  refine List.ext_getElem? fun j => ?_
                  by_cases hj : j ∈ vs
                  · by_cases hl : j < σ.length
                    · rw [wipe_in hj hl, wipe_in hj (by rw [wipe_length]; exact hl)]
                    · rw [List.getElem?_eq_none (by rw [wipe_length, wipe_length]; omega), List.getElem?_eq_none (by rw [wipe_length]; omega)]
                  · rw [wipe_out hj]
                rw [hw, this]
              · refine ⟨Fy, en2, T', b, T2, ok2, h3, fun F3 H3 B3 n3 => ?_⟩
                have hD3 := n3.st D _ hD' ndD
                have fD3 : F3 D = none := by
                  cases q2 : F3 D with
                  | none => rfl
                  | some o =>
                    rcases n3.nw D (by rw [q2]; simp) with h | h
                    · exact absurd fD' h
                    · rw [hD'] at h; cases h
                cases b with
                | false =>
                  simp only [Bool.false_eq_true, if_false] at el
                  exact ⟨F3, T2, acc, accv, rest, B3, n'.trans n3 B3, hD3, fD3, dpAll_mono n3.s _ _ pa, ea, by omega, el⟩
                | true =>
                  simp only [if_true] at el
                  cases h4 : me en2 T2 with
                  | none => rw [h4] at el; cases el
                  | some py =>
                    obtain ⟨y, T4⟩ := py
                    rw [h4] at el
                    simp only [Option.bind_some] at el
                    cases h5 : mLoop mt mq me (wipeE en vs) (ds.drop (i + 1)) T4 with
                    | none => rw [h5] at el; cases el
                    | some pr =>
                      obtain ⟨rest', T5⟩ := pr
                      rw [h5] at el
                      simp only [Option.map_some, Option.some.injEq, Prod.mk.injEq] at el
                      obtain ⟨rfl, rfl⟩ := el
                      refine ⟨F3, en2, T2, y, T4, ok2.nxt n3 B3, h4, fun F4 H4 w B4 n4 pw => ?_⟩
                      have hD4 := n4.st D _ hD3 ndD
                      have fD4 : F4 D = none := by
                        cases q2 : F4 D with
                        | none => rfl
                        | some o =>
                          rcases n4.nw D (by rw [q2]; simp) with h | h
                          · exact absurd fD3 h
                          · rw [hD3] at h; cases h
                      have n34 := n3.trans n4 B4
                      have hl := dpAll_len pa
                      have hsl := sizeLine_eq
                      refine ⟨accv, hD4, by omega, F4, T4, acc ++ [y], accv ++ [w], rest', B4.own fD4 h0D, ?_, upd_same, fD4, dpAll_app (dpAll_mono n34.s _ _ pa) (.cons pw .nil), ?_, ?_, h5⟩
                      · have n14 := n'.trans n34 B4
                        refine ⟨n14.s, fun a o h hd => ?_, n14.nw⟩
                        rw [upd_ne (ne_of_none h hD)]
                        exact n14.st a o h hd
                      · rw [← ea]; simp
                      · simp; omega
      · left
        rw [List.drop_eq_nil_of_le (by omega)] at el
        cases el
        refine ⟨w3 (by omega), k F' H' D accv B' (n1.trans n' B') ?_ hD' fD' h0D (by simpa [← ea] using pa)⟩
        cases e0 : H D with
        | none => rfl
        | some o => rw [n1.st D o e0 ndD] at hD; cases hD
    · cases e
theorem f_lc {elt it : Expr} {ifs : List Expr} {scope : Scope} {own : List (Str × Nat)} {vs : List Nat} {mi : MA} {mt : MG} {mq : MT} {me : ME} (hc : X.calm = true) (hN : X.N.Nodup) (hi : PI X tg it (iE z X.K mi)) (ok : BlkOk X.N X.env.scope scope own)
    (hg : ∀ (s : Shared) (H : Hp) (C : Addr) (cl : List (Str × Addr)) (fp : List Addr), PG (X.blk s H scope (compEnvC scope cl C X.env) fp) tg (tG z X.K vs mt)) (ht : ∀ (s : Shared) (H : Hp) (C : Addr) (cl : List (Str × Addr)) (fp : List Addr), PTs (X.blk s H scope (compEnvC scope cl C X.env) fp) ifs (tQ z X.K mq))
    (he : ∀ (s : Shared) (H : Hp) (C : Addr) (cl : List (Str × Addr)) (fp : List Addr), PE (X.blk s H scope (compEnvC scope cl C X.env) fp) elt (tD z X.K me)) (ho : own.map (·.2) = vs := by rfl) (hs : ∀ x, foldedSetIterable it X.env x = pure x := by intro _; rfl) :
    PE X (.ListComp elt [⟨tg, it, ifs, 0⟩] scope pos) (tF z X.K (mLc vs mi mt mq me)) := by
  subst ho
  exact pe_to (pe_lc hc hN hi ok hg ht he hs) fun _ _ _ q => lc_rd q
theorem s_lcF (i : Nat) {y : Str} {py spos : Pos} {elt it : Expr} {ifs : List Expr} {scope : Scope} {own : List (Str × Nat)} {vs : List Nat} {mi : MA} {mt : MG} {mq : MT} {me : ME} (hc : X.calm = true) (hN : X.N.Nodup) (hyl : X.env.scope.names.lookup y = some .local)
    (hsw : swapsWith (.ListComp elt [⟨tg, it, ifs, 0⟩] scope pos) (some (.Name y py)) spos.line X.env = pure true) (hi : PI X tg it (iE z X.K mi)) (ok : BlkOk X.N X.env.scope scope own)
    (hg : ∀ (s : Shared) (H : Hp) (C : Addr) (cl : List (Str × Addr)) (fp : List Addr), PG (X.blk s H scope (compEnvC scope cl C X.env) fp) tg (tG z X.K vs mt)) (ht : ∀ (s : Shared) (H : Hp) (C : Addr) (cl : List (Str × Addr)) (fp : List Addr), PTs (X.blk s H scope (compEnvC scope cl C X.env) fp) ifs (tQ z X.K mq))
    (he : ∀ (s : Shared) (H : Hp) (C : Addr) (cl : List (Str × Addr)) (fp : List Addr), PE (X.blk s H scope (compEnvC scope cl C X.env) fp) elt (tD z X.K me)) (hy : X.N[i]? = some y := by rfl) (ho : own.map (·.2) = vs := by rfl) (hs : ∀ x, foldedSetIterable it X.env x = pure x := by intro _; rfl) :
    PS X (.Assign [.Name y py] (.ListComp elt [⟨tg, it, ifs, 0⟩] scope pos) spos) (tS z X.K (mSetF i (mLc vs mi mt mq me))) := by
  subst ho
  exact ps_to (ps_setLc hc hN hy hyl hsw hi ok hg ht he hs) fun _ _ _ q => lc_rd (tS_setF q)
theorem s_lcD (i : Nat) {y : Str} {py spos : Pos} {elt it : Expr} {ifs : List Expr} {scope : Scope} {own : List (Str × Nat)} {vs : List Nat} {mi : MA} {mt : MG} {mq : MT} {me : ME} (hc : X.calm = true) (hN : X.N.Nodup) (hyl : X.env.scope.names.lookup y = some .local)
    (hsw : swapsWith (.ListComp elt [⟨tg, it, ifs, 0⟩] scope pos) (some (.Name y py)) spos.line X.env = pure true) (hi : PI X tg it (iE z X.K mi)) (ok : BlkOk X.N X.env.scope scope own)
    (hg : ∀ (s : Shared) (H : Hp) (C : Addr) (cl : List (Str × Addr)) (fp : List Addr), PG (X.blk s H scope (compEnvC scope cl C X.env) fp) tg (tG z X.K vs mt)) (ht : ∀ (s : Shared) (H : Hp) (C : Addr) (cl : List (Str × Addr)) (fp : List Addr), PTs (X.blk s H scope (compEnvC scope cl C X.env) fp) ifs (tQ z X.K mq))
    (he : ∀ (s : Shared) (H : Hp) (C : Addr) (cl : List (Str × Addr)) (fp : List Addr), PE (X.blk s H scope (compEnvC scope cl C X.env) fp) elt (tD z X.K me)) (hy : X.N[i]? = some y := by rfl) (ho : own.map (·.2) = vs := by rfl) (hs : ∀ x, foldedSetIterable it X.env x = pure x := by intro _; rfl) :
    PS X (.Assign [.Name y py] (.ListComp elt [⟨tg, it, ifs, 0⟩] scope pos) spos) (tS z X.K (mSet i (mL (mLc vs mi mt mq me)))) := by
  subst ho
  exact ps_to (ps_setLc hc hN hy hyl hsw hi ok hg ht he hs) fun _ _ _ q => lc_rd (tF_of (tS_set q))
end
/-! ### what a def promises -/
def SlA (dk : Option (Addr × Addr × Addr)) (K : PySem.W.Frag) (F : Hp) (v : V) : Sl → Prop
  | .dat d => Dp K F v d
  | .deck => ∃ p c g, dk = some (p, c, g) ∧ v = .ref p
  | .own _ => False
inductive SlAs (dk : Option (Addr × Addr × Addr)) (K : PySem.W.Frag) (F : Hp) : List V → List Sl → Prop
  | nil : SlAs dk K F [] []
  | cons {v vs s ss} : SlA dk K F v s → SlAs dk K F vs ss → SlAs dk K F (v :: vs) (s :: ss)
theorem SlAs.len {dk : Option (Addr × Addr × Addr)} {K : PySem.W.Frag} {F : Hp} : ∀ {vs : List V} {ss : List Sl}, SlAs dk K F vs ss → vs.length = ss.length
  | _, _, .nil => rfl
  | _, _, .cons _ r => by rw [List.length_cons, List.length_cons, r.len]
theorem SlAs.get {dk : Option (Addr × Addr × Addr)} {K : PySem.W.Frag} {F : Hp} : ∀ {vs : List V} {ss : List Sl} {i : Nat} {s : Sl}, SlAs dk K F vs ss → ss[i]? = some s → ∃ v, vs[i]? = some v ∧ SlA dk K F v s
  | _, _, _, _, .nil, e => by simp at e
  | _, _, 0, _, .cons h _, e => by simp at e; subst e; exact ⟨_, rfl, h⟩
  | _, _, i + 1, s, .cons _ r, e => by
    obtain ⟨v, h1, h2⟩ := SlAs.get (i := i) (s := s) r (by simpa using e)
    exact ⟨v, by simpa using h1, h2⟩
theorem SlAs.mono {dk : Option (Addr × Addr × Addr)} {K : PySem.W.Frag} {F F' : Hp} (s : Same F F') : ∀ {vs : List V} {ss : List Sl}, SlAs dk K F vs ss → SlAs dk K F' vs ss
  | _, _, .nil => .nil
  | _, _, .cons (s := a) h r => .cons (by
      cases a with
      | dat d => exact dp_mono s _ _ h
      | deck => exact h
      | own ds => exact h) (r.mono s)
abbrev MF := List Sl → Dk → Option (PyData × Dk)
def spD (K : PySem.W.Frag) (n : Nat) (m : MF) : Sp := fun vs H Q _ => ∃ F dk ss T d T', vs.length = n ∧ Bs ⟨F, H, dk⟩ F H T ∧ SlAs dk K F vs ss ∧ m ss T = some (d, T') ∧ ∀ F' H' v, Bs ⟨F, H, dk⟩ F' H' T' → Dp K F' v d → Q v H'
def mFun (n : Nat) (mb : MS) : MF := fun ss T => match mb (ss.map some ++ List.replicate (n - ss.length) none) T with
  | some (.rt d T') => some (d, T')
  | some (.nx _ T') => some (.none, T')
  | _ => none
theorem ok_start {K : PySem.W.Frag} {F H : Hp} {dk : Option (Addr × Addr × Addr)} {T : Dk} {N : List Str} {vs : List V} {ss : List Sl} (B : Bs ⟨F, H, dk⟩ F H T) (a : SlAs dk K F vs ss) : Ok ⟨F, H, dk⟩ K F H (L2.start N vs) (ss.map some ++ List.replicate (N.length - ss.length) none) T := by
  have hl := a.len
  have no : ∀ (i : Nat) (s : Sl), (ss.map some ++ List.replicate (N.length - ss.length) none)[i]? = some (some s) → i < ss.length ∧ ss[i]? = some s := fun i s e => by
    by_cases hi : i < ss.length
    · rw [List.getElem?_append_left (by simpa using hi), List.getElem?_map] at e
      refine ⟨hi, ?_⟩
      cases q : ss[i]? with
      | none => rw [q] at e; cases e
      | some s' => rw [q] at e; cases e; rfl
    · rw [List.getElem?_append_right (by simpa using hi), List.getElem?_replicate] at e
      split at e <;> cases e
  refine ⟨B, ?_, fun i s e => ?_, fun i j ds es b _ e1 _ _ _ => ?_⟩
  · unfold L2.start
    rw [List.length_append, List.length_append, List.length_map, List.length_map, List.length_replicate, List.length_replicate, hl]
  · obtain ⟨hi, e⟩ := no i s e
    obtain ⟨v, hv, p⟩ := a.get e
    refine ⟨some v, ?_, ?_⟩
    · unfold L2.start
      rw [List.getElem?_append_left (by rw [List.length_map]; omega), List.getElem?_map, hv]
      rfl
    · cases s with
      | dat d => exact ⟨v, rfl, p⟩
      | deck =>
        obtain ⟨q, c, g, e1, rfl⟩ := p
        exact ⟨q, c, g, e1, rfl⟩
      | own ds => exact False.elim p
  · obtain ⟨_, e1⟩ := no i _ e1
    obtain ⟨v, _, p⟩ := a.get e1
    exact False.elim p
section
variable {P : Program} {w : World} {K : PySem.W.Frag} {mg : Str → Option Value} {base : Heap}
theorem fnD {x qual : Str} {st : Stmt} {f : Addr} {fd : FuncData} {N ps : List Str} {k : Nat} {mb : MS} (Fn : Fun K x qual st f fd) (S : FnScope N ps (defScope st))
    (hbody : ∀ (cdv : Value) (A : Around) (outer : List Env) (s : Shared) (H : Hp) (E : XK) (z : Cz), Room k (A.deeper (envOfC qual (defScope st) s.heap.objs.size f cdv)) →
      PSs (cxOf CX0 P w K mg base N qual (defScope st) f cdv A outer s H E).nox (defBody st) (tS z K mb)) : FnOk P w K mg base CX0 (k + 1) f fd ps (spD K ps.length (mFun N.length mb)) := by
  refine Fn.ok S (fun vs H Q E h => ?_) (fun cdv A outer s H vs Q E hr h => ?_)
  · obtain ⟨F, dk, ss, T, d, T', hl, _⟩ := h
    exact hl
  · obtain ⟨F, dk, ss, T, d, T', hl, B, a, e, q⟩ := h
    refine ⟨_, hbody cdv A outer s H E ⟨F, H, dk⟩ hr, ?_⟩
    unfold mFun at e
    have ok := ok_start (N := N) B a
    split at e
    · rename_i d' T1 e'
      cases e
      exact ⟨F, _, T, _, ok, e', fun F' H' v B' p => q F' H' v B' p⟩
    · rename_i en T1 e'
      cases e
      exact ⟨F, _, T, _, ok, e', fun F' H' σ' ok' _ => q F' H' .non ok'.b .non⟩
    · cases e
end
/-! ### a call of a def -/
abbrev MAs := En → Dk → Option (List Sl × Dk)
def tAs (z : Cz) (K : PySem.W.Frag) (m : MAs) : TA := fun σ H Q => ∃ F en T ss T', Ok z K F H σ en T ∧ m en T = some (ss, T') ∧ ∀ F' H' vs, Bs z F' H' T' → Nxt z F H F' H' → SlAs z.dk K F' vs ss → Q vs H'
def mN0 : MAs := fun _ T => some ([], T)
def mAd (m : ME) (ms : MAs) : MAs := fun en T => (m en T).bind fun p => (ms en p.2).map fun q => (.dat p.1 :: q.1, q.2)
def mAk (i : Nat) (ms : MAs) : MAs := fun en T => match en[i]? with
  | some (some .deck) => (ms en T).map fun q => (.deck :: q.1, q.2)
  | _ => none
def mCf (M : MF) (ms : MAs) : ME := fun en T => (ms en T).bind fun p => M p.1 p.2
section
variable {X : Cx} {z : Cz} {a : Expr} {es : List Expr} {m : ME} {ms : MAs} {pos : Pos}
theorem n_nil : PA X [] (tAs z X.K mN0) := pa_to pa_nil fun σ H Q q => by
  obtain ⟨F, en, T, ds, T', ok, e, k⟩ := q
  cases e
  exact k F H [] ok.b Nxt.refl .nil
theorem n_d (ha : PE X a (tD z X.K m)) (hr : PA X es (tAs z X.K ms)) (hs : starEach (a :: es) X.env = (false, eval a X.env) :: starEach es X.env := by rfl) : PA X (a :: es) (tAs z X.K (mAd m ms)) := pa_to (pa_cons ha hr hs) fun σ H Q q => by
  obtain ⟨F, en, T, ds, T', ok, e, k⟩ := q
  unfold mAd at e
  cases h1 : m en T with
  | none => rw [h1] at e; cases e
  | some p =>
    obtain ⟨d, T1⟩ := p
    rw [h1] at e
    simp only [Option.bind_some] at e
    cases h2 : ms en T1 with
    | none => rw [h2] at e; cases e
    | some q =>
      obtain ⟨r, T2⟩ := q
      rw [h2] at e
      cases e
      exact ⟨F, en, T, d, T1, ok, h1, fun F1 H1 v B1 n1 p1 => ⟨F1, en, T1, r, _, ok.nxt n1 B1, h2, fun F2 H2 vs B2 n2 p2 => k F2 H2 _ B2 (n1.trans n2 B2) (.cons (s := .dat d) (dp_mono n2.s _ _ p1) p2)⟩⟩
theorem n_k (i : Nat) {x : Str} {pos : Pos} (hr : PA X es (tAs z X.K ms)) (hN : X.N[i]? = some x := by rfl) (hv : Vis X.env.scope x := by first | exact Or.inl rfl | exact Or.inr (Or.inl rfl) | exact Or.inr (Or.inr rfl)) (hd : (x == ("__debug__" : Str)) = false := by decide)
    (hcd : (x == ("__classdict__" : Str)) = false := by decide) (hs : starEach (.Name x pos :: es) X.env = (false, eval (.Name x pos) X.env) :: starEach es X.env := by rfl) : PA X (.Name x pos :: es) (tAs z X.K (mAk i ms)) := pa_to (pa_cons (pe_var (i := i) hN hv hd hcd) hr hs) fun σ H Q q => by
  obtain ⟨F, en, T, ds, T', ok, e, k⟩ := q
  unfold mAk at e
  split at e
  · rename_i e'
    obtain ⟨v, hv, p, c, g, e1, e2⟩ := ok.sl i _ e'
    subst e2
    cases h2 : ms en T with
    | none => rw [h2] at e; cases e
    | some q =>
      obtain ⟨r, T2⟩ := q
      rw [h2] at e
      cases e
      exact ⟨_, hv, ⟨F, en, T, r, _, ok, h2, fun F2 H2 vs B2 n2 p2 => k F2 H2 _ B2 n2 (.cons (s := .deck) ⟨p, c, g, e1, rfl⟩ p2)⟩⟩
  · cases e
theorem dk_in {z : Cz} {F H : Hp} {T : Dk} (B : Bs z F H T) (a : Addr) (h : z.isDk a = true) : H a ≠ none := by
  have hk := B.dk
  unfold DkOk at hk
  unfold Cz.isDk dkAt at h
  cases e : z.dk with
  | none => rw [e] at h; cases h
  | some t =>
    obtain ⟨p1, c1, g1⟩ := t
    rw [e] at h hk
    obtain ⟨k1, k2, k3, _⟩ := hk
    simp only [Bool.or_eq_true, beq_iff_eq] at h
    rcases h with rfl | rfl
    · rw [k1]; simp
    · rw [k3]; simp
theorem Bs.enter {z : Cz} {F H : Hp} {T : Dk} (B : Bs z F H T) : Bs ⟨F, H, z.dk⟩ F H T :=
  ⟨B.fh, Same.refl _, fun _ h => .inl h, fun _ _ h _ => h, B.nodk, fun a h => dk_in B a h, B.dk⟩
theorem Bs.leave {z : Cz} {F H F' H' : Hp} {T T' : Dk} (B : Bs z F H T) (B' : Bs ⟨F, H, z.dk⟩ F' H' T') : Bs z F' H' T' ∧ Nxt z F H F' H' := by
  refine ⟨⟨B'.fh, B.ff.trans B'.ff, fun a h => ?_, fun a o h hd => B'.out a o (B.out a o h hd) hd, B'.nodk, B.dkin, B'.dk⟩, ⟨B'.ff, B'.out, B'.vis⟩⟩
  rcases B'.vis a h with q | q
  · exact B.vis a q
  · refine .inr ?_
    cases e : z.H0 a with
    | none => rfl
    | some o =>
      cases hd : z.isDk a with
      | true => exact absurd (B'.nodk a hd) h
      | false =>
        have := B.out a o e hd
        rw [show H a = none from q] at this
        cases this
theorem d_call {k n : Nat} {f : Addr} {fd : FuncData} {ps : List Str} {x : Str} {p : Pos} {M : MF} (Fn : FnOk X.prog X.w X.K X.mg X.base CX0 k f fd ps (spD X.K n M)) (hr : Room k X.A) (hg : Gl X x) (hm : X.mg x = some (.ref f)) (hk : PySem.W.keepIn X.K (.ref f) = true) (hb : Binds X.K fd ps [])
    (ha : PA X (a :: es) (tAs z X.K ms)) (hn : ∀ en T ss T', ms en T = some (ss, T') → ss.length = n) (hdb : (x == ("__debug__" : Str)) = false := by decide) (he : starEach (a :: es) X.env = (false, eval a X.env) :: starEach es X.env := by rfl) (hpl : (backTo pos (starEach es X.env)).any (·.1) = false := by rfl) :
    PE X (.Call (.Name x p) (a :: es) [] pos) (tD z X.K (mCf M ms)) := pe_to (pe_call Fn hr hg hm hk hb .nil pass0 ha hdb he hpl) fun σ H Q q => by
  obtain ⟨F, en, T, d, T', ok, e, k⟩ := q
  unfold mCf at e
  cases h1 : ms en T with
  | none => rw [h1] at e; cases e
  | some p =>
    obtain ⟨ss, T1⟩ := p
    rw [h1] at e
    simp only [Option.bind_some] at e
    refine ⟨F, en, T, ss, T1, ok, h1, fun F1 H1 vs B1 n1 a1 => ?_⟩
    refine ⟨F1, z.dk, ss, T1, d, T', ?_, B1.enter, by rw [List.append_nil]; exact a1, e, fun F' H' v B' p => ?_⟩
    · rw [List.append_nil, a1.len]
      exact hn en T ss T1 h1
    · obtain ⟨B2, n2⟩ := B1.leave B'
      exact k F' H' v B2 (n1.trans n2 B2) p
theorem n_len0 : ∀ (en : En) (T : Dk) (ss : List Sl) (T' : Dk), mN0 en T = some (ss, T') → ss.length = 0 := fun en T ss T' e => by cases e; rfl
theorem n_lenD {n : Nat} (h : ∀ (en : En) (T : Dk) (ss : List Sl) (T' : Dk), ms en T = some (ss, T') → ss.length = n) : ∀ (en : En) (T : Dk) (ss : List Sl) (T' : Dk), mAd m ms en T = some (ss, T') → ss.length = n + 1 := fun en T ss T' e => by
  unfold mAd at e
  cases h1 : m en T with
  | none => rw [h1] at e; cases e
  | some p =>
    rw [h1] at e
    simp only [Option.bind_some] at e
    cases h2 : ms en p.2 with
    | none => rw [h2] at e; cases e
    | some q =>
      rw [h2] at e
      cases e
      rw [List.length_cons, h en p.2 q.1 q.2 h2]
theorem n_lenK {i n : Nat} (h : ∀ (en : En) (T : Dk) (ss : List Sl) (T' : Dk), ms en T = some (ss, T') → ss.length = n) : ∀ (en : En) (T : Dk) (ss : List Sl) (T' : Dk), mAk i ms en T = some (ss, T') → ss.length = n + 1 := fun en T ss T' e => by
  unfold mAk at e
  split at e
  · cases h2 : ms en T with
    | none => rw [h2] at e; cases e
    | some q =>
      rw [h2] at e
      cases e
      rw [List.length_cons, h en T q.1 q.2 h2]
  · cases e
end
end LQ

set_option Elab.async false
set_option linter.all false
set_option maxRecDepth 100000
set_option maxHeartbeats 2000000
/-! Promises of defs that are called where no repr is under way. -/
namespace LQ
open PySem PySem.Spec PyProof.Rows L2
structure FnG (P : Program) (w : World) (K : PySem.W.Frag) (mg : Str → Option Value) (base : Heap) (CX : CXT) (k : Nat) (f : Addr) (fd : FuncData) (ps : List Str) (sp : Sp) : Prop where
  len : ∀ (vs : List V) (H : Hp) (Q : VK) (E : XK), sp vs H Q E → vs.length = ps.length
  go : ∀ (A : Around) (out : List Env) (s : Shared) (H : Hp) (args : Args) (us : List Value) (vs : List V) (Q : VK) (E : XK),
    Room k A → A.guards = some [] → Env0 P w K mg base A out s H → BindsTo s fd args (ps.zip us) →
    Vals vs us → sp vs H Q E → codeAny (model P w) A (.call (.ref f) args) (CR CX out P w H s Q E) s
theorem FnG.up {P : Program} {w : World} {K : PySem.W.Frag} {mg : Str → Option Value} {base : Heap} {CX : CXT} {j k : Nat} {f : Addr} {fd : FuncData} {ps : List Str} {sp : Sp}
    (G : FnG P w K mg base CX j f fd ps sp) (h : j ≤ k) : FnG P w K mg base CX k f fd ps sp :=
  ⟨G.len, fun A o s H ar us vs Q E hr => G.go A o s H ar us vs Q E (hr.mono h)⟩
theorem FnG.of {P : Program} {w : World} {K : PySem.W.Frag} {mg : Str → Option Value} {base : Heap} {CX : CXT} {k : Nat} {f : Addr} {fd : FuncData} {ps : List Str} {sp : Sp}
    (G : FnOk P w K mg base CX k f fd ps sp) : FnG P w K mg base CX k f fd ps sp :=
  ⟨G.len, fun A o s H ar us vs Q E hr _ => G.run A o s H ar us vs Q E hr⟩
theorem FnG.imp {P : Program} {w : World} {K : PySem.W.Frag} {mg : Str → Option Value} {base : Heap} {CX : CXT} {k : Nat} {f : Addr} {fd : FuncData} {ps : List Str} {sp sp' : Sp}
    (G : FnG P w K mg base CX k f fd ps sp) (h : ∀ vs H Q E, sp' vs H Q E → sp vs H Q E) : FnG P w K mg base CX k f fd ps sp' :=
  ⟨fun vs H Q E q => G.len vs H Q E (h _ _ _ _ q), fun A o s H ar us vs Q E hr hg he hb hv hs => G.go A o s H ar us vs Q E hr hg he hb hv (h _ _ _ _ hs)⟩
section
variable {P : Program} {w : World} {K : PySem.W.Frag} {mg : Str → Option Value} {base : Heap} {CX : CXT}
theorem fnG {x qual : Str} {st : Stmt} {f : Addr} {fd : FuncData} {N ps : List Str} {k : Nat} {sp : Sp}
    (Fn : Fun K x qual st f fd) (S : FnScope N ps (defScope st)) (len : ∀ vs H Q E, sp vs H Q E → vs.length = ps.length)
    (hbody : ∀ (cdv : Value) (A : Around) (out : List Env) (s : Shared) (H : Hp) (vs : List V) (Q : VK) (E : XK),
      Room k (A.deeper (envOfC qual (defScope st) s.heap.objs.size f cdv)) → A.guards = some [] → sp vs H Q E →
      ∃ t, PSs (cxOf CX P w K mg base N qual (defScope st) f cdv A out s H E) (defBody st) t ∧
        t { nx := fun _ H' => Q .non H', rt := Q } (start N vs) H) :
    FnG P w K mg base CX (k + 1) f fd ps sp := by
  obtain ⟨oc, od, kV, doc, pm, an, cdv, ct, osl, rfl, lk, hcd⟩ := Fn.ex
  constructor
  · exact len
  intro A out s H args us vs Q E room gu env bnd rel want
  have many := len _ _ _ _ want
  have kin := env.mod.kin.keeps fun b o e => (env.bs b o e).1
  have lim := env.mod.nolimit.keeps fun b o e => (env.bs b o e).1
  obtain ⟨t, der, rd⟩ := hbody cdv A out s H vs Q E (room.deeper _) gu want
  refine codeAny_call_function room.depth (kin _ _ lk) rfl S.co S.gen rfl
    (PySem.W.codeRec_of kin hcd) (bnd _ _ _ _ ?_)
  refine wpAny_newFunctionEnv_cells S.kind (fun y hy => ?kinds) fun env' hE s1 inn => ?_
  case kinds =>
    rcases S.par y.1 (List.of_mem_zip (a := y.1) (b := y.2) hy).1 with q | q
    · left; exact q
    · right; exact ⟨q, PySem.W.cellsFrom_some _ _ _ (.inl q)⟩
  subst hE
  refine ⟨lim.keeps inn.toInCall.keep, codeAny_func ?_⟩
  have inv := inv_start (CX := CX) (E := E) S room.hd env many rel inn
  refine wpAny_mono (der.run [] s1 _ H _ inv rd) ?_ fun _ _ h => h
  intro fl s2 h2
  match fl, h2 with
  | .ret u, ⟨v, _, H2, i2, r2, q2⟩ => exact ⟨v, H2, i2.os, i2.bare, i2.base, i2.hok, r2, q2⟩
  | .next, ⟨_, H2, i2, q2⟩ => exact ⟨V.non, H2, i2.os, i2.bare, i2.base, i2.hok, rfl, q2⟩
  | .brk, ⟨_, _, _, q2⟩ => exact q2.elim
  | .cont, ⟨_, _, _, q2⟩ => exact q2.elim
end
section
variable {X : Cx} {CX : CXT} {k : Nat} {f : Addr} {fd : FuncData} {ps : List Str} {sp : Sp} {E : XK} {x : Str} {p pos : Pos} {e : Expr} {es : List Expr} {t : TA}
theorem pe_callG (G : FnG X.prog X.w X.K X.mg X.base CX k f fd ps sp) (room : Room k X.A) (gu : X.A.guards = some []) (hg : Gl X x) (hm : X.mg x = some (.ref f))
    (hk : PySem.W.keepIn X.K (.ref f) = true) (hb : Binds X.K fd ps []) (hx : Passes CX X E) (ha : PA X (e :: es) t)
    (hdb : (x == ("__debug__" : Str)) = false := by decide)
    (he : starEach (e :: es) X.env = (false, eval e X.env) :: starEach es X.env := by rfl) (hpl : (backTo pos (starEach es X.env)).any (·.1) = false := by rfl) : PE X (.Call (.Name x p) (e :: es) [] pos) (tCall sp [] E t) := by
  constructor
  intro pins s σ H Q inv h
  refine wpAny_Call_Name_kw (ld_glob inv hg hm ?_ hdb)
  refine PySem.W.callWith_K (h₀ := X.base) inv.ok.mod.kin hk (thn (ha.run pos pins s σ H _ inv h) ?_) he hpl
  rintro us s1 ⟨vs, H1, i1, rel, want⟩
  have many : (us ++ []).length = ps.length := by
    rw [List.append_nil, ← rel.length]
    have := G.len _ _ _ _ want
    rwa [List.append_nil] at this
  refine ⟨i1.kIn, wpAny_call (codeAny_mono (G.go X.A X.stack s1 H1 ⟨us, []⟩ (us ++ []) (vs ++ []) Q E room gu i1.env0 (hb s1 us i1.kIn many) (rel.append .nil) want) ?_)⟩
  intro r s2 h2
  match r, h2 with
  | .error v, h2 => exact hx pins σ H1 s1 v s2 i1 h2
  | .ok (.ret u), h2 => exact i1.after h2
  | .ok .next, h2 => exact h2.elim
  | .ok .brk, h2 => exact h2.elim
  | .ok .cont, h2 => exact h2.elim
end
/-- the law's own call -/
theorem law_callG {P : Program} {w : World} {K : PySem.W.Frag} {mg mb : Str → Option Value} {CX : CXT} {k : Nat} {fa a : Addr} {fd : FuncData} {x : Str} {sp : Sp} {s : Shared} {vs : List Value} {ns : List Int}
    (KX : K.In s.heap) (hns : s.heap.Ns mainGlobals mg) (hb : s.heap.Ns builtinsNs mb) (hbb : ∀ x : Str, x ≠ "__name__" → mb x = bootBuiltins x) (hlim : s.heap.NoLimit) (hg : s.gens = #[])
    (ha : s.heap.get? a = some { cls := .type "list", data := .seq vs.toArray }) (hi : IntsAre vs ns) (hl : ns.length ≤ sizeLine) (hr : Room k callerA)
    (G : ∀ base : Heap, K.In base → base.Ns mainGlobals mg → FnG P w K mg base CX k fa fd [x] sp) (hbind : ∀ (s : Shared) (u : Value), BindsTo s fd ⟨[u], []⟩ [(x, u)])
    (spec : ∀ J : Hp, Only J → SqL K J a (ns.map V.int) → sp [.ref a] J (fun r _ => r = .bl true) fun _ _ _ => False) (calm : ∀ J e s', CX [] J s (fun _ _ _ => False) e s' → False) :
    codeAny (model P w) callerA (.call (.ref fa) ⟨[.ref a], []⟩) (fun r s' => r = .ok (.ret (.bool true)) ∧ OldK s.heap s'.heap ∧ s'.os = s.os ∧ AllBare s'.gens) s := by
  have rel := vals_ints hi
  have many := hi.length
  suffices main : ∀ H : Hp, Only H → SqL K H a (ns.map V.int) → HOk P w H s.heap → (∀ b, H b ≠ none → b = a ∧ K.lookup a = none) →
      codeAny (model P w) callerA (.call (.ref fa) ⟨[.ref a], []⟩) (fun r s' => r = .ok (.ret (.bool true)) ∧ OldK s.heap s'.heap ∧ s'.os = s.os ∧ AllBare s'.gens) s by
    cases hk : K.lookup a with
    | some o =>
      have same := KX a o hk
      rw [ha] at same
      cases same
      refine main (fun _ => none) (fun _ => .inl rfl) (.inr ⟨_, vs.toArray, _, hk, rfl, rfl, rfl, ?_, by simpa using rel⟩) (fun b u z => ?_) fun b z => absurd rfl z
      · rw [List.size_toArray, many]; exact hl
      · exact nomatch (show (none : Option HO) = some u from z)
    | none =>
      have at_ : ∀ b u, (if b = a then some (HO.frz { cls := .type "list", data := .seq vs.toArray } (.lst (ns.map V.int))) else none) = some u →
          b = a ∧ u = HO.frz { cls := .type "list", data := .seq vs.toArray } (.lst (ns.map V.int)) := fun b u z => by
        split at z
        · rename_i hba
          exact ⟨hba, (Option.some.inj z).symm⟩
        · cases z
      refine main (fun b => if b = a then some (.frz { cls := .type "list", data := .seq vs.toArray } (.lst (ns.map V.int))) else none) (fun b => ?_) (.inl (.inr ⟨_, if_pos rfl⟩)) (fun b u z => ?_) fun b z => ?_
      · by_cases hba : b = a
        · exact .inr ⟨_, _, if_pos hba⟩
        · exact .inl (if_neg hba)
      · obtain ⟨rfl, rfl⟩ := at_ b u z
        exact ⟨ha, by rw [List.length_map]; exact hl, vs, _, rel, ha⟩
      · by_cases hba : b = a
        · exact ⟨hba, hk⟩
        · exact absurd (if_neg hba) z
  intro H only sq hok lone
  have out : ∀ {b : Addr} {o : Obj}, s.heap.get? b = some o → H b = none → (hidT s.heap H).get? b = some o := fun e n => hidT_get e n
  have nodict : ∀ {b : Addr} {o : Obj} {es : Array DictEntry} {ep : Nat}, s.heap.get? b = some o → o.data = .dict es ep → H b = none := by
    intro b o es ep e d
    cases q : H b with
    | none => rfl
    | some u =>
      obtain ⟨hba, _⟩ := lone b (by simp [q])
      rw [hba, ha] at e
      cases e
      exact nomatch (show Data.seq vs.toArray _ = Data.dict es ep from d)
  have tabs : ∀ {b : Addr} {m : Str → Option Value}, s.heap.Ns b m → (hidT s.heap H).Ns b m := by
    rintro b m ⟨o, es, ep, e, d, r⟩
    exact ⟨o, es, ep, out e (nodict e d), d, r⟩
  have kin : K.In (hidT s.heap H) := fun b o e => by
    refine out (KX b o e) ?_
    cases q : H b with
    | none => rfl
    | some u =>
      obtain ⟨hba, hka⟩ := lone b (by simp [q])
      rw [hba, hka] at e
      cases e
  have md : Mod K mg (hidT s.heap H) := ⟨kin, tabs hns, ⟨mb, tabs hb, hbb⟩, by obtain ⟨mc, h1, h2⟩ := hlim; exact ⟨mc, tabs h1, h2⟩⟩
  have env : Env0 P w K mg (hidT s.heap H) callerA [] s H :=
    ⟨rfl, md, fun b o e => of_hidT e, Nat.le_of_eq (hidT_size _ _), trivial, (fun b hb => nomatch (show b ∈ ([] : List Addr) from hb)), hok, .of_eq hg⟩
  have run := (G _ kin (tabs hns)).go callerA [] s H ⟨[.ref a], []⟩ [.ref a] [.ref a] _ _ hr rfl env (hbind s (.ref a)) (.cons rfl .nil) (spec H only sq)
  refine codeAny_mono run ?_
  intro r s2 h2
  match r, h2 with
  | .error v, h2 => exact (calm H v s2 h2).elim
  | .ok .next, h2 => exact h2.elim
  | .ok .brk, h2 => exact h2.elim
  | .ok .cont, h2 => exact h2.elim
  | .ok (.ret u), h2 =>
    obtain ⟨v, H2, os, bare, un, hok2, r2, q2⟩ := h2
    obtain rfl : v = .bl true := q2
    obtain rfl : u = Value.bool true := r2
    refine And.intro rfl ⟨OldK.of_keep fun b o e => ?_, os, bare⟩
    rcases only b with n | ⟨ob, xs, n⟩
    · exact un.keep b o e n (fun z => nomatch (show b ∈ ([] : List Addr) from z)) (by simp)
    · obtain ⟨e1, _⟩ := hok b _ n
      obtain ⟨e2, _⟩ := hok2 b _ (un.frzs b ob _ n)
      rw [e] at e1
      cases e1
      exact e2
theorem walk_ofG {l : PySem.W.OpenLaw} {n k : Nat} {q : Program} {loose : List Str} {XP : (Str → Option Value) → Heap → Prop} {YP : World → Heap → Prop} {d : DefRec} {K : Params → PySem.W.Frag} {CX : CXT} {sp : PySem.W.Frag → Sp} {x : Str}
    (most : l.most = some n) (few : n ≤ sizeLine) (plain : d.params.defaults = []) (room : Room k callerA) (inK : ∀ (w : World) (h : Heap), YP w h → (K w.params).In h)
    (defs : ∀ (w : World) (mg : Str → Option Value) (fa : Addr) (h : Heap), (K w.params).In h → h.Ns mainGlobals mg → mg d.name = some (.ref fa) → ∃ fd : FuncData, (∀ (s : Shared) (u : Value), BindsTo s fd ⟨[u], []⟩ [(x, u)]) ∧
      ∀ base : Heap, (K w.params).In base → base.Ns mainGlobals mg → FnG l.prog w (K w.params) mg base CX k fa fd [x] (sp (K w.params)))
    (spec : ∀ (K : PySem.W.Frag) (J : Hp) (a : Addr) (ns : List Int), ns.length ≤ n → Only J → SqL K J a (ns.map V.int) → sp K [.ref a] J (fun r _ => r = .bl true) fun _ _ _ => False)
    (calm : ∀ (J : Hp) (s : Shared) (e : Value) (s' : Shared), CX [] J s (fun _ _ _ => False) e s' → False) : PySem.W.WalkO q loose XP YP l.row.toRowW d [] (fun f vs => PySem.call f vs) := by
  apply Att.attach_call most plain
  intro w s0 s1 mg mb fa o pm cd doc a vs ns Gr Y _ _ _ hmg hobj hints hlen hg
  have kx := inK w _ Y
  obtain ⟨fd, hb, hF⟩ := defs w mg fa _ kx Gr.T.g hmg
  exact law_callG kx Gr.T.g Gr.T.b Gr.T.builtins Gr.T.nolimit hg hobj hints (Nat.le_trans hlen few) room hF hb (fun H h1 h2 => spec _ H a ns hlen h1 h2) fun H e s' => calm H s1 e s'
/-! ### the layer's own promise -/
section
variable {P : Program} {w : World} {K : PySem.W.Frag} {mg : Str → Option Value} {base : Heap}
theorem fnDG {x qual : Str} {st : Stmt} {f : Addr} {fd : FuncData} {N ps : List Str} {k : Nat} {mb : MS} (Fn : Fun K x qual st f fd) (S : FnScope N ps (defScope st))
    (hbody : ∀ (cdv : Value) (A : Around) (outer : List Env) (s : Shared) (H : Hp) (E : XK) (z : Cz), Room k (A.deeper (envOfC qual (defScope st) s.heap.objs.size f cdv)) → A.guards = some [] →
      PSs (cxOf CX0 P w K mg base N qual (defScope st) f cdv A outer s H E).nox (defBody st) (tS z K mb)) : FnG P w K mg base CX0 (k + 1) f fd ps (spD K ps.length (mFun N.length mb)) := by
  refine fnG Fn S (fun vs H Q E h => ?_) (fun cdv A outer s H vs Q E hr hg h => ?_)
  · obtain ⟨F, dk, ss, T, d, T', hl, _⟩ := h
    exact hl
  · obtain ⟨F, dk, ss, T, d, T', hl, B, a, e, q⟩ := h
    refine ⟨_, (hbody cdv A outer s H E ⟨F, H, dk⟩ hr hg).nox, ?_⟩
    unfold mFun at e
    have ok := ok_start (N := N) B a
    split at e
    · rename_i d' T1 e'
      cases e
      exact ⟨F, _, T, _, ok, e', fun F' H' v B' p => q F' H' v B' p⟩
    · rename_i en T1 e'
      cases e
      exact ⟨F, _, T, _, ok, e', fun F' H' σ' ok' _ => q F' H' .non ok'.b .non⟩
    · cases e
end
section
variable {X : Cx} {z : Cz} {a : Expr} {es : List Expr} {m : ME} {ms : MAs} {pos : Pos}
theorem d_callG {k n : Nat} {f : Addr} {fd : FuncData} {ps : List Str} {x : Str} {p : Pos} {M : MF} (Fn : FnG X.prog X.w X.K X.mg X.base CX0 k f fd ps (spD X.K n M)) (hr : Room k X.A) (gu : X.A.guards = some []) (hg : Gl X x) (hm : X.mg x = some (.ref f)) (hk : PySem.W.keepIn X.K (.ref f) = true) (hb : Binds X.K fd ps [])
    (ha : PA X (a :: es) (tAs z X.K ms)) (hn : ∀ en T ss T', ms en T = some (ss, T') → ss.length = n) (hdb : (x == ("__debug__" : Str)) = false := by decide) (he : starEach (a :: es) X.env = (false, eval a X.env) :: starEach es X.env := by rfl) (hpl : (backTo pos (starEach es X.env)).any (·.1) = false := by rfl) :
    PE X (.Call (.Name x p) (a :: es) [] pos) (tD z X.K (mCf M ms)) := pe_to (pe_callG (E := E0) Fn hr gu hg hm hk hb pass0 ha hdb he hpl) fun σ H Q q => by
  obtain ⟨F, en, T, d, T', ok, e, k⟩ := q
  unfold mCf at e
  cases h1 : ms en T with
  | none => rw [h1] at e; cases e
  | some p =>
    obtain ⟨ss, T1⟩ := p
    rw [h1] at e
    simp only [Option.bind_some] at e
    refine ⟨F, en, T, ss, T1, ok, h1, fun F1 H1 vs B1 n1 a1 => ?_⟩
    refine ⟨F1, z.dk, ss, T1, d, T', ?_, B1.enter, by rw [List.append_nil]; exact a1, e, fun F' H' v B' p => ?_⟩
    · rw [List.append_nil, a1.len]
      exact hn en T ss T1 h1
    · obtain ⟨B2, n2⟩ := B1.leave B'
      exact k F' H' v B2 (n1.trans n2 B2) p
/-! ### repr -/
def rRepr (K : PySem.W.Frag) : List V → Hp → VK → Prop := fun vs H Q => ∃ v d, vs = [v] ∧ Dp K H v d ∧ d.showable = true ∧ d.hasDict = false ∧ d.depth ≤ 60 ∧ d.shown.length ≤ sizeLine ∧ Q (.str d.shown) H
theorem call_reprD (gu : X.A.guards = some []) (hu : X.A.units + 64 < cLine) : CallR X (.builtin "repr") (rRepr X.K) := by
  rintro pins s σ H vs us Q I r ⟨v, d, rfl, p, hs, hd, hdep, hl, q⟩
  obtain ⟨u, rfl, ru⟩ := vals1 r
  obtain ⟨as, rd⟩ := Dp.reads I d v u p ru
  cases p with
  | non =>
    cases ru
    exact PySem.P.repr_of_none ⟨.str _, H, I.tok _, ⟨_, rfl⟩, by simpa [PyData.shown] using q⟩
  | bl b =>
    cases ru
    exact PySem.P.repr_of_bool ⟨.str _, H, I.tok _, ⟨_, rfl⟩, by simpa [PyData.shown] using q⟩
  | int i =>
    obtain ⟨t, rfl⟩ := ru
    exact PySem.P.repr_of_int (by simpa [PyData.showable] using hs) ⟨.str _, H, I.tok _, ⟨_, rfl⟩, by simpa [PyData.shown] using q⟩
  | str x =>
    obtain ⟨t, rfl⟩ := ru
    exact PySem.P.repr_of_str ⟨.str _, H, I.tok _, ⟨_, rfl⟩, by simpa [PyData.shown] using q⟩ (by simpa [PyData.shown] using hl)
  | lst h1 h2 =>
    cases ru
    refine repr_of_reads' rd hs (fun e => by rw [hd] at e; cases e) gu (by omega) (fun _ _ e => e) (fun h' u tk hk => ?_) hl
    exact ⟨.str _, H, I.kept (t' := tk) hk, ⟨_, rfl⟩, q⟩
  | tup h1 h2 =>
    cases ru
    refine repr_of_reads' rd hs (fun e => by rw [hd] at e; cases e) gu (by omega) (fun _ _ e => e) (fun h' u tk hk => ?_) hl
    exact ⟨.str _, H, I.kept (t' := tk) hk, ⟨_, rfl⟩, q⟩
def gRepr : G1
  | [d] => if d.showable = true ∧ d.hasDict = false ∧ d.depth ≤ 60 ∧ d.shown.length ≤ 16777216 then some (.str d.shown) else none
  | _ => none
theorem l_repr {K : PySem.W.Frag} : LiftC K (rRepr K) gRepr := by
  intro H vs ds b Q h e k
  unfold gRepr at e
  split at e
  · split at e
    · rename_i hq
      cases e
      cases h with
      | cons h1 h2 =>
        cases h2
        exact ⟨_, _, rfl, h1, hq.1, hq.2.1, hq.2.2.1, by have := sizeLine_eq; omega, k _ fun _ => .str _⟩
    · cases e
  · cases e
end
end LQ

set_option Elab.async false
set_option linter.all false
set_option maxRecDepth 100000
set_option maxHeartbeats 4000000
namespace LQ
open PySem PySem.Spec PyProof.Rows L2
section
variable {prog : Program} {w : World} {A : Around} {R : Result → Shared → Prop} {s : Shared} {env : Env}
theorem sc_end {elt tg it : Expr} {ifs : List Expr} {rest : List Comprehension} {scope : Scope} {pos : Pos} {itv acc : Value}
    (h : wpAny (model prog w) A (pyNext itv) (fun r s1 => r = none ∧ R (.ok .next) s1) (fun _ _ => False) s) :
    codeAny (model prog w) A (.compLoop (.SetComp elt (⟨tg, it, ifs, 0⟩ :: rest) scope pos) 0 itv acc env) R s := by
  apply codeAny_of_tree
  show wpAny _ A ((compTurn (.SetComp elt (⟨tg, it, ifs, 0⟩ :: rest) scope pos) 0 itv acc env).onRaise (fun x => do noteFrame x env; theTreesLotGoes x)) _ _ s
  apply wpAny_noted
  have nx : wpAny (model prog w) A (pyNext itv) (fun r s1 => r = none ∧ R (.ok .next) s1) (notedBy (model prog w) A env fun e s' => R (.error e) s') s := wpAny_mono h (fun _ _ q => q) fun _ _ z => z.elim
  unfold compTurn
  show wpAny _ A (standAt it.pos >>= _) _ _ s
  refine wpAny_bind (wpAny_standAt (wpAny_bind (wpAny_mono nx ?_ fun _ _ q => q)))
  rintro r s1 ⟨rfl, q⟩
  exact wpAny_pure q
end
section
variable {X : Cx}
/-- {.. for x in nothing ..} -/
def tScE (w : World) (wi : TI) : TE := fun σ H Q => wi σ H fun J H1 => ∀ D, H1 D = none → J.stop 0 (upd H1 D (SetO w D (fun _ => false) 0)) ∧ Q (.ref D) (upd H1 D (SetO w D (fun _ => false) 0))
theorem pe_scE {elt tg it : Expr} {ifs : List Expr} {rest : List Comprehension} {scope : Scope} {own : List (Str × Nat)} {pos : Pos} {wi : TI}
    (hc : X.calm = true) (hN : X.N.Nodup) (hi : PI X tg it wi) (ok : BlkOk X.N X.env.scope scope own) (hs : ∀ x, foldedSetIterable it X.env x = pure x := by intro _; rfl) :
    PE X (.SetComp elt (⟨tg, it, ifs, 0⟩ :: rest) scope pos) (tScE X.w wi) := by
  constructor
  intro pins s σ H Q inv h
  rw [PpSet.eval_SetComp]
  have cells : ∀ y ∈ scope.names, y.2 = .free → ∃ c, X.env.cells.lookup y.1 = some c := by
    intro y hy e
    rcases ok.free y hy e with q | q
    · exact inv.ok.has _ (Or.inl q)
    · exact inv.ok.has _ (Or.inr q)
  refine wpAny_comprehension_free (use := none) rfl hs (closure_ok cells) ok.kind (fun y hy e => by rw [ok.uniq y hy, e]) ?_
  refine thn (hi.run pins s σ H _ inv h) fun xv s1 hx => thn hx fun itv s2 h2 => ?_
  obtain ⟨ad, fp, tn, J, H2, rfl, i2, tu, st2, f2, want⟩ := h2
  refine PpSet.newSet_ok (newEnv_comp ?_)
  have free : H2 s2.heap.objs.size = none := i2.hok.fresh (Nat.le_refl _)
  obtain ⟨stop, want⟩ := want _ free
  have i3 := i2.laid (t' := s2.toks) (fun b o e => Heap.get?_push_of_some _ e) (Nat.le_refl _) (setO_new (P := X.prog) (H := upd H2 s2.heap.objs.size (SetO X.w s2.heap.objs.size (fun _ => false) 0)) (setR_fresh (h := s2.heap) X.w))
  generalize new : ({ s2 with heap := s2.heap.push { cls := .type "set", dict := none, data := .set #[] 0 (.fresh 0 0 (!X.w.params.followText "set-order")) } } : Shared) = s3
  have i3 : Inv X pins σ (upd H2 s2.heap.objs.size (SetO X.w s2.heap.objs.size (fun _ => false) 0)) s3 := by
    subst new
    exact i3
  generalize hH : upd H2 s2.heap.objs.size (SetO X.w s2.heap.objs.size (fun _ => false) 0) = H3 at i3 stop want
  have up : ∀ b o, s2.heap.get? b = some o → s3.heap.get? b = some o := by
    subst new
    exact fun b o e => Heap.get?_push_of_some _ e
  have few : ∀ b ∈ fp, b < s2.heap.objs.size := fun b hb => by
    obtain ⟨o, e, _⟩ := tu.obj _ _ st2 b hb
    exact Heap.lt_size e
  have big : s2.heap.objs.size < s3.heap.objs.size := by
    subst new
    show _ < (s2.heap.push _).objs.size
    rw [Heap.size_push]
    omega
  have f3 : ∀ b ∈ fp, FpOk X pins H3 b ∧ b < s3.heap.objs.size := fun b hb => by
    have lt := few b hb
    refine ⟨⟨?_, (f2 b hb).2⟩, Nat.lt_trans lt big⟩
    subst hH
    rw [upd_ne (Nat.ne_of_lt lt)]
    exact (f2 b hb).1
  have st3 : tn 0 s3.heap := tu.keep _ _ _ st2 fun b _ o e => up b o e
  have i4 := block_start i3 ok hN f3
  show codeAny _ _ (.compStart (.SetComp elt (⟨tg, it, ifs, 0⟩ :: rest) scope pos) 0 (.ref ad) (.ref s2.heap.objs.size) (compEnvC scope (cellsFrom (s3.heap.objs.size + 1) scope.names (cloFrom X.env.cells scope.names [])) s3.heap.objs.size X.env)) _ { s3 with heap := pushCells (s3.heap.push { cls := .type "dict", data := .dict #[] }) scope.names }
  generalize hce : compEnvC scope (cellsFrom (s3.heap.objs.size + 1) scope.names (cloFrom X.env.cells scope.names [])) s3.heap.objs.size X.env = ce at i4 ⊢
  have loc : ce.locals = s3.heap.objs.size := by subst hce; rfl
  generalize hs4 : ({ s3 with heap := pushCells (s3.heap.push { cls := .type "dict", data := .dict #[] }) scope.names } : Shared) = s4 at i4 ⊢
  have st4 : tn 0 s4.heap := tu.keep _ _ _ st3 fun b _ o e => by
    subst hs4
    exact pushCells_keeps _ _ _ _ (Heap.get?_push_of_some _ e)
  have stay : ∀ b ∈ fp, FpOk (X.blk s3 H3 scope ce fp) [] H3 b := fun b hb =>
    ⟨(f3 b hb).1.1, (i4.ok.exf b hb).1, i4.ok.exfs b hb, .inl hb, fun x c e => (i4.ok.exf b hb).2 x c e, fun p hp => nomatch (show p ∈ ([] : List (Addr × Obj)) from hp)⟩
  have loop : codeAny (model X.prog X.w) X.A (.compLoop (.SetComp elt (⟨tg, it, ifs, 0⟩ :: rest) scope pos) 0 (.ref ad) (.ref s2.heap.objs.size) ce) (compPost (model X.prog X.w) X.A X.xe none (EP X pins σ Q) (.ref s2.heap.objs.size) s3.heap.objs.size) s4 := by
    refine sc_end (thn (tu.done (X.blk s3 H3 scope ce fp) rfl rfl rfl hc 0 [] s4 _ H3 (fun _ _ => False) i4 stay st4 stop) ?_)
    rintro r s5 ⟨rfl, i5⟩
    refine ⟨rfl, ?_⟩
    have i6 : Inv X pins σ H3 s5 := i3.call' (ch := fp) i5.os i5.base i5.hok i5.bare fun b hb =>
      ⟨(f3 b hb).1.2.2.2.1, (f3 b hb).1.2.1, (f3 b hb).1.2.2.2.2.1, (f3 b hb).1.2.2.2.2.2⟩
    have nC : H3 s3.heap.objs.size = none := by
      have q : H3 ce.locals = none := i5.free
      rwa [loc] at q
    obtain ⟨m, hn, _⟩ := i5.loc
    have hn : s5.heap.Ns ce.locals m := hn
    rw [loc] at hn
    obtain ⟨g0, g1, g2, g3, g4, g5⟩ := i3.fpOk (Nat.le_refl _) nC
    refine ⟨m, hn, fun h'' sb => ?_⟩
    exact ⟨.ref _, H3, i6.turned (t' := s5.toks) (fun b o hb e => (sb.2 b hb).trans e) g0 g1 g3 g4 g5, rfl, want⟩
  exact PpSet.codeAny_compStart_set loop (tu.self X.A 0 _ _ _ st4 loop)
end
section
variable {X : Cx} {z : Cz} {pos : Pos}
/-- tuple(sorted({.. for x in e for y in ..})), e without items -/
def mNone (mi : MA) : ME := fun en T => (mi en T).bind fun p => match p.1 with
  | [] => some (.tuple [], p.2)
  | _ => none
theorem d_sortE {elt tg it : Expr} {ifs : List Expr} {rest : List Comprehension} {scope : Scope} {own : List (Str × Nat)} {p1 p2 p3 p4 p5 : Pos} {mi : MA}
    (hc : X.calm = true) (hN : X.N.Nodup) (hi : PI X tg it (iD z X.K mi)) (ok : BlkOk X.N X.env.scope scope own) (gt : Gl X "tuple") (mt : X.mg "tuple" = none) (gs : Gl X "sorted") (ms : X.mg "sorted" = none)
    (hs : ∀ x, foldedSetIterable it X.env x = pure x := by intro _; rfl)
    (e1 : starEach [Expr.SetComp elt (⟨tg, it, ifs, 0⟩ :: rest) scope p5] X.env = (false, eval (.SetComp elt (⟨tg, it, ifs, 0⟩ :: rest) scope p5) X.env) :: starEach [] X.env := by rfl)
    (e2 : starEach [Expr.Call (.Name "sorted" p3) [.SetComp elt (⟨tg, it, ifs, 0⟩ :: rest) scope p5] [] p4] X.env = (false, eval (.Call (.Name "sorted" p3) [.SetComp elt (⟨tg, it, ifs, 0⟩ :: rest) scope p5] [] p4) X.env) :: starEach [] X.env := by rfl) :
    PE X (.Call (.Name "tuple" p1) [.Call (.Name "sorted" p3) [.SetComp elt (⟨tg, it, ifs, 0⟩ :: rest) scope p5] [] p4] [] p2) (tD z X.K (mNone mi)) :=
  pe_to (pe_callTy call_tuple_of gt mt (by decide +kernel) (pa_cons (pe_callB (cr_sortedSet hc) gs ms (by decide +kernel) (pa_cons (pe_scE hc hN hi ok hs) pa_nil e1) (by decide) (by decide) e1 rfl) pa_nil e2) (by decide) (by decide) e2 rfl) fun σ H Q q => by
    obtain ⟨F, en, T, d, T', ok, e, k⟩ := q
    unfold mNone at e
    cases h1 : mi en T with
    | none => rw [h1] at e; cases e
    | some p =>
      obtain ⟨ds, T1⟩ := p
      rw [h1] at e
      simp only [Option.bind_some] at e
      split at e
      · cases e
        refine ⟨F, en, T, [], _, ok, h1, fun F1 H1 J B1 n1 wk => fun D hD => ?_⟩
        obtain ⟨B2, n2, f2, h2⟩ := B1.put (o := SetO X.w D (fun _ => false) 0) hD
        refine ⟨(wk F1 _ _ B2 (Same.refl _) B2.fh 0).2.2 rfl, D, fun _ => false, 0, rfl, upd_same, by decide, fun ns p _ _ hl hp => ?_⟩
        cases ns with
        | cons _ _ => cases hl
        | nil =>
          refine ⟨p, [], rfl, .inl ⟨.inl (.inl upd_same), fun l hl => ?_⟩⟩
          obtain ⟨B3, n3, f3, h3⟩ := B2.put (o := .lst (([] : List Int).map V.int)) hp
          obtain ⟨B4, n4⟩ := B3.lay (o := .tup []) hl
          exact k _ _ _ B4 (n1.trans (n2.trans (n3.trans n4 B4) B4) B4) (.tup (.inl (.inl upd_same)) .nil)
      · cases e
/-! ### is, of truths -/
def gIs : G2
  | .bool a, .bool b => some (.bool (decide (a = b)))
  | _, _ => none
theorem l_is {K : PySem.W.Frag} : Lift2 K rIsB gIs := by
  intro H x y d e b Q h1 h2 eq k
  unfold gIs at eq
  split at eq
  · cases h1
    cases h2
    cases eq
    exact ⟨_, _, rfl, rfl, k _ fun _ => .bl _⟩
  · cases eq
/-! ### + of two new lists -/
def mCatF (m1 m2 : MA) : MA := fun en T => (m1 en T).bind fun p => (m2 en p.2).bind fun q => if p.1.length + q.1.length ≤ 16777216 then some (p.1 ++ q.1, q.2) else none
theorem f_cat {a b : Expr} {m1 m2 : MA} (ha : PE X a (tF z X.K m1)) (hb : PE X b (tF z X.K m2)) : PE X (.BinOp a .Add b pos) (tF z X.K (mCatF m1 m2)) := pe_to (pe_op op_cat ha hb) fun σ H Q q => by
  obtain ⟨F, en, T, d, T', ok, e, k⟩ := q
  unfold mCatF at e
  cases h1 : m1 en T with
  | none => rw [h1] at e; cases e
  | some p =>
    obtain ⟨d1, T1⟩ := p
    rw [h1] at e
    simp only [Option.bind_some] at e
    cases h2 : m2 en T1 with
    | none => rw [h2] at e; cases e
    | some p =>
      obtain ⟨d2, T2⟩ := p
      rw [h2] at e
      simp only [Option.bind_some] at e
      split at e
      · rename_i hl
        cases e
        refine ⟨F, en, T, d1, T1, ok, h1, fun F1 H1 a1 x1 B1 n1 i1 j1 l1 o1 p1 => ⟨F1, en, T1, d2, _, ok.nxt n1 B1, h2, fun F2 H2 a2 x2 B2 n2 i2 j2 l2 o2 p2 => ?_⟩⟩
        have nd : ∀ c, z.H0 c = none → z.isDk c = false := fun c hc => by
          cases hd : z.isDk c with
          | true => exact absurd hc (B1.dkin c hd)
          | false => rfl
        have hz := sizeLine_eq
        refine ⟨a1, a2, x1, x2, rfl, rfl, n2.st a1 _ j1 (nd a1 o1), j2, by have := dpAll_len p1; have := dpAll_len p2; omega, fun q hq => ?_⟩
        obtain ⟨B3, n3, f3, h3⟩ := B2.put (o := .lst (x1 ++ x2)) hq
        refine k _ _ _ _ B3 (n1.trans (n2.trans n3 B3) B3) ?_ upd_same f3 h3 (dpAll_app (dpAll_mono n2.s _ _ p1) p2)
        cases e0 : H q with
        | none => rfl
        | some o => rw [(n1.trans n2 B2).st q o e0 (nd q h3)] at hq; cases hq
      · cases e
/-- what never comes to an end here -/
def mNo : MS := fun _ _ => none
theorem s_never {st : Stmt} : PS X st (tS z X.K mNo) := ⟨fun _ _ _ _ _ _ h => by obtain ⟨_, _, _, _, _, e, _⟩ := h; cases e⟩
def mNoE : ME := fun _ _ => none
theorem d_never {a : Expr} : PE X a (tD z X.K mNoE) := ⟨fun _ _ _ _ _ _ h => by obtain ⟨_, _, _, _, _, _, e, _⟩ := h; cases e⟩
/-- for .. in enumerate(e), e without items -/
def mEnum0 (mi : ME) : MS := fun en T => (mi en T).bind fun p => match p.1 with
  | .tuple [] => some (.nx en p.2)
  | _ => none
end
end LQ

set_option Elab.async false
set_option linter.all false
set_option maxRecDepth 100000
set_option maxHeartbeats 4000000
/-! enumerate of a tuple -/
namespace LQ
open PySem PySem.Spec PyProof.Rows L2
theorem meets_enum1 {v : Value} {o : Obj} {G : Heap → Prop} (B : Begins v o G) :
    Meets (Builtin.«enumerate.__new__» ⟨[.type "enumerate", v], []⟩) (fun _ R s => G s.heap ∧
      R (.ok (.ret (.ref (s.heap.push o).objs.size))) { s with heap := (s.heap.push o).push { cls := .type "enumerate", data := .fields #[.none, .bool false, .ref s.heap.objs.size, rawInt 0, .none, .none] } }) := by
  refine .of_wp fun prog w A R s h => ?_
  obtain ⟨hp, g, dr, tk, os⟩ := s
  obtain ⟨hG, h⟩ := h
  have hsub := sub_enumerate
  have begin_ : ∀ {A' : Around} {E : Value → Shared → Prop} {Q : Value → Shared → Prop}, Q (.ref hp.objs.size) ⟨hp.push o, g, dr, tk, os⟩ →
      wpAny (model prog w) A' (pyIter v) Q E ⟨hp, g, dr, tk, os⟩ := fun q => B.iter prog w _ _ ⟨hp, g, dr, tk, os⟩ _ hG q
  wp_walk using begin_
  refine wpAny_stack_any fun st => wpAny_pure ?_
  split
  · rename_i c _ _ _ _ _
    cases (c == Value.type "enumerate") <;> (wp_walk using begin_; exact ⟨_, rfl, h⟩)
  · wp_walk using begin_
    exact ⟨_, rfl, h⟩
section
variable {prog : Program} {w : World} {A : Around} {E : Value → Shared → Prop} {s : Shared}
theorem enum_begin1 {v : Value} {o : Obj} {G : Heap → Prop} {Q : Value → Shared → Prop} (B : Begins v o G) (hG : G s.heap)
    (h : ∀ h', IsEnum h' (s.heap.objs.size + 1) s.heap.objs.size 0 .none → h'.get? s.heap.objs.size = some o → (∀ b o, s.heap.get? b = some o → h'.get? b = some o) →
      Q (.ref (s.heap.objs.size + 1)) { s with heap := h' }) : wpAny (model prog w) A (call (.type "enumerate") [v]) Q E s := by
  have size1 : (s.heap.push o).objs.size = s.heap.objs.size + 1 := Heap.size_push ..
  have new : IsEnum ((s.heap.push o).push { cls := .type "enumerate", data := .fields #[.none, .bool false, .ref s.heap.objs.size, rawInt 0, .none, .none] }) (s.heap.objs.size + 1) s.heap.objs.size 0 .none := by
    have q := Heap.get?_push_size (s.heap.push o) (o := { cls := .type "enumerate", data := .fields #[.none, .bool false, .ref s.heap.objs.size, rawInt 0, .none, .none] }) rfl
    rwa [size1] at q
  refine callType_new F.called_enumerate (by decide) (F.typeCall_enumerate_1 _) (F.newCall_enumerate_1 _)
    (fun ob => F.args_object_init_2 ob _) F.entry_enumerate_new (meets_enum1 B) ⟨hG, ?_⟩
  show _ ∧ _
  rw [size1]
  exact ⟨⟨_, new, rfl⟩, h _ new (Heap.get?_push_of_some _ (Heap.get?_push_size _ B.free)) fun b ob e => Heap.get?_push_of_some _ (Heap.get?_push_of_some _ e)⟩
end
def ItN (K : PySem.W.Frag) (a : Addr) : It where
  go := fun i H => ∃ (xs : List V) (x : V), SqT K H a xs ∧ xs[i]? = some x
  yld := fun i H v H' => ∃ T x, v = .ref T ∧ H T = none ∧ H' = upd H T (.tup [.int (i : Nat), x]) ∧ ∀ xs, SqT K H a xs → xs[i]? = some x
  stop := fun i H => ∃ xs : List V, SqT K H a xs ∧ i = xs.length
theorem turn_enumT {P : Program} {w : World} {K : PySem.W.Frag} {elts : List Expr} {kk : Nat} {tp : Pos} (a e it : Addr) :
    Turn P w K (.Tuple elts kk tp) (ItN K a) [e, it] e (fun i h => (∃ old, IsEnum h e it ((i : Nat) : Int) old) ∧ h.IsTupleIter it a i ∧ e ≠ it ∧ a ≠ it ∧ e ≠ a) := by
  refine ⟨by simp, ?_, ?_, ?_, ?_, ?_⟩
  · rintro i h ⟨⟨old, he⟩, ⟨o, ho, _, hd⟩, _⟩ b hb
    have two : b = e ∨ b = it := by simpa using hb
    rcases two with rfl | rfl
    · exact ⟨_, he, fun v q => nomatch q⟩
    · exact ⟨o, ho, fun v q => by rw [hd] at q; cases q⟩
  · rintro i h h' ⟨⟨old, he⟩, hi, ne⟩ k
    exact ⟨⟨old, k e (by simp) _ he⟩, hi.at fun o q => k it (by simp) o q, ne⟩
  · rintro X rfl rfl rfl hc i pins s σ H E I hf ⟨⟨old, he⟩, hit, ne, nat, nea⟩ ⟨xs, x, hq, hx⟩
    obtain ⟨its, rv, tp, hz⟩ := I.tuple hq
    have tup : s.heap.IsTuple a its.toArray := tp
    obtain ⟨u, hu, ru⟩ := rv.get hx
    have lte : e < s.heap.objs.size := Heap.lt_size he
    have lti : it < s.heap.objs.size := by obtain ⟨_, q, _⟩ := hit; exact Heap.lt_size q
    have lt : i < its.toArray.size := by
      have := (List.getElem?_eq_some_iff.mp hu).1
      simpa using this
    have D := Draws.tuple (prog := X.prog) (w := X.w) (A := X.A.in1) (I.ok.hd hc) it a nat its.toArray
    refine wpAny_pyNext_enum_itemC D he ⟨hit, tup⟩ lt ne (by simp [ne, nea]) fun y h' tk hy ho st' hT hsz hk => ?_
    have ey : y = u := by
      have hy : its.toArray[i]? = some y := hy
      simp at hy hu
      rw [hu] at hy
      exact (Option.some.inj hy).symm
    subst ey
    refine ⟨_, rfl, wpAny_letOwnedTupleGo_enum (s := { s with heap := h', toks := tk + 1 }) ho fun h'' he' sb => ?_⟩
    have hT2 := (sb.2 _ (Nat.ne_of_gt lte)).trans hT
    have new : ObjOk X.prog X.w (upd H s.heap.objs.size (.tup [.int (i : Nat), x])) h'' s.heap.objs.size (.tup [.int (i : Nat), x]) := by
      refine ⟨by show 2 ≤ sizeLine; decide, [.int i tk, y], .cons ⟨_, rfl⟩ (.cons ru .nil), ?_⟩
      exact ⟨_, hT2, rfl, _, rfl⟩
    have i1 := I.turnedNew (t' := tk + 1) (h' := h'') (ch := [e, it]) (fun b ob hb q => by
      have nb : b ≠ e ∧ b ≠ it := by simpa using hb
      exact (sb.2 b nb.1).trans (hk b ob nb.1 nb.2 q)) hf (Nat.le_refl _) new
    refine ⟨.ref s.heap.objs.size, _, i1, rfl, ⟨_, x, rfl, I.hok.fresh (Nat.le_refl _), rfl, fun ys hy => by rw [I.tuple_inj hy hq]; exact hx⟩, ⟨⟨y, ?_⟩, ?_, ne, nat, nea⟩, fun b hb => ?_⟩
    · have e1 : ((i + 1 : Nat) : Int) = (i : Int) + 1 := by omega
      rw [e1]
      exact he'
    · exact st'.1.at fun o q => (sb.2 it (Ne.symm ne)).trans q
    · have two : b = e ∨ b = it := by simpa using hb
      have ltb : b < s.heap.objs.size := by
        rcases two with rfl | rfl
        · exact lte
        · exact lti
      rw [upd_ne (Nat.ne_of_lt ltb)]
      exact (hf b hb).1
  · rintro X rfl rfl rfl hc i pins s σ H E I hf ⟨⟨old, he⟩, hit, ne, nat, nea⟩ ⟨xs, hq, hx⟩
    obtain ⟨its, rv, tp, hz⟩ := I.tuple hq
    have tup : s.heap.IsTuple a its.toArray := tp
    obtain ⟨f0, f1, f2, f3, f4, f5⟩ := hf it (by simp)
    have hl := rv.length
    have D := Draws.tuple (prog := X.prog) (w := X.w) (A := X.A.in1) (I.ok.hd hc) it a nat its.toArray
    have at_ : i = its.toArray.size := by simp; omega
    refine wpAny_pyNext_enum_endD D he ⟨by rw [← at_]; exact hit, tup⟩ fun h' eb => ⟨rfl, ?_⟩
    exact I.turned (t' := s.toks) (fun b o hb q => eb b o hb q) f0 f1 f3 f4 f5
  · rintro A i s Q E ⟨⟨_, he⟩, _⟩ h
    exact wpAny_pyIter_enum he h
/-- the numbered items -/
def enumD (ds : List PyData) : List PyData := ds.mapIdx fun i d => .tuple [.int (i : Nat), d]
theorem wk_enum {z : Cz} {K : PySem.W.Frag} {F1 : Hp} {a : Addr} {xs : List V} {ds : List PyData} (h : SqT K F1 a xs) (p : DpAll K F1 xs ds) : Wk z K F1 F1 (ItN K a) (enumD ds) := by
  intro F H T B s1 s2 i
  have hl := dpAll_len p
  have hl2 : (enumD ds).length = ds.length := by simp [enumD]
  have sq : SqT K H a xs := sqT_mono s2 h
  refine ⟨fun hi => ⟨xs, _, sq, List.getElem?_eq_getElem (by omega)⟩, fun d hd x H' hy => ?_, fun hi => ⟨xs, sq, by omega⟩⟩
  obtain ⟨q, y, rfl, hq, rfl, hy⟩ := hy
  obtain ⟨B2, n2⟩ := B.lay (o := .tup [.int (i : Nat), y]) hq
  refine ⟨_, B2, n2, ?_⟩
  unfold enumD at hd
  rw [List.getElem?_mapIdx] at hd
  cases e : ds[i]? with
  | none => rw [e] at hd; cases hd
  | some d' =>
    rw [e] at hd
    cases hd
    obtain ⟨v, hv, pv⟩ := dpAll_get' p e
    rw [hy xs sq] at hv
    cases hv
    exact .tup (.inl (.inl upd_same)) (.cons (.int _) (.cons (dp_mono (s1.trans n2.s) _ _ pv) .nil))
section
variable {X : Cx} {z : Cz} {pos : Pos}
def iEnT (K : PySem.W.Frag) (ta : TA) : TI := fun σ H R => ta σ H fun vs H1 => ∃ a xs, vs = [.ref a] ∧ SqT K H1 a xs ∧ R (ItN K a) H1
theorem pi_enT {e : Expr} {ta : TA} {p tp : Pos} {elts : List Expr} {kk : Nat} (hg : Gl X "enumerate") (hm : X.mg "enumerate" = none) (ha : PA X [e] ta) (hs : starEach [e] X.env = [(false, eval e X.env)] := by rfl) :
    PI X (.Tuple elts kk tp) (.Call (.Name "enumerate" p) [e] [] pos) (iEnT X.K ta) := by
  constructor
  intro pins s σ H R inv h
  refine Call_ (ld_blt inv hg hm boot_enumerate (PyProof.Rows.callWith_type1 (thn (ha.run pos pins s σ H _ inv h) ?_) hs rfl))
  rintro us s1 ⟨vs, H1, i1, r1, a, xs, rfl, hq, want⟩
  obtain ⟨u, rfl, ru⟩ := vals1 r1
  cases ru
  obtain ⟨its, rv, tup, hz⟩ := i1.tuple hq
  have tup : s1.heap.IsTuple a its.toArray := tup
  refine enum_begin1 (begins_tuple a its.toArray) tup fun h' he ho hk => wpAny_pyIter_enum he ?_
  have lta : a < s1.heap.objs.size := by obtain ⟨_, q, _⟩ := tup; exact Heap.lt_size q
  refine ⟨s1.heap.objs.size + 1, [s1.heap.objs.size + 1, s1.heap.objs.size], _, _, H1, rfl, i1.kept (t' := s1.toks) hk, turn_enumT a (s1.heap.objs.size + 1) s1.heap.objs.size, ?_, fun b hb => ?_, want⟩
  · exact ⟨⟨.none, he⟩, ⟨_, ho, rfl, rfl⟩, Nat.succ_ne_self _, Nat.ne_of_lt lta, Nat.ne_of_gt (Nat.lt_succ_of_lt lta)⟩
  · have two : b = s1.heap.objs.size + 1 ∨ b = s1.heap.objs.size := by simpa using hb
    have le : s1.heap.objs.size ≤ b := by
      rcases two with rfl | rfl
      · exact Nat.le_succ _
      · exact Nat.le_refl _
    exact i1.fpOk le (i1.hok.fresh le)
def mEnT (m : ME) : MA := fun en T => (m en T).bind fun p => match p.1 with
  | .tuple ds => some (enumD ds, p.2)
  | _ => none
theorem i_enT {a : Expr} {m : ME} {p tp : Pos} {elts : List Expr} {kk : Nat} (hg : Gl X "enumerate") (hm : X.mg "enumerate" = none) (ha : PE X a (tD z X.K m)) (hs : starEach [a] X.env = [(false, eval a X.env)] := by rfl) :
    PI X (.Tuple elts kk tp) (.Call (.Name "enumerate" p) [a] [] pos) (iD z X.K (mEnT m)) := pi_to (pi_enT hg hm (pa_cons ha pa_nil hs) hs) fun σ H R q => by
  obtain ⟨F, en, T, ds, T', ok, e, k⟩ := q
  unfold mEnT at e
  cases h1 : m en T with
  | none => rw [h1] at e; cases e
  | some p =>
    obtain ⟨d, T1⟩ := p
    rw [h1] at e
    simp only [Option.bind_some] at e
    split at e
    · cases e
      refine ⟨F, en, T, _, _, ok, h1, fun F' H' v B n p => ?_⟩
      cases p with
      | tup hs ha => exact ⟨_, _, rfl, sqT_mono B.fh hs, k F' H' _ B n (wk_enum hs ha)⟩
    · cases e
end
end LQ

set_option Elab.async false
set_option linter.all false
set_option maxRecDepth 100000
set_option maxHeartbeats 4000000
namespace LQ
open PySem PySem.Spec PyProof.Rows L2
/-! ### a def that is known, a def that keeps its mirror -/
def Def (K : PySem.W.Frag) (mg : Str → Option Value) (x : Str) (st : Stmt) (ps : List Str) : Prop :=
  ∃ f fd, Fun K x x st f fd ∧ mg x = some (.ref f) ∧ Binds K fd ps []
def Cal (P : Program) (w : World) (K : PySem.W.Frag) (mg : Str → Option Value) (base : Heap) (k : Nat) (x : Str) (ps : List Str) (M : MF) : Prop :=
  ∃ f fd, FnG P w K mg base CX0 k f fd ps (spD K ps.length M) ∧ mg x = some (.ref f) ∧ PySem.W.keepIn K (.ref f) = true ∧ Binds K fd ps []
section
variable {P : Program} {w : World} {K : PySem.W.Frag} {mg : Str → Option Value} {base : Heap}
theorem cal {x : Str} {st : Stmt} {N ps : List Str} {k : Nat} {mb : MS} (D : Def K mg x st ps) (S : FnScope N ps (defScope st))
    (hbody : ∀ (f : Addr) (cdv : Value) (A : Around) (outer : List Env) (s : Shared) (H : Hp) (E : XK) (z : Cz), Room k (A.deeper (envOfC x (defScope st) s.heap.objs.size f cdv)) → A.guards = some [] →
      PSs (cxOf CX0 P w K mg base N x (defScope st) f cdv A outer s H E).nox (defBody st) (tS z K mb)) : Cal P w K mg base (k + 1) x ps (mFun N.length mb) := by
  obtain ⟨f, fd, Fn, hm, hb⟩ := D
  exact ⟨f, fd, fnDG Fn S (hbody f), hm, Fn.kp, hb⟩
theorem Cal.up {j k : Nat} {x : Str} {ps : List Str} {M : MF} (C : Cal P w K mg base j x ps M) (h : j ≤ k) : Cal P w K mg base k x ps M := by
  obtain ⟨f, fd, G, r⟩ := C
  exact ⟨f, fd, G.up h, r⟩
/-- the same def by another function that tells as much -/
theorem Cal.to {k : Nat} {x : Str} {ps : List Str} {M M' : MF} (C : Cal P w K mg base k x ps M) (h : ∀ ss T r, M' ss T = some r → M ss T = some r) : Cal P w K mg base k x ps M' := by
  obtain ⟨f, fd, G, r⟩ := C
  refine ⟨f, fd, G.imp fun vs H Q E q => ?_, r⟩
  obtain ⟨F, dk, ss, T, d, T', h1, h2, h3, h4, h5⟩ := q
  exact ⟨F, dk, ss, T, d, T', h1, h2, h3, h _ _ _ h4, h5⟩
end
section
variable {X : Cx} {z : Cz} {a b c : Expr} {es : List Expr} {m m1 m2 m3 : ME} {ms : MAs} {pos : Pos}
theorem d_cal {k : Nat} {ps : List Str} {x : Str} {p : Pos} {M : MF} (C : Cal X.prog X.w X.K X.mg X.base k x ps M) (hr : Room k X.A) (gu : X.A.guards = some []) (hg : Gl X x)
    (ha : PA X (a :: es) (tAs z X.K ms)) (hn : ∀ en T ss T', ms en T = some (ss, T') → ss.length = ps.length) (hdb : (x == ("__debug__" : Str)) = false := by decide) (he : starEach (a :: es) X.env = (false, eval a X.env) :: starEach es X.env := by rfl) (hpl : (backTo pos (starEach es X.env)).any (·.1) = false := by rfl) :
    PE X (.Call (.Name x p) (a :: es) [] pos) (tD z X.K (mCf M ms)) := by
  obtain ⟨f, fd, G, hm, hk, hb⟩ := C
  exact d_callG G hr gu hg hm hk hb ha hn hdb he hpl
/-! ### a op1 b op2 c -/
def mChain (g g' : G2) (m1 m2 m3 : ME) : ME := fun en T => (m1 en T).bind fun p => (m2 en p.2).bind fun q => (g p.1 q.1).bind fun t => match t with
  | .bool true => (m3 en q.2).bind fun r => (g' q.1 r.1).map fun b => (b, r.2)
  | .bool false => some (.bool false, q.2)
  | _ => none
theorem tD_chain {K : PySem.W.Frag} {r r' : R2} {g g' : G2} (L : Lift2 K r g) (L' : Lift2 K r' g') {σ : St} {H : Hp} {Q : VK} (h : tD z K (mChain g g' m1 m2 m3) σ H Q) : tChain r r' (tB z K m1) (tB z K m2) (tB z K m3) σ H Q := by
  obtain ⟨F, en, T, d, T', ok, e, k⟩ := h
  unfold mChain at e
  cases h1 : m1 en T with
  | none => rw [h1] at e; cases e
  | some p =>
    obtain ⟨d1, T1⟩ := p
    rw [h1] at e
    simp only [Option.bind_some] at e
    cases h2 : m2 en T1 with
    | none => rw [h2] at e; cases e
    | some p =>
      obtain ⟨d2, T2⟩ := p
      rw [h2] at e
      simp only [Option.bind_some] at e
      cases h3 : g d1 d2 with
      | none => rw [h3] at e; cases e
      | some t =>
        rw [h3] at e
        simp only [Option.bind_some] at e
        refine ⟨F, en, T, d1, T1, ok, h1, fun F1 H1 x B1 n1 p1 => ⟨F1, en, T1, d2, T2, ok.nxt n1 B1, h2, fun F2 H2 y B2 n2 p2 => ?_⟩⟩
        have ok2 := (ok.nxt n1 B1).nxt n2 B2
        refine L H2 x y d1 d2 t _ (dp_mono (n2.st.cut.trans (cut_same z H2)) _ _ p1) (dp_mono (cut_same z H2) _ _ p2) h3 fun v hv => ?_
        split at e
        · cases hv F2
          cases h4 : m3 en T2 with
          | none => rw [h4] at e; cases e
          | some p =>
            obtain ⟨d3, T3⟩ := p
            rw [h4] at e
            simp only [Option.bind_some] at e
            cases h5 : g' d2 d3 with
            | none => rw [h5] at e; cases e
            | some u =>
              rw [h5] at e
              simp only [Option.map_some, Option.some.injEq, Prod.mk.injEq] at e
              obtain ⟨rfl, rfl⟩ := e
              refine ⟨true, rfl, ⟨F2, en, T2, d3, T3, ok2, h4, fun F3 H3 y3 B3 n3 p3 => ?_⟩⟩
              exact L' H3 y y3 d2 d3 u Q (dp_mono (n3.st.cut.trans (cut_same z H3)) _ _ p2) (dp_mono (cut_same z H3) _ _ p3) h5 fun v hv => k F3 H3 v B3 (n1.trans (n2.trans n3 B3) B3) (hv F3)
        · cases hv F2
          simp only [Option.some.injEq, Prod.mk.injEq] at e
          obtain ⟨rfl, rfl⟩ := e
          exact ⟨false, rfl, k F2 H2 _ B2 (n1.trans n2 B2) (.bl false)⟩
        · cases e
theorem d_chain {op op' : CmpOp} {r r' : R2} {g g' : G2} (ho : OpR X (compareOp op) r) (L : Lift2 X.K r g) (ho' : OpR X (compareOp op') r') (L' : Lift2 X.K r' g') (ha : PE X a (tB z X.K m1)) (hb : PE X b (tB z X.K m2)) (hc : PE X c (tB z X.K m3))
    (hm : lastMarks [op, op'] [b, c] = false := by with_unfolding_all rfl) : PE X (.Compare a [op, op'] [b, c] pos) (tD z X.K (mChain g g' m1 m2 m3)) := pe_to (pe_chain ho ho' ha hb hc hm) fun _ _ _ h => tD_chain L L' h
theorem q_chain {op op' : CmpOp} {r r' : R2} {g g' : G2} (ho : OpR X (compareOp op) r) (L : Lift2 X.K r g) (ho' : OpR X (compareOp op') r') (L' : Lift2 X.K r' g') (ha : PE X a (tB z X.K m1)) (hb : PE X b (tB z X.K m2)) (hc : PE X c (tB z X.K m3))
    (hm : lastMarks [op, op'] [b, c] = false := by with_unfolding_all rfl) : PT X (.Compare a [op, op'] [b, c] pos) (tQ z X.K (mQ (mChain g g' m1 m2 m3))) := pt_to (pt_chain ho ho' ha hb hc hm) fun _ _ _ h => tD_chain L L' (tQ_of h)
/-! ### in, not in -/
def rInA (K : PySem.W.Frag) (neg : Bool) : R2 := fun x y H Q => ∃ d e ds, Dp K H x d ∧ Dp K H y e ∧ (e = .list ds ∨ e = .tuple ds) ∧ SeqAt.shaped d = true ∧ SeqAt.shaped e = true ∧ Q (.bl (neg ^^ ds.any fun z => PyData.eqv z d)) H
theorem op_inA (hu : X.A.units + 65 < cLine) : OpR X (compareOp .In) (rInA X.K false) := by
  rintro pins s σ H x y v u Q I rx ry ⟨d, e, ds, p1, p2, he, s1, s2, q⟩
  obtain ⟨as, r1⟩ := Dp.reads I d x v p1 rx
  obtain ⟨bs, r2⟩ := Dp.reads I e y u p2 ry
  have want : EP X pins σ Q (.bool (ds.any fun z => PyData.eqv z d)) s := ⟨.bl _, H, I, rfl, by simpa using q⟩
  rcases he with rfl | rfl
  · exact SeqAt.in_list_reads r2 r1 (SeqAt.canLay_of_shaped s2) (SeqAt.canLay_of_shaped s1) (room_in_shaped s1 hu) want
  · exact SeqAt.in_tuple_reads r2 r1 (SeqAt.canLay_of_shaped s2) (SeqAt.canLay_of_shaped s1) (room_in_shaped s1 hu) want
theorem op_notInA (hu : X.A.units + 65 < cLine) : OpR X (compareOp .NotIn) (rInA X.K true) := by
  rintro pins s σ H x y v u Q I rx ry ⟨d, e, ds, p1, p2, he, s1, s2, q⟩
  obtain ⟨as, r1⟩ := Dp.reads I d x v p1 rx
  obtain ⟨bs, r2⟩ := Dp.reads I e y u p2 ry
  have want : EP X pins σ Q (.bool (!ds.any fun z => PyData.eqv z d)) s := ⟨.bl _, H, I, rfl, by simpa using q⟩
  rcases he with rfl | rfl
  · exact SeqAt.notIn_list_reads r2 r1 (SeqAt.canLay_of_shaped s2) (SeqAt.canLay_of_shaped s1) (room_in_shaped s1 hu) want
  · exact SeqAt.notIn_tuple_reads r2 r1 (SeqAt.canLay_of_shaped s2) (SeqAt.canLay_of_shaped s1) (room_in_shaped s1 hu) want
def gIn (neg : Bool) : G2 := fun d e => match e with
  | .list ds => if SeqAt.shaped d = true ∧ SeqAt.shaped (.list ds) = true then some (.bool (neg ^^ ds.any fun z => PyData.eqv z d)) else none
  | .tuple ds => if SeqAt.shaped d = true ∧ SeqAt.shaped (.tuple ds) = true then some (.bool (neg ^^ ds.any fun z => PyData.eqv z d)) else none
  | _ => none
theorem l_in {K : PySem.W.Frag} {neg : Bool} : Lift2 K (rInA K neg) (gIn neg) := by
  intro H x y d e b Q h1 h2 eq k
  unfold gIn at eq
  split at eq
  · split at eq
    · rename_i hq
      cases eq
      exact ⟨d, _, _, h1, h2, .inl rfl, hq.1, hq.2, k _ fun _ => .bl _⟩
    · cases eq
  · split at eq
    · rename_i hq
      cases eq
      exact ⟨d, _, _, h1, h2, .inr rfl, hq.1, hq.2, k _ fun _ => .bl _⟩
    · cases eq
  · cases eq
/-! ### texts -/
def gS (f : Str → Str → PyData) : G2
  | .str x, .str y => some (f x y)
  | _, _ => none
theorem l_leS {K : PySem.W.Frag} : Lift2 K (fun x y H Q => ∃ i j, x = .str i ∧ y = .str j ∧ Q (.bl (!decide (j.cps.toList < i.cps.toList))) H) (gS fun i j => .bool (!decide (j.cps.toList < i.cps.toList))) := by
  intro H x y d e b Q h1 h2 eq k
  unfold gS at eq
  split at eq
  · cases h1
    cases h2
    cases eq
    exact ⟨_, _, rfl, rfl, k _ fun _ => .bl _⟩
  · cases eq
def gSgn (neg : Bool) : G2
  | .str x, .str y => match x.cps.toList with
    | [c] => some (.bool (neg ^^ decide (c ∈ y.cps.toList)))
    | _ => none
  | _, _ => none
theorem l_sgn {K : PySem.W.Frag} : Lift2 K (fun x y H Q => ∃ (c : Nat) (z : Str), x = .str ⟨#[c]⟩ ∧ y = .str z ∧ Q (.bl (decide (c ∈ z.cps.toList))) H) (gSgn false) := by
  intro H x y d e b Q h1 h2 eq k
  unfold gSgn at eq
  split at eq
  · rename_i x y
    split at eq
    · rename_i c hc
      cases h1
      cases h2
      cases eq
      obtain ⟨a⟩ := x
      have : a = #[c] := by
        apply Array.toList_inj.mp
        simpa using hc
      subst this
      exact ⟨c, y, rfl, rfl, by simpa using k (.bl (false ^^ decide (c ∈ y.cps.toList))) fun _ => .bl _⟩
    · cases eq
  · cases eq
theorem l_nsgn {K : PySem.W.Frag} : Lift2 K (fun x y H Q => ∃ (c : Nat) (z : Str), x = .str ⟨#[c]⟩ ∧ y = .str z ∧ Q (.bl (!decide (c ∈ z.cps.toList))) H) (gSgn true) := by
  intro H x y d e b Q h1 h2 eq k
  unfold gSgn at eq
  split at eq
  · rename_i x y
    split at eq
    · rename_i c hc
      cases h1
      cases h2
      cases eq
      obtain ⟨a⟩ := x
      have : a = #[c] := by
        apply Array.toList_inj.mp
        simpa using hc
      subst this
      exact ⟨c, y, rfl, rfl, by simpa using k (.bl (true ^^ decide (c ∈ y.cps.toList))) fun _ => .bl _⟩
    · cases eq
  · cases eq
/-! ### names of the module -/
theorem d_glob {x : Str} {u : Value} {v : V} {d : PyData} {p : Pos} (hm : X.mg x = some u) (hs : RelV v u ∧ Sc X.K v d) (hg : Gl X x := by rfl) (hd : (x == ("__debug__" : Str)) = false := by decide) : PE X (.Name x p) (tD z X.K (mC d)) := d_const (pe_glob hg hm hs.1 hd) hs.2
theorem sc_int {K : PySem.W.Frag} {i : Int} {t : Tok} : RelV (.int i) (.int i t) ∧ Sc K (.int i) (.int i) := ⟨⟨t, rfl⟩, fun _ => .int i⟩
end
/-- a module's int -/
def GInt (mg : Str → Option Value) (x : Str) (i : Int) : Prop := ∃ t, mg x = some (.int i t)
/-- a module's tuple -/
def GDat (K : PySem.W.Frag) (mg : Str → Option Value) (x : Str) (d : PyData) : Prop := ∃ a, mg x = some (.ref a) ∧ Sc K (.ref a) d
section
variable {X : Cx} {z : Cz}
theorem d_gint {x : Str} {i : Int} {p : Pos} (h : GInt X.mg x i) (hg : Gl X x := by rfl) (hd : (x == ("__debug__" : Str)) = false := by decide) : PE X (.Name x p) (tD z X.K (mC (.int i))) := by
  obtain ⟨t, h⟩ := h
  exact d_glob h sc_int hg hd
theorem d_gdat {x : Str} {d : PyData} {p : Pos} (h : GDat X.K X.mg x d) (hg : Gl X x := by rfl) (hd : (x == ("__debug__" : Str)) = false := by decide) : PE X (.Name x p) (tD z X.K (mC d)) := by
  obtain ⟨a, h, hs⟩ := h
  exact d_glob (v := .ref a) h ⟨rfl, hs⟩ hg hd
end
end LQ

set_option Elab.async false
set_option linter.all false
set_option maxRecDepth 100000
set_option maxHeartbeats 4000000
namespace LQ
open PySem PySem.Spec PyProof.Rows L2
theorem room65 {k : Nat} {A : Around} (r : Room k A) : A.units + 65 < cLine := by have := r.un; omega
abbrev gLt : G2 := gI0 fun i j => .bool (decide (i < j))
abbrev gLe : G2 := gI0 fun i j => .bool (decide (i ≤ j))
abbrev gGt : G2 := gI0 fun i j => .bool (decide (j < i))
abbrev gGe : G2 := gI0 fun i j => .bool (decide (j ≤ i))
abbrev gAdd : G2 := gI0 fun i j => .int (i + j)
abbrev gSub : G2 := gI0 fun i j => .int (i - j)
abbrev gMul : G2 := gI (fun i j => decide ((-18446744073709551616 < i ∧ i < 18446744073709551616) ∨ (-18446744073709551616 < j ∧ j < 18446744073709551616))) fun i j => .int (i * j)
abbrev gFdiv : G2 := gI (fun i j => decide (0 < j ∧ j < 1073741824)) fun i j => .int (i / j)
abbrev gMod : G2 := gI (fun i j => decide (0 < j)) fun i j => .int (i % j)
abbrev gPow : G2 := gI (fun i j => decide (0 ≤ j ∧ j ≤ 1000000 ∧ i.natAbs < 18446744073709551616)) fun i j => .int (i ^ j.toNat)
section
variable {K : PySem.W.Frag}
theorem l_lt : Lift2 K (rI0 fun i j => .bl (decide (i < j))) gLt := l_rI0 fun _ _ _ => .bl _
theorem l_le : Lift2 K (rI0 fun i j => .bl (decide (i ≤ j))) gLe := l_rI0 fun _ _ _ => .bl _
theorem l_gt : Lift2 K (rI0 fun i j => .bl (decide (j < i))) gGt := l_rI0 fun _ _ _ => .bl _
theorem l_ge : Lift2 K (rI0 fun i j => .bl (decide (j ≤ i))) gGe := l_rI0 fun _ _ _ => .bl _
theorem l_add : Lift2 K (rI0 fun i j => .int (i + j)) gAdd := l_rI0 fun _ _ _ => .int _
theorem l_sub : Lift2 K (rI0 fun i j => .int (i - j)) gSub := l_rI0 fun _ _ _ => .int _
theorem l_mul : Lift2 K (rI CMul fun i j => .int (i * j)) gMul := l_rI (fun i j h => by
  have h := of_decide_eq_true h
  unfold CMul
  have e : (2 : Int) ^ 64 = 18446744073709551616 := by decide
  rw [e]
  exact h) fun _ _ _ => .int _
theorem l_fdiv : Lift2 K (rI CDiv fun i j => .int (i / j)) gFdiv := l_rI (fun i j h => by simpa [CDiv] using h) fun _ _ _ => .int _
theorem l_mod : Lift2 K (rI (fun _ j => 0 < j) fun i j => .int (i % j)) gMod := l_rI (fun i j h => of_decide_eq_true h) fun _ _ _ => .int _
theorem l_pow : Lift2 K (rI CPow fun i j => .int (i ^ j.toNat)) gPow := l_rI (fun i j h => by simpa [CPow] using h) fun _ _ _ => .int _
end
section
variable {X : Cx} {z : Cz} {pos : Pos}
/-- a, b = x, y -/
def mPar (i j : Nat) (ms : MA) : MS := fun en T => (ms en T).bind fun p => match p.1 with
  | [d, e] => some (.nx ((en.set i (some (.dat d))).set j (some (.dat e))) p.2)
  | _ => none
theorem s_par (i j : Nat) {x y : Str} {a b : Expr} {ms : MA} {px py pt : Pos} {kt k2 pt2} (hc : X.calm = true) (hN : X.N.Nodup) (ha : PA X [a, b] (tDs z X.K ms))
    (hw : swappedStores [.Tuple [.Name x px, .Name y py] kt pt] (.Tuple [a, b] k2 pt2) X.env = pure (some [x, y])) (hi : X.N[i]? = some x := by rfl) (hj : X.N[j]? = some y := by rfl) (hij : i ≠ j := by decide) (hx : X.env.scope.names.lookup x = some .local := by rfl) (hy : X.env.scope.names.lookup y = some .local := by rfl)
    (one : swapsWithSole [.Tuple [.Name x px, .Name y py] kt pt] (.Tuple [a, b] k2 pt2) pos.line X.env = pure false := by rfl) : PS X (.Assign [.Tuple [.Name x px, .Name y py] kt pt] (.Tuple [a, b] k2 pt2) pos) (tS z X.K (mPar i j ms)) := ps_to (ps_par hc hN hi hj hij hx hy ha hw one) fun D σ H q => by
  obtain ⟨F, en, T, r, ok, e, k⟩ := q
  unfold mPar at e
  cases h1 : ms en T with
  | none => rw [h1] at e; cases e
  | some p =>
    obtain ⟨ds, T1⟩ := p
    rw [h1] at e
    simp only [Option.bind_some] at e
    split at e
    · cases e
      refine ⟨F, en, T, _, _, ok, h1, fun F' H' vs B n p => ?_⟩
      cases p with
      | cons p1 p2 =>
        cases p2 with
        | cons p2 p3 =>
          cases p3
          exact ⟨_, _, rfl, k F' H' _ (((ok.nxt n B).set p1).set p2) n.s⟩
    · cases e
theorem ss_never {sts : List Stmt} : PSs X sts (tS z X.K mNo) := ⟨fun _ _ _ _ _ _ h => by obtain ⟨_, _, _, _, _, e, _⟩ := h; cases e⟩
/-- x = {}, never looked at again -/
def mDict0 (i : Nat) : MS := fun en T => some (.nx (en.set i none) T)
theorem s_dict0 (i : Nat) {x : Str} {p' p2 : Pos} (hN : X.N.Nodup) (hi : X.N[i]? = some x := by rfl) (hx : Loc X.env.scope x := by first | exact Or.inl rfl | exact Or.inr rfl) (hs : swapsWith (.Dict [] [] p2) (some (.Name x p')) pos.line X.env = pure false := by rfl) (hf : X.fn x = true ∨ X.env.scope.names.lookup x = some .local := by first | exact .inl rfl | exact .inr rfl | assumption) :
    PS X (.Assign [.Name x p'] (.Dict [] [] p2) pos) (tS z X.K (mDict0 i)) := ps_to (ps_set (i := i) hN hi hx pe_dnewK hs hf) fun D σ H q => by
  obtain ⟨F, en, T, r, ok, e, k⟩ := q
  cases e
  intro d hd
  obtain ⟨B2, n2, _, _⟩ := ok.b.put (o := .dK []) hd
  have ok2 := ok.nxt n2 B2
  refine k F _ _ ⟨ok2.b, by rw [List.length_set, List.length_set]; exact ok2.len, fun j s e => ?_, fun j l ds es a hjl e1 e2 h1 h2 => ?_⟩ (Same.refl _)
  · have w := (ok2.wipe1 (i := i)).sl j s e
    have hj : i ≠ j := fun q => by
      subst q
      by_cases hi : i < en.length
      · rw [List.getElem?_set_self hi] at e; cases e
      · rw [List.getElem?_eq_none (by rw [List.length_set]; omega)] at e; cases e
    rw [List.getElem?_set_ne hj] at w
    rw [List.getElem?_set_ne hj]
    exact w
  · have no : ∀ (j : Nat) (s : Sl), (en.set i none)[j]? = some (some s) → i ≠ j := fun j s e q => by
      subst q
      by_cases hi : i < en.length
      · rw [List.getElem?_set_self hi] at e; cases e
      · rw [List.getElem?_eq_none (by rw [List.length_set]; omega)] at e; cases e
    have hj := no j _ e1
    have hl := no l _ e2
    rw [List.getElem?_set_ne hj] at h1 e1
    rw [List.getElem?_set_ne hl] at h2 e2
    exact ok2.ne j l ds es a hjl e1 e2 h1 h2
end
end LQ

set_option Elab.async false
set_option linter.all false
set_option maxRecDepth 100000
set_option maxHeartbeats 4000000
/-! what the top has left -/
namespace LQ
open PySem PySem.Spec PyProof.Rows L2
section
variable {K : PySem.W.Frag} {mg : Str → Option Value} {h : Heap}
theorem def_mk {x : Str} {st : Stmt} {ps : List Str} {f : Addr} {oc kV dc pm cd ct : Value} {od an : Option Addr} {sl : Array (Option Value)} (X : K.In h) (G : h.Ns mainGlobals mg) (a : PySem.W.nsIn K mainGlobals x = some (some (.ref f)))
    (l : K.lookup f = some ⟨oc, od, .func (PySem.W.fnOf x x (defArgs st) (defBody st) (defScope st) .none kV dc pm an cd ct), sl⟩) (c : PySem.W.codeIn K cd x = true) (k : PySem.W.keepIn K (.ref f) = true)
    (hb : ∀ (kV doc pm : Value) (an : Option Addr) (cdv ct : Value) (us : List Value), us.length = ps.length → bindArgs (PySem.W.fnOf x x (defArgs st) (defBody st) (defScope st) .none kV doc pm an cdv ct) ⟨us, []⟩ = pure (ps.zip us)) : Def K mg x st ps :=
  ⟨f, _, fun_mk l c k, PySem.W.mg_of X G a, (fun_mk l c k).binds hb⟩
theorem gint_mk {x : Str} {i : Int} {t : Tok} (X : K.In h) (G : h.Ns mainGlobals mg) (a : PySem.W.nsIn K mainGlobals x = some (some (.int i t))) : GInt mg x i := ⟨t, PySem.W.mg_of X G a⟩
theorem gdat_mk {x : Str} {p : Addr} {o : Obj} {its : Array Value} {n : Nat} {xs : List V} {ds : List PyData} (X : K.In h) (G : h.Ns mainGlobals mg) (a : PySem.W.nsIn K mainGlobals x = some (some (.ref p))) (l : K.lookup p = some o)
    (hc : o.cls = .type "tuple") (hd : o.data = .seq its n) (hz : its.size ≤ sizeLine) (hv : Vals xs its.toList) (hp : ∀ F, DpAll K F xs ds) : GDat K mg x (.tuple ds) :=
  ⟨p, PySem.W.mg_of X G a, fun F => .tup (.inr ⟨o, its, n, l, hc, hd, hz, hv⟩) (hp F)⟩
/-- the law's promise: True of every script -/
def spLaw (K : PySem.W.Frag) : Sp := fun vs H Q _ => ∃ (a : Addr) (ns : List Int), vs = [.ref a] ∧ Only H ∧ SqL K H a (ns.map V.int) ∧ ns.length ≤ 63 ∧ ∀ H', Q (.bl true) H'
theorem law_mk {P : Program} {w : World} {base : Heap} {k : Nat} {x : Str} {f : Addr} {fd : FuncData} {M : MF} (G : FnG P w K mg base CX0 k f fd [x] (spD K 1 M)) (hM : ∀ ns : List Int, ns.length ≤ 63 → ∀ T, ∃ T', M [.dat (.list (ns.map PyData.int))] T = some (.bool true, T')) :
    FnG P w K mg base CX0 k f fd [x] (spLaw K) := by
  refine G.imp fun vs H Q E q => ?_
  obtain ⟨a, ns, rfl, hO, hS, hl, k⟩ := q
  obtain ⟨T', e⟩ := hM ns hl ⟨[], [], 0, 0⟩
  refine ⟨H, none, _, ⟨[], [], 0, 0⟩, _, T', rfl, ⟨Same.refl _, Same.refl _, fun _ h => .inl h, fun _ _ h _ => h, (fun _ h => by cases h), (fun _ h => by cases h), trivial⟩, .cons (s := .dat _) (.lst hS (dpAll_ints ns)) .nil, e, fun F' H' v B p => ?_⟩
  cases p
  exact k H'
end
/-! ### mirrors at work -/
theorem ev_call1 {g : G1} {m : ME} {en : En} {T T' : Dk} {d b : PyData} (h : m en T = some (d, T')) (e : g [d] = some b) : mCall g (mCons m mNil) en T = some (b, T') := by
  show (((m en T).bind fun p => (some (([] : List PyData), p.2)).map fun q => (p.1 :: q.1, q.2)).bind fun p => (g p.1).map fun b => (b, p.2)) = _
  rw [h]
  show (g [d]).map _ = _
  rw [e]
  rfl
theorem ev_bin {g : G2} {m1 m2 : ME} {en : En} {T T1 T2 : Dk} {d1 d2 b : PyData} (h1 : m1 en T = some (d1, T1)) (h2 : m2 en T1 = some (d2, T2)) (e : g d1 d2 = some b) : mBin g m1 m2 en T = some (b, T2) := by
  show ((m1 en T).bind fun p => (m2 en p.2).bind fun q => (g p.1 q.1).map fun b => (b, q.2)) = _
  rw [h1]
  show ((m2 en T1).bind fun q => (g d1 q.1).map fun b => (b, q.2)) = _
  rw [h2]
  show (g d1 d2).map _ = _
  rw [e]
  rfl
end LQ

set_option Elab.async false
set_option linter.all false
set_option maxRecDepth 100000
set_option maxHeartbeats 1000000
namespace K91
open PySem PySem.Spec PyProof.Rows L2 LQ
def topS (i : Nat) : Stmt := PySem.Challenge.pw_ledquestions_k91_bounds.main.body.getD i (.Pass ⟨0, 0, 0, 0⟩)
structure Bt (K : PySem.W.Frag) (mg : Str → Option Value) : Prop where
  b_abs : mg "abs" = none
  b_all : mg "all" = none
  b_enumerate : mg "enumerate" = none
  b_isinstance : mg "isinstance" = none
  b_len : mg "len" = none
  b_range : mg "range" = none
  b_repr : mg "repr" = none
  b_sorted : mg "sorted" = none
  b_str : mg "str" = none
  b_sum : mg "sum" = none
  b_tuple : mg "tuple" = none
  g_ASKED : GInt mg "ASKED" (8)
  g_ATOMS : GInt mg "ATOMS" (5)
  g_BARRED : GDat K mg "BARRED" (PyData.tuple [(PyData.str "if"), (PyData.str "and")])
  g_DEEDS : GInt mg "DEEDS" (100)
  g_DEPTH : GInt mg "DEPTH" (3)
  g_GROWN : GInt mg "GROWN" (400)
  g_LETTERS : GInt mg "LETTERS" (8)
  g_LINES : GInt mg "LINES" (400)
  g_LOT : GInt mg "LOT" (40)
  g_NONE : GDat K mg "NONE" (PyData.tuple [])
  g_ROWS : GInt mg "ROWS" (40)
  g_RULES : GInt mg "RULES" (24)
  g_SHORTS : GInt mg "SHORTS" (6)
  g_SOMES : GInt mg "SOMES" (4)
  g_THINGS : GInt mg "THINGS" (12)
  g_UNKNOWNS : GInt mg "UNKNOWNS" (4)
section
variable {P : Program} {w : World} {K : PySem.W.Frag} {mg : Str → Option Value} {base : Heap}
abbrev s_is_rising : Stmt := topS 27
theorem sc_is_rising : FnScope ["things", "k"] ["things"] (defScope s_is_rising) := ⟨rfl, rfl, rfl, by decide +kernel, rfl, by decide +kernel, by decide +kernel⟩
def B_is_rising : MS := (mRet (mCall gAll (mCons (mL (mLc [1] (mRng1 (mBin gSub (mCall gLen (mCons (mVar 0) mNil)) (mC (PyData.int (1))))) (gtName 1) mYes (mBin gLt (mBin ixD (mVar 0) (mVar 1)) (mBin ixD (mVar 0) (mBin gAdd (mVar 1) (mC (PyData.int (1)))))))) mNil)))
def M_is_rising : MF := mFun 2 B_is_rising
theorem ok_is_rising (T : Bt K mg) (D : Def K mg "is_rising" s_is_rising ["things"])  : Cal P w K mg base 1 "is_rising" ["things"] M_is_rising :=
  have sc := sc_is_rising
  cal (N := ["things", "k"]) (k := 0) (mb := B_is_rising) D sc fun f cdv A outer s H E z hr gu =>
    (ss_one (s_ret (d_callB (cr_all rfl) l_all (by rfl) T.b_all (by decide +kernel) (ab_cons (bw (fz (f_lc rfl sc.nd (ie_of (i_rng1 (by rfl) T.b_range (bw (d_op op_sub l_sub (bw (d_callB call_len l_len (by rfl) T.b_len (by decide +kernel) (ab_cons (bw (d_var 0)) ab_nil))) (bw d_int))))) (blkOk_by (own := [("k", 1)]) (N := ["things", "k"]) (sc := defScope s_is_rising) (by decide +kernel)) (fun _ _ _ _ _ => (g_name 1 sc.nd)) (fun _ _ _ _ _ => qs_nil) (fun _ _ _ _ _ => (d_cmp op_lt l_lt (bw (d_ix (ed (d_var 0)) (bw (d_var 1)))) (bw (d_ix (ed (d_var 0)) (bw (d_op op_add l_add (bw (d_var 1)) (bw d_int))))) (nomark _)))))) ab_nil))))
abbrev s_things_of : Stmt := topS 37
theorem sc_things_of : FnScope ["rows", "row", "thing"] ["rows"] (defScope s_things_of) := ⟨rfl, rfl, rfl, by decide +kernel, rfl, by decide +kernel, by decide +kernel⟩
def B_things_of : MS := (mRet (mNone (mIt (mVar 0))))
def M_things_of : MF := mFun 3 B_things_of
theorem ok_things_of (T : Bt K mg) (D : Def K mg "things_of" s_things_of ["rows"])  : Cal P w K mg base 1 "things_of" ["rows"] M_things_of :=
  have sc := sc_things_of
  cal (N := ["rows", "row", "thing"]) (k := 0) (mb := B_things_of) D sc fun f cdv A outer s H E z hr gu =>
    (ss_one (s_ret (d_sortE rfl sc.nd (i_seq (d_var 0)) (blkOk_by (own := [("row", 1), ("thing", 2)]) (N := ["rows", "row", "thing"]) (sc := defScope s_things_of) (by decide +kernel)) (by rfl) T.b_tuple (by rfl) T.b_sorted)))
abbrev s_is_tuple_of : Stmt := topS 22
theorem sc_is_tuple_of : FnScope ["thing", "many"] ["thing", "many"] (defScope s_is_tuple_of) := ⟨rfl, rfl, rfl, by decide +kernel, rfl, by decide +kernel, by decide +kernel⟩
def B_is_tuple_of : MS := (mRet (mAndV (mIsi "tuple" (mVar 0)) (mBin gEq (mCall gLen (mCons (mVar 0) mNil)) (mVar 1))))
def M_is_tuple_of : MF := mFun 2 B_is_tuple_of
theorem ok_is_tuple_of (T : Bt K mg) (D : Def K mg "is_tuple_of" s_is_tuple_of ["thing", "many"])  : Cal P w K mg base 1 "is_tuple_of" ["thing", "many"] M_is_tuple_of :=
  have sc := sc_is_tuple_of
  cal (N := ["thing", "many"]) (k := 0) (mb := B_is_tuple_of) D sc fun f cdv A outer s H E z hr gu =>
    (ss_one (s_ret (d_and (d_isi (by rfl) T.b_isinstance (bw (d_var 0)) (pe_bltn (by rfl) T.b_tuple (by decide +kernel) rfl)) (d_one (d_cmp (op_eqD hr.units) l_eq (bw (d_callB call_len l_len (by rfl) T.b_len (by decide +kernel) (ab_cons (bw (d_var 0)) ab_nil))) (bw (d_var 1)) (nomark _))))))
abbrev s_is_name : Stmt := topS 23
theorem sc_is_name : FnScope ["thing", "sign"] ["thing"] (defScope s_is_name) := ⟨rfl, rfl, rfl, by decide +kernel, rfl, by decide +kernel, by decide +kernel⟩
def B_is_name : MS := (mSeq (mIf (mOr (mNot (mQ (mIsi "str" (mVar 0)))) (mNot (mQ (mChain gLe gLe (mC (PyData.int (1))) (mCall gLen (mCons (mVar 0) mNil)) (mC (PyData.int (8))))))) (mRet (mC (PyData.bool false))) mNext)
  (mRet (mAndV (mBin (gIn true) (mVar 0) (mC (PyData.tuple [(PyData.str "if"), (PyData.str "and")]))) (mCall gAll (mCons (mL (mLc [1] (mIt (mVar 0)) (gtName 1) mYes (mChain (gS fun i j => .bool (!decide (j.cps.toList < i.cps.toList))) (gS fun i j => .bool (!decide (j.cps.toList < i.cps.toList))) (mC (PyData.str "a")) (mVar 1) (mC (PyData.str "z"))))) mNil)))))
def M_is_name : MF := mFun 2 B_is_name
theorem ok_is_name (T : Bt K mg) (D : Def K mg "is_name" s_is_name ["thing"])  : Cal P w K mg base 1 "is_name" ["thing"] M_is_name :=
  have sc := sc_is_name
  cal (N := ["thing", "sign"]) (k := 0) (mb := B_is_name) D sc fun f cdv A outer s H E z hr gu =>
    (ss_cons (s_if (q_or (q_not (q_val (d_isi (by rfl) T.b_isinstance (bw (d_var 0)) (pe_bltn (by rfl) T.b_str (by decide +kernel) rfl)))) (q_or1 (q_not (q_chain op_le l_le op_le l_le (bw d_int) (bw (d_callB call_len l_len (by rfl) T.b_len (by decide +kernel) (ab_cons (bw (d_var 0)) ab_nil))) (bw (d_gint T.g_LETTERS)))))).pt (ss_one (s_ret d_bl)) ss_nil)
    (ss_one (s_ret (d_and (d_cmp (op_notInA (room65 hr)) l_in (bw (d_var 0)) (bw (d_gdat T.g_BARRED)) rfl) (d_one (d_callB (cr_all rfl) l_all (by rfl) T.b_all (by decide +kernel) (ab_cons (bw (fz (f_lc rfl sc.nd (i_seqE (ed (d_var 0))) (blkOk_by (own := [("sign", 1)]) (N := ["thing", "sign"]) (sc := defScope s_is_name) (by decide +kernel)) (fun _ _ _ _ _ => (g_name 1 sc.nd)) (fun _ _ _ _ _ => qs_nil) (fun _ _ _ _ _ => (d_chain op_le_str l_leS op_le_str l_leS (bw d_str) (bw (d_var 1)) (bw d_str)))))) ab_nil)))))))
abbrev s_is_row : Stmt := topS 31
theorem sc_is_row : FnScope ["thing", "part"] ["thing"] (defScope s_is_row) := ⟨rfl, rfl, rfl, by decide +kernel, rfl, by decide +kernel, by decide +kernel⟩
def B_is_row : MS := (mRet (mAndV (mOrV (mCf M_is_tuple_of (mAd (mVar 0) (mAd (mC (PyData.int (2))) mN0))) (mCf M_is_tuple_of (mAd (mVar 0) (mAd (mC (PyData.int (3))) mN0)))) (mCall gAll (mCons (mL (mLc [1] (mIt (mVar 0)) (gtName 1) mYes (mCf M_is_name (mAd (mVar 1) mN0)))) mNil))))
def M_is_row : MF := mFun 2 B_is_row
theorem ok_is_row (T : Bt K mg) (D : Def K mg "is_row" s_is_row ["thing"]) (C_is_name : Cal P w K mg base 1 "is_name" ["thing"] M_is_name) (C_is_tuple_of : Cal P w K mg base 1 "is_tuple_of" ["thing", "many"] M_is_tuple_of) : Cal P w K mg base 2 "is_row" ["thing"] M_is_row :=
  have sc := sc_is_row
  cal (N := ["thing", "part"]) (k := 1) (mb := B_is_row) D sc fun f cdv A outer s H E z hr gu =>
    (ss_one (s_ret (d_and (d_or (d_cal C_is_tuple_of (hr.mono (by decide)) gu (by rfl) (n_d (d_var 0) (n_d d_int n_nil)) (n_lenD (n_lenD n_len0))) (d_one (d_cal C_is_tuple_of (hr.mono (by decide)) gu (by rfl) (n_d (d_var 0) (n_d d_int n_nil)) (n_lenD (n_lenD n_len0))))) (d_one (d_callB (cr_all rfl) l_all (by rfl) T.b_all (by decide +kernel) (ab_cons (bw (fz (f_lc rfl sc.nd (i_seqE (ed (d_var 0))) (blkOk_by (own := [("part", 1)]) (N := ["thing", "part"]) (sc := defScope s_is_row) (by decide +kernel)) (fun _ _ _ _ _ => (g_name 1 sc.nd)) (fun _ _ _ _ _ => qs_nil) (fun _ _ _ _ _ => (d_cal C_is_name (hr.mono (by decide)) gu (by rfl) (n_d (d_var 1) n_nil) (n_lenD n_len0)))))) ab_nil))))))
abbrev s_are_rows : Stmt := topS 33
theorem sc_are_rows : FnScope ["thing", "row"] ["thing"] (defScope s_are_rows) := ⟨rfl, rfl, rfl, by decide +kernel, rfl, by decide +kernel, by decide +kernel⟩
def B_are_rows : MS := (mSeq (mIf (mOr (mNot (mQ (mIsi "tuple" (mVar 0)))) (mQ (mBin gGt (mCall gLen (mCons (mVar 0) mNil)) (mC (PyData.int (40)))))) (mRet (mC (PyData.bool false))) mNext)
  (mSeq (mIf (mNot (mQ (mCall gAll (mCons (mL (mLc [1] (mIt (mVar 0)) (gtName 1) mYes (mCf M_is_row (mAd (mVar 1) mN0)))) mNil)))) (mRet (mC (PyData.bool false))) mNext)
  (mRet (mAndV (mCf M_is_rising (mAd (mVar 0) mN0)) (mBin gLe (mCall gLen (mCons (mCf M_things_of (mAd (mVar 0) mN0)) mNil)) (mC (PyData.int (12))))))))
def M_are_rows : MF := mFun 2 B_are_rows
theorem ok_are_rows (T : Bt K mg) (D : Def K mg "are_rows" s_are_rows ["thing"]) (C_is_rising : Cal P w K mg base 1 "is_rising" ["things"] M_is_rising) (C_is_row : Cal P w K mg base 2 "is_row" ["thing"] M_is_row) (C_things_of : Cal P w K mg base 1 "things_of" ["rows"] M_things_of) : Cal P w K mg base 3 "are_rows" ["thing"] M_are_rows :=
  have sc := sc_are_rows
  cal (N := ["thing", "row"]) (k := 2) (mb := B_are_rows) D sc fun f cdv A outer s H E z hr gu =>
    (ss_cons (s_if (q_or (q_not (q_val (d_isi (by rfl) T.b_isinstance (bw (d_var 0)) (pe_bltn (by rfl) T.b_tuple (by decide +kernel) rfl)))) (q_or1 (q_cmp op_gt l_gt (bw (d_callB call_len l_len (by rfl) T.b_len (by decide +kernel) (ab_cons (bw (d_var 0)) ab_nil))) (bw (d_gint T.g_ROWS)) (nomark _)))).pt (ss_one (s_ret d_bl)) ss_nil)
    (ss_cons (s_if (q_not (q_val (d_callB (cr_all rfl) l_all (by rfl) T.b_all (by decide +kernel) (ab_cons (bw (fz (f_lc rfl sc.nd (i_seqE (ed (d_var 0))) (blkOk_by (own := [("row", 1)]) (N := ["thing", "row"]) (sc := defScope s_are_rows) (by decide +kernel)) (fun _ _ _ _ _ => (g_name 1 sc.nd)) (fun _ _ _ _ _ => qs_nil) (fun _ _ _ _ _ => (d_cal C_is_row (hr.mono (by decide)) gu (by rfl) (n_d (d_var 1) n_nil) (n_lenD n_len0)))))) ab_nil)))) (ss_one (s_ret d_bl)) ss_nil)
    (ss_one (s_ret (d_and (d_cal C_is_rising (hr.mono (by decide)) gu (by rfl) (n_d (d_var 0) n_nil) (n_lenD n_len0)) (d_one (d_cmp op_le l_le (bw (d_callB call_len l_len (by rfl) T.b_len (by decide +kernel) (ab_cons (bw (d_cal C_things_of (hr.mono (by decide)) gu (by rfl) (n_d (d_var 0) n_nil) (n_lenD n_len0))) ab_nil))) (bw (d_gint T.g_THINGS)) (nomark _))))))))
abbrev s_look_rows : Stmt := topS 36
theorem sc_look_rows : FnScope ["thing"] ["thing"] (defScope s_look_rows) := ⟨rfl, rfl, rfl, by decide +kernel, rfl, by decide +kernel, by decide +kernel⟩
def B_look_rows : MS := (mSeq (mIf (mNot (mQ (mCf M_are_rows (mAd (mVar 0) mN0)))) mNo mNext)
  (mRet (mC (PyData.bool true))))
def M_look_rows : MF := mFun 1 B_look_rows
theorem ok_look_rows (T : Bt K mg) (D : Def K mg "look_rows" s_look_rows ["thing"]) (C_are_rows : Cal P w K mg base 3 "are_rows" ["thing"] M_are_rows) : Cal P w K mg base 4 "look_rows" ["thing"] M_look_rows :=
  have sc := sc_look_rows
  cal (N := ["thing"]) (k := 3) (mb := B_look_rows) D sc fun f cdv A outer s H E z hr gu =>
    (ss_cons (s_if (q_not (q_val (d_cal C_are_rows (hr.mono (by decide)) gu (by rfl) (n_d (d_var 0) n_nil) (n_lenD n_len0)))) (ss_one s_never) ss_nil)
    (ss_one (s_ret d_bl)))
abbrev s_look_rules : Stmt := topS 35
theorem sc_look_rules : FnScope ["thing", "number", "rule"] ["thing"] (defScope s_look_rules) := ⟨rfl, rfl, rfl, by decide +kernel, rfl, by decide +kernel, by decide +kernel⟩
def B_look_rules : MS := (mSeq (mIf (mOr (mNot (mQ (mIsi "tuple" (mVar 0)))) (mQ (mBin gGt (mCall gLen (mCons (mVar 0) mNil)) (mC (PyData.int (24)))))) mNo mNext)
  (mSeq (mFor (mEnT (mVar 0)) (gtTup 2 (gtCons (gtName 1) (gtCons (gtName 2) gtNil))) mNo)
  (mRet (mC (PyData.bool true)))))
def M_look_rules : MF := mFun 3 B_look_rules
theorem ok_look_rules (T : Bt K mg) (D : Def K mg "look_rules" s_look_rules ["thing"])  : Cal P w K mg base 1 "look_rules" ["thing"] M_look_rules :=
  have sc := sc_look_rules
  cal (N := ["thing", "number", "rule"]) (k := 0) (mb := B_look_rules) D sc fun f cdv A outer s H E z hr gu =>
    (ss_cons (s_if (q_or (q_not (q_val (d_isi (by rfl) T.b_isinstance (bw (d_var 0)) (pe_bltn (by rfl) T.b_tuple (by decide +kernel) rfl)))) (q_or1 (q_cmp op_gt l_gt (bw (d_callB call_len l_len (by rfl) T.b_len (by decide +kernel) (ab_cons (bw (d_var 0)) ab_nil))) (bw (d_gint T.g_RULES)) (nomark _)))).pt (ss_one s_never) ss_nil)
    (ss_cons (s_for PassesOwn.never rfl (i_enT (by rfl) T.b_enumerate (d_var 0)) (g_tup rfl (gs_cons (g_name 1 sc.nd) (gs_cons (g_name 2 sc.nd) gs_nil))) ss_never)
    (ss_one (s_ret d_bl))))
abbrev s_law : Stmt := topS 39
theorem sc_law : FnScope ["_law_script", "_law_told", "_law_due", "_law_begin", "_law_cell"] ["_law_script"] (defScope s_law) := ⟨rfl, rfl, rfl, by decide +kernel, rfl, by decide +kernel, by decide +kernel⟩
def B_law : MS := (mSeq (mSet 1 (mL (mLst (mCons (mC (PyData.int (24))) (mCons (mC (PyData.int (4))) (mCons (mC (PyData.int (40))) (mCons (mC (PyData.int (12))) (mCons (mC (PyData.int (5))) (mCons (mC (PyData.int (4))) (mCons (mC (PyData.int (6))) (mCons (mC (PyData.int (40))) (mCons (mC (PyData.int (3))) (mCons (mC (PyData.int (400))) (mCons (mC (PyData.int (8))) (mCons (mC (PyData.int (100))) (mCons (mC (PyData.int (400))) mNil))))))))))))))))
  (mSeq (mSet 2 (mL (mLst (mCons (mC (PyData.int (24))) (mCons (mC (PyData.int (4))) (mCons (mC (PyData.int (40))) (mCons (mC (PyData.int (12))) (mCons (mC (PyData.int (5))) (mCons (mC (PyData.int (4))) (mCons (mC (PyData.int (6))) (mCons (mC (PyData.int (40))) (mCons (mC (PyData.int (3))) (mCons (mC (PyData.int (400))) (mCons (mC (PyData.int (8))) (mCons (mC (PyData.int (100))) (mCons (mC (PyData.int (400))) mNil))))))))))))))))
  (mSeq (mSet 3 (mBin gMod (mCall gSum (mCons (mL (mLc [4] (mIt (mVar 0)) (gtName 4) mYes (mCall gAbs (mCons (mVar 4) mNil)))) mNil)) (mC (PyData.int (13)))))
  (mSeq (mIf (mQ (mBin gNe (mCall gRepr (mCons (mL (mCatF (mSlF (mVar 1) (mP (mVar 3)) mP0) (mSlF (mVar 1) mP0 (mP (mVar 3))))) mNil)) (mCall gRepr (mCons (mL (mCatF (mSlF (mVar 2) (mP (mVar 3)) mP0) (mSlF (mVar 2) mP0 (mP (mVar 3))))) mNil)))) (mRet (mC (PyData.bool false))) mNext)
  (mRet (mAndV (mBin gEq (mCall gRepr (mCons (mC (PyData.tuple [])) mNil)) (mC (PyData.str "()"))) (mAndV (mBin gIs (mCf M_look_rows (mAd (mC (PyData.tuple [])) mN0)) (mC (PyData.bool true))) (mBin gIs (mCf M_look_rules (mAd (mC (PyData.tuple [])) mN0)) (mC (PyData.bool true))))))))))
def M_law : MF := mFun 5 B_law
theorem der_law (T : Bt K mg) (C_look_rows : Cal P w K mg base 4 "look_rows" ["thing"] M_look_rows) (C_look_rules : Cal P w K mg base 1 "look_rules" ["thing"] M_look_rules) (cdv : Value) (A : Around) (outer : List Env) (s : Shared) (H : Hp) (E : XK) (z : Cz) {f : Addr} (hr : Room 4 (A.deeper (envOfC "law" (defScope s_law) s.heap.objs.size f cdv))) (gu : A.guards = some []) :
    PSs (cxOf CX0 P w K mg base ["_law_script", "_law_told", "_law_due", "_law_begin", "_law_cell"] "law" (defScope s_law) f cdv A outer s H E).nox (defBody s_law) (tS z K B_law) :=
  have sc := sc_law
  (ss_cons (s_set 1 sc.nd (fz (f_lst (a_cons (d_gint T.g_RULES) (a_cons (d_gint T.g_SOMES) (a_cons (d_gint T.g_ROWS) (a_cons (d_gint T.g_THINGS) (a_cons (d_gint T.g_ATOMS) (a_cons (d_gint T.g_UNKNOWNS) (a_cons (d_gint T.g_SHORTS) (a_cons (d_gint T.g_LOT) (a_cons (d_gint T.g_DEPTH) (a_cons (d_gint T.g_GROWN) (a_cons (d_gint T.g_ASKED) (a_cons (d_gint T.g_DEEDS) (a_cons (d_gint T.g_LINES) a_nil))))))))))))))))
    (ss_cons (s_set 2 sc.nd (fz (f_lst (a_cons d_int (a_cons d_int (a_cons d_int (a_cons d_int (a_cons d_int (a_cons d_int (a_cons d_int (a_cons d_int (a_cons d_int (a_cons d_int (a_cons d_int (a_cons d_int (a_cons d_int a_nil))))))))))))))))
    (ss_cons (s_set 3 sc.nd (d_op op_mod l_mod (bw (d_callB (cr_sum rfl) l_sum (by rfl) T.b_sum (by decide +kernel) (ab_cons (bw (fz (f_lc rfl sc.nd (i_seqE (ed (d_var 0))) (blkOk_by (own := [("_law_cell", 4)]) (N := ["_law_script", "_law_told", "_law_due", "_law_begin", "_law_cell"]) (sc := defScope s_law) (by decide +kernel)) (fun _ _ _ _ _ => (g_name 4 sc.nd)) (fun _ _ _ _ _ => qs_nil) (fun _ _ _ _ _ => (d_callB call_abs l_abs (by rfl) T.b_abs (by decide +kernel) (ab_cons (bw (d_var 4)) ab_nil)))))) ab_nil))) (bw d_int)))
    (ss_cons (s_if (q_cmp (op_neD hr.units) l_ne (bw (d_callB (call_reprD gu hr.units) l_repr (by rfl) T.b_repr (by decide +kernel) (ab_cons (bw (fz (f_cat (f_slice (ed (d_var 1)) (p_some (bw (d_var 3))) p_none) (f_slice (ed (d_var 1)) p_none (p_some (bw (d_var 3))))))) ab_nil))) (bw (d_callB (call_reprD gu hr.units) l_repr (by rfl) T.b_repr (by decide +kernel) (ab_cons (bw (fz (f_cat (f_slice (ed (d_var 2)) (p_some (bw (d_var 3))) p_none) (f_slice (ed (d_var 2)) p_none (p_some (bw (d_var 3))))))) ab_nil))) (nomark _)) (ss_one (s_ret d_bl)) ss_nil)
    (ss_one (s_ret (d_and (d_cmp (op_eqD hr.units) l_eq (bw (d_callB (call_reprD gu hr.units) l_repr (by rfl) T.b_repr (by decide +kernel) (ab_cons (bw (d_gdat T.g_NONE)) ab_nil))) (bw d_str) (nomark _)) (d_and (d_cmp op_isBl l_is (bw (d_cal C_look_rows (hr.mono (by decide)) gu (by rfl) (n_d (d_gdat T.g_NONE) n_nil) (n_lenD n_len0))) (bw d_bl) (nomark _)) (d_one (d_cmp op_isBl l_is (bw (d_cal C_look_rules (hr.mono (by decide)) gu (by rfl) (n_d (d_gdat T.g_NONE) n_nil) (n_lenD n_len0))) (bw d_bl) (nomark _)))))))))))
end
end K91

set_option Elab.async false
set_option linter.all false
set_option maxRecDepth 100000
set_option maxHeartbeats 1000000
namespace K91
open PySem PySem.Spec PyProof.Rows L2 LQ
theorem abs_loop (T : Dk) (a b c d : Option Sl) : ∀ ns : List Int, mLoop (gtName 4) mYes (mCall gAbs (mCons (mVar 4) mNil)) [a, b, c, d, none] (ns.map PyData.int) T = some (ns.map fun i => PyData.int (if i < 0 then -i else i), T)
  | [] => rfl
  | n :: ns => by
    show ((mLoop (gtName 4) mYes (mCall gAbs (mCons (mVar 4) mNil)) [a, b, c, d, none] (ns.map PyData.int) T).map fun r => (PyData.int (if n < 0 then -n else n) :: r.1, r.2)) = _
    rw [abs_loop T a b c d ns]
    rfl
def tl : MS := (mSeq (mIf (mQ (mBin gNe (mCall gRepr (mCons (mL (mCatF (mSlF (mVar 1) (mP (mVar 3)) mP0) (mSlF (mVar 1) mP0 (mP (mVar 3))))) mNil)) (mCall gRepr (mCons (mL (mCatF (mSlF (mVar 2) (mP (mVar 3)) mP0) (mSlF (mVar 2) mP0 (mP (mVar 3))))) mNil)))) (mRet (mC (PyData.bool false))) mNext)
  (mRet (mAndV (mBin gEq (mCall gRepr (mCons (mC (PyData.tuple [])) mNil)) (mC (PyData.str "()"))) (mAndV (mBin gIs (mCf M_look_rows (mAd (mC (PyData.tuple [])) mN0)) (mC (PyData.bool true))) (mBin gIs (mCf M_look_rules (mAd (mC (PyData.tuple [])) mN0)) (mC (PyData.bool true)))))))
def bs : PyData := .list [.int 24, .int 4, .int 40, .int 12, .int 5, .int 4, .int 6, .int 40, .int 3, .int 400, .int 8, .int 100, .int 400]
theorem t0 (x : Sl) (T : Dk) : tl [some x, some (.dat bs), some (.dat bs), some (.dat (.int 0)), none] T = some (.rt (.bool true) T) := by kernel_rfl
theorem t1 (x : Sl) (T : Dk) : tl [some x, some (.dat bs), some (.dat bs), some (.dat (.int 1)), none] T = some (.rt (.bool true) T) := by kernel_rfl
theorem t2 (x : Sl) (T : Dk) : tl [some x, some (.dat bs), some (.dat bs), some (.dat (.int 2)), none] T = some (.rt (.bool true) T) := by kernel_rfl
theorem t3 (x : Sl) (T : Dk) : tl [some x, some (.dat bs), some (.dat bs), some (.dat (.int 3)), none] T = some (.rt (.bool true) T) := by kernel_rfl
theorem t4 (x : Sl) (T : Dk) : tl [some x, some (.dat bs), some (.dat bs), some (.dat (.int 4)), none] T = some (.rt (.bool true) T) := by kernel_rfl
theorem t5 (x : Sl) (T : Dk) : tl [some x, some (.dat bs), some (.dat bs), some (.dat (.int 5)), none] T = some (.rt (.bool true) T) := by kernel_rfl
theorem t6 (x : Sl) (T : Dk) : tl [some x, some (.dat bs), some (.dat bs), some (.dat (.int 6)), none] T = some (.rt (.bool true) T) := by kernel_rfl
theorem t7 (x : Sl) (T : Dk) : tl [some x, some (.dat bs), some (.dat bs), some (.dat (.int 7)), none] T = some (.rt (.bool true) T) := by kernel_rfl
theorem t8 (x : Sl) (T : Dk) : tl [some x, some (.dat bs), some (.dat bs), some (.dat (.int 8)), none] T = some (.rt (.bool true) T) := by kernel_rfl
theorem t9 (x : Sl) (T : Dk) : tl [some x, some (.dat bs), some (.dat bs), some (.dat (.int 9)), none] T = some (.rt (.bool true) T) := by kernel_rfl
theorem t10 (x : Sl) (T : Dk) : tl [some x, some (.dat bs), some (.dat bs), some (.dat (.int 10)), none] T = some (.rt (.bool true) T) := by kernel_rfl
theorem t11 (x : Sl) (T : Dk) : tl [some x, some (.dat bs), some (.dat bs), some (.dat (.int 11)), none] T = some (.rt (.bool true) T) := by kernel_rfl
theorem t12 (x : Sl) (T : Dk) : tl [some x, some (.dat bs), some (.dat bs), some (.dat (.int 12)), none] T = some (.rt (.bool true) T) := by kernel_rfl
theorem tl_all (x : Sl) (T : Dk) (b : Int) (h0 : 0 ≤ b) (h1 : b < 13) : tl [some x, some (.dat bs), some (.dat bs), some (.dat (.int b)), none] T = some (.rt (.bool true) T) := by
  have q : b = 0 ∨ b = 1 ∨ b = 2 ∨ b = 3 ∨ b = 4 ∨ b = 5 ∨ b = 6 ∨ b = 7 ∨ b = 8 ∨ b = 9 ∨ b = 10 ∨ b = 11 ∨ b = 12 := by omega
  rcases q with rfl | rfl | rfl | rfl | rfl | rfl | rfl | rfl | rfl | rfl | rfl | rfl | rfl
  · exact t0 x T
  · exact t1 x T
  · exact t2 x T
  · exact t3 x T
  · exact t4 x T
  · exact t5 x T
  · exact t6 x T
  · exact t7 x T
  · exact t8 x T
  · exact t9 x T
  · exact t10 x T
  · exact t11 x T
  · exact t12 x T
theorem sum_abs : ∀ ns : List Int, intsOf (ns.map fun i => PyData.int (if i < 0 then -i else i)) = some (ns.map fun i => if i < 0 then -i else i)
  | [] => rfl
  | n :: ns => by
    show (intsOf (ns.map fun i => PyData.int (if i < 0 then -i else i))).map _ = _
    rw [sum_abs ns]
    rfl
theorem begin_val (ns : List Int) (hl : ns.length ≤ 63) (T : Dk) : (mBin gMod (mCall gSum (mCons (mL (mLc [4] (mIt (mVar 0)) (gtName 4) mYes (mCall gAbs (mCons (mVar 4) mNil)))) mNil)) (mC (PyData.int (13)))) [some (.dat (.list (ns.map PyData.int))), some (.dat bs), some (.dat bs), none, none] T
    = some (.int ((ns.map fun i => if i < 0 then -i else i).sum % 13), T) := by
  have e1 : mLc [4] (mIt (mVar 0)) (gtName 4) mYes (mCall gAbs (mCons (mVar 4) mNil)) [some (.dat (.list (ns.map PyData.int))), some (.dat bs), some (.dat bs), none, none] T = some (ns.map fun i => PyData.int (if i < 0 then -i else i), T) := by
    show (if (ns.map PyData.int).length ≤ 16777216 then _ else none) = _
    rw [if_pos (by rw [List.length_map]; omega)]
    exact abs_loop T _ _ _ _ ns
  have e2 : mL (mLc [4] (mIt (mVar 0)) (gtName 4) mYes (mCall gAbs (mCons (mVar 4) mNil))) [some (.dat (.list (ns.map PyData.int))), some (.dat bs), some (.dat bs), none, none] T = some (.list (ns.map fun i => PyData.int (if i < 0 then -i else i)), T) := by
    unfold mL
    rw [e1]
    rfl
  refine ev_bin (ev_call1 e2 (b := .int (ns.map fun i => if i < 0 then -i else i).sum) ?_) (d2 := .int 13) rfl ?_
  · show (intsOf (ns.map fun i => PyData.int (if i < 0 then -i else i))).map _ = _
    rw [sum_abs ns]
    rfl
  · rfl
theorem law_val (ns : List Int) (hl : ns.length ≤ 63) (T : Dk) : ∃ T', M_law [.dat (.list (ns.map PyData.int))] T = some (.bool true, T') := by
  refine ⟨T, ?_⟩
  have e := begin_val ns hl T
  have q := tl_all (.dat (.list (ns.map PyData.int))) T ((ns.map fun i => if i < 0 then -i else i).sum % 13) (Int.emod_nonneg _ (by decide)) (Int.emod_lt_of_pos _ (by decide))
  have r : B_law [some (.dat (.list (ns.map PyData.int))), none, none, none, none] T = some (.rt (.bool true) T) := by
    show (((mBin gMod (mCall gSum (mCons (mL (mLc [4] (mIt (mVar 0)) (gtName 4) mYes (mCall gAbs (mCons (mVar 4) mNil)))) mNil)) (mC (PyData.int (13)))) [some (.dat (.list (ns.map PyData.int))), some (.dat bs), some (.dat bs), none, none] T).map fun p => Res.nx ([some (Sl.dat (.list (ns.map PyData.int))), some (.dat bs), some (.dat bs), none, none].set 3 (some (.dat p.1))) p.2).bind (fun r => match r with
      | .nx en' T' => tl en' T'
      | r => some r) = _
    rw [e]
    exact q
  show (match B_law [some (.dat (.list (ns.map PyData.int))), none, none, none, none] T with
    | some (.rt d T') => some (d, T')
    | some (.nx _ T') => some (.none, T')
    | _ => none) = _
  rw [r]
end K91

set_option Elab.async false
set_option linter.all false
set_option maxRecDepth 100000
set_option maxHeartbeats 2000000
namespace K91
open PySem PySem.Spec PyProof.Rows L2 LQ
theorem all_mk {P : Program} {w : World} {K : PySem.W.Frag} {h : Heap} {mg : Str → Option Value} {fa : Addr} (X : K.In h) (G : h.Ns mainGlobals mg) (hfa : mg "law" = some (.ref fa))
    {t_ASKED : Tok}
    {t_ATOMS : Tok}
    {p_BARRED : Addr} {dd_BARRED : Option Addr} {q_BARRED : Nat} {sl_BARRED : Array (Option Value)} {t_BARRED_0 t_BARRED_1 : Tok}
    {t_DEEDS : Tok}
    {t_DEPTH : Tok}
    {t_GROWN : Tok}
    {t_LETTERS : Tok}
    {t_LINES : Tok}
    {t_LOT : Tok}
    {p_NONE : Addr} {dd_NONE : Option Addr} {q_NONE : Nat} {sl_NONE : Array (Option Value)}
    {t_ROWS : Tok}
    {t_RULES : Tok}
    {t_SHORTS : Tok}
    {t_SOMES : Tok}
    {t_THINGS : Tok}
    {t_UNKNOWNS : Tok}
    {f_is_rising : Addr} {oc_is_rising kV_is_rising dc_is_rising pm_is_rising cd_is_rising ct_is_rising : Value} {od_is_rising an_is_rising : Option Addr} {os_is_rising : Array (Option Value)}
    {f_things_of : Addr} {oc_things_of kV_things_of dc_things_of pm_things_of cd_things_of ct_things_of : Value} {od_things_of an_things_of : Option Addr} {os_things_of : Array (Option Value)}
    {f_is_tuple_of : Addr} {oc_is_tuple_of kV_is_tuple_of dc_is_tuple_of pm_is_tuple_of cd_is_tuple_of ct_is_tuple_of : Value} {od_is_tuple_of an_is_tuple_of : Option Addr} {os_is_tuple_of : Array (Option Value)}
    {f_is_name : Addr} {oc_is_name kV_is_name dc_is_name pm_is_name cd_is_name ct_is_name : Value} {od_is_name an_is_name : Option Addr} {os_is_name : Array (Option Value)}
    {f_is_row : Addr} {oc_is_row kV_is_row dc_is_row pm_is_row cd_is_row ct_is_row : Value} {od_is_row an_is_row : Option Addr} {os_is_row : Array (Option Value)}
    {f_are_rows : Addr} {oc_are_rows kV_are_rows dc_are_rows pm_are_rows cd_are_rows ct_are_rows : Value} {od_are_rows an_are_rows : Option Addr} {os_are_rows : Array (Option Value)}
    {f_look_rows : Addr} {oc_look_rows kV_look_rows dc_look_rows pm_look_rows cd_look_rows ct_look_rows : Value} {od_look_rows an_look_rows : Option Addr} {os_look_rows : Array (Option Value)}
    {f_look_rules : Addr} {oc_look_rules kV_look_rules dc_look_rules pm_look_rules cd_look_rules ct_look_rules : Value} {od_look_rules an_look_rules : Option Addr} {os_look_rules : Array (Option Value)}
    {f_law : Addr} {oc_law kV_law dc_law pm_law cd_law ct_law : Value} {od_law an_law : Option Addr} {os_law : Array (Option Value)}
    (z_abs : PySem.W.nsIn K mainGlobals "abs" = some none)
    (z_all : PySem.W.nsIn K mainGlobals "all" = some none)
    (z_enumerate : PySem.W.nsIn K mainGlobals "enumerate" = some none)
    (z_isinstance : PySem.W.nsIn K mainGlobals "isinstance" = some none)
    (z_len : PySem.W.nsIn K mainGlobals "len" = some none)
    (z_range : PySem.W.nsIn K mainGlobals "range" = some none)
    (z_repr : PySem.W.nsIn K mainGlobals "repr" = some none)
    (z_sorted : PySem.W.nsIn K mainGlobals "sorted" = some none)
    (z_str : PySem.W.nsIn K mainGlobals "str" = some none)
    (z_sum : PySem.W.nsIn K mainGlobals "sum" = some none)
    (z_tuple : PySem.W.nsIn K mainGlobals "tuple" = some none)
    (n_ASKED : PySem.W.nsIn K mainGlobals "ASKED" = some (some (.int (8) t_ASKED)))
    (n_ATOMS : PySem.W.nsIn K mainGlobals "ATOMS" = some (some (.int (5) t_ATOMS)))
    (n_BARRED : PySem.W.nsIn K mainGlobals "BARRED" = some (some (.ref p_BARRED)))
    (l_BARRED : K.lookup p_BARRED = some ⟨.type "tuple", dd_BARRED, .seq #[.str "if" t_BARRED_0, .str "and" t_BARRED_1] q_BARRED, sl_BARRED⟩)
    (n_DEEDS : PySem.W.nsIn K mainGlobals "DEEDS" = some (some (.int (100) t_DEEDS)))
    (n_DEPTH : PySem.W.nsIn K mainGlobals "DEPTH" = some (some (.int (3) t_DEPTH)))
    (n_GROWN : PySem.W.nsIn K mainGlobals "GROWN" = some (some (.int (400) t_GROWN)))
    (n_LETTERS : PySem.W.nsIn K mainGlobals "LETTERS" = some (some (.int (8) t_LETTERS)))
    (n_LINES : PySem.W.nsIn K mainGlobals "LINES" = some (some (.int (400) t_LINES)))
    (n_LOT : PySem.W.nsIn K mainGlobals "LOT" = some (some (.int (40) t_LOT)))
    (n_NONE : PySem.W.nsIn K mainGlobals "NONE" = some (some (.ref p_NONE)))
    (l_NONE : K.lookup p_NONE = some ⟨.type "tuple", dd_NONE, .seq #[] q_NONE, sl_NONE⟩)
    (n_ROWS : PySem.W.nsIn K mainGlobals "ROWS" = some (some (.int (40) t_ROWS)))
    (n_RULES : PySem.W.nsIn K mainGlobals "RULES" = some (some (.int (24) t_RULES)))
    (n_SHORTS : PySem.W.nsIn K mainGlobals "SHORTS" = some (some (.int (6) t_SHORTS)))
    (n_SOMES : PySem.W.nsIn K mainGlobals "SOMES" = some (some (.int (4) t_SOMES)))
    (n_THINGS : PySem.W.nsIn K mainGlobals "THINGS" = some (some (.int (12) t_THINGS)))
    (n_UNKNOWNS : PySem.W.nsIn K mainGlobals "UNKNOWNS" = some (some (.int (4) t_UNKNOWNS)))
    (a_is_rising : PySem.W.nsIn K mainGlobals "is_rising" = some (some (.ref f_is_rising))) (l_is_rising : K.lookup f_is_rising = some ⟨oc_is_rising, od_is_rising, .func (PySem.W.fnOf "is_rising" "is_rising" (defArgs s_is_rising) (defBody s_is_rising) (defScope s_is_rising) .none kV_is_rising dc_is_rising pm_is_rising an_is_rising cd_is_rising ct_is_rising), os_is_rising⟩) (c_is_rising : PySem.W.codeIn K cd_is_rising "is_rising" = true) (k_is_rising : PySem.W.keepIn K (.ref f_is_rising) = true)
    (a_things_of : PySem.W.nsIn K mainGlobals "things_of" = some (some (.ref f_things_of))) (l_things_of : K.lookup f_things_of = some ⟨oc_things_of, od_things_of, .func (PySem.W.fnOf "things_of" "things_of" (defArgs s_things_of) (defBody s_things_of) (defScope s_things_of) .none kV_things_of dc_things_of pm_things_of an_things_of cd_things_of ct_things_of), os_things_of⟩) (c_things_of : PySem.W.codeIn K cd_things_of "things_of" = true) (k_things_of : PySem.W.keepIn K (.ref f_things_of) = true)
    (a_is_tuple_of : PySem.W.nsIn K mainGlobals "is_tuple_of" = some (some (.ref f_is_tuple_of))) (l_is_tuple_of : K.lookup f_is_tuple_of = some ⟨oc_is_tuple_of, od_is_tuple_of, .func (PySem.W.fnOf "is_tuple_of" "is_tuple_of" (defArgs s_is_tuple_of) (defBody s_is_tuple_of) (defScope s_is_tuple_of) .none kV_is_tuple_of dc_is_tuple_of pm_is_tuple_of an_is_tuple_of cd_is_tuple_of ct_is_tuple_of), os_is_tuple_of⟩) (c_is_tuple_of : PySem.W.codeIn K cd_is_tuple_of "is_tuple_of" = true) (k_is_tuple_of : PySem.W.keepIn K (.ref f_is_tuple_of) = true)
    (a_is_name : PySem.W.nsIn K mainGlobals "is_name" = some (some (.ref f_is_name))) (l_is_name : K.lookup f_is_name = some ⟨oc_is_name, od_is_name, .func (PySem.W.fnOf "is_name" "is_name" (defArgs s_is_name) (defBody s_is_name) (defScope s_is_name) .none kV_is_name dc_is_name pm_is_name an_is_name cd_is_name ct_is_name), os_is_name⟩) (c_is_name : PySem.W.codeIn K cd_is_name "is_name" = true) (k_is_name : PySem.W.keepIn K (.ref f_is_name) = true)
    (a_is_row : PySem.W.nsIn K mainGlobals "is_row" = some (some (.ref f_is_row))) (l_is_row : K.lookup f_is_row = some ⟨oc_is_row, od_is_row, .func (PySem.W.fnOf "is_row" "is_row" (defArgs s_is_row) (defBody s_is_row) (defScope s_is_row) .none kV_is_row dc_is_row pm_is_row an_is_row cd_is_row ct_is_row), os_is_row⟩) (c_is_row : PySem.W.codeIn K cd_is_row "is_row" = true) (k_is_row : PySem.W.keepIn K (.ref f_is_row) = true)
    (a_are_rows : PySem.W.nsIn K mainGlobals "are_rows" = some (some (.ref f_are_rows))) (l_are_rows : K.lookup f_are_rows = some ⟨oc_are_rows, od_are_rows, .func (PySem.W.fnOf "are_rows" "are_rows" (defArgs s_are_rows) (defBody s_are_rows) (defScope s_are_rows) .none kV_are_rows dc_are_rows pm_are_rows an_are_rows cd_are_rows ct_are_rows), os_are_rows⟩) (c_are_rows : PySem.W.codeIn K cd_are_rows "are_rows" = true) (k_are_rows : PySem.W.keepIn K (.ref f_are_rows) = true)
    (a_look_rows : PySem.W.nsIn K mainGlobals "look_rows" = some (some (.ref f_look_rows))) (l_look_rows : K.lookup f_look_rows = some ⟨oc_look_rows, od_look_rows, .func (PySem.W.fnOf "look_rows" "look_rows" (defArgs s_look_rows) (defBody s_look_rows) (defScope s_look_rows) .none kV_look_rows dc_look_rows pm_look_rows an_look_rows cd_look_rows ct_look_rows), os_look_rows⟩) (c_look_rows : PySem.W.codeIn K cd_look_rows "look_rows" = true) (k_look_rows : PySem.W.keepIn K (.ref f_look_rows) = true)
    (a_look_rules : PySem.W.nsIn K mainGlobals "look_rules" = some (some (.ref f_look_rules))) (l_look_rules : K.lookup f_look_rules = some ⟨oc_look_rules, od_look_rules, .func (PySem.W.fnOf "look_rules" "look_rules" (defArgs s_look_rules) (defBody s_look_rules) (defScope s_look_rules) .none kV_look_rules dc_look_rules pm_look_rules an_look_rules cd_look_rules ct_look_rules), os_look_rules⟩) (c_look_rules : PySem.W.codeIn K cd_look_rules "look_rules" = true) (k_look_rules : PySem.W.keepIn K (.ref f_look_rules) = true)
    (a_law : PySem.W.nsIn K mainGlobals "law" = some (some (.ref f_law))) (l_law : K.lookup f_law = some ⟨oc_law, od_law, .func (PySem.W.fnOf "law" "law" (defArgs s_law) (defBody s_law) (defScope s_law) .none kV_law dc_law pm_law an_law cd_law ct_law), os_law⟩) (c_law : PySem.W.codeIn K cd_law "law" = true) (k_law : PySem.W.keepIn K (.ref f_law) = true)
    (hM : ∀ ns : List Int, ns.length ≤ 63 → ∀ T, ∃ T', M_law [.dat (.list (ns.map PyData.int))] T = some (.bool true, T')) :
    ∃ fd : FuncData, (∀ (s : Shared) (v : Value), BindsTo s fd ⟨[v], []⟩ [("_law_script", v)]) ∧ ∀ base : Heap, K.In base → base.Ns mainGlobals mg → FnG P w K mg base CX0 5 fa fd ["_law_script"] (spLaw K) := by
  have T : Bt K mg := ⟨PySem.W.mg_none_of X G z_abs, PySem.W.mg_none_of X G z_all, PySem.W.mg_none_of X G z_enumerate, PySem.W.mg_none_of X G z_isinstance, PySem.W.mg_none_of X G z_len, PySem.W.mg_none_of X G z_range, PySem.W.mg_none_of X G z_repr, PySem.W.mg_none_of X G z_sorted, PySem.W.mg_none_of X G z_str, PySem.W.mg_none_of X G z_sum, PySem.W.mg_none_of X G z_tuple, gint_mk X G n_ASKED, gint_mk X G n_ATOMS, gdat_mk (xs := [.str "if", .str "and"]) X G n_BARRED l_BARRED rfl rfl (by show 2 ≤ sizeLine; decide) (.cons ⟨_, rfl⟩ (.cons ⟨_, rfl⟩ .nil)) (fun _ => (.cons (.str _) (.cons (.str _) .nil))), gint_mk X G n_DEEDS, gint_mk X G n_DEPTH, gint_mk X G n_GROWN, gint_mk X G n_LETTERS, gint_mk X G n_LINES, gint_mk X G n_LOT, gdat_mk (xs := []) X G n_NONE l_NONE rfl rfl (by show 0 ≤ sizeLine; decide) .nil (fun _ => .nil), gint_mk X G n_ROWS, gint_mk X G n_RULES, gint_mk X G n_SHORTS, gint_mk X G n_SOMES, gint_mk X G n_THINGS, gint_mk X G n_UNKNOWNS⟩
  have D_is_rising : Def K mg "is_rising" s_is_rising ["things"] := def_mk X G a_is_rising l_is_rising c_is_rising k_is_rising fun _ _ _ _ _ _ us hl => match us, hl with | [_], _ => rfl
  have D_things_of : Def K mg "things_of" s_things_of ["rows"] := def_mk X G a_things_of l_things_of c_things_of k_things_of fun _ _ _ _ _ _ us hl => match us, hl with | [_], _ => rfl
  have D_is_tuple_of : Def K mg "is_tuple_of" s_is_tuple_of ["thing", "many"] := def_mk X G a_is_tuple_of l_is_tuple_of c_is_tuple_of k_is_tuple_of fun _ _ _ _ _ _ us hl => match us, hl with | [_, _], _ => rfl
  have D_is_name : Def K mg "is_name" s_is_name ["thing"] := def_mk X G a_is_name l_is_name c_is_name k_is_name fun _ _ _ _ _ _ us hl => match us, hl with | [_], _ => rfl
  have D_is_row : Def K mg "is_row" s_is_row ["thing"] := def_mk X G a_is_row l_is_row c_is_row k_is_row fun _ _ _ _ _ _ us hl => match us, hl with | [_], _ => rfl
  have D_are_rows : Def K mg "are_rows" s_are_rows ["thing"] := def_mk X G a_are_rows l_are_rows c_are_rows k_are_rows fun _ _ _ _ _ _ us hl => match us, hl with | [_], _ => rfl
  have D_look_rows : Def K mg "look_rows" s_look_rows ["thing"] := def_mk X G a_look_rows l_look_rows c_look_rows k_look_rows fun _ _ _ _ _ _ us hl => match us, hl with | [_], _ => rfl
  have D_look_rules : Def K mg "look_rules" s_look_rules ["thing"] := def_mk X G a_look_rules l_look_rules c_look_rules k_look_rules fun _ _ _ _ _ _ us hl => match us, hl with | [_], _ => rfl
  have D_law : Def K mg "law" s_law ["_law_script"] := def_mk X G a_law l_law c_law k_law fun _ _ _ _ _ _ us hl => match us, hl with | [_], _ => rfl
  have e := hfa.symm.trans (PySem.W.mg_of X G a_law)
  cases e
  refine ⟨PySem.W.fnOf "law" "law" (defArgs s_law) (defBody s_law) (defScope s_law) .none kV_law dc_law pm_law an_law cd_law ct_law, fun s v => .of_eq rfl, fun base _ _ => ?_⟩
  have C_is_rising := ok_is_rising (P := P) (w := w) (base := base) T D_is_rising 
  have C_things_of := ok_things_of (P := P) (w := w) (base := base) T D_things_of 
  have C_is_tuple_of := ok_is_tuple_of (P := P) (w := w) (base := base) T D_is_tuple_of 
  have C_is_name := ok_is_name (P := P) (w := w) (base := base) T D_is_name 
  have C_is_row := ok_is_row (P := P) (w := w) (base := base) T D_is_row C_is_name C_is_tuple_of
  have C_are_rows := ok_are_rows (P := P) (w := w) (base := base) T D_are_rows C_is_rising C_is_row C_things_of
  have C_look_rows := ok_look_rows (P := P) (w := w) (base := base) T D_look_rows C_are_rows
  have C_look_rules := ok_look_rules (P := P) (w := w) (base := base) T D_look_rules 
  exact law_mk (fnDG (N := ["_law_script", "_law_told", "_law_due", "_law_begin", "_law_cell"]) (k := 4) (mb := B_law) (fun_mk l_law c_law k_law) sc_law (fun cdv A outer s H E z hr gu => der_law T C_look_rows C_look_rules cdv A outer s H E z hr gu)) hM
end K91
open PySem PySem.W PyProof.Rows
set_option maxRecDepth 100000 in
set_option maxHeartbeats 0 in
theorem PySem.Challenge.cw_ledquestions_k91_bounds_holds : PySem.Challenge.rw_ledquestions_k91_bounds.Holds := by
  w_on; o_law; k_head; (case hw => w_witness2)
  k_fill
  refine LQ.walk_ofG (l := PySem.Challenge.rw_ledquestions_k91_bounds) (n := 63) (k := 5) (x := "_law_script") (CX := L2.CX0) (sp := LQ.spLaw) rfl (by decide) rfl ⟨rfl, by decide, by decide⟩ (fun w h Y => PySem.W.kIn_of Y) ?F (fun _ _ a ns hl hO hS => ⟨a, ns, rfl, hO, hS, hl, fun _ => rfl⟩) (fun _ _ _ _ h => h)
  case F =>
    intro w mg fa h KX G hmg
    refine' K91.all_mk KX G hmg ?z_abs ?z_all ?z_enumerate ?z_isinstance ?z_len ?z_range ?z_repr ?z_sorted ?z_str ?z_sum ?z_tuple ?n_ASKED ?n_ATOMS ?n_BARRED ?l_BARRED ?n_DEEDS ?n_DEPTH ?n_GROWN ?n_LETTERS ?n_LINES ?n_LOT ?n_NONE ?l_NONE ?n_ROWS ?n_RULES ?n_SHORTS ?n_SOMES ?n_THINGS ?n_UNKNOWNS ?a_is_rising ?l_is_rising ?c_is_rising ?k_is_rising ?a_things_of ?l_things_of ?c_things_of ?k_things_of ?a_is_tuple_of ?l_is_tuple_of ?c_is_tuple_of ?k_is_tuple_of ?a_is_name ?l_is_name ?c_is_name ?k_is_name ?a_is_row ?l_is_row ?c_is_row ?k_is_row ?a_are_rows ?l_are_rows ?c_are_rows ?k_are_rows ?a_look_rows ?l_look_rows ?c_look_rows ?k_look_rows ?a_look_rules ?l_look_rules ?c_look_rules ?k_look_rules ?a_law ?l_law ?c_law ?k_law K91.law_val
    (case z_abs => k_is)
    (case z_all => k_is)
    (case z_enumerate => k_is)
    (case z_isinstance => k_is)
    (case z_len => k_is)
    (case z_range => k_is)
    (case z_repr => k_is)
    (case z_sorted => k_is)
    (case z_str => k_is)
    (case z_sum => k_is)
    (case z_tuple => k_is)
    (case n_ASKED => k_is)
    (case n_ATOMS => k_is)
    (case n_BARRED => k_is)
    (case l_BARRED => k_is)
    (case n_DEEDS => k_is)
    (case n_DEPTH => k_is)
    (case n_GROWN => k_is)
    (case n_LETTERS => k_is)
    (case n_LINES => k_is)
    (case n_LOT => k_is)
    (case n_NONE => k_is)
    (case l_NONE => k_is)
    (case n_ROWS => k_is)
    (case n_RULES => k_is)
    (case n_SHORTS => k_is)
    (case n_SOMES => k_is)
    (case n_THINGS => k_is)
    (case n_UNKNOWNS => k_is)
    (case a_is_rising => k_is)
    (case l_is_rising => k_is)
    (case c_is_rising => k_is)
    (case k_is_rising => k_is)
    (case a_things_of => k_is)
    (case l_things_of => k_is)
    (case c_things_of => k_is)
    (case k_things_of => k_is)
    (case a_is_tuple_of => k_is)
    (case l_is_tuple_of => k_is)
    (case c_is_tuple_of => k_is)
    (case k_is_tuple_of => k_is)
    (case a_is_name => k_is)
    (case l_is_name => k_is)
    (case c_is_name => k_is)
    (case k_is_name => k_is)
    (case a_is_row => k_is)
    (case l_is_row => k_is)
    (case c_is_row => k_is)
    (case k_is_row => k_is)
    (case a_are_rows => k_is)
    (case l_are_rows => k_is)
    (case c_are_rows => k_is)
    (case k_are_rows => k_is)
    (case a_look_rows => k_is)
    (case l_look_rows => k_is)
    (case c_look_rows => k_is)
    (case k_look_rows => k_is)
    (case a_look_rules => k_is)
    (case l_look_rules => k_is)
    (case c_look_rules => k_is)
    (case k_look_rules => k_is)
    (case a_law => k_is)
    (case l_law => k_is)
    (case c_law => k_is)
    (case k_law => k_is)

