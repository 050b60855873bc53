import PyProof.Rows.All
import Wide.All
import OpenK.AllK
import Wide.FinOn
import PySem.Challenge.RW_ledquestions_k04_sorts_and_things
import HandS.ForMost
import HandS.Deep
import HandS.IsInst
import HandS.TupAny
import HandS.SetBool
import HandS.Strs
import HandS.Style
import KE.GoesEnum
import HandS.ExcCtx
import HandS.HotCalls
import HandS.ExcIs
import HandS.SetFor
import KE.KDictDisplayH
import HandS.DictTup
import PyProof.ReprLen
import HandS.TupSets
import KE.KDictKeyed
import KE.KeyNested
import KE.SortCalls
import HandS.Conv
import KE.KDictSum
import HandS.MakeKwOnly
import PyProof.StrBlock2
import PyProof.SetRoads
import PyProof.Rows.SeqMore
import HandS.SetTxt0
import KE.DataCmp
set_option Elab.async false
set_option linter.all false
set_option maxRecDepth 100000
set_option maxHeartbeats 2000000
/-! A layer over HandS: the program's immutable data as PyData; each construct has a mirror (a partial function), the mirror of a def comes by unification. -/
namespace LQ
open PySem PySem.Spec PyProof.Rows L2
abbrev St := L2.St

/-! ### data: none, truths, ints, texts, lists, tuples, and the empty dict -/
def keyD : Key → PyData
  | .inl i => .int i
  | .inr x => .str x
mutual
inductive Rp (K : PySem.W.Frag) (H : Hp) : V → PyData → Prop
  | non : Rp K H .non .none
  | bl (b : Bool) : Rp K H (.bl b) (.bool b)
  | int (i : Int) : Rp K H (.int i) (.int i)
  | str (x : Str) : Rp K H (.str x) (.str x)
  | lst {a : Addr} {xs : List V} {ds : List PyData} : SqL K H a xs → RpAll K H xs ds → Rp K H (.ref a) (.list ds)
  | tup {a : Addr} {xs : List V} {ds : List PyData} : H a = some (.tup xs) → RpAll K H xs ds → Rp K H (.ref a) (.tuple ds)
  | dct {a : Addr} : H a = some (.dK []) → Rp K H (.ref a) (.dict [])
  | dcT {a : Addr} {vs : List (List Key × V)} {kvs : List (PyData × PyData)} : H a = some (.dT vs) → KvOk K H vs kvs → Rp K H (.ref a) (.dict kvs)
inductive RpAll (K : PySem.W.Frag) (H : Hp) : List V → List PyData → Prop
  | nil : RpAll K H [] []
  | cons {v : V} {vs : List V} {d : PyData} {ds : List PyData} : Rp K H v d → RpAll K H vs ds → RpAll K H (v :: vs) (d :: ds)
/-- a dict whose keys are flat tuples -/
inductive KvOk (K : PySem.W.Frag) (H : Hp) : List (List Key × V) → List (PyData × PyData) → Prop
  | nil : KvOk K H [] []
  | cons {ks : List Key} {v : V} {e : PyData} {vs : List (List Key × V)} {kvs : List (PyData × PyData)} : Rp K H v e → KvOk K H vs kvs → KvOk K H ((ks, v) :: vs) ((.tuple (ks.map keyD), e) :: kvs)
end
mutual
theorem rp_dp {K : PySem.W.Frag} {H : Hp} : ∀ (d : PyData) (v : V), PyData.canLay0 d = true → Rp K H v d → L2.Dp K H v d
  | .none, _, _, h => by cases h; exact .non
  | .bool b, _, _, h => by cases h; exact .bl b
  | .int i, _, _, h => by cases h; exact .int i
  | .str x, _, _, h => by cases h; exact .str x
  | .list ds, _, c, h => by
    cases h with
    | lst hs ha => exact .lst hs (rp_dpAll ds _ (by simpa [PyData.canLay0] using c) ha)
  | .tuple ds, _, c, h => by
    cases h with
    | tup hs ha => exact .tup (.inl (.inl hs)) (rp_dpAll ds _ (by simpa [PyData.canLay0] using c) ha)
  | .dict _, _, c, _ => by simp [PyData.canLay0] at c
theorem rp_dpAll {K : PySem.W.Frag} {H : Hp} : ∀ (ds : List PyData) (vs : List V), PyData.canLayAll0 ds = true → RpAll K H vs ds → L2.DpAll K H vs ds
  | [], _, _, h => by cases h; exact .nil
  | d :: ds, _, c, h => by
    cases h with
    | cons h1 h2 =>
      simp only [PyData.canLayAll0, Bool.and_eq_true] at c
      exact .cons (rp_dp d _ c.1 h1) (rp_dpAll ds _ c.2 h2)
end
theorem tk {K : PySem.W.Frag} {H : Hp} {a : Addr} {xs : List V} (h : H a = some (.tup xs)) : SqT K H a xs := .inl (.inl h)
theorem rp_sh {K : PySem.W.Frag} {H : Hp} {d : PyData} {v : V} (c : SeqAt.shaped d = true) (h : Rp K H v d) : L2.Dp K H v d := rp_dp d v (SeqAt.canLay_of_shaped c) h
mutual
/-- no list within, no dict with something in it -/
def noL : PyData → Bool
  | .list _ => false
  | .tuple ds => noLs ds
  | .dict kvs => kvs.isEmpty
  | _ => true
def noLs : List PyData → Bool
  | [] => true
  | d :: ds => noL d && noLs ds
end
section
variable {X : Cx} {pins : List (Addr × Obj)} {σ : L2.St} {H : Hp} {s : Shared}
mutual
theorem Rp.reads (I : Inv X pins σ H s) : ∀ (d : PyData) (v : V) (u : Value), (d.hasDict = true → noL d = true) → Rp X.K H v d → RelV v u → ∃ as, Reads s.heap u d as ∧ (noL d = true → sysModules ∉ as)
  | .none, _, _, _, h, r => by
    cases h
    cases r
    exact ⟨_, Reads.none, by simp⟩
  | .bool b, _, _, _, h, r => by
    cases h
    cases r
    exact ⟨_, Reads.bool b, by simp⟩
  | .int i, _, _, _, h, r => by
    cases h
    obtain ⟨t, rfl⟩ := r
    exact ⟨_, Reads.int i t, by simp⟩
  | .str x, _, _, _, h, r => by
    cases h
    obtain ⟨t, rfl⟩ := r
    exact ⟨_, Reads.str x t, by simp⟩
  | .list ds, _, _, hd, h, r => by
    cases h with
    | lst hs ha =>
      cases r
      have hno : PyData.hasDictAll ds = true → noLs ds = true := fun h => absurd (hd (by simpa [PyData.hasDict] using h)) (by simp [noL])
      obtain ⟨its, rv, ⟨o, n, ho, hc, _, hd⟩, _⟩ := I.list hs
      obtain ⟨as, hr, _⟩ := Rp.readsAll I ds _ its hno ha rv
      exact ⟨_, Reads.list ho hc hd hr, fun h => by simp [noL] at h⟩
  | .tuple ds, _, _, hdd, h, r => by
    cases h with
    | tup hs ha =>
      cases r
      have hno : PyData.hasDictAll ds = true → noLs ds = true := fun h => by simpa [noL] using hdd (by simpa [PyData.hasDict] using h)
      obtain ⟨its, rv, ⟨o, ho, hc, n, hd⟩, _⟩ := I.tuple (.inl (.inl hs))
      obtain ⟨as, hr, hn⟩ := Rp.readsAll I ds _ its hno ha rv
      exact ⟨_, Reads.tuple ho hc hd hr, fun h => hn (by simpa [noL] using h)⟩
  | .dict kvs, _, _, hdd, h, r => by
    cases h with
    | dcT e hk =>
      cases r
      have hkv : kvs = [] := by simpa [noL] using hdd (by simp [PyData.hasDict])
      subst hkv
      cases hk
      obtain ⟨_, hd, xs, rel, dd⟩ := dt_of I.hok e
      cases rel
      obtain ⟨o, es, ep, h1, h2, h3, h4, _⟩ := dd
      have he : es.toList = [] := h4
      refine ⟨_, Reads.dict (kvs := []) h1 h2.1 h3 (by rw [he]; exact .nil) (by rw [he]; exact .nil), fun _ => ?_⟩
      simp only [List.append_nil, List.mem_singleton]
      rintro rfl
      simp at hd
    | dct e =>
      cases r
      obtain ⟨_, hd, vs, rel, dd⟩ := dk_of I.hok e
      cases rel
      obtain ⟨o, es, ep, h1, h2, h3, h4⟩ := dd
      have he : es.toList = [] := List.eq_nil_of_length_eq_zero h4.2.1.length
      refine ⟨_, Reads.dict (kvs := []) h1 h2.1 h3 (by rw [he]; exact .nil) (by rw [he]; exact .nil), fun _ => ?_⟩
      simp only [List.append_nil, List.mem_singleton]
      rintro rfl
      simp at hd
theorem Rp.readsAll (I : Inv X pins σ H s) : ∀ (ds : List PyData) (vs : List V) (us : List Value), (PyData.hasDictAll ds = true → noLs ds = true) → RpAll X.K H vs ds → Vals vs us → ∃ as, ReadsAll s.heap us ds as ∧ (noLs ds = true → sysModules ∉ as)
  | [], _, _, _, h, r => by
    cases h
    cases r
    exact ⟨_, ReadsAll.nil, by simp⟩
  | d :: ds, _, _, hdd, h, r => by
    cases h with
    | cons h1 h2 =>
      cases r with
      | cons r1 r2 =>
        have hp : (d.hasDict = true → noL d = true) ∧ (PyData.hasDictAll ds = true → noLs ds = true) := by
          refine ⟨fun h => ?_, fun h => ?_⟩
          · have := hdd (by simp [PyData.hasDictAll, h])
            simp only [noLs, Bool.and_eq_true] at this
            exact this.1
          · have := hdd (by simp [PyData.hasDictAll, h])
            simp only [noLs, Bool.and_eq_true] at this
            exact this.2
        obtain ⟨as, q1, n1⟩ := Rp.reads I d _ _ hp.1 h1 r1
        obtain ⟨bs, q2, n2⟩ := Rp.readsAll I ds _ _ hp.2 h2 r2
        refine ⟨_, ReadsAll.cons q1 q2, fun h => ?_⟩
        simp only [noLs, Bool.and_eq_true] at h
        simp only [List.mem_append, not_or]
        exact ⟨n1 h.1, n2 h.2⟩
end
end
/-! ### data in a frozen heap -/
theorem sqT_mono {K : PySem.W.Frag} {F F' : Hp} {a : Addr} {xs : List V} (s : Same F F') : SqT K F a xs → SqT K F' a xs
  | .inl (.inl h) => .inl (.inl (s _ _ h))
  | .inl (.inr ⟨o, h⟩) => .inl (.inr ⟨o, s _ _ h⟩)
  | .inr h => .inr h
mutual
theorem dp_mono {K : PySem.W.Frag} {F F' : Hp} (e : Same F F') : ∀ (d : PyData) (v : V), Rp K F v d → Rp K F' v d
  | .none, _, h => by cases h; exact .non
  | .bool b, _, h => by cases h; exact .bl b
  | .int i, _, h => by cases h; exact .int i
  | .str x, _, h => by cases h; exact .str x
  | .list ds, _, h => by
    cases h with
    | lst hs ha => exact .lst (e.seq hs) (dpAll_mono e ds _ ha)
  | .tuple ds, _, h => by
    cases h with
    | tup hs ha => exact .tup (e _ _ hs) (dpAll_mono e ds _ ha)
  | .dict kvs, _, h => by
    cases h with
    | dct ha => exact .dct (e _ _ ha)
    | dcT ha hk => exact .dcT (e _ _ ha) (kv_mono' e kvs _ hk)
theorem dpAll_mono {K : PySem.W.Frag} {F F' : Hp} (e : Same F F') : ∀ (ds : List PyData) (vs : List V), RpAll K F vs ds → RpAll K F' vs ds
  | [], _, h => by cases h; exact .nil
  | d :: ds, _, h => by
    cases h with
    | cons h1 h2 => exact .cons (dp_mono e d _ h1) (dpAll_mono e ds _ h2)
theorem kv_mono' {K : PySem.W.Frag} {F F' : Hp} (e : Same F F') : ∀ (kvs : List (PyData × PyData)) (vs : List (List Key × V)), KvOk K F vs kvs → KvOk K F' vs kvs
  | [], _, h => by cases h; exact .nil
  | (d, x) :: kvs, _, h => by
    cases h with
    | cons h1 h2 => exact .cons (dp_mono e x _ h1) (kv_mono' e kvs _ h2)
end
theorem dpAll_len {K : PySem.W.Frag} {F : Hp} : ∀ {ds : List PyData} {vs : List V}, RpAll K F vs ds → vs.length = ds.length
  | [], _, h => by cases h; rfl
  | d :: ds, _, h => by
    cases h with
    | cons h1 h2 => rw [List.length_cons, List.length_cons, dpAll_len h2]
theorem dpAll_get {K : PySem.W.Frag} {F : Hp} : ∀ {ds : List PyData} {vs : List V} {i : Nat} {v : V}, RpAll K F vs ds → vs[i]? = some v → ∃ d, ds[i]? = some d ∧ Rp K F v d
  | [], _, i, v, h, e => by cases h; simp at e
  | d :: ds, _, 0, v, h, e => by
    cases h with
    | cons h1 h2 => simp at e; subst e; exact ⟨d, rfl, h1⟩
  | d :: ds, _, i + 1, v, h, e => by
    cases h with
    | cons h1 h2 =>
      obtain ⟨d', e', q⟩ := dpAll_get (i := i) (v := v) h2 (by simpa using e)
      exact ⟨d', by simpa using e', q⟩
theorem dpAll_get' {K : PySem.W.Frag} {F : Hp} {ds : List PyData} {vs : List V} {i : Nat} {d : PyData} (h : RpAll K F vs ds) (e : ds[i]? = some d) : ∃ v, vs[i]? = some v ∧ Rp K F v d := by
  have hl := dpAll_len h
  have hi : i < vs.length := by
    have := (List.getElem?_eq_some_iff.mp e).1
    omega
  obtain ⟨d', e', q⟩ := dpAll_get h (List.getElem?_eq_getElem hi)
  rw [e] at e'
  cases e'
  exact ⟨_, List.getElem?_eq_getElem hi, q⟩
theorem dpAll_app {K : PySem.W.Frag} {F : Hp} : ∀ {ds es : List PyData} {vs us : List V}, RpAll K F vs ds → RpAll K F us es → RpAll K F (vs ++ us) (ds ++ es)
  | [], _, _, _, h, g => by cases h; exact g
  | d :: ds, _, _, _, h, g => by
    cases h with
    | cons h1 h2 => exact .cons h1 (dpAll_app h2 g)
theorem dpAll_drop {K : PySem.W.Frag} {F : Hp} : ∀ {ds : List PyData} {vs : List V} (n : Nat), RpAll K F vs ds → RpAll K F (vs.drop n) (ds.drop n)
  | _, _, 0, h => h
  | [], _, n + 1, h => by cases h; exact .nil
  | d :: ds, _, n + 1, h => by
    cases h with
    | cons h1 h2 => exact dpAll_drop n h2
theorem dpAll_take {K : PySem.W.Frag} {F : Hp} : ∀ {ds : List PyData} {vs : List V} (n : Nat), RpAll K F vs ds → RpAll K F (vs.take n) (ds.take n)
  | _, _, 0, h => .nil
  | [], _, n + 1, h => by cases h; exact .nil
  | d :: ds, _, n + 1, h => by
    cases h with
    | cons h1 h2 => exact .cons h1 (dpAll_take n h2)
theorem dpAll_set {K : PySem.W.Frag} {F : Hp} {x : V} {d : PyData} (hx : Rp K F x d) : ∀ {ds : List PyData} {vs : List V} (n : Nat), RpAll K F vs ds → RpAll K F (vs.set n x) (ds.set n d)
  | [], _, _, h => by cases h; exact .nil
  | _ :: ds, _, 0, h => by
    cases h with
    | cons h1 h2 => exact .cons hx h2
  | _ :: ds, _, n + 1, h => by
    cases h with
    | cons h1 h2 => exact .cons h1 (dpAll_set hx n h2)
theorem dpAll_ints {K : PySem.W.Frag} {F : Hp} : ∀ ns : List Int, RpAll K F (ns.map V.int) (ns.map PyData.int)
  | [] => .nil
  | n :: ns => .cons (.int n) (dpAll_ints ns)
theorem kv_mono {K : PySem.W.Frag} {F F' : Hp} (s : Same F F') {vs : List (List Key × V)} {kvs : List (PyData × PyData)} (h : KvOk K F vs kvs) : KvOk K F' vs kvs := kv_mono' s kvs vs h
theorem kv_len {K : PySem.W.Frag} {F : Hp} : ∀ {vs : List (List Key × V)} {kvs : List (PyData × PyData)}, KvOk K F vs kvs → vs.length = kvs.length
  | _, _, .nil => rfl
  | _, _, .cons _ r => by rw [List.length_cons, List.length_cons, kv_len r]
/-- the same data, wherever -/
def Sc (K : PySem.W.Frag) (v : V) (d : PyData) : Prop := ∀ F, Rp K F v d

/-! ### the state -/
/-- the law's deck of cards: its cells, the great cells, a place in these, a count -/
structure Dk where
  cells : List Int
  gs : List Int
  i : Nat
  c : Nat
/-- a def's entry: what was frozen, the whole heap, where the deck lies -/
structure Cz where
  F0 : Hp
  H0 : Hp
  dk : Option (Addr × Addr × Addr)
def dkAt (dk : Option (Addr × Addr × Addr)) (a : Addr) : Bool := match dk with
  | none => false
  | some (p, _, g) => a == p || a == g
abbrev Cz.isDk (z : Cz) (a : Addr) : Bool := dkAt z.dk a
def Cz.cut (z : Cz) (H : Hp) : Hp := fun a => if z.isDk a = true then none else H a
def DkOk (dk : Option (Addr × Addr × Addr)) (F H : Hp) (T : Dk) : Prop := match dk with
  | none => True
  | some (p, c, g) => H p = some (.lst [.ref c, .ref g, .int (T.i : Nat), .int (T.c : Nat)]) ∧ F c = some (.lst (T.cells.map V.int)) ∧ H g = some (.lst (T.gs.map V.int)) ∧ p ≠ g
/-- what a slot holds: data; a list that no one else holds; the deck -/
inductive Sl where
  | dat (d : PyData)
  | own (ds : List PyData)
  | deck
  | exc (a : Addr)
  | cst (d : PyData)
  | ownD (kvs : List (PyData × PyData))
abbrev En := List (Option Sl)
def Stp (z : Cz) (H H' : Hp) : Prop := ∀ a o, H a = some o → z.isDk a = false → H' a = some o
/-- nothing, or a tuple -/
def NT (o : Option HO) : Prop := o = none ∨ ∃ xs, o = some (.tup xs)
structure Bs (z : Cz) (F H : Hp) (T : Dk) : Prop where
  fh : Same F H
  ff : Same z.F0 F
  vis : ∀ a, F a ≠ none → z.F0 a ≠ none ∨ NT (z.H0 a)
  out : Stp z z.H0 H
  nodk : ∀ a, z.isDk a = true → F a = none
  dkin : ∀ a, z.isDk a = true → z.H0 a ≠ none
  dk : DkOk z.dk F H T
structure Nxt (z : Cz) (F H F' H' : Hp) : Prop where
  s : Same F F'
  st : Stp z H H'
  nw : ∀ a, F' a ≠ none → F a ≠ none ∨ NT (H a)
theorem Nxt.refl {z : Cz} {F H : Hp} : Nxt z F H F H := ⟨Same.refl _, fun _ _ h _ => h, fun _ h => .inl h⟩
theorem Nxt.trans {z : Cz} {F H F1 H1 F2 H2 : Hp} {T : Dk} (a : Nxt z F H F1 H1) (b : Nxt z F1 H1 F2 H2) (B : Bs z F2 H2 T) : Nxt z F H F2 H2 := by
  refine ⟨a.s.trans b.s, fun x o h hd => b.st x o (a.st x o h hd) hd, fun x hx => ?_⟩
  rcases b.nw x hx with h | h
  · exact a.nw x h
  · refine .inr ?_
    cases q : H x with
    | none => exact .inl rfl
    | some o =>
      cases hd : z.isDk x with
      | true => exact absurd (B.nodk x hd) hx
      | false =>
        rw [a.st x o q hd] at h
        rcases h with h | ⟨xs, h⟩
        · cases h
        · cases h
          exact .inr ⟨xs, rfl⟩
def SlOk (z : Cz) (K : PySem.W.Frag) (F H : Hp) (v : Option V) : Sl → Prop
  | .dat d => ∃ x, v = some x ∧ Rp K F x d
  | .own ds => ∃ a xs, v = some (.ref a) ∧ H a = some (.lst xs) ∧ F a = none ∧ z.H0 a = none ∧ RpAll K F xs ds
  | .deck => ∃ p c g, z.dk = some (p, c, g) ∧ v = some (.ref p)
  | .exc a => v = some (.ref a)
  | .cst d => ∃ x, v = some x ∧ ∀ F, L2.Dp K F x d
  | .ownD kvs => ∃ a vs, v = some (.ref a) ∧ H a = some (.dT vs) ∧ F a = none ∧ z.H0 a = none ∧ KvOk K F vs kvs
structure Ok (z : Cz) (K : PySem.W.Frag) (F H : Hp) (σ : St) (en : En) (T : Dk) : Prop where
  b : Bs z F H T
  len : σ.length = en.length
  sl : ∀ (i : Nat) (s : Sl), en[i]? = some (some s) → ∃ v, σ[i]? = some v ∧ SlOk z K F H v s
  ne : ∀ (i j : Nat) (ds es : List PyData) (a : Addr), i ≠ j → en[i]? = some (some (.own ds)) → en[j]? = some (some (.own es)) → σ[i]? = some (some (.ref a)) → σ[j]? ≠ some (some (.ref a))
  nd : ∀ (i j : Nat) (ds es : List (PyData × PyData)), en[i]? = some (some (.ownD ds)) → en[j]? = some (some (.ownD es)) → i = j
section
variable {z : Cz} {K : PySem.W.Frag} {F H F' H' : Hp} {σ : St} {en : En} {T T' : Dk}
theorem SlOk.nxt {v : Option V} {s : Sl} (B : Bs z F H T) (n : Nxt z F H F' H') (B' : Bs z F' H' T') (h : SlOk z K F H v s) : SlOk z K F' H' v s := by
  cases s with
  | dat d =>
    obtain ⟨x, e, q⟩ := h
    exact ⟨x, e, dp_mono n.s d x q⟩
  | own ds =>
    obtain ⟨a, xs, e, h1, h2, h3, q⟩ := h
    have nd : z.isDk a = false := by
      cases hd : z.isDk a with
      | true => exact absurd h3 (B.dkin a hd)
      | false => rfl
    refine ⟨a, xs, e, n.st a _ h1 nd, ?_, h3, dpAll_mono n.s ds xs q⟩
    cases q2 : F' a with
    | none => rfl
    | some o =>
      rcases n.nw a (by rw [q2]; simp) with h | h
      · exact absurd h2 h
      · rw [h1] at h; rcases h with h | ⟨_, h⟩ <;> cases h
  | deck => exact h
  | exc a => exact h
  | cst d => exact h
  | ownD ds =>
    obtain ⟨a, xs, e, h1, h2, h3, q⟩ := h
    have nd : z.isDk a = false := by
      cases hd : z.isDk a with
      | true => exact absurd h3 (B.dkin a hd)
      | false => rfl
    refine ⟨a, xs, e, n.st a _ h1 nd, ?_, h3, kv_mono n.s q⟩
    cases q2 : F' a with
    | none => rfl
    | some o =>
      rcases n.nw a (by rw [q2]; simp) with h | h
      · exact absurd h2 h
      · rw [h1] at h; rcases h with h | ⟨_, h⟩ <;> cases h
theorem nd_set {en : En} {i : Nat} {s : Option Sl} (nd : ∀ (i j : Nat) (ds es : List (PyData × PyData)), en[i]? = some (some (.ownD ds)) → en[j]? = some (some (.ownD es)) → i = j) (hs : ∀ ds, s ≠ some (.ownD ds)) : ∀ (j l : Nat) (ds es : List (PyData × PyData)), (en.set i s)[j]? = some (some (.ownD ds)) → (en.set i s)[l]? = some (some (.ownD es)) → j = l := by
  have no : ∀ (j : Nat) (ds : List (PyData × PyData)), (en.set i s)[j]? = some (some (.ownD ds)) → en[j]? = some (some (.ownD ds)) := fun j ds e => by
    by_cases hj : i = j
    · subst hj
      by_cases hi : i < en.length
      · rw [List.getElem?_set_self hi] at e
        exact absurd (Option.some.inj e) (hs ds)
      · rw [List.getElem?_eq_none (by rw [List.length_set]; omega)] at e
        cases e
    · rw [List.getElem?_set_ne hj] at e
      exact e
  exact fun j l ds es e1 e2 => nd j l ds es (no j ds e1) (no l es e2)
theorem Ok.nxt (k : Ok z K F H σ en T) (n : Nxt z F H F' H') (B' : Bs z F' H' T') : Ok z K F' H' σ en T' := by
  refine ⟨B', k.len, fun i s e => ?_, k.ne, k.nd⟩
  obtain ⟨v, hv, q⟩ := k.sl i s e
  exact ⟨v, hv, q.nxt k.b n B'⟩
theorem Bs.cut (B : Bs z F H T) : Same F (z.cut H) := fun a o h => by
  unfold Cz.cut
  cases hd : z.isDk a with
  | true => rw [B.nodk a hd] at h; cases h
  | false => rw [if_neg (by simp)]; exact B.fh a o h
theorem cut_same (z : Cz) (H : Hp) : Same (z.cut H) H := fun a o h => by
  unfold Cz.cut at h
  split at h
  · cases h
  · exact h
theorem Stp.cut (n : Stp z H H') : Same (z.cut H) (z.cut H') := fun a o h => by
  unfold Cz.cut at h ⊢
  split at h
  · cases h
  · rename_i hd
    rw [if_neg hd]
    exact n a o h (by simpa using hd)
theorem Bs.h0 {p : Addr} (B : Bs z F H T) (hp : H p = none) : z.isDk p = false ∧ z.H0 p = none := by
  have nd : z.isDk p = false := by
    cases hd : z.isDk p with
    | false => rfl
    | true =>
      have hk := B.dk
      unfold DkOk at hk
      unfold Cz.isDk dkAt at hd
      cases e : z.dk with
      | none => rw [e] at hd; cases hd
      | some t =>
        obtain ⟨p1, c1, g1⟩ := t
        rw [e] at hd hk
        obtain ⟨k1, k2, k3, _⟩ := hk
        simp only [Bool.or_eq_true, beq_iff_eq] at hd
        rcases hd with rfl | rfl
        · rw [k1] at hp; cases hp
        · rw [k3] at hp; cases hp
  have h0 : z.H0 p = none := by
    cases e : z.H0 p with
    | none => rfl
    | some o' => rw [B.out p o' e nd] at hp; cases hp
  exact ⟨nd, h0⟩
/-- a new object is frozen at once -/
theorem Bs.lay {p : Addr} {o : HO} (B : Bs z F H T) (hp : H p = none) : Bs z (upd F p o) (upd H p o) T ∧ Nxt z F H (upd F p o) (upd H p o) := by
  obtain ⟨nd, h0⟩ := B.h0 hp
  have fp : F p = none := by
    cases e : F p with
    | none => rfl
    | some o' => rw [B.fh p o' e] at hp; cases hp
  have ne : ∀ a, a ≠ p → upd H p o a = H a := fun a ha => upd_ne ha
  refine ⟨⟨fun a o' h => ?_, fun a o' h => ?_, fun a h => ?_, fun a o' h hd => ?_, fun a hd => ?_, B.dkin, ?_⟩, ⟨fun a o' h => ?_, fun a o' h hd => ?_, fun a h => ?_⟩⟩
  · by_cases ha : a = p
    · subst ha; rw [upd_same] at h ⊢; exact h
    · rw [upd_ne ha] at h ⊢; exact B.fh a o' h
  · have ha : a ≠ p := fun e => by subst e; rw [B.ff a o' h] at fp; cases fp
    rw [upd_ne ha]; exact B.ff a o' h
  · by_cases ha : a = p
    · subst ha; exact .inr (.inl h0)
    · rw [upd_ne ha] at h; exact B.vis a h
  · have ha : a ≠ p := fun e => by subst e; rw [h0] at h; cases h
    rw [upd_ne ha]; exact B.out a o' h hd
  · have ha : a ≠ p := fun e => by subst e; rw [hd] at nd; cases nd
    rw [upd_ne ha]; exact B.nodk a hd
  · have hk := B.dk
    unfold DkOk at hk ⊢
    cases e : z.dk with
    | none => trivial
    | some t =>
      obtain ⟨p1, c1, g1⟩ := t
      rw [e] at hk
      obtain ⟨k1, k2, k3, k4⟩ := hk
      refine ⟨?_, ?_, ?_, k4⟩
      · rw [upd_ne (ne_of_none k1 hp)]; exact k1
      · rw [upd_ne (ne_of_none k2 fp)]; exact k2
      · rw [upd_ne (ne_of_none k3 hp)]; exact k3
  · have ha : a ≠ p := fun e => by subst e; rw [h] at fp; cases fp
    rw [upd_ne ha]; exact h
  · rw [upd_ne (ne_of_none h hp)]; exact h
  · by_cases ha : a = p
    · subst ha; exact .inr (.inl hp)
    · rw [upd_ne ha] at h; exact .inl h
/-- a new object is laid, not frozen -/
theorem Bs.put {p : Addr} {o : HO} (B : Bs z F H T) (hp : H p = none) : Bs z F (upd H p o) T ∧ Nxt z F H F (upd H p o) ∧ F p = none ∧ z.H0 p = none := by
  obtain ⟨L, N⟩ := B.lay (o := o) hp
  have fp : F p = none := by
    cases e : F p with
    | none => rfl
    | some o' => rw [B.fh p o' e] at hp; cases hp
  have h0 := (B.h0 hp).2
  refine ⟨⟨fun a o' h => by rw [upd_ne (ne_of_none h fp)]; exact B.fh a o' h, B.ff, B.vis, L.out, B.nodk, B.dkin, ?_⟩, ⟨Same.refl _, N.st, fun _ h => .inl h⟩, fp, h0⟩
  have hk := B.dk
  unfold DkOk at hk ⊢
  cases e : z.dk with
  | none => trivial
  | some t =>
    obtain ⟨p1, c1, g1⟩ := t
    rw [e] at hk
    obtain ⟨k1, k2, k3, k4⟩ := hk
    refine ⟨?_, k2, ?_, k4⟩
    · rw [upd_ne (ne_of_none k1 hp)]; exact k1
    · rw [upd_ne (ne_of_none k3 hp)]; exact k3
/-- a list of one's own is frozen -/
theorem Bs.freeze {a : Addr} {o : HO} (B : Bs z F H T) (ha : H a = some o) (h0 : z.H0 a = none) : Bs z (upd F a o) H T := by
  have nd : z.isDk a = false := by
    cases hd : z.isDk a with
    | true => exact absurd h0 (B.dkin a hd)
    | false => rfl
  refine ⟨fun b o' h => ?_, fun b o' h => ?_, fun b h => ?_, B.out, fun b hd => ?_, B.dkin, ?_⟩
  · by_cases hb : b = a
    · subst hb; rw [upd_same] at h; rw [ha]; exact h
    · rw [upd_ne hb] at h; exact B.fh b o' h
  · by_cases hb : b = a
    · subst hb
      have q := B.fh b o' (B.ff b o' h)
      rw [ha] at q
      cases q
      exact upd_same
    · rw [upd_ne hb]; exact B.ff b o' h
  · by_cases hb : b = a
    · subst hb; exact .inr (.inl h0)
    · rw [upd_ne hb] at h; exact B.vis b h
  · have hb : b ≠ a := fun e => by subst e; rw [hd] at nd; cases nd
    rw [upd_ne hb]; exact B.nodk b hd
  · have hk := B.dk
    unfold DkOk at hk ⊢
    cases e : z.dk with
    | none => trivial
    | some t =>
      obtain ⟨p1, c1, g1⟩ := t
      rw [e] at hk
      obtain ⟨k1, k2, k3, k4⟩ := hk
      refine ⟨k1, ?_, k3, k4⟩
      by_cases hb : c1 = a
      · subst hb
        have q := B.fh _ _ k2
        rw [ha] at q
        cases q
        exact upd_same
      · rw [upd_ne hb]; exact k2
end

/-! ### readings -/
abbrev ME := En → Dk → Option (PyData × Dk)
abbrev MA := En → Dk → Option (List PyData × Dk)
abbrev MT := En → Dk → Option (Bool × Dk)
section
variable (z : Cz) (K : PySem.W.Frag)
/-- data that may be kept -/
def tD (m : ME) : TE := fun σ H Q => ∃ F en T d T', Ok z K F H σ en T ∧ m en T = some (d, T') ∧ ∀ F' H' v, Bs z F' H' T' → Nxt z F H F' H' → Rp K F' v d → Q v H'
/-- data that is looked at -/
def tB (m : ME) : TE := fun σ H Q => ∃ F en T d T', Ok z K F H σ en T ∧ m en T = some (d, T') ∧ ∀ F' H' v, Bs z F' H' T' → Nxt z F H F' H' → Rp K (z.cut H') v d → Q v H'
/-- a new list -/
def tF (m : MA) : TE := fun σ H Q => ∃ F en T ds T', Ok z K F H σ en T ∧ m en T = some (ds, T') ∧ ∀ F' H' a xs, Bs z F' H' T' → Nxt z F H F' H' → H a = none → H' a = some (.lst xs) → F' a = none → z.H0 a = none → RpAll K F' xs ds → Q (.ref a) H'
def tDs (m : MA) : TA := fun σ H Q => ∃ F en T ds T', Ok z K F H σ en T ∧ m en T = some (ds, T') ∧ ∀ F' H' vs, Bs z F' H' T' → Nxt z F H F' H' → RpAll K F' vs ds → Q vs H'
def tBs (m : MA) : TA := fun σ H Q => ∃ F en T ds T', Ok z K F H σ en T ∧ m en T = some (ds, T') ∧ ∀ F' H' vs, Bs z F' H' T' → Nxt z F H F' H' → RpAll K (z.cut H') vs ds → Q vs H'
def tQ (m : MT) : TT := fun σ H Q => ∃ F en T b T', Ok z K F H σ en T ∧ m en T = some (b, T') ∧ ∀ F' H', Bs z F' H' T' → Nxt z F H F' H' → Q b H'
end
section
variable {X : Cx} {z : Cz} {e e1 e2 : Expr} {m m1 m2 : ME}
theorem pe_to {t t' : TE} (h : PE X e t) (w : ∀ σ H Q, t' σ H Q → t σ H Q) : PE X e t' := ⟨fun pins s σ H Q I q => h.run pins s σ H Q I (w σ H Q q)⟩
theorem pt_to {t t' : TT} (h : PT X e t) (w : ∀ σ H Q, t' σ H Q → t σ H Q) : PT X e t' := ⟨fun pins s σ H Q I q => h.run pins s σ H Q I (w σ H Q q)⟩
theorem pw_to {t t' : TT} (h : PW X e t) (w : ∀ σ H Q, t' σ H Q → t σ H Q) : PW X e t' := ⟨fun wh pins s σ H Q I q => h.run wh pins s σ H Q I (w σ H Q q)⟩
theorem pa_to {es : List Expr} {t t' : TA} (h : PA X es t) (w : ∀ σ H Q, t' σ H Q → t σ H Q) : PA X es t' := ⟨fun pos pins s σ H Q I q => h.run pos pins s σ H Q I (w σ H Q q)⟩
theorem ps_to {st : Stmt} {t t' : TS} (h : PS X st t) (w : ∀ D σ H, t' D σ H → t D σ H) : PS X st t' := ⟨fun pins s σ H D I q => h.run pins s σ H D I (w D σ H q)⟩
theorem pss_to {st : List Stmt} {t t' : TS} (h : PSs X st t) (w : ∀ D σ H, t' D σ H → t D σ H) : PSs X st t' := ⟨fun pins s σ H D I q => h.run pins s σ H D I (w D σ H q)⟩
/-- what may be kept may be looked at -/
theorem tD_of_tB {K : PySem.W.Frag} {σ : St} {H : Hp} {Q : VK} (h : tB z K m σ H Q) : tD z K m σ H Q := by
  obtain ⟨F, en, T, d, T', ok, e, k⟩ := h
  exact ⟨F, en, T, d, T', ok, e, fun F' H' v B n p => k F' H' v B n (dp_mono B.cut d v p)⟩
theorem bw (h : PE X e (tD z X.K m)) : PE X e (tB z X.K m) := pe_to h fun _ _ _ q => tD_of_tB q
theorem tD_of_sc {K : PySem.W.Frag} {v : V} {d : PyData} (hs : Sc K v d) {σ : St} {H : Hp} {Q : VK} (h : tD z K (fun _ T => some (d, T)) σ H Q) : Q v H := by
  obtain ⟨F, en, T, d', T', ok, e, k⟩ := h
  cases e
  exact k F H v ok.b Nxt.refl (hs F)
/-! ### constants, names -/
def mC (d : PyData) : ME := fun _ T => some (d, T)
def mVar (i : Nat) : ME := fun en T => match en[i]? with
  | some (some (.dat d)) => some (d, T)
  | _ => none
def mVarB (i : Nat) : ME := fun en T => match en[i]? with
  | some (some (.dat d)) => some (d, T)
  | some (some (.own ds)) => some (.list ds, T)
  | _ => none
theorem d_const {v : V} {d : PyData} (h : PE X e (tC v)) (hs : Sc X.K v d) : PE X e (tD z X.K (mC d)) := pe_to h fun _ _ _ q => tD_of_sc hs q
theorem d_int {i : Int} {j pos} : PE X (.Constant (.int i) j pos) (tD z X.K (mC (.int i))) := d_const pe_int fun _ => .int i
theorem d_bl {b : Bool} {j pos} : PE X (.Constant (.bool b) j pos) (tD z X.K (mC (.bool b))) := d_const pe_bl fun _ => .bl b
theorem d_non {j pos} : PE X (.Constant .none j pos) (tD z X.K (mC .none)) := d_const pe_non fun _ => .non
theorem d_str {x : Str} {j pos} : PE X (.Constant (.str x) j pos) (tD z X.K (mC (.str x))) := d_const pe_str fun _ => .str x
theorem d_var (i : Nat) {x : Str} {pos : Pos} (hN : X.N[i]? = some x := by rfl) (hv : Vis X.env.scope x := by first | exact Or.inl rfl | exact Or.inr (Or.inl rfl) | exact Or.inr (Or.inr rfl)) (hd : (x == ("__debug__" : Str)) = false := by decide)
    (hcd : (x == ("__classdict__" : Str)) = false := by decide) : PE X (.Name x pos) (tD z X.K (mVar i)) := pe_to (pe_var (i := i) hN hv hd hcd) fun σ H Q q => by
  obtain ⟨F, en, T, d, T', ok, e, k⟩ := q
  unfold mVar at e
  split at e
  · rename_i d' e'
    cases e
    obtain ⟨v, hv, x, ex, p⟩ := ok.sl i _ e'
    subst ex
    exact ⟨x, hv, k F H x ok.b Nxt.refl p⟩
  · cases e
theorem b_var (i : Nat) {x : Str} {pos : Pos} (hN : X.N[i]? = some x := by rfl) (hv : Vis X.env.scope x := by first | exact Or.inl rfl | exact Or.inr (Or.inl rfl) | exact Or.inr (Or.inr rfl)) (hd : (x == ("__debug__" : Str)) = false := by decide)
    (hcd : (x == ("__classdict__" : Str)) = false := by decide) : PE X (.Name x pos) (tB z X.K (mVarB i)) := pe_to (pe_var (i := i) hN hv hd hcd) fun σ H Q q => by
  obtain ⟨F, en, T, d, T', ok, e, k⟩ := q
  unfold mVarB at e
  split at e
  · rename_i d' e'
    cases e
    obtain ⟨v, hv, x, ex, p⟩ := ok.sl i _ e'
    subst ex
    exact ⟨x, hv, k F H x ok.b Nxt.refl (dp_mono ok.b.cut _ x p)⟩
  · rename_i ds e'
    cases e
    obtain ⟨v, hv, a, xs, ex, h1, h2, h3, p⟩ := ok.sl i _ e'
    subst ex
    have nd : z.isDk a = false := by
      cases hd : z.isDk a with
      | true => exact absurd h3 (ok.b.dkin a hd)
      | false => rfl
    refine ⟨.ref a, hv, k F H _ ok.b Nxt.refl (.lst (xs := xs) (.inl (.inl ?_)) (dpAll_mono ok.b.cut _ _ p))⟩
    unfold Cz.cut
    rw [nd, if_neg (by simp)]
    exact h1
  · cases e
/-- a new list is frozen -/
def mL (m : MA) : ME := fun en T => (m en T).map fun p => (.list p.1, p.2)
theorem tF_of {m : MA} {K : PySem.W.Frag} {σ : St} {H : Hp} {Q : VK} (q : tD z K (mL m) σ H Q) : tF z K m σ H Q := by
  obtain ⟨F, en, T, d, T', ok, e, k⟩ := q
  unfold mL at e
  cases q : m en T with
  | none => rw [q] at e; cases e
  | some p =>
    obtain ⟨ds, T1⟩ := p
    rw [q] at e
    cases e
    refine ⟨F, en, T, ds, T1, ok, q, fun F' H' a xs B n ha ha' fa h0 p => ?_⟩
    have s : Same F' (upd F' a (.lst xs)) := fun b o h => by rw [upd_ne (ne_of_none h fa)]; exact h
    have B2 := B.freeze ha' h0
    refine k _ H' _ B2 ⟨n.s.trans s, n.st, fun b h => ?_⟩ (.lst (.inl (.inl upd_same)) (dpAll_mono s _ _ p))
    by_cases hb : b = a
    · subst hb; exact .inr (.inl ha)
    · rw [upd_ne hb] at h; exact n.nw b h
theorem fz {m : MA} (h : PE X e (tF z X.K m)) : PE X e (tD z X.K (mL m)) := pe_to h fun _ _ _ q => tF_of q
end
end LQ

set_option Elab.async false
set_option linter.all false
set_option maxRecDepth 100000
set_option maxHeartbeats 2000000
namespace LQ
open PySem PySem.Spec PyProof.Rows L2
/-! ### two places -/
abbrev G2 := PyData → PyData → Option PyData
def mBin (g : G2) (m1 m2 : ME) : ME := fun en T => (m1 en T).bind fun p => (m2 en p.2).bind fun q => (g p.1 q.1).map fun b => (b, q.2)
def Lift2 (K : PySem.W.Frag) (r : R2) (g : G2) : Prop := ∀ (H : Hp) (x y : V) (d e b : PyData) (Q : VK), Rp K H x d → Rp K H y e → g d e = some b → (∀ v, Sc K v b → Q v H) → r x y H Q
theorem mBin_some {g : G2} {m1 m2 : ME} {en : En} {T T' : Dk} {d : PyData} (e : mBin g m1 m2 en T = some (d, T')) : ∃ d1 T1 d2, m1 en T = some (d1, T1) ∧ m2 en T1 = some (d2, T') ∧ g d1 d2 = some d := by
  unfold mBin at e
  cases h1 : m1 en T with
  | none => rw [h1] at e; cases e
  | some p =>
    obtain ⟨d1, T1⟩ := p
    rw [h1] at e
    simp only [Option.bind_some] at e
    cases h2 : m2 en T1 with
    | none => rw [h2] at e; cases e
    | some q =>
      obtain ⟨d2, T2⟩ := q
      rw [h2] at e
      simp only [Option.bind_some] at e
      cases h3 : g d1 d2 with
      | none => rw [h3] at e; cases e
      | some b =>
        rw [h3] at e
        simp only [Option.map_some, Option.some.injEq, Prod.mk.injEq] at e
        obtain ⟨rfl, rfl⟩ := e
        exact ⟨d1, T1, d2, rfl, h2, h3⟩
section
variable {X : Cx} {z : Cz} {a b c : Expr} {m m1 m2 m3 : ME} {pos : Pos}
theorem lift2 {K : PySem.W.Frag} {r : R2} {g : G2} (L : Lift2 K r g) {σ : St} {H : Hp} {Q : VK} (h : tD z K (mBin g m1 m2) σ H Q) : tOp r (tB z K m1) (tB z K m2) σ H Q := by
  obtain ⟨F, en, T, d, T', ok, e, k⟩ := h
  obtain ⟨d1, T1, d2, e1, e2, e3⟩ := mBin_some e
  refine ⟨F, en, T, d1, T1, ok, e1, fun F1 H1 x B1 n1 p1 => ⟨F1, en, T1, d2, T', ok.nxt n1 B1, e2, fun F2 H2 y B2 n2 p2 => ?_⟩⟩
  exact L H2 x y d1 d2 d Q (dp_mono (n2.st.cut.trans (cut_same z H2)) _ _ p1) (dp_mono (cut_same z H2) _ _ p2) e3 fun v hv => k F2 H2 v B2 (n1.trans n2 B2) (hv F2)
theorem d_op {op : Operator} {r : R2} {g : G2} (ho : OpR X (binaryOp op) r) (L : Lift2 X.K r g) (ha : PE X a (tB z X.K m1)) (hb : PE X b (tB z X.K m2)) : PE X (.BinOp a op b pos) (tD z X.K (mBin g m1 m2)) := pe_to (pe_op ho ha hb) fun _ _ _ h => lift2 L h
theorem d_cmp {op : CmpOp} {r : R2} {g : G2} (ho : OpR X (compareOp op) r) (L : Lift2 X.K r g) (ha : PE X a (tB z X.K m1)) (hb : PE X b (tB z X.K m2)) (hm : behindInMarks op b = false) : PE X (.Compare a [op] [b] pos) (tD z X.K (mBin g m1 m2)) := pe_to (pe_cmpR ho ha hb hm) fun _ _ _ h => lift2 L h
/-! ### tests -/
def mQ (m : ME) : MT := fun en T => match m en T with
  | some (.bool b, T') => some (b, T')
  | _ => none
theorem mQ_some {en : En} {T T' : Dk} {b : Bool} (e : mQ m en T = some (b, T')) : m en T = some (.bool b, T') := by
  unfold mQ at e
  split at e
  · rename_i b' T1 h
    cases e
    exact h
  · cases e
theorem tQ_of {K : PySem.W.Frag} {σ : St} {H : Hp} {Q : Bool → Hp → Prop} (h : tQ z K (mQ m) σ H Q) : tD z K m σ H fun x H' => ∃ k, x = .bl k ∧ Q k H' := by
  obtain ⟨F, en, T, b, T', ok, e, k⟩ := h
  refine ⟨F, en, T, .bool b, T', ok, mQ_some e, fun F' H' v B n p => ?_⟩
  cases p
  exact ⟨b, rfl, k F' H' B n⟩
theorem q_cmp {op : CmpOp} {r : R2} {g : G2} (ho : OpR X (compareOp op) r) (L : Lift2 X.K r g) (ha : PE X a (tB z X.K m1)) (hb : PE X b (tB z X.K m2)) (hm : behindInMarks op b = false) : PT X (.Compare a [op] [b] pos) (tQ z X.K (mQ (mBin g m1 m2))) := pt_to (pt_cmpR ho ha hb hm) fun _ _ _ h => lift2 L (tQ_of h)
theorem q_val (h : PE X a (tD z X.K m)) (he : ∀ whole, isTrue a X.env whole = (do let v ← whole; standAt a.pos; holding [v] (truthy v)) := by intro _; rfl) : PT X a (tQ z X.K (mQ m)) := pt_to (pt_val h he) fun _ _ _ q => tQ_of q
/-- a value's truth -/
def truD : PyData → Option Bool
  | .none => some false
  | .bool b => some b
  | .int i => some (i != 0)
  | .str y => if y.length ≤ 16777216 then some ((y.length : Int) != 0) else none
  | .list ds => some (!ds.isEmpty)
  | .tuple ds => some (!ds.isEmpty)
  | .dict _ => none
def mTru (m : ME) : MT := fun en T => (m en T).bind fun p => (truD p.1).map fun b => (b, p.2)
theorem isEmpty_dp {K : PySem.W.Frag} {F : Hp} {xs : List V} {ds : List PyData} (h : RpAll K F xs ds) : xs.isEmpty = ds.isEmpty := by cases h <;> rfl
theorem truV_of {K : PySem.W.Frag} {H : Hp} {x : V} {d : PyData} {b : Bool} (h : Rp K H x d) (e : truD d = some b) : TruV K x H b := by
  have hl := sizeLine_eq
  cases h with
  | non => cases e; rfl
  | bl c => cases e; rfl
  | int i => cases e; rfl
  | str y =>
    replace e : (if y.length ≤ 16777216 then some ((y.length : Int) != 0) else none) = some b := e
    split at e
    · rename_i hy
      cases e
      exact ⟨by omega, rfl⟩
    · cases e
  | lst hs ha =>
    cases e
    exact .inl ⟨_, hs, by rw [isEmpty_dp ha]⟩
  | tup hs ha =>
    cases e
    exact .inr (.inl ⟨_, .inl (.inl hs), by rw [isEmpty_dp ha]⟩)
  | dct ha => cases e
  | dcT ha hk => cases e
theorem q_truth (h : PE X a (tB z X.K m)) (he : ∀ whole, isTrue a X.env whole = (do let v ← whole; standAt a.pos; holding [v] (truthy v)) := by intro _; rfl) : PT X a (tQ z X.K (mTru m)) := pt_to (pt_truth h he) fun σ H Q q => by
  obtain ⟨F, en, T, b, T', ok, e, k⟩ := q
  unfold mTru at e
  cases h1 : m en T with
  | none => rw [h1] at e; cases e
  | some p =>
    obtain ⟨d, T1⟩ := p
    rw [h1] at e
    simp only [Option.bind_some] at e
    cases h2 : truD d with
    | none => rw [h2] at e; cases e
    | some c =>
      rw [h2] at e
      cases e
      exact ⟨F, en, T, d, _, ok, h1, fun F' H' v B n p => ⟨_, truV_of (dp_mono (cut_same z H') _ _ p) h2, k F' H' B n⟩⟩
def mAnd (m1 m2 : MT) : MT := fun en T => (m1 en T).bind fun p => if p.1 = true then m2 en p.2 else some (false, p.2)
def mOr (m1 m2 : MT) : MT := fun en T => (m1 en T).bind fun p => if p.1 = true then some (true, p.2) else m2 en p.2
def mNot (m1 : MT) : MT := fun en T => (m1 en T).map fun p => (!p.1, p.2)
theorem q_and {rest : List Expr} {n1 n2 : MT} (ha : PT X a (tQ z X.K n1)) (hb : PW X (.BoolOp .And (b :: rest) pos) (tQ z X.K n2)) : PW X (.BoolOp .And (a :: b :: rest) pos) (tQ z X.K (mAnd n1 n2)) := pw_to (pw_and ha hb) fun σ H Q q => by
  obtain ⟨F, en, T, c, T', ok, e, k⟩ := q
  unfold mAnd at e
  cases h1 : n1 en T with
  | none => rw [h1] at e; cases e
  | some p =>
    obtain ⟨d, T1⟩ := p
    rw [h1] at e
    simp only [Option.bind_some] at e
    refine ⟨F, en, T, d, T1, ok, h1, fun F1 H1 B1 k1 => ?_⟩
    cases d with
    | true => exact ⟨F1, en, T1, c, T', ok.nxt k1 B1, e, fun F2 H2 B2 k2 => k F2 H2 B2 (k1.trans k2 B2)⟩
    | false => cases e; exact k F1 H1 B1 k1
theorem q_or {rest : List Expr} {n1 n2 : MT} (ha : PT X a (tQ z X.K n1)) (hb : PW X (.BoolOp .Or (b :: rest) pos) (tQ z X.K n2)) : PW X (.BoolOp .Or (a :: b :: rest) pos) (tQ z X.K (mOr n1 n2)) := pw_to (pw_or ha hb) fun σ H Q q => by
  obtain ⟨F, en, T, c, T', ok, e, k⟩ := q
  unfold mOr at e
  cases h1 : n1 en T with
  | none => rw [h1] at e; cases e
  | some p =>
    obtain ⟨d, T1⟩ := p
    rw [h1] at e
    simp only [Option.bind_some] at e
    refine ⟨F, en, T, d, T1, ok, h1, fun F1 H1 B1 k1 => ?_⟩
    cases d with
    | false => exact ⟨F1, en, T1, c, T', ok.nxt k1 B1, e, fun F2 H2 B2 k2 => k F2 H2 B2 (k1.trans k2 B2)⟩
    | true => cases e; exact k F1 H1 B1 k1
theorem q_and1 {n1 : MT} (ha : PT X a (tQ z X.K n1)) : PW X (.BoolOp .And [a] pos) (tQ z X.K n1) := pw_and1 ha
theorem q_or1 {n1 : MT} (ha : PT X a (tQ z X.K n1)) : PW X (.BoolOp .Or [a] pos) (tQ z X.K n1) := pw_or1 ha
theorem q_not {n1 : MT} (ha : PT X a (tQ z X.K n1)) : PT X (.UnaryOp .Not a pos) (tQ z X.K (mNot n1)) := pt_to (pt_not ha) fun σ H Q q => by
  obtain ⟨F, en, T, c, T', ok, e, k⟩ := q
  unfold mNot at e
  cases h1 : n1 en T with
  | none => rw [h1] at e; cases e
  | some p =>
    obtain ⟨d, T1⟩ := p
    rw [h1] at e
    cases e
    exact ⟨F, en, T, d, T1, ok, h1, fun F1 H1 B1 k1 => k F1 H1 B1 k1⟩
/-! ### and, or, not as values (of truths) -/
def mAndV (m1 m2 : ME) : ME := fun en T => (m1 en T).bind fun p => match p.1 with
  | .bool true => m2 en p.2
  | .bool false => some (.bool false, p.2)
  | _ => none
def mOrV (m1 m2 : ME) : ME := fun en T => (m1 en T).bind fun p => match p.1 with
  | .bool true => some (.bool true, p.2)
  | .bool false => m2 en p.2
  | _ => none
def mNotV (m1 : ME) : ME := fun en T => (m1 en T).bind fun p => match p.1 with
  | .bool c => some (.bool (!c), p.2)
  | _ => none
theorem d_and {rest : List Expr} (ha : PE X a (tD z X.K m1)) (hb : PE X (.BoolOp .And (b :: rest) pos) (tD z X.K m2)) : PE X (.BoolOp .And (a :: b :: rest) pos) (tD z X.K (mAndV m1 m2)) := pe_to (pe_and ha hb) fun σ H Q q => by
  obtain ⟨F, en, T, c, T', ok, e, k⟩ := q
  unfold mAndV at e
  cases h1 : m1 en T with
  | none => rw [h1] at e; cases e
  | some p =>
    obtain ⟨d, T1⟩ := p
    rw [h1] at e
    simp only [Option.bind_some] at e
    refine ⟨F, en, T, d, T1, ok, h1, fun F1 H1 v B1 k1 p1 => ?_⟩
    split at e
    · cases p1
      exact ⟨true, rfl, ⟨F1, en, T1, c, T', ok.nxt k1 B1, e, fun F2 H2 v B2 k2 p2 => k F2 H2 v B2 (k1.trans k2 B2) p2⟩⟩
    · cases p1
      cases e
      exact ⟨false, rfl, k F1 H1 _ B1 k1 (.bl false)⟩
    · cases e
theorem d_or {rest : List Expr} (ha : PE X a (tD z X.K m1)) (hb : PE X (.BoolOp .Or (b :: rest) pos) (tD z X.K m2)) : PE X (.BoolOp .Or (a :: b :: rest) pos) (tD z X.K (mOrV m1 m2)) := pe_to (pe_or ha hb) fun σ H Q q => by
  obtain ⟨F, en, T, c, T', ok, e, k⟩ := q
  unfold mOrV at e
  cases h1 : m1 en T with
  | none => rw [h1] at e; cases e
  | some p =>
    obtain ⟨d, T1⟩ := p
    rw [h1] at e
    simp only [Option.bind_some] at e
    refine ⟨F, en, T, d, T1, ok, h1, fun F1 H1 v B1 k1 p1 => ?_⟩
    split at e
    · cases p1
      cases e
      exact ⟨true, rfl, k F1 H1 _ B1 k1 (.bl true)⟩
    · cases p1
      exact ⟨false, rfl, ⟨F1, en, T1, c, T', ok.nxt k1 B1, e, fun F2 H2 v B2 k2 p2 => k F2 H2 v B2 (k1.trans k2 B2) p2⟩⟩
    · cases e
theorem d_one {op} (ha : PE X a (tD z X.K m)) : PE X (.BoolOp op [a] pos) (tD z X.K m) := pe_one ha
theorem d_not (ha : PE X a (tD z X.K m)) : PE X (.UnaryOp .Not a pos) (tD z X.K (mNotV m)) := pe_to (pe_not ha) fun σ H Q q => by
  obtain ⟨F, en, T, c, T', ok, e, k⟩ := q
  unfold mNotV at e
  cases h1 : m en T with
  | none => rw [h1] at e; cases e
  | some p =>
    obtain ⟨d, T1⟩ := p
    rw [h1] at e
    simp only [Option.bind_some] at e
    refine ⟨F, en, T, d, T1, ok, h1, fun F1 H1 v B1 k1 p1 => ?_⟩
    split at e
    · cases p1
      cases e
      exact ⟨_, rfl, k F1 H1 _ B1 k1 (.bl _)⟩
    · cases e
def mIfx (n : MT) (m1 m2 : ME) : ME := fun en T => (n en T).bind fun p => if p.1 = true then m1 en p.2 else m2 en p.2
theorem d_ifx {n : MT} (hc : PT X c (tQ z X.K n)) (ha : PE X a (tD z X.K m1)) (hb : PE X b (tD z X.K m2)) : PE X (.IfExp c a b pos) (tD z X.K (mIfx n m1 m2)) := pe_to (pe_ifExp hc ha hb) fun σ H Q q => by
  obtain ⟨F, en, T, d, T', ok, e, k⟩ := q
  unfold mIfx at e
  cases h1 : n en T with
  | none => rw [h1] at e; cases e
  | some p =>
    obtain ⟨t, T1⟩ := p
    rw [h1] at e
    simp only [Option.bind_some] at e
    refine ⟨F, en, T, t, T1, ok, h1, fun F1 H1 B1 k1 => ?_⟩
    cases t with
    | true => exact ⟨F1, en, T1, d, T', ok.nxt k1 B1, e, fun F2 H2 v B2 k2 p2 => k F2 H2 v B2 (k1.trans k2 B2) p2⟩
    | false => exact ⟨F1, en, T1, d, T', ok.nxt k1 B1, e, fun F2 H2 v B2 k2 p2 => k F2 H2 v B2 (k1.trans k2 B2) p2⟩
/-! ### arguments, displays -/
def mNil : MA := fun _ T => some ([], T)
def mCons (m : ME) (ms : MA) : MA := fun en T => (m en T).bind fun p => (ms en p.2).map fun q => (p.1 :: q.1, q.2)
theorem mCons_some {ms : MA} {en : En} {T T' : Dk} {ds : List PyData} (e : mCons m ms en T = some (ds, T')) : ∃ d T1 r, m en T = some (d, T1) ∧ ms en T1 = some (r, T') ∧ ds = d :: r := by
  unfold mCons at e
  cases h1 : m en T with
  | none => rw [h1] at e; cases e
  | some p =>
    obtain ⟨d1, T1⟩ := p
    rw [h1] at e
    simp only [Option.bind_some] at e
    cases h2 : ms en T1 with
    | none => rw [h2] at e; cases e
    | some q =>
      obtain ⟨d2, T2⟩ := q
      rw [h2] at e
      simp only [Option.map_some, Option.some.injEq, Prod.mk.injEq] at e
      obtain ⟨rfl, rfl⟩ := e
      exact ⟨d1, T1, d2, rfl, h2, rfl⟩
theorem a_nil : PA X [] (tDs z X.K mNil) := pa_to pa_nil fun σ H Q q => by
  obtain ⟨F, en, T, ds, T', ok, e, k⟩ := q
  cases e
  exact k F H [] ok.b Nxt.refl .nil
theorem a_cons {es : List Expr} {ms : MA} (ha : PE X a (tD z X.K m)) (hr : PA X es (tDs z X.K ms)) (hs : starEach (a :: es) X.env = (false, eval a X.env) :: starEach es X.env := by rfl) : PA X (a :: es) (tDs z X.K (mCons m ms)) := pa_to (pa_cons ha hr hs) fun σ H Q q => by
  obtain ⟨F, en, T, ds, T', ok, e, k⟩ := q
  obtain ⟨d, T1, r, e1, e2, rfl⟩ := mCons_some e
  exact ⟨F, en, T, d, T1, ok, e1, fun F1 H1 v B1 n1 p1 => ⟨F1, en, T1, r, T', ok.nxt n1 B1, e2, fun F2 H2 vs B2 n2 p2 => k F2 H2 _ B2 (n1.trans n2 B2) (.cons (dp_mono n2.s _ _ p1) p2)⟩⟩
theorem ab_nil : PA X [] (tBs z X.K mNil) := pa_to pa_nil fun σ H Q q => by
  obtain ⟨F, en, T, ds, T', ok, e, k⟩ := q
  cases e
  exact k F H [] ok.b Nxt.refl .nil
theorem ab_cons {es : List Expr} {ms : MA} (ha : PE X a (tB z X.K m)) (hr : PA X es (tBs z X.K ms)) (hs : starEach (a :: es) X.env = (false, eval a X.env) :: starEach es X.env := by rfl) : PA X (a :: es) (tBs z X.K (mCons m ms)) := pa_to (pa_cons ha hr hs) fun σ H Q q => by
  obtain ⟨F, en, T, ds, T', ok, e, k⟩ := q
  obtain ⟨d, T1, r, e1, e2, rfl⟩ := mCons_some e
  exact ⟨F, en, T, d, T1, ok, e1, fun F1 H1 v B1 n1 p1 => ⟨F1, en, T1, r, T', ok.nxt n1 B1, e2, fun F2 H2 vs B2 n2 p2 => k F2 H2 _ B2 (n1.trans n2 B2) (.cons (dp_mono n2.st.cut _ _ p1) p2)⟩⟩
def mTup (ms : MA) : ME := fun en T => (ms en T).bind fun p => if p.1.length ≤ 1000 then some (.tuple p.1, p.2) else none
def mLst (ms : MA) : MA := fun en T => (ms en T).bind fun p => if p.1.length ≤ 1000 then some p else none
theorem d_tup {es : List Expr} {ms : MA} {x1} (h : PA X es (tDs z X.K ms)) : PE X (.Tuple es x1 pos) (tD z X.K (mTup ms)) := pe_to (pe_tup h) fun σ H Q q => by
  obtain ⟨F, en, T, d, T', ok, e, k⟩ := q
  unfold mTup at e
  cases h1 : ms en T with
  | none => rw [h1] at e; cases e
  | some p =>
    obtain ⟨ds, T1⟩ := p
    rw [h1] at e
    simp only [Option.bind_some] at e
    split at e
    · rename_i hl
      cases e
      refine ⟨F, en, T, _, _, ok, h1, fun F1 H1 vs B1 n1 p1 => ⟨by have := dpAll_len p1; have := sizeLine_eq; omega, fun q hq => ?_⟩⟩
      obtain ⟨B2, n2⟩ := B1.lay (o := .tup vs) hq
      exact k _ _ _ B2 (n1.trans n2 B2) (.tup upd_same (dpAll_mono n2.s _ _ p1))
    · cases e
theorem f_lst {es : List Expr} {ms : MA} (h : PA X es (tDs z X.K ms)) : PE X (.List es pos) (tF z X.K (mLst ms)) := pe_to (pe_lst h) fun σ H Q q => by
  obtain ⟨F, en, T, d, T', ok, e, k⟩ := q
  unfold mLst at e
  cases h1 : ms en T with
  | none => rw [h1] at e; cases e
  | some p =>
    obtain ⟨ds, T1⟩ := p
    rw [h1] at e
    simp only [Option.bind_some] at e
    split at e
    · rename_i hl
      cases e
      refine ⟨F, en, T, _, _, ok, h1, fun F1 H1 vs B1 n1 p1 => ⟨by have := dpAll_len p1; have := sizeLine_eq; omega, fun q hq => ?_⟩⟩
      obtain ⟨B2, n2, f2, h2⟩ := B1.put (o := .lst vs) hq
      refine k _ _ _ _ B2 (n1.trans n2 B2) ?_ upd_same f2 h2 p1
      cases e0 : H q with
      | none => rfl
      | some o =>
        have nd : z.isDk q = false := by
          cases hd : z.isDk q with
          | true => exact absurd h2 (B1.dkin q hd)
          | false => rfl
        rw [n1.st q o e0 nd] at hq
        cases hq
    · cases e
/-- scalars that are looked at may be kept -/
def scD : PyData → Bool
  | .none => true
  | .bool _ => true
  | .int _ => true
  | .str _ => true
  | _ => false
theorem sc_of {K : PySem.W.Frag} {F : Hp} {v : V} {d : PyData} (h : Rp K F v d) (hs : scD d = true) : Sc K v d := by
  intro F'
  cases h with
  | non => exact .non
  | bl b => exact .bl b
  | int i => exact .int i
  | str x => exact .str x
  | lst _ _ => cases hs
  | tup _ _ => cases hs
  | dct _ => cases hs
  | dcT _ _ => cases hs
def mSc (m : ME) : ME := fun en T => (m en T).bind fun p => if scD p.1 = true then some p else none
theorem sb (h : PE X a (tB z X.K m)) : PE X a (tD z X.K (mSc m)) := pe_to h fun σ H Q q => by
  obtain ⟨F, en, T, d, T', ok, e, k⟩ := q
  unfold mSc at e
  cases h1 : m en T with
  | none => rw [h1] at e; cases e
  | some p =>
    obtain ⟨ds, T1⟩ := p
    rw [h1] at e
    simp only [Option.bind_some] at e
    split at e
    · rename_i hl
      cases e
      exact ⟨F, en, T, _, _, ok, h1, fun F1 H1 v B1 n1 p1 => k F1 H1 v B1 n1 (sc_of p1 hl F1)⟩
    · cases e
/-! ### built-in functions with scalar answers -/
abbrev G1 := List PyData → Option PyData
def LiftC (K : PySem.W.Frag) (r : List V → Hp → VK → Prop) (g : G1) : Prop := ∀ (H : Hp) (vs : List V) (ds : List PyData) (b : PyData) (Q : VK), RpAll K H vs ds → g ds = some b → (∀ v, Sc K v b → Q v H) → r vs H Q
def mCall (g : G1) (ms : MA) : ME := fun en T => (ms en T).bind fun p => (g p.1).map fun b => (b, p.2)
theorem liftC {K : PySem.W.Frag} {r : List V → Hp → VK → Prop} {g : G1} {ms : MA} (L : LiftC K r g) {σ : St} {H : Hp} {Q : VK} (h : tD z K (mCall g ms) σ H Q) : tCB r (tBs z K ms) σ H Q := by
  obtain ⟨F, en, T, d, T', ok, e, k⟩ := h
  unfold mCall at e
  cases h1 : ms en T with
  | none => rw [h1] at e; cases e
  | some p =>
    obtain ⟨ds, T1⟩ := p
    rw [h1] at e
    simp only [Option.bind_some] at e
    cases h2 : g ds with
    | none => rw [h2] at e; cases e
    | some b =>
      rw [h2] at e
      cases e
      exact ⟨F, en, T, ds, _, ok, h1, fun F1 H1 vs B1 n1 p1 => L H1 vs ds _ Q (dpAll_mono (cut_same z H1) _ _ p1) h2 fun v hv => k F1 H1 v B1 n1 (hv F1)⟩
theorem d_callB {id : String} {x : Str} {es : List Expr} {p : Pos} {r : List V → Hp → VK → Prop} {g : G1} {ms : MA} (hc : CallR X (.builtin id) r) (L : LiftC X.K r g) (hg : Gl X x) (hm : X.mg x = none) (hv : bootBuiltins x = some (.builtin id)) (ha : PA X (a :: es) (tBs z X.K ms)) (hn : x ≠ "__name__" := by decide) (hdb : (x == ("__debug__" : Str)) = false := by decide)
    (he : starEach (a :: es) X.env = (false, eval a X.env) :: starEach es X.env := by rfl) (hpl : (backTo pos (starEach es X.env)).any (·.1) = false := by rfl) : PE X (.Call (.Name x p) (a :: es) [] pos) (tD z X.K (mCall g ms)) :=
  pe_to (pe_callB hc hg hm hv ha hn hdb he hpl) fun _ _ _ h => liftC L h
theorem d_callTy {id : String} {x : Str} {es : List Expr} {p : Pos} {r : List V → Hp → VK → Prop} {g : G1} {ms : MA} (hc : CallR X (.type id) r) (L : LiftC X.K r g) (hg : Gl X x) (hm : X.mg x = none) (hv : bootBuiltins x = some (.type id)) (ha : PA X (a :: es) (tBs z X.K ms)) (hn : x ≠ "__name__" := by decide) (hdb : (x == ("__debug__" : Str)) = false := by decide)
    (he : starEach (a :: es) X.env = (false, eval a X.env) :: starEach es X.env := by rfl) (hpl : (backTo pos (starEach es X.env)).any (·.1) = false := by rfl) : PE X (.Call (.Name x p) (a :: es) [] pos) (tD z X.K (mCall g ms)) :=
  pe_to (pe_callTy hc hg hm hv ha hn hdb he hpl) fun _ _ _ h => liftC L h
/-! ### the operators' own functions -/
def gLen : G1
  | [.list ds] => some (.int (ds.length : Nat))
  | [.tuple ds] => some (.int (ds.length : Nat))
  | [.str x] => if x.length ≤ 16777216 then some (.int (x.length : Nat)) else none
  | _ => none
theorem l_len {K : PySem.W.Frag} : LiftC K (fun xs H Q => ∃ x n, xs = [x] ∧ LenV K x H n ∧ Q (.int n) H) gLen := by
  intro H vs ds b Q h e k
  have hl := sizeLine_eq
  unfold gLen at e
  split at e
  · cases h with
    | cons h1 h2 =>
      cases h2
      cases h1 with
      | lst hs ha => cases e; exact ⟨_, _, rfl, .inl ⟨_, hs, rfl⟩, by rw [dpAll_len ha]; exact k _ fun _ => .int _⟩
  · cases h with
    | cons h1 h2 =>
      cases h2
      cases h1 with
      | tup hs ha => cases e; exact ⟨_, _, rfl, .inr ⟨_, tk hs, rfl⟩, by rw [dpAll_len ha]; exact k _ fun _ => .int _⟩
  · cases h with
    | cons h1 h2 =>
      cases h2
      cases h1
      split at e
      · rename_i hx
        cases e
        exact ⟨_, _, rfl, ⟨by omega, rfl⟩, k _ fun _ => .int _⟩
      · cases e
  · cases e
def boolsOf : List PyData → Option (List Bool)
  | [] => some []
  | .bool b :: r => (boolsOf r).map (b :: ·)
  | _ :: _ => none
theorem boolsOf_dp {K : PySem.W.Frag} {H : Hp} : ∀ {ds : List PyData} {xs : List V} {bs : List Bool}, RpAll K H xs ds → boolsOf ds = some bs → xs = bs.map V.bl
  | [], _, _, h, e => by cases h; cases e; rfl
  | d :: r, _, bs, h, e => by
    cases h with
    | cons h1 h2 =>
      cases h1 with
      | bl b =>
        unfold boolsOf at e
        cases q : boolsOf r with
        | none => rw [q] at e; cases e
        | some bs' =>
          rw [q] at e
          cases e
          rw [boolsOf_dp h2 q]
          rfl
      | _ => cases e
def gAll : G1
  | [.list ds] => (boolsOf ds).map fun bs => .bool (bs.all id)
  | _ => none
def gAny : G1
  | [.list ds] => (boolsOf ds).map fun bs => .bool (bs.any id)
  | _ => none
theorem l_all {K : PySem.W.Frag} : LiftC K (rAll K) gAll := by
  intro H vs ds b Q h e k
  unfold gAll at e
  split at e
  · rename_i ds
    cases h with
    | cons h1 h2 =>
      cases h2
      cases h1 with
      | lst hs ha =>
        cases q : boolsOf ds with
        | none => rw [q] at e; cases e
        | some bs =>
          rw [q] at e
          cases e
          have := boolsOf_dp ha q
          subst this
          exact ⟨_, bs, rfl, hs, k _ fun _ => .bl _⟩
  · cases e
theorem l_any {K : PySem.W.Frag} : LiftC K (rAny K) gAny := by
  intro H vs ds b Q h e k
  unfold gAny at e
  split at e
  · rename_i ds
    cases h with
    | cons h1 h2 =>
      cases h2
      cases h1 with
      | lst hs ha =>
        cases q : boolsOf ds with
        | none => rw [q] at e; cases e
        | some bs =>
          rw [q] at e
          cases e
          have := boolsOf_dp ha q
          subst this
          exact ⟨_, bs, rfl, hs, k _ fun _ => .bl _⟩
  · cases e
def intsOf : List PyData → Option (List Int)
  | [] => some []
  | .int b :: r => (intsOf r).map (b :: ·)
  | _ :: _ => none
theorem intsOf_dp {K : PySem.W.Frag} {H : Hp} : ∀ {ds : List PyData} {xs : List V} {bs : List Int}, RpAll K H xs ds → intsOf ds = some bs → xs = bs.map V.int
  | [], _, _, h, e => by cases h; cases e; rfl
  | d :: r, _, bs, h, e => by
    cases h with
    | cons h1 h2 =>
      cases h1 with
      | int b =>
        unfold intsOf at e
        cases q : intsOf r with
        | none => rw [q] at e; cases e
        | some bs' =>
          rw [q] at e
          cases e
          rw [intsOf_dp h2 q]
          rfl
      | _ => cases e
theorem intsOf_ints : ∀ ns : List Int, intsOf (ns.map PyData.int) = some ns
  | [] => rfl
  | n :: ns => by
    show (intsOf (ns.map PyData.int)).map (n :: ·) = _
    rw [intsOf_ints ns]
    rfl
def gSum : G1
  | [.list ds] => (intsOf ds).map fun bs => .int bs.sum
  | _ => none
theorem l_sum {K : PySem.W.Frag} : LiftC K (rSum K) gSum := by
  intro H vs ds b Q h e k
  unfold gSum at e
  split at e
  · rename_i ds
    cases h with
    | cons h1 h2 =>
      cases h2
      cases h1 with
      | lst hs ha =>
        cases q : intsOf ds with
        | none => rw [q] at e; cases e
        | some bs =>
          rw [q] at e
          cases e
          have := intsOf_dp ha q
          subst this
          exact ⟨_, bs, rfl, hs, k _ fun _ => .int _⟩
  · cases e
def gAbs : G1
  | [.int i] => some (.int (if i < 0 then -i else i))
  | _ => none
theorem l_abs {K : PySem.W.Frag} : LiftC K (fun xs H Q => ∃ i, xs = [.int i] ∧ Q (.int (if i < 0 then -i else i)) H) gAbs := by
  intro H vs ds b Q h e k
  unfold gAbs at e
  split at e
  · cases h with
    | cons h1 h2 =>
      cases h2
      cases h1
      cases e
      exact ⟨_, rfl, k _ fun _ => .int _⟩
  · cases e
/-- an operator upon ints -/
def gI (C : Int → Int → Bool) (f : Int → Int → PyData) : G2
  | .int i, .int j => if C i j = true then some (f i j) else none
  | _, _ => none
theorem l_rI {K : PySem.W.Frag} {C : Int → Int → Prop} {c : Int → Int → Bool} {g : Int → Int → V} {f : Int → Int → PyData} (hc : ∀ i j, c i j = true → C i j) (hs : ∀ i j, Sc K (g i j) (f i j)) : Lift2 K (rI C g) (gI c f) := by
  intro H x y d e b Q h1 h2 eq k
  unfold gI at eq
  split at eq
  · cases h1
    cases h2
    split at eq
    · rename_i hq
      cases eq
      exact ⟨_, _, rfl, rfl, hc _ _ hq, k _ (hs _ _)⟩
    · cases eq
  · cases eq
def gI0 (f : Int → Int → PyData) : G2
  | .int i, .int j => some (f i j)
  | _, _ => none
theorem l_rI0 {K : PySem.W.Frag} {g : Int → Int → V} {f : Int → Int → PyData} (hs : ∀ i j, Sc K (g i j) (f i j)) : Lift2 K (rI0 g) (gI0 f) := by
  intro H x y d e b Q h1 h2 eq k
  unfold gI0 at eq
  split at eq
  · cases h1
    cases h2
    cases eq
    exact ⟨_, _, rfl, rfl, k _ (hs _ _)⟩
  · cases eq
def gEq : G2 := fun d e => if SeqAt.shaped d = true ∧ SeqAt.shaped e = true then some (.bool (PyData.eqv d e)) else none
def gNe : G2 := fun d e => if SeqAt.shaped d = true ∧ SeqAt.shaped e = true then some (.bool (!PyData.eqv d e)) else none
theorem l_eq {K : PySem.W.Frag} : Lift2 K (rEqD K) gEq := by
  intro H x y d e b Q h1 h2 eq k
  unfold gEq at eq
  split at eq
  · rename_i hq
    cases eq
    exact ⟨d, e, rp_sh hq.1 h1, rp_sh hq.2 h2, hq.1, hq.2, k _ fun _ => .bl _⟩
  · cases eq
theorem l_ne {K : PySem.W.Frag} : Lift2 K (rNeD K) gNe := by
  intro H x y d e b Q h1 h2 eq k
  unfold gNe at eq
  split at eq
  · rename_i hq
    cases eq
    exact ⟨d, e, rp_sh hq.1 h1, rp_sh hq.2 h2, hq.1, hq.2, k _ fun _ => .bl _⟩
  · cases eq
/-- isinstance -/
def tyD : PyData → String
  | .none => "NoneType"
  | .bool _ => "bool"
  | .int _ => "int"
  | .str _ => "str"
  | .list _ => "list"
  | .tuple _ => "tuple"
  | .dict _ => "dict"
theorem tyX_of {K : PySem.W.Frag} {H : Hp} {x : V} {d : PyData} (h : Rp K H x d) : TyX K H x (.type (tyD d)) := by
  cases h with
  | non => exact .base .non
  | bl b => exact .base (.bl b)
  | int i => exact .base (.int i)
  | str y => exact .base (.str y)
  | lst hs ha =>
    rcases hs with (h | ⟨o, h⟩) | ⟨o, its, n, h, hc, _⟩
    · exact .base (.lst h)
    · exact .base (.frz h)
    · exact .kList h hc
  | tup hs ha => exact .base (.tup hs)
  | dct ha => exact .base (.dK ha)
  | dcT ha hk => exact .base (.dT ha)
def mIsi (T : String) (m : ME) : ME := fun en t => (m en t).bind fun p => (kitB (tyD p.1) T).map fun b => (.bool b, p.2)
theorem d_isi {T : String} {p : Pos} (hg : Gl X "isinstance") (hm : X.mg "isinstance" = none) (ha : PE X a (tB z X.K m)) (hb : PE X b (tC (.ty T)))
    (he : starEach (a :: [b]) X.env = (false, eval a X.env) :: starEach [b] X.env := by rfl) (he2 : starEach (b :: []) X.env = (false, eval b X.env) :: starEach [] X.env := by rfl) (hpl : (backTo pos (starEach [b] X.env)).any (·.1) = false := by rfl) : PE X (.Call (.Name "isinstance" p) [a, b] [] pos) (tD z X.K (mIsi T m)) :=
  pe_to (pe_callB call_isi hg hm (by decide +kernel) (pa_cons ha (pa_cons hb pa_nil he2) he) (by decide) (by decide) he hpl) fun σ H Q q => by
    obtain ⟨F, en, t, d, t', ok, e, k⟩ := q
    unfold mIsi at e
    cases h1 : m en t with
    | none => rw [h1] at e; cases e
    | some p =>
      obtain ⟨d1, T1⟩ := p
      rw [h1] at e
      simp only [Option.bind_some] at e
      cases h2 : kitB (tyD d1) T with
      | none => rw [h2] at e; cases e
      | some r =>
        rw [h2] at e
        cases e
        refine ⟨F, en, t, d1, _, ok, h1, fun F1 H1 v B1 n1 p1 => ?_⟩
        show rIsi X.K [v, .ty T] H1 Q
        exact ⟨v, .ty T, _, _, r, rfl, .ty T, tyX_of (dp_mono (cut_same z H1) _ _ p1), kit_ty h2, k F1 H1 _ B1 n1 (.bl r)⟩
end
end LQ

set_option Elab.async false
set_option linter.all false
set_option maxRecDepth 100000
set_option maxHeartbeats 2000000
namespace LQ
open PySem PySem.Spec PyProof.Rows L2
/-! ### a sequence whose items may be kept -/
def DpE (K : PySem.W.Frag) (F G : Hp) (v : V) : PyData → Prop
  | .list ds => ∃ a xs, v = .ref a ∧ SqL K G a xs ∧ RpAll K F xs ds
  | .tuple ds => ∃ a xs, v = .ref a ∧ G a = some (.tup xs) ∧ RpAll K F xs ds
  | d => Rp K F v d
theorem dpE_of {K : PySem.W.Frag} {F G : Hp} {v : V} {d : PyData} (s : Same F G) (h : Rp K F v d) : DpE K F G v d := by
  cases h with
  | lst hs ha => exact ⟨_, _, rfl, s.seq hs, ha⟩
  | tup hs ha => exact ⟨_, _, rfl, s _ _ hs, ha⟩
  | non => exact .non
  | bl b => exact .bl b
  | int i => exact .int i
  | str x => exact .str x
  | dct ha => exact .dct ha
  | dcT ha hk => exact .dcT ha hk
theorem dpE_dp {K : PySem.W.Frag} {F G : Hp} {v : V} {d : PyData} (s : Same F G) (h : DpE K F G v d) : Rp K G v d := by
  cases d with
  | list ds =>
    obtain ⟨a, xs, rfl, hs, ha⟩ := h
    exact .lst hs (dpAll_mono s _ _ ha)
  | tuple ds =>
    obtain ⟨a, xs, rfl, hs, ha⟩ := h
    exact .tup hs (dpAll_mono s _ _ ha)
  | _ => exact dp_mono s _ _ h
theorem dpE_mono {K : PySem.W.Frag} {F G F' G' : Hp} {v : V} {d : PyData} (s : Same F F') (s' : Same G G') (h : DpE K F G v d) : DpE K F' G' v d := by
  cases d with
  | list ds =>
    obtain ⟨a, xs, rfl, hs, ha⟩ := h
    exact ⟨_, _, rfl, s'.seq hs, dpAll_mono s _ _ ha⟩
  | tuple ds =>
    obtain ⟨a, xs, rfl, hs, ha⟩ := h
    exact ⟨_, _, rfl, s' _ _ hs, dpAll_mono s _ _ ha⟩
  | _ => exact dp_mono s _ _ h
def tE (z : Cz) (K : PySem.W.Frag) (m : ME) : TE := fun σ H Q => ∃ F en T d T', Ok z K F H σ en T ∧ m en T = some (d, T') ∧ ∀ F' H' v, Bs z F' H' T' → Nxt z F H F' H' → DpE K F' (z.cut H') v d → Q v H'
section
variable {X : Cx} {z : Cz} {a b c : Expr} {m m1 m2 m3 : ME} {pos : Pos}
theorem ed (h : PE X a (tD z X.K m)) : PE X a (tE z X.K m) := pe_to h fun σ H Q q => by
  obtain ⟨F, en, T, d, T', ok, e, k⟩ := q
  exact ⟨F, en, T, d, T', ok, e, fun F' H' v B n p => k F' H' v B n (dpE_of B.cut p)⟩
theorem be (h : PE X a (tE z X.K m)) : PE X a (tB z X.K m) := pe_to h fun σ H Q q => by
  obtain ⟨F, en, T, d, T', ok, e, k⟩ := q
  exact ⟨F, en, T, d, T', ok, e, fun F' H' v B n p => k F' H' v B n (dpE_dp B.cut p)⟩
theorem e_var (i : Nat) {x : Str} {pos : Pos} (hN : X.N[i]? = some x := by rfl) (hv : Vis X.env.scope x := by first | exact Or.inl rfl | exact Or.inr (Or.inl rfl) | exact Or.inr (Or.inr rfl)) (hd : (x == ("__debug__" : Str)) = false := by decide)
    (hcd : (x == ("__classdict__" : Str)) = false := by decide) : PE X (.Name x pos) (tE z X.K (mVarB i)) := pe_to (pe_var (i := i) hN hv hd hcd) fun σ H Q q => by
  obtain ⟨F, en, T, d, T', ok, e, k⟩ := q
  unfold mVarB at e
  split at e
  · rename_i d' e'
    cases e
    obtain ⟨v, hv, x, ex, p⟩ := ok.sl i _ e'
    subst ex
    exact ⟨x, hv, k F H x ok.b Nxt.refl (dpE_of ok.b.cut p)⟩
  · rename_i ds e'
    cases e
    obtain ⟨v, hv, a, xs, ex, h1, h2, h3, p⟩ := ok.sl i _ e'
    subst ex
    have nd : z.isDk a = false := by
      cases hd : z.isDk a with
      | true => exact absurd h3 (ok.b.dkin a hd)
      | false => rfl
    refine ⟨.ref a, hv, k F H _ ok.b Nxt.refl ⟨a, xs, rfl, .inl (.inl ?_), p⟩⟩
    unfold Cz.cut
    rw [nd, if_neg (by simp)]
    exact h1
  · cases e
/-! ### an item -/
theorem atI_dp {K : PySem.W.Frag} {F : Hp} {vs : List V} {ds : List PyData} {i : Int} {d : PyData} (h : RpAll K F vs ds) (e : atI ds i = some d) : ∃ v, atI vs i = some v ∧ Rp K F v d := by
  unfold atI at e ⊢
  rw [dpAll_len h]
  cases q : ixN ds.length i with
  | none => rw [q] at e; cases e
  | some j =>
    rw [q] at e
    exact dpAll_get' h e
def ixD : G2
  | .list ds, .int i => atI ds i
  | .tuple ds, .int i => atI ds i
  | .str x, .int i => if x.length ≤ 16777216 then (atI x.cps.toList i).map fun c => .str ⟨#[c]⟩ else none
  | _, _ => none
theorem rIx_of {K : PySem.W.Frag} {F H G G' : Hp} {x y : V} {d e r : PyData} {Q : VK} (s : Same G H) (h1 : DpE K F G x d) (h2 : Rp K G' y e) (eq : ixD d e = some r) (k : ∀ v, Rp K F v r → Q v H) : rIx K x y H Q := by
  have hl := sizeLine_eq
  unfold ixD at eq
  split at eq
  · obtain ⟨a, xs, rfl, hs, ha⟩ := h1
    cases h2
    obtain ⟨v, hv, p⟩ := atI_dp ha eq
    exact .inl ⟨a, xs, _, v, rfl, rfl, s.seq hs, hv, k v p⟩
  · obtain ⟨a, xs, rfl, hs, ha⟩ := h1
    cases h2
    obtain ⟨v, hv, p⟩ := atI_dp ha eq
    exact .inr (.inl ⟨a, xs, _, v, rfl, rfl, tk (s _ _ hs), hv, k v p⟩)
  · rename_i x' i'
    replace h1 : Rp K F x (.str x') := h1
    cases h1
    cases h2
    split at eq
    · rename_i hx
      cases q : atI x'.cps.toList i' with
      | none => rw [q] at eq; cases eq
      | some c =>
        rw [q] at eq
        cases eq
        exact .inr (.inr ⟨x', i', c, rfl, rfl, by omega, q, k _ (.str _)⟩)
    · cases eq
  · cases eq
theorem d_ix (ha : PE X a (tE z X.K m1)) (hb : PE X b (tB z X.K m2)) (hs : PlainIx b := by exact fun _ _ => rfl) : PE X (.Subscript a b pos) (tD z X.K (mBin ixD m1 m2)) := pe_to (pe_ix ix_seq ha hb hs) fun σ H Q q => by
  obtain ⟨F, en, T, d, T', ok, e, k⟩ := q
  obtain ⟨d1, T1, d2, e1, e2, e3⟩ := mBin_some e
  refine ⟨F, en, T, d1, T1, ok, e1, fun F1 H1 x B1 n1 p1 => ⟨F1, en, T1, d2, T', ok.nxt n1 B1, e2, fun F2 H2 y B2 n2 p2 => ?_⟩⟩
  exact rIx_of (G := z.cut H2) (F := F2) (cut_same z H2) (dpE_mono n2.s n2.st.cut p1) p2 e3 fun v hv => k F2 H2 v B2 (n1.trans n2 B2) hv
/-! ### a slice -/
abbrev MO := En → Dk → Option (Option Int × Dk)
def tP (z : Cz) (K : PySem.W.Frag) (m : MO) : TO := fun σ H Q => ∃ F en T d T', Ok z K F H σ en T ∧ m en T = some (d, T') ∧ ∀ F' H', Bs z F' H' T' → Nxt z F H F' H' → Q d H'
def mP0 : MO := fun _ T => some (none, T)
def mP (m : ME) : MO := fun en T => match m en T with
  | some (.int i, T') => some (some i, T')
  | _ => none
theorem po_to {o : Option Expr} {t t' : TO} (h : PO X o t) (w : ∀ σ H Q, t' σ H Q → t σ H Q) : PO X o t' := ⟨fun pins s σ H Q I q => h.run pins s σ H Q I (w σ H Q q)⟩
theorem p_none : PO X none (tP z X.K mP0) := po_to po_none fun σ H Q q => by
  obtain ⟨F, en, T, d, T', ok, e, k⟩ := q
  cases e
  exact k F H ok.b Nxt.refl
theorem p_some (h : PE X a (tB z X.K m)) : PO X (some a) (tP z X.K (mP m)) := po_to (po_some h) fun σ H Q q => by
  obtain ⟨F, en, T, d, T', ok, e, k⟩ := q
  unfold mP at e
  split at e
  · rename_i i T1 h1
    cases e
    refine ⟨F, en, T, _, _, ok, h1, fun F' H' v B n p => ?_⟩
    cases p
    exact ⟨_, rfl, k F' H' B n⟩
  · cases e
def cutD (ds : List PyData) (lo hi : Option Int) : List PyData := (ds.drop (HT.sIx ds.length 0 lo)).take (HT.sIx ds.length ds.length hi - HT.sIx ds.length 0 lo)
theorem cut_dp {K : PySem.W.Frag} {F : Hp} {xs : List V} {ds : List PyData} (h : RpAll K F xs ds) (lo hi : Option Int) : RpAll K F (cutV xs lo hi) (cutD ds lo hi) := by
  unfold cutV cutD
  rw [dpAll_len h]
  exact dpAll_take _ (dpAll_drop _ h)
def mSl (g : PyData → Option Int → Option Int → Option PyData) (m : ME) (o1 o2 : MO) : ME := fun en T => (m en T).bind fun p => (o1 en p.2).bind fun q => (o2 en q.2).bind fun r => (g p.1 q.1 r.1).map fun d => (d, r.2)
def mSlF (m : ME) (o1 o2 : MO) : MA := fun en T => (m en T).bind fun p => (o1 en p.2).bind fun q => (o2 en q.2).bind fun r => match p.1 with
  | .list ds => some (cutD ds q.1 r.1, r.2)
  | _ => none
/-- of a list: a new list -/
theorem f_slice {lo hi : Option Expr} {o1 o2 : MO} {p2 : Pos} (ha : PE X a (tE z X.K m)) (hl : PO X lo (tP z X.K o1)) (hh : PO X hi (tP z X.K o2)) : PE X (.Subscript a (.Slice lo hi none p2) pos) (tF z X.K (mSlF m o1 o2)) := pe_to (pe_slice sl_list ha hl hh) fun σ H Q q => by
  obtain ⟨F, en, T, ds, T', ok, e, k⟩ := q
  unfold mSlF at e
  cases h1 : m en T with
  | none => rw [h1] at e; cases e
  | some p =>
    obtain ⟨d, T1⟩ := p
    rw [h1] at e
    simp only [Option.bind_some] at e
    cases h2 : o1 en T1 with
    | none => rw [h2] at e; cases e
    | some p =>
      obtain ⟨l1, T2⟩ := p
      rw [h2] at e
      simp only [Option.bind_some] at e
      cases h3 : o2 en T2 with
      | none => rw [h3] at e; cases e
      | some p =>
        obtain ⟨l2, T3⟩ := p
        rw [h3] at e
        simp only [Option.bind_some] at e
        refine ⟨F, en, T, d, T1, ok, h1, fun F1 H1 x B1 n1 p1 => ⟨F1, en, T1, l1, T2, ok.nxt n1 B1, h2, fun F2 H2 B2 n2 => ⟨F2, en, T2, l2, T3, (ok.nxt n1 B1).nxt n2 B2, h3, fun F3 H3 B3 n3 => ?_⟩⟩⟩
        split at e
        · cases e
          obtain ⟨a, xs, rfl, hs, hx⟩ := p1
          have n13 := n2.trans n3 B3
          refine ⟨a, xs, rfl, ((n13.st.cut).trans (cut_same z H3)).seq hs, fun q hq => ?_⟩
          obtain ⟨B4, n4, f4, h4⟩ := B3.put (o := .lst (cutV xs l1 l2)) hq
          have n14 := n1.trans (n13.trans n4 B4) B4
          refine k _ _ _ _ B4 n14 ?_ upd_same f4 h4 (cut_dp (dpAll_mono n13.s _ _ hx) l1 l2)
          cases e0 : H q with
          | none => rfl
          | some o =>
            have nd : z.isDk q = false := by
              cases hd : z.isDk q with
              | true => exact absurd h4 (B1.dkin q hd)
              | false => rfl
            rw [(n1.trans n13 B3).st q o e0 nd] at hq
            cases hq
        · cases e
def gSlT : PyData → Option Int → Option Int → Option PyData
  | .tuple ds, lo, hi => some (.tuple (cutD ds lo hi))
  | _, _, _ => none
def gSlS : PyData → Option Int → Option Int → Option PyData
  | .str x, lo, hi => if x.length ≤ 16777216 then some (.str (cutS x lo hi)) else none
  | _, _, _ => none
theorem mSl_some {g : PyData → Option Int → Option Int → Option PyData} {o1 o2 : MO} {en : En} {T T' : Dk} {d : PyData} (e : mSl g m o1 o2 en T = some (d, T')) : ∃ d1 T1 l1 T2 l2, m en T = some (d1, T1) ∧ o1 en T1 = some (l1, T2) ∧ o2 en T2 = some (l2, T') ∧ g d1 l1 l2 = some d := by
  unfold mSl at e
  cases h1 : m en T with
  | none => rw [h1] at e; cases e
  | some p =>
    obtain ⟨d1, T1⟩ := p
    rw [h1] at e
    simp only [Option.bind_some] at e
    cases h2 : o1 en T1 with
    | none => rw [h2] at e; cases e
    | some p =>
      obtain ⟨l1, T2⟩ := p
      rw [h2] at e
      simp only [Option.bind_some] at e
      cases h3 : o2 en T2 with
      | none => rw [h3] at e; cases e
      | some p =>
        obtain ⟨l2, T3⟩ := p
        rw [h3] at e
        simp only [Option.bind_some] at e
        cases h4 : g d1 l1 l2 with
        | none => rw [h4] at e; cases e
        | some r =>
          rw [h4] at e
          simp only [Option.map_some, Option.some.injEq, Prod.mk.injEq] at e
          obtain ⟨rfl, rfl⟩ := e
          exact ⟨d1, T1, l1, T2, l2, rfl, h2, h3, h4⟩
theorem cutV_all (xs : List V) (lo hi : Option Int) (h : HT.sIx xs.length 0 lo = 0 ∧ HT.sIx xs.length xs.length hi = xs.length) : cutV xs lo hi = xs := by
  unfold cutV
  rw [h.1, h.2]
  simp
theorem d_sliceT {lo hi : Option Expr} {o1 o2 : MO} {p2 : Pos} (ha : PE X a (tD z X.K m)) (hl : PO X lo (tP z X.K o1)) (hh : PO X hi (tP z X.K o2)) : PE X (.Subscript a (.Slice lo hi none p2) pos) (tD z X.K (mSl gSlT m o1 o2)) := pe_to (pe_slice sl_tupA ha hl hh) fun σ H Q q => by
  obtain ⟨F, en, T, ds, T', ok, e, k⟩ := q
  obtain ⟨d1, T1, l1, T2, l2, h1, h2, h3, h4⟩ := mSl_some e
  refine ⟨F, en, T, d1, T1, ok, h1, fun F1 H1 x B1 n1 p1 => ⟨F1, en, T1, l1, T2, ok.nxt n1 B1, h2, fun F2 H2 B2 n2 => ⟨F2, en, T2, l2, T', (ok.nxt n1 B1).nxt n2 B2, h3, fun F3 H3 B3 n3 => ?_⟩⟩⟩
  unfold gSlT at h4
  split at h4
  · cases h4
    cases p1 with
    | tup hs hx =>
      rename_i a xs
      have n13 := n2.trans n3 B3
      have s3 : F3 a = some (.tup xs) := n13.s _ _ hs
      have x3 := dpAll_mono n13.s _ _ hx
      refine ⟨a, xs, rfl, tk (B3.fh _ _ s3), fun hw => ?_, fun hw q hq => ?_⟩
      · have e := cut_dp x3 l1 l2
        rw [cutV_all xs l1 l2 hw] at e
        exact k F3 H3 _ B3 (n1.trans n13 B3) (.tup s3 e)
      · obtain ⟨B4, n4⟩ := B3.lay (o := .tup (cutV xs l1 l2)) hq
        exact k _ _ _ B4 (n1.trans (n13.trans n4 B4) B4) (.tup upd_same (dpAll_mono n4.s _ _ (cut_dp x3 l1 l2)))
  · cases h4
theorem d_sliceS {lo hi : Option Expr} {o1 o2 : MO} {p2 : Pos} (ha : PE X a (tB z X.K m)) (hl : PO X lo (tP z X.K o1)) (hh : PO X hi (tP z X.K o2)) : PE X (.Subscript a (.Slice lo hi none p2) pos) (tD z X.K (mSl gSlS m o1 o2)) := pe_to (pe_slice sl_str ha hl hh) fun σ H Q q => by
  obtain ⟨F, en, T, ds, T', ok, e, k⟩ := q
  obtain ⟨d1, T1, l1, T2, l2, h1, h2, h3, h4⟩ := mSl_some e
  refine ⟨F, en, T, d1, T1, ok, h1, fun F1 H1 x B1 n1 p1 => ⟨F1, en, T1, l1, T2, ok.nxt n1 B1, h2, fun F2 H2 B2 n2 => ⟨F2, en, T2, l2, T', (ok.nxt n1 B1).nxt n2 B2, h3, fun F3 H3 B3 n3 => ?_⟩⟩⟩
  have hl := sizeLine_eq
  unfold gSlS at h4
  split at h4
  · split at h4
    · rename_i hx
      cases h4
      cases p1
      exact ⟨_, rfl, by omega, k F3 H3 _ B3 (n1.trans (n2.trans n3 B3) B3) (.str _)⟩
    · cases h4
  · cases h4
end
/-! ### statements -/
inductive Res where
  | nx (en : En) (T : Dk)
  | rt (d : PyData) (T : Dk)
  | bk (en : En) (T : Dk)
  | ct (en : En) (T : Dk)
abbrev MS := En → Dk → Option Res
def EndR (z : Cz) (K : PySem.W.Frag) (F : Hp) (D : Ends) : Res → Prop
  | .nx en T => ∀ F' H' σ', Ok z K F' H' σ' en T → Same F F' → D.nx σ' H'
  | .rt d T => ∀ F' H' v, Bs z F' H' T → Rp K F' v d → D.rt v H'
  | .bk en T => ∀ F' H' σ', Ok z K F' H' σ' en T → Same F F' → D.bk σ' H'
  | .ct en T => ∀ F' H' σ', Ok z K F' H' σ' en T → Same F F' → D.ct σ' H'
def tS (z : Cz) (K : PySem.W.Frag) (m : MS) : TS := fun D σ H => ∃ F en T r, Ok z K F H σ en T ∧ m en T = some r ∧ EndR z K F D r
theorem EndR.mono {z : Cz} {K : PySem.W.Frag} {F F' : Hp} {D : Ends} {r : Res} (s : Same F F') (h : EndR z K F D r) : EndR z K F' D r := by
  cases r with
  | nx en T => exact fun F2 H2 σ2 ok s2 => h F2 H2 σ2 ok (s.trans s2)
  | rt d T => exact h
  | bk en T => exact fun F2 H2 σ2 ok s2 => h F2 H2 σ2 ok (s.trans s2)
  | ct en T => exact fun F2 H2 σ2 ok s2 => h F2 H2 σ2 ok (s.trans s2)
section
variable {X : Cx} {z : Cz} {a b c : Expr} {m m1 m2 m3 : ME} {s1 s2 : MS} {pos : Pos} {K : PySem.W.Frag} {F H : Hp} {σ : St} {en : En} {T : Dk}
theorem Ok.set {i : Nat} {x : V} {d : PyData} (k : Ok z K F H σ en T) (p : Rp K F x d) : Ok z K F H (σ.set i (some x)) (en.set i (some (.dat d))) T := by
  refine ⟨k.b, by rw [List.length_set, List.length_set]; exact k.len, fun j s e => ?_, fun j l ds es a hjl e1 e2 h1 h2 => ?_, nd_set k.nd fun ds h => by cases h⟩
  · by_cases hj : i = j
    · subst hj
      by_cases hi : i < en.length
      · rw [List.getElem?_set_self hi] at e
        cases e
        exact ⟨some x, List.getElem?_set_self (by rw [k.len]; exact hi), x, rfl, p⟩
      · rw [List.getElem?_eq_none (by rw [List.length_set]; omega)] at e
        cases e
    · rw [List.getElem?_set_ne hj] at e
      rw [List.getElem?_set_ne hj]
      exact k.sl j s e
  · have hj : i ≠ j := fun q => by
      subst q
      by_cases hi : i < en.length
      · rw [List.getElem?_set_self hi] at e1; cases e1
      · rw [List.getElem?_eq_none (by rw [List.length_set]; omega)] at e1; cases e1
    have hl : i ≠ l := fun q => by
      subst q
      by_cases hi : i < en.length
      · rw [List.getElem?_set_self hi] at e2; cases e2
      · rw [List.getElem?_eq_none (by rw [List.length_set]; omega)] at e2; cases e2
    rw [List.getElem?_set_ne hj] at e1 h1
    rw [List.getElem?_set_ne hl] at e2 h2
    exact k.ne j l ds es a hjl e1 e2 h1 h2
theorem Ok.setOwn {i : Nat} {a : Addr} {xs : List V} {ds : List PyData} (k : Ok z K F H σ en T) (ha : H a = some (.lst xs)) (hf : F a = none) (h0 : z.H0 a = none) (p : RpAll K F xs ds) (hn : ∀ (j : Nat) (es : List PyData), en[j]? = some (some (.own es)) → σ[j]? ≠ some (some (.ref a))) :
    Ok z K F H (σ.set i (some (.ref a))) (en.set i (some (.own ds))) T := by
  refine ⟨k.b, by rw [List.length_set, List.length_set]; exact k.len, fun j s e => ?_, fun j l ds' es b hjl e1 e2 h1 h2 => ?_, nd_set k.nd fun ds h => by cases h⟩
  · by_cases hj : i = j
    · subst hj
      by_cases hi : i < en.length
      · rw [List.getElem?_set_self hi] at e
        cases e
        exact ⟨_, List.getElem?_set_self (by rw [k.len]; exact hi), a, xs, rfl, ha, hf, h0, p⟩
      · rw [List.getElem?_eq_none (by rw [List.length_set]; omega)] at e
        cases e
    · rw [List.getElem?_set_ne hj] at e
      rw [List.getElem?_set_ne hj]
      exact k.sl j s e
  · by_cases hj : i = j
    · subst hj
      have hl : i ≠ l := hjl
      rw [List.getElem?_set_ne hl] at e2 h2
      by_cases hi : i < σ.length
      · rw [List.getElem?_set_self hi] at h1
        cases h1
        exact hn l es e2 h2
      · rw [List.getElem?_eq_none (by rw [List.length_set]; omega)] at h1; cases h1
    · rw [List.getElem?_set_ne hj] at e1 h1
      by_cases hl : i = l
      · subst hl
        by_cases hi : i < σ.length
        · rw [List.getElem?_set_self hi] at h2
          cases h2
          exact hn j _ e1 h1
        · rw [List.getElem?_eq_none (by rw [List.length_set]; omega)] at h2; cases h2
      · rw [List.getElem?_set_ne hl] at e2 h2
        exact k.ne j l _ es b hjl e1 e2 h1 h2
def mNext : MS := fun en T => some (.nx en T)
def mSeq (s1 s2 : MS) : MS := fun en T => (s1 en T).bind fun r => match r with
  | .nx en' T' => s2 en' T'
  | r => some r
theorem ss_nil : PSs X [] (tS z X.K mNext) := pss_to pss_nil fun D σ H q => by
  obtain ⟨F, en, T, r, ok, e, k⟩ := q
  cases e
  exact k F H σ ok (Same.refl _)
theorem tS_seq {D : Ends} (h : tS z K (mSeq s1 s2) D σ H) : tSeq (tS z K s1) (tS z K s2) D σ H := by
  obtain ⟨F, en, T, r, ok, e, k⟩ := h
  unfold mSeq at e
  cases h1 : s1 en T with
  | none => rw [h1] at e; cases e
  | some q =>
    rw [h1] at e
    simp only [Option.bind_some] at e
    cases q with
    | nx en' T' => exact ⟨F, en, T, _, ok, h1, fun F' H' σ' ok' s => ⟨F', en', T', r, ok', e, k.mono s⟩⟩
    | rt d T' => cases e; exact ⟨F, en, T, _, ok, h1, k⟩
    | bk en' T' => cases e; exact ⟨F, en, T, _, ok, h1, k⟩
    | ct en' T' => cases e; exact ⟨F, en, T, _, ok, h1, k⟩
theorem ss_cons {st : Stmt} {rest : List Stmt} (h1 : PS X st (tS z X.K s1)) (h2 : PSs X rest (tS z X.K s2)) : PSs X (st :: rest) (tS z X.K (mSeq s1 s2)) := pss_to (pss_cons h1 h2) fun D σ H q => tS_seq q
theorem ss_one {st : Stmt} (h1 : PS X st (tS z X.K s1)) : PSs X [st] (tS z X.K s1) := pss_one h1
def mRet (m : ME) : MS := fun en T => (m en T).map fun p => .rt p.1 p.2
theorem s_ret (h : PE X a (tD z X.K m)) : PS X (.Return (some a) pos) (tS z X.K (mRet m)) := ps_to (ps_ret h) fun D σ H q => by
  obtain ⟨F, en, T, r, ok, e, k⟩ := q
  unfold mRet at e
  cases h1 : m en T with
  | none => rw [h1] at e; cases e
  | some p =>
    obtain ⟨d, T1⟩ := p
    rw [h1] at e
    cases e
    exact ⟨F, en, T, d, T1, ok, h1, fun F' H' v B n p => k F' H' v B p⟩
def mRetN : MS := fun en T => some (.rt .none T)
theorem s_retN : PS X (.Return none pos) (tS z X.K mRetN) := ps_to ps_retN fun D σ H q => by
  obtain ⟨F, en, T, r, ok, e, k⟩ := q
  cases e
  exact k F H .non ok.b .non
/-- return x, x a list of one's own -/
def mRetV (i : Nat) : MS := fun en T => match en[i]? with
  | some (some (.dat d)) => some (.rt d T)
  | some (some (.own ds)) => some (.rt (.list ds) T)
  | _ => none
theorem s_retV (i : Nat) {x : Str} {pos pos' : Pos} (hN : X.N[i]? = some x := by rfl) (hv : Vis X.env.scope x := by first | exact Or.inl rfl | exact Or.inr (Or.inl rfl) | exact Or.inr (Or.inr rfl)) (hd : (x == ("__debug__" : Str)) = false := by decide)
    (hcd : (x == ("__classdict__" : Str)) = false := by decide) : PS X (.Return (some (.Name x pos')) pos) (tS z X.K (mRetV i)) := ps_to (ps_ret (pe_var (i := i) hN hv hd hcd)) fun D σ H q => by
  obtain ⟨F, en, T, r, ok, e, k⟩ := q
  unfold mRetV at e
  split at e
  · rename_i d' e'
    cases e
    obtain ⟨v, hv, x, ex, p⟩ := ok.sl i _ e'
    subst ex
    exact ⟨x, hv, k F H x ok.b p⟩
  · rename_i ds e'
    cases e
    obtain ⟨v, hv, a, xs, ex, h1, h2, h3, p⟩ := ok.sl i _ e'
    subst ex
    have s : Same F (upd F a (.lst xs)) := fun b o h => by rw [upd_ne (ne_of_none h h2)]; exact h
    exact ⟨.ref a, hv, k _ H _ (ok.b.freeze h1 h3) (.lst (.inl (.inl upd_same)) (dpAll_mono s _ _ p))⟩
  · cases e
def mSet (i : Nat) (m : ME) : MS := fun en T => (m en T).map fun p => .nx (en.set i (some (.dat p.1))) p.2
theorem tS_set {i : Nat} {D : Ends} (h : tS z K (mSet i m) D σ H) : tAsg (tD z K m) (gName i) D σ H := by
  obtain ⟨F, en, T, r, ok, e, k⟩ := h
  unfold mSet at e
  cases h1 : m en T with
  | none => rw [h1] at e; cases e
  | some p =>
    obtain ⟨d, T1⟩ := p
    rw [h1] at e
    cases e
    exact ⟨F, en, T, d, T1, ok, h1, fun F' H' v B n p => k F' H' _ ((ok.nxt n B).set p) n.s⟩
theorem s_set (i : Nat) {x : Str} {pos' : Pos} (hN : X.N.Nodup) (he : PE X a (tD z X.K m)) (hi : X.N[i]? = some x := by rfl) (hx : Loc X.env.scope x := by first | exact Or.inl rfl | exact Or.inr rfl) (hs : swapsWith a (some (.Name x pos')) pos.line X.env = pure false := by rfl) (hf : X.fn x = true ∨ X.env.scope.names.lookup x = some .local := by first | exact .inl rfl | exact .inr rfl | assumption) :
    PS X (.Assign [.Name x pos'] a pos) (tS z X.K (mSet i m)) := ps_to (ps_set (i := i) hN hi hx he hs hf) fun D σ H q => tS_set q
def mSetF (i : Nat) (m : MA) : MS := fun en T => (m en T).map fun p => .nx (en.set i (some (.own p.1))) p.2
theorem tS_setF {i : Nat} {m : MA} {D : Ends} (q : tS z K (mSetF i m) D σ H) : tAsg (tF z K m) (gName i) D σ H := by
  obtain ⟨F, en, T, r, ok, e, k⟩ := q
  unfold mSetF at e
  cases h1 : m en T with
  | none => rw [h1] at e; cases e
  | some p =>
    obtain ⟨d, T1⟩ := p
    rw [h1] at e
    cases e
    refine ⟨F, en, T, d, T1, ok, h1, fun F' H' a xs B n h0 h' f' hz p => ?_⟩
    have ok' := ok.nxt n B
    refine k F' H' _ (ok'.setOwn h' f' hz p fun j es ej hj => ?_) n.s
    obtain ⟨v, hv, b, ys, ev, hb, _⟩ := ok.sl j _ ej
    rw [hv] at hj
    subst ev
    cases hj
    rw [h0] at hb
    cases hb
theorem s_setF (i : Nat) {x : Str} {pos' : Pos} {m : MA} (hN : X.N.Nodup) (he : PE X a (tF z X.K m)) (hi : X.N[i]? = some x := by rfl) (hx : Loc X.env.scope x := by first | exact Or.inl rfl | exact Or.inr rfl) (hs : swapsWith a (some (.Name x pos')) pos.line X.env = pure false := by rfl) (hf : X.fn x = true ∨ X.env.scope.names.lookup x = some .local := by first | exact .inl rfl | exact .inr rfl | assumption) :
    PS X (.Assign [.Name x pos'] a pos) (tS z X.K (mSetF i m)) := ps_to (ps_set (i := i) hN hi hx he hs hf) fun _ _ _ q => tS_setF q
def mIf (n : MT) (s1 s2 : MS) : MS := fun en T => (n en T).bind fun p => if p.1 = true then s1 en p.2 else s2 en p.2
theorem s_if {n : MT} {A B : List Stmt} (hc : PT X c (tQ z X.K n)) (ha : PSs X A (tS z X.K s1)) (hb : PSs X B (tS z X.K s2)) : PS X (.If c A B pos) (tS z X.K (mIf n s1 s2)) := ps_to (ps_if hc ha hb) fun D σ H q => by
  obtain ⟨F, en, T, r, ok, e, k⟩ := q
  unfold mIf at e
  cases h1 : n en T with
  | none => rw [h1] at e; cases e
  | some p =>
    obtain ⟨t, T1⟩ := p
    rw [h1] at e
    simp only [Option.bind_some] at e
    refine ⟨F, en, T, t, T1, ok, h1, fun F1 H1 B1 k1 => ?_⟩
    cases t with
    | true => exact ⟨F1, en, T1, r, ok.nxt k1 B1, e, k.mono k1.s⟩
    | false => exact ⟨F1, en, T1, r, ok.nxt k1 B1, e, k.mono k1.s⟩
def mExpr (m : ME) : MS := fun en T => (m en T).map fun p => .nx en p.2
theorem s_expr (he : PE X a (tD z X.K m)) (hs : swapsWith a none pos.line X.env = pure false := by rfl) : PS X (.Expr a pos) (tS z X.K (mExpr m)) := ps_to (ps_expr he hs) fun D σ H q => by
  obtain ⟨F, en, T, r, ok, e, k⟩ := q
  unfold mExpr at e
  cases h1 : m en T with
  | none => rw [h1] at e; cases e
  | some p =>
    obtain ⟨d, T1⟩ := p
    rw [h1] at e
    cases e
    exact ⟨F, en, T, d, T1, ok, h1, fun F' H' v B n p => k F' H' σ (ok.nxt n B) n.s⟩
def mBreak : MS := fun en T => some (.bk en T)
def mCont : MS := fun en T => some (.ct en T)
theorem s_break : PS X (.Break pos) (tS z X.K mBreak) := ps_to ps_break fun D σ H q => by
  obtain ⟨F, en, T, r, ok, e, k⟩ := q
  cases e
  exact k F H σ ok (Same.refl _)
theorem s_cont : PS X (.Continue pos) (tS z X.K mCont) := ps_to ps_continue fun D σ H q => by
  obtain ⟨F, en, T, r, ok, e, k⟩ := q
  cases e
  exact k F H σ ok (Same.refl _)
end
end LQ

set_option Elab.async false
set_option linter.all false
set_option maxRecDepth 100000
set_option maxHeartbeats 2000000
namespace LQ
open PySem PySem.Spec PyProof.Rows L2
/-! ### slots that are left as they were -/
def Out (vs : List Nat) (σ σ' : St) : Prop := σ'.length = σ.length ∧ ∀ k, k ∉ vs → σ'[k]? = σ[k]?
theorem wipe_in {σ : St} {i : Nat} : ∀ {vs : List Nat}, i ∈ vs → i < σ.length → (wipe σ vs)[i]? = some none
  | [], h, _ => by simp at h
  | v :: vs, h, hl => by
    unfold wipe
    by_cases hv : v = i
    · subst hv
      exact List.getElem?_set_self (by rw [wipe_length]; exact hl)
    · rw [List.getElem?_set_ne hv]
      refine wipe_in ?_ hl
      cases List.mem_cons.mp h with
      | inl q => exact absurd q.symm hv
      | inr q => exact q
theorem Out.wipe {vs : List Nat} {σ σ' : St} (h : Out vs σ σ') : wipe σ' vs = wipe σ vs := by
  refine List.ext_getElem? fun i => ?_
  by_cases hi : i ∈ vs
  · by_cases hl : i < σ.length
    · rw [wipe_in hi hl, wipe_in hi (by rw [h.1]; exact hl)]
    · rw [List.getElem?_eq_none (by rw [wipe_length, h.1]; omega), List.getElem?_eq_none (by rw [wipe_length]; omega)]
  · rw [wipe_out hi, wipe_out hi]
    exact h.2 i hi
theorem Out.trans {vs us : List Nat} {σ σ1 σ2 : St} (a : Out vs σ σ1) (b : Out us σ1 σ2) : Out (vs ++ us) σ σ2 :=
  ⟨b.1.trans a.1, fun k hk => by
    rw [List.mem_append, not_or] at hk
    rw [b.2 k hk.2, a.2 k hk.1]⟩
def wipeE (en : En) : List Nat → En
  | [] => en
  | v :: vs => (wipeE en vs).set v none
section
variable {z : Cz} {K : PySem.W.Frag} {F H : Hp} {σ : St} {en : En} {T : Dk}
theorem Ok.wipe1 {i : Nat} (k : Ok z K F H σ en T) : Ok z K F H (σ.set i none) (en.set i none) T := by
  have no : ∀ (j : Nat) (s : Sl), (en.set i none)[j]? = some (some s) → i ≠ j ∧ en[j]? = some (some s) := fun j s e => by
    by_cases hj : i = j
    · subst hj
      by_cases hi : i < en.length
      · rw [List.getElem?_set_self hi] at e; cases e
      · rw [List.getElem?_eq_none (by rw [List.length_set]; omega)] at e; cases e
    · rw [List.getElem?_set_ne hj] at e
      exact ⟨hj, e⟩
  refine ⟨k.b, by rw [List.length_set, List.length_set]; exact k.len, fun j s e => ?_, fun j l ds es a hjl e1 e2 h1 h2 => ?_, nd_set k.nd fun ds h => by cases h⟩
  · obtain ⟨hj, e⟩ := no j s e
    rw [List.getElem?_set_ne hj]
    exact k.sl j s e
  · obtain ⟨hj, e1⟩ := no j _ e1
    obtain ⟨hl, e2⟩ := no l _ e2
    rw [List.getElem?_set_ne hj] at h1
    rw [List.getElem?_set_ne hl] at h2
    exact k.ne j l ds es a hjl e1 e2 h1 h2
theorem Ok.wipe (k : Ok z K F H σ en T) : ∀ vs : List Nat, Ok z K F H (L2.wipe σ vs) (wipeE en vs) T
  | [] => k
  | v :: vs => (Ok.wipe k vs).wipe1
end
/-! ### targets -/
abbrev MG := PyData → En → Option En
abbrev MGs := List PyData → En → Option En
def tG (z : Cz) (K : PySem.W.Frag) (vs : List Nat) (mt : MG) : TG := fun v σ H Q => ∃ F en T d en', Ok z K F H σ en T ∧ Rp K F v d ∧ mt d en = some en' ∧ ∀ σ', Ok z K F H σ' en' T → Out vs σ σ' → Q σ' H
def tGs (z : Cz) (K : PySem.W.Frag) (vs : List Nat) (mt : MGs) : TGs := fun v σ H Q => ∃ F en T d en', Ok z K F H σ en T ∧ RpAll K F v d ∧ mt d en = some en' ∧ ∀ σ', Ok z K F H σ' en' T → Out vs σ σ' → Q σ' H
section
variable {X : Cx} {z : Cz} {pos : Pos} {tg : Expr}
theorem pg_to {t t' : TG} (h : PG X tg t) (w : ∀ v σ H Q, t' v σ H Q → t v σ H Q) : PG X tg t' := ⟨fun pins s σ H v u Q I r q => h.run pins s σ H v u Q I r (w v σ H Q q)⟩
theorem pgs_to {es : List Expr} {t t' : TGs} (h : PGs X es t) (w : ∀ v σ H Q, t' v σ H Q → t v σ H Q) : PGs X es t' := ⟨fun pins s σ H v u Q I r q => h.run pins s σ H v u Q I r (w v σ H Q q)⟩
def gtName (i : Nat) : MG := fun d en => some (en.set i (some (.dat d)))
theorem g_name (i : Nat) {x : Str} (hN : X.N.Nodup) (hi : X.N[i]? = some x := by rfl) (hx : Loc X.env.scope x := by first | exact Or.inl rfl | exact Or.inr rfl) (hf : X.fn x = true ∨ X.env.scope.names.lookup x = some .local := by first | exact .inl rfl | exact .inr rfl | assumption) : PG X (.Name x pos) (tG z X.K [i] (gtName i)) := pg_to (pg_name hN hi hx hf) fun v σ H Q q => by
  obtain ⟨F, en, T, d, en', ok, p, e, k⟩ := q
  cases e
  refine k _ (ok.set p) ⟨List.length_set, fun j hj => List.getElem?_set_ne ?_⟩
  intro e
  subst e
  simp at hj
def gtNil : MGs := fun ds en => match ds with
  | [] => some en
  | _ => none
def gtCons (g : MG) (gs : MGs) : MGs := fun ds en => match ds with
  | d :: r => (g d en).bind fun en' => gs r en'
  | [] => none
theorem gs_nil : PGs X [] (tGs z X.K [] gtNil) := pgs_to pgs_nil fun v σ H Q q => by
  obtain ⟨F, en, T, d, en', ok, p, e, k⟩ := q
  unfold gtNil at e
  split at e
  · cases e
    cases p
    exact ⟨rfl, k σ ok ⟨rfl, fun _ _ => rfl⟩⟩
  · cases e
theorem gs_cons {es : List Expr} {vs us : List Nat} {g : MG} {gs : MGs} (h1 : PG X tg (tG z X.K vs g)) (h2 : PGs X es (tGs z X.K us gs))
    (hs : (assignEach (tg :: es) X.env).map (·.2) = assign tg X.env :: (assignEach es X.env).map (·.2) := by rfl) : PGs X (tg :: es) (tGs z X.K (vs ++ us) (gtCons g gs)) := pgs_to (pgs_cons h1 h2 hs) fun v σ H Q q => by
  obtain ⟨F, en, T, d, en', ok, p, e, k⟩ := q
  unfold gtCons at e
  split at e
  · rename_i d r
    cases p with
    | cons p1 p2 =>
      cases q : g d en with
      | none => rw [q] at e; cases e
      | some en1 =>
        rw [q] at e
        simp only [Option.bind_some] at e
        exact ⟨_, _, rfl, F, en, T, d, en1, ok, p1, q, fun σ1 ok1 o1 => ⟨F, en1, T, r, en', ok1, p2, e, fun σ2 ok2 o2 => k σ2 ok2 (o1.trans o2)⟩⟩
  · cases e
def gtTup (n : Nat) (gs : MGs) : MG := fun d en => match d with
  | .tuple ds => if ds.length = n then gs ds en else none
  | _ => none
theorem g_tup {es : List Expr} {k n : Nat} {vs : List Nat} {gs : MGs} (hc : X.calm = true) (h : PGs X es (tGs z X.K vs gs))
    (hn : (assignEach es X.env).length = n := by rfl) (hst : (assignEach es X.env).findIdx? (·.1) = none := by rfl) : PG X (.Tuple es k pos) (tG z X.K vs (gtTup n gs)) := pg_to (pg_tup hc h hn hst) fun v σ H Q q => by
  obtain ⟨F, en, T, d, en', ok, p, e, k⟩ := q
  unfold gtTup at e
  split at e
  · split at e
    · rename_i hl
      cases p with
      | tup hs ha => exact ⟨_, _, rfl, tk (ok.b.fh _ _ hs), by rw [dpAll_len ha]; exact hl, F, en, T, _, en', ok, ha, e, k⟩
    · cases e
  · cases e
/-- a, b = e -/
def mAsg (m : ME) (g : MG) : MS := fun en T => (m en T).bind fun p => (g p.1 en).map fun en' => .nx en' p.2
theorem s_asg {a : Expr} {m : ME} {g : MG} {vs : List Nat} (he : PE X a (tD z X.K m)) (hg : PG X tg (tG z X.K vs g)) (hs : swapsWithSole [tg] a pos.line X.env = pure false := by rfl) (hw : swappedStores [tg] a X.env = pure none := by rfl)
    (h1 : (assignEach [tg] X.env).map (·.2) = [assign tg X.env] := by rfl) : PS X (.Assign [tg] a pos) (tS z X.K (mAsg m g)) := ps_to (ps_asg he hg hs hw h1) fun D σ H q => by
  obtain ⟨F, en, T, r, ok, e, k⟩ := q
  unfold mAsg at e
  cases h1 : m en T with
  | none => rw [h1] at e; cases e
  | some p =>
    obtain ⟨d, T1⟩ := p
    rw [h1] at e
    simp only [Option.bind_some] at e
    cases h2 : g d en with
    | none => rw [h2] at e; cases e
    | some en' =>
      rw [h2] at e
      cases e
      exact ⟨F, en, T, d, T1, ok, h1, fun F' H' v B n p => ⟨F', en, T1, d, en', ok.nxt n B, p, h2, fun σ' ok' _ => k F' H' σ' ok' n.s⟩⟩
/-! ### what is walked -/
def Walks (F : Hp) (J : It) (xs : List V) : Prop := ∀ H, Same F H → ∀ i, (∀ x, xs[i]? = some x → J.go i H) ∧ (i < xs.length → ∀ x H', J.yld i H x H' → H' = H ∧ xs[i]? = some x) ∧ (i = xs.length → J.stop i H)
theorem Walks.mono {F F' : Hp} {J : It} {xs : List V} (s : Same F F') (w : Walks F J xs) : Walks F' J xs := fun H h i => w H (s.trans h) i
theorem walks_list {K : PySem.W.Frag} {F : Hp} {a : Addr} {xs : List V} (h : SqL K F a xs) : Walks F (Itl K a) xs := fun H s i =>
  ⟨fun x e => ⟨xs, x, s.seq h, e⟩, fun _ x H' q => ⟨q.1, q.2 xs (s.seq h)⟩, fun hi => ⟨xs, s.seq h, Nat.le_of_eq hi.symm⟩⟩
theorem walks_tup {K : PySem.W.Frag} {F : Hp} {a : Addr} {xs : List V} (h : SqT K F a xs) : Walks F (Itt K a) xs := fun H s i =>
  ⟨fun x e => ⟨xs, x, sqT_mono s h, e⟩, fun _ x H' q => ⟨q.1, q.2 xs (sqT_mono s h)⟩, fun hi => ⟨xs, sqT_mono s h, Nat.le_of_eq hi.symm⟩⟩
def signs (x : Str) : List Str := x.cps.toList.map fun c => ⟨#[c]⟩
theorem walks_str {F : Hp} (x : Str) : Walks F (Its x) ((signs x).map V.str) := fun H s i => by
  have hl : ((signs x).map V.str).length = x.cps.size := by simp [signs]
  refine ⟨fun y e => ?_, fun hi y H' q => ?_, fun hi => ?_⟩
  · have := (List.getElem?_eq_some_iff.mp e).1
    rw [hl] at this
    exact this
  · obtain ⟨e, c, hc, rfl⟩ := q
    refine ⟨e, ?_⟩
    rw [List.getElem?_map]
    unfold signs
    rw [List.getElem?_map, Array.getElem?_toList, hc]
    rfl
  · rw [hl] at hi
    exact Nat.le_of_eq hi.symm
def rng (lo : Int) (n : Nat) : List Int := (List.range n).map fun k => lo + (k : Nat)
theorem walks_rng {F : Hp} (lo : Int) (n : Nat) : Walks F (Itr lo n) ((rng lo n).map V.int) := fun H s i => by
  have hl : ((rng lo n).map V.int).length = n := by simp [rng]
  refine ⟨fun y e => ?_, fun hi y H' q => ?_, fun hi => ?_⟩
  · have := (List.getElem?_eq_some_iff.mp e).1
    rw [hl] at this
    exact this
  · obtain ⟨e, rfl⟩ := q
    refine ⟨e, ?_⟩
    rw [hl] at hi
    simp [rng, hi]
  · rw [hl] at hi
    exact Nat.le_of_eq hi.symm
theorem dp_strs {K : PySem.W.Frag} {F : Hp} : ∀ xs : List Str, RpAll K F (xs.map V.str) (xs.map PyData.str)
  | [] => .nil
  | x :: xs => .cons (.str x) (dp_strs xs)
def itemsD : PyData → Option (List PyData)
  | .list ds => some ds
  | .tuple ds => some ds
  | .str x => some ((signs x).map PyData.str)
  | _ => none
/-- a walk over data: each turn's value, frozen -/
def Wk (z : Cz) (K : PySem.W.Frag) (F1 G1 : Hp) (J : It) (ds : List PyData) : Prop := ∀ F H T, Bs z F H T → Same F1 F → Same G1 H → ∀ i, (i < ds.length → J.go i H) ∧
  (∀ d, ds[i]? = some d → ∀ x H', J.yld i H x H' → ∃ F', Bs z F' H' T ∧ Nxt z F H F' H' ∧ Rp K F' x d) ∧ (i = ds.length → J.stop i H)
theorem wk_of {K : PySem.W.Frag} {F1 G1 : Hp} {J : It} {xs : List V} {ds : List PyData} (w : Walks G1 J xs) (p : RpAll K F1 xs ds) : Wk z K F1 G1 J ds := fun F H T B s1 s2 i => by
  have hl := dpAll_len p
  obtain ⟨w1, w2, w3⟩ := w H s2 i
  refine ⟨fun hi => w1 _ (List.getElem?_eq_getElem (by omega)), fun d hd x H' hy => ?_, fun hi => w3 (by omega)⟩
  obtain ⟨rfl, ex⟩ := w2 (by have := (List.getElem?_eq_some_iff.mp hd).1; omega) x H' hy
  obtain ⟨v, hv, q⟩ := dpAll_get' p hd
  rw [ex] at hv
  cases hv
  exact ⟨F, B, Nxt.refl, dp_mono s1 _ _ q⟩
theorem Wk.any {K : PySem.W.Frag} {F1 G : Hp} {J : It} {ds : List PyData} (w : Wk z K F1 F1 J ds) : Wk z K F1 G J ds := fun F H T B s1 _ i => w F H T B s1 (s1.trans B.fh) i
/-- items that stand frozen | items of a list that stands while nothing but the deck changes -/
def iD (z : Cz) (K : PySem.W.Frag) (m : MA) : TI := fun σ H R => ∃ F en T ds T', Ok z K F H σ en T ∧ m en T = some (ds, T') ∧ ∀ F' H' J, Bs z F' H' T' → Nxt z F H F' H' → Wk z K F' F' J ds → R J H'
def iE (z : Cz) (K : PySem.W.Frag) (m : MA) : TI := fun σ H R => ∃ F en T ds T', Ok z K F H σ en T ∧ m en T = some (ds, T') ∧ ∀ F' H' J, Bs z F' H' T' → Nxt z F H F' H' → Wk z K F' (z.cut H') J ds → R J H'
theorem pi_to {it : Expr} {t t' : TI} (h : PI X tg it t) (w : ∀ σ H Q, t' σ H Q → t σ H Q) : PI X tg it t' := ⟨fun pins s σ H Q I q => h.run pins s σ H Q I (w σ H Q q)⟩
theorem ie_of {it : Expr} {m : MA} (h : PI X tg it (iD z X.K m)) : PI X tg it (iE z X.K m) := pi_to h fun σ H R q => by
  obtain ⟨F, en, T, ds, T', ok, e, k⟩ := q
  exact ⟨F, en, T, ds, T', ok, e, fun F' H' J B n w => k F' H' J B n w.any⟩
def iAny (K : PySem.W.Frag) (tl : TE) : TI := fun σ H R => tl σ H fun x H1 => (∃ a, x = .ref a ∧ (∃ xs, SqL K H1 a xs) ∧ R (Itl K a) H1) ∨ (∃ a, x = .ref a ∧ (∃ xs, SqT K H1 a xs) ∧ R (Itt K a) H1) ∨ ∃ y, x = .str y ∧ R (Its y) H1
theorem pi_any {l : Expr} {tl : TE} (hl : PE X l tl) : PI X tg l (iAny X.K tl) := by
  constructor
  intro pins st σ H want inv h
  refine thn (hl.run pins st σ H _ inv h) ?_
  rintro u s1 ⟨x, H1, i1, rel, hx⟩
  have fresh : ∀ b ∈ [s1.heap.objs.size], FpOk X pins H1 b := fun b hb => by
    rw [List.mem_singleton] at hb
    subst hb
    exact i1.fpOk (Nat.le_refl _) i1.fresh
  have grown : ∀ o : Obj, Inv X pins σ H1 { s1 with heap := s1.heap.push o } := fun o => i1.kept (t' := s1.toks) fun _ _ e => Heap.get?_push_of_some _ e
  rcases hx with ⟨a, rfl, ⟨xs, sq⟩, go⟩ | ⟨a, rfl, ⟨xs, sq⟩, go⟩ | ⟨y, rfl, go⟩
  · cases rel
    obtain ⟨us, _, pl, _⟩ := i1.list sq
    apply wpAny_pyIter_list pl.isList
    exact ⟨_, _, _, _, H1, rfl, grown _, turn_list a s1.heap.objs.size, ⟨_, Heap.get?_push_size _ rfl, rfl, rfl⟩, fresh, go⟩
  · cases rel
    obtain ⟨us, _, pt, _⟩ := i1.tuple sq
    have pt : s1.heap.IsTuple a us.toArray := pt
    apply wpAny_pyIter_tuple pt
    exact ⟨_, _, _, _, H1, rfl, grown _, turn_tuple a s1.heap.objs.size, ⟨_, Heap.get?_push_size _ rfl, rfl, rfl⟩, fresh, go⟩
  · obtain ⟨t, rfl⟩ := rel
    by_cases ascii : y.cps.all (· < 128) = true
    · exact wpAny_pyIter_ascii ascii (pi_one (tk := s1.toks) i1 _ (turn_str _ y t "str_ascii_iterator" (.inl rfl)) ⟨_, Heap.get?_push_size _ rfl, rfl, rfl⟩ go)
    · exact wpAny_pyIter_wide (by simpa using ascii) (pi_one (tk := s1.toks) i1 _ (turn_str _ y t "str_iterator" (.inr rfl)) ⟨_, Heap.get?_push_size _ rfl, rfl, rfl⟩ go)
def mIt (m : ME) : MA := fun en T => (m en T).bind fun p => (itemsD p.1).map fun ds => (ds, p.2)
theorem mIt_some {m : ME} {en : En} {T T' : Dk} {ds : List PyData} (e : mIt m en T = some (ds, T')) : ∃ d, m en T = some (d, T') ∧ itemsD d = some ds := by
  unfold mIt at e
  cases h1 : m en T with
  | none => rw [h1] at e; cases e
  | some p =>
    obtain ⟨d, T1⟩ := p
    rw [h1] at e
    simp only [Option.bind_some] at e
    cases h2 : itemsD d with
    | none => rw [h2] at e; cases e
    | some r =>
      rw [h2] at e
      simp only [Option.map_some, Option.some.injEq, Prod.mk.injEq] at e
      obtain ⟨rfl, rfl⟩ := e
      exact ⟨d, rfl, h2⟩
theorem i_seq {a : Expr} {m : ME} (h : PE X a (tD z X.K m)) : PI X tg a (iD z X.K (mIt m)) := pi_to (pi_any h) fun σ H R q => by
  obtain ⟨F, en, T, ds, T', ok, e, k⟩ := q
  obtain ⟨d, h1, h2⟩ := mIt_some e
  refine ⟨F, en, T, d, T', ok, h1, fun F' H' v B n p => ?_⟩
  cases p with
  | lst hs ha => cases h2; exact .inl ⟨_, rfl, ⟨_, B.fh.seq hs⟩, k F' H' _ B n (wk_of (walks_list hs) ha)⟩
  | tup hs ha => cases h2; exact .inr (.inl ⟨_, rfl, ⟨_, tk (B.fh _ _ hs)⟩, k F' H' _ B n (wk_of (walks_tup (tk hs)) ha)⟩)
  | str x => cases h2; exact .inr (.inr ⟨x, rfl, k F' H' _ B n (wk_of (walks_str x) (dp_strs _))⟩)
  | _ => cases h2
theorem i_seqE {a : Expr} {m : ME} (h : PE X a (tE z X.K m)) : PI X tg a (iE z X.K (mIt m)) := pi_to (pi_any h) fun σ H R q => by
  obtain ⟨F, en, T, ds, T', ok, e, k⟩ := q
  obtain ⟨d, h1, h2⟩ := mIt_some e
  refine ⟨F, en, T, d, T', ok, h1, fun F' H' v B n p => ?_⟩
  cases d with
  | list ds =>
    obtain ⟨a, xs, rfl, hs, ha⟩ := p
    cases h2
    exact .inl ⟨_, rfl, ⟨_, (cut_same z H').seq hs⟩, k F' H' _ B n (wk_of (walks_list hs) ha)⟩
  | tuple ds =>
    obtain ⟨a, xs, rfl, hs, ha⟩ := p
    cases h2
    exact .inr (.inl ⟨_, rfl, ⟨_, tk (cut_same z H' _ _ hs)⟩, k F' H' _ B n (wk_of (walks_tup (tk hs)) ha)⟩)
  | str x =>
    replace p : Rp X.K F' v (.str x) := p
    cases p
    cases h2
    exact .inr (.inr ⟨x, rfl, k F' H' _ B n (wk_of (walks_str x) (dp_strs _))⟩)
  | _ => cases h2
def mRng1 (m : ME) : MA := fun en T => (m en T).bind fun p => match p.1 with
  | .int j => if -4611686018427387904 ≤ j ∧ j < 4611686018427387904 then some ((rng 0 j.toNat).map PyData.int, p.2) else none
  | _ => none
def mRng2 (m1 m2 : ME) : MA := fun en T => (m1 en T).bind fun p => (m2 en p.2).bind fun q => match p.1, q.1 with
  | .int i, .int j => if -4611686018427387904 ≤ j ∧ j < 4611686018427387904 ∧ -4611686018427387904 ≤ i ∧ i < 4611686018427387904 then some ((rng i (j - i).toNat).map PyData.int, q.2) else none
  | _, _ => none
theorem i_rng1 {a : Expr} {m : ME} {p : Pos} (hg : Gl X "range") (hm : X.mg "range" = none) (ha : PE X a (tB z X.K m)) (hs : starEach [a] X.env = [(false, eval a X.env)] := by rfl) : PI X tg (.Call (.Name "range" p) [a] [] pos) (iD z X.K (mRng1 m)) := pi_to (pi_range1 hg hm (pa_cons ha pa_nil hs) hs) fun σ H R q => by
  obtain ⟨F, en, T, ds, T', ok, e, k⟩ := q
  unfold mRng1 at e
  cases h1 : m en T with
  | none => rw [h1] at e; cases e
  | some p =>
    obtain ⟨d, T1⟩ := p
    rw [h1] at e
    simp only [Option.bind_some] at e
    split at e
    · split at e
      · rename_i j hj
        cases e
        refine ⟨F, en, T, _, _, ok, h1, fun F' H' v B n p => ?_⟩
        cases p
        exact ⟨j, rfl, by omega, by omega, k F' H' _ B n (wk_of (walks_rng 0 j.toNat) (dpAll_ints _))⟩
      · cases e
    · cases e
theorem i_rng2 {a b : Expr} {m1 m2 : ME} {p : Pos} (hg : Gl X "range") (hm : X.mg "range" = none) (ha : PE X a (tB z X.K m1)) (hb : PE X b (tB z X.K m2)) (hs : starEach [a, b] X.env = [(false, eval a X.env), (false, eval b X.env)] := by rfl) (hs2 : starEach [b] X.env = [(false, eval b X.env)] := by rfl) : PI X tg (.Call (.Name "range" p) [a, b] [] pos) (iD z X.K (mRng2 m1 m2)) := pi_to (pi_range2 hg hm (pa_cons ha (pa_cons hb pa_nil hs2) (by rw [hs, hs2])) hs hs2) fun σ H R q => by
  obtain ⟨F, en, T, ds, T', ok, e, k⟩ := q
  unfold mRng2 at e
  cases h1 : m1 en T with
  | none => rw [h1] at e; cases e
  | some p =>
    obtain ⟨d, T1⟩ := p
    rw [h1] at e
    simp only [Option.bind_some] at e
    cases h2 : m2 en T1 with
    | none => rw [h2] at e; cases e
    | some p =>
      obtain ⟨d2, T2⟩ := p
      rw [h2] at e
      simp only [Option.bind_some] at e
      split at e
      · split at e
        · rename_i i j hj
          cases e
          refine ⟨F, en, T, _, _, ok, h1, fun F' H' v B n p => ⟨F', en, _, _, _, ok.nxt n B, h2, fun F2 H2 v2 B2 n2 p2 => ?_⟩⟩
          cases p
          cases p2
          exact ⟨i, j, rfl, ⟨by omega, by omega, by omega, by omega⟩, k F2 H2 _ B2 (n.trans n2 B2) (wk_of (walks_rng i (j - i).toNat) (dpAll_ints _))⟩
        · cases e
      · cases e
/-! ### for -/
def mFold (mt : MG) (mb : MS) : List PyData → En → Dk → Option Res
  | [], en, T => some (.nx en T)
  | d :: ds, en, T => (mt d en).bind fun en1 => (mb en1 T).bind fun r => match r with
    | .nx en' T' => mFold mt mb ds en' T'
    | .ct en' T' => mFold mt mb ds en' T'
    | .bk en' T' => some (.nx en' T')
    | .rt d T' => some (.rt d T')
def mFor (mi : MA) (mt : MG) (mb : MS) : MS := fun en T => (mi en T).bind fun p => mFold mt mb p.1 en p.2
theorem s_for {it : Expr} {body : List Stmt} {mi : MA} {mt : MG} {mb : MS} {vs : List Nat} (hp : PassesOwn (model X.prog X.w) X.A X.env X.xe) (hc : X.calm = true) (hi : PI X tg it (iD z X.K mi)) (hg : PG X tg (tG z X.K vs mt)) (hb : PSs X body (tS z X.K mb))
    (hs : ∀ x, foldedSetIterable it X.env x = pure x := by intro _; rfl) : PS X (.For tg it body [] pos) (tS z X.K (mFor mi mt mb)) := ps_to (ps_for hp hc hi hg hb hs) fun D σ H q => by
  obtain ⟨F, en, T, r, ok, e, k⟩ := q
  unfold mFor at e
  cases h1 : mi en T with
  | none => rw [h1] at e; cases e
  | some p =>
    obtain ⟨ds, T1⟩ := p
    rw [h1] at e
    simp only [Option.bind_some] at e
    refine ⟨F, en, T, ds, T1, ok, h1, fun F1 H1 J B1 n1 wk => ?_⟩
    refine ⟨fun i q σ' H' => ∃ F' en' T', Ok z X.K F' H' σ' en' T' ∧ Same F1 F' ∧ i + q = ds.length ∧ mFold mt mb (ds.drop i) en' T' = some r, ⟨ds.length, F1, en, T1, ok.nxt n1 B1, Same.refl _, by omega, e⟩, fun i q σ' H' hW => ?_⟩
    obtain ⟨F', en', T', ok', sf, hq, ef⟩ := hW
    obtain ⟨w1, w2, w3⟩ := wk F' H' T' ok'.b sf (sf.trans ok'.b.fh) i
    by_cases hi : i < ds.length
    · right
      have hdr : ds.drop i = ds[i] :: ds.drop (i + 1) := List.drop_eq_getElem_cons hi
      rw [hdr] at ef
      unfold mFold at ef
      cases h2 : mt ds[i] en' with
      | none => rw [h2] at ef; cases ef
      | some en1 =>
        rw [h2] at ef
        simp only [Option.bind_some] at ef
        cases h3 : mb en1 T' with
        | none => rw [h3] at ef; cases ef
        | some rb =>
          rw [h3] at ef
          simp only [Option.bind_some] at ef
          refine ⟨w1 hi, fun σ2 H2 => ∃ F2 en2 T2, Ok z X.K F2 H2 σ2 en2 T2 ∧ Same F1 F2 ∧ mFold mt mb (ds.drop (i + 1)) en2 T2 = some r, fun σ2 H2 hN => ?_, fun x H2 hy => ?_⟩
          · obtain ⟨F2, en2, T2, a1, a2, a3⟩ := hN
            exact ⟨q - 1, by omega, F2, en2, T2, a1, a2, by omega, a3⟩
          · obtain ⟨Fy, By, ny, py⟩ := w2 _ (List.getElem?_eq_getElem hi) x H2 hy
            have sf := sf.trans ny.s
            refine ⟨Fy, en', T', ds[i], en1, ok'.nxt ny By, py, h2, fun σ2 ok2 _ => ⟨Fy, en1, T', rb, ok2, h3, ?_⟩⟩
            cases rb with
            | nx en2 T2 => exact fun F3 H3 σ3 ok3 s3 => ⟨F3, en2, T2, ok3, sf.trans s3, ef⟩
            | ct en2 T2 => exact fun F3 H3 σ3 ok3 s3 => ⟨F3, en2, T2, ok3, sf.trans s3, ef⟩
            | bk en2 T2 =>
              cases ef
              exact fun F3 H3 σ3 ok3 s3 => k F3 H3 σ3 ok3 (n1.s.trans (sf.trans s3))
            | rt d2 T2 =>
              cases ef
              exact k
    · left
      rw [List.drop_eq_nil_of_le (by omega)] at ef
      cases ef
      exact ⟨w3 (by omega), k F' H' σ' ok' (n1.s.trans sf)⟩
/-! ### while, by a number of turns that is enough -/
def mWhile (n : MT) (mb : MS) : Nat → En → Dk → Option Res
  | 0, _, _ => none
  | q + 1, en, T => (n en T).bind fun p => if p.1 = true then (mb en p.2).bind fun r => match r with
      | .nx en' T' => mWhile n mb q en' T'
      | .ct en' T' => mWhile n mb q en' T'
      | .bk en' T' => some (.nx en' T')
      | .rt d T' => some (.rt d T')
    else some (.nx en p.2)
theorem s_while {c : Expr} {body : List Stmt} {n : MT} {mb : MS} (fuel : En → Dk → Nat) (hp : PassesOwn (model X.prog X.w) X.A X.env X.xe) (hc : PT X c (tQ z X.K n)) (hb : PSs X body (tS z X.K mb)) : PS X (.While c body [] pos) (tS z X.K (fun en T => mWhile n mb (fuel en T) en T)) := ps_to (ps_while hp hc hb) fun D σ H q => by
  obtain ⟨F, en, T, r, ok, e, k⟩ := q
  replace e : mWhile n mb (fuel en T) en T = some r := e
  generalize fuel en T = q at e
  refine ⟨fun q σ' H' => ∃ F' en' T', Ok z X.K F' H' σ' en' T' ∧ Same F F' ∧ mWhile n mb q en' T' = some r, ⟨q, F, en, T, ok, Same.refl _, e⟩, fun q σ' H' hW => ?_⟩
  obtain ⟨F', en', T', ok', sf, ef⟩ := hW
  cases q with
  | zero => cases ef
  | succ q =>
    unfold mWhile at ef
    cases h1 : n en' T' with
    | none => rw [h1] at ef; cases ef
    | some p =>
      obtain ⟨t, T1⟩ := p
      rw [h1] at ef
      simp only [Option.bind_some] at ef
      refine ⟨F', en', T', t, T1, ok', h1, fun F1 H1 B1 n1 => ?_⟩
      cases t with
      | false =>
        cases ef
        exact k F1 H1 σ' (ok'.nxt n1 B1) (sf.trans n1.s)
      | true =>
        simp only [if_true] at ef
        cases h3 : mb en' T1 with
        | none => rw [h3] at ef; cases ef
        | some rb =>
          rw [h3] at ef
          simp only [Option.bind_some] at ef
          refine ⟨fun σ2 H2 => ∃ F2 en2 T2, Ok z X.K F2 H2 σ2 en2 T2 ∧ Same F F2 ∧ mWhile n mb q en2 T2 = some r, fun σ2 H2 hN => ⟨q, by omega, hN⟩, F1, en', T1, rb, ok'.nxt n1 B1, h3, ?_⟩
          have s1 := sf.trans n1.s
          cases rb with
          | nx en2 T2 => exact fun F3 H3 σ3 ok3 s3 => ⟨F3, en2, T2, ok3, s1.trans s3, ef⟩
          | ct en2 T2 => exact fun F3 H3 σ3 ok3 s3 => ⟨F3, en2, T2, ok3, s1.trans s3, ef⟩
          | bk en2 T2 =>
            cases ef
            exact fun F3 H3 σ3 ok3 s3 => k F3 H3 σ3 ok3 (s1.trans s3)
          | rt d2 T2 =>
            cases ef
            exact k
end
end LQ

set_option Elab.async false
set_option linter.all false
set_option maxRecDepth 100000
set_option maxHeartbeats 2000000
namespace LQ
open PySem PySem.Spec PyProof.Rows L2
/-! ### list comprehensions -/
def mYes : MT := fun _ T => some (true, T)
theorem Bs.own {z : Cz} {F H : Hp} {T : Dk} {a : Addr} {o : HO} (B : Bs z F H T) (hf : F a = none) (h0 : z.H0 a = none) : Bs z F (upd H a o) T := by
  have nd : z.isDk a = false := by
    cases hd : z.isDk a with
    | true => exact absurd h0 (B.dkin a hd)
    | false => rfl
  refine ⟨fun b o' h => ?_, B.ff, B.vis, fun b o' h hd => ?_, B.nodk, B.dkin, ?_⟩
  · rw [upd_ne (ne_of_none h hf)]; exact B.fh b o' h
  · rw [upd_ne (ne_of_none h h0)]; exact B.out b o' h hd
  · have hk := B.dk
    unfold DkOk at hk ⊢
    unfold Cz.isDk dkAt at nd
    cases e : z.dk with
    | none => trivial
    | some t =>
      obtain ⟨p1, c1, g1⟩ := t
      rw [e] at hk nd
      simp only [Bool.or_eq_false_iff, beq_eq_false_iff_ne, ne_eq] at nd
      obtain ⟨q1, q3⟩ := nd
      obtain ⟨k1, k2, k3, k4⟩ := hk
      refine ⟨?_, k2, ?_, k4⟩
      · rw [upd_ne (fun e => q1 e.symm)]; exact k1
      · rw [upd_ne (fun e => q3 e.symm)]; exact k3
def mLoop (mt : MG) (mq : MT) (me : ME) (en : En) : List PyData → Dk → Option (List PyData × Dk)
  | [], T => some ([], T)
  | d :: ds, T => (mt d en).bind fun en2 => (mq en2 T).bind fun b => if b.1 = true then (me en2 b.2).bind fun y => (mLoop mt mq me en ds y.2).map fun r => (y.1 :: r.1, r.2) else mLoop mt mq me en ds b.2
def mLc (vs : List Nat) (mi : MA) (mt : MG) (mq : MT) (me : ME) : MA := fun en T => (mi en T).bind fun p => if p.1.length ≤ 16777216 then mLoop mt mq me (wipeE en vs) p.1 p.2 else none
section
variable {X : Cx} {z : Cz} {pos : Pos} {tg : Expr}
theorem pts_to {cs : List Expr} {t t' : TT} (h : PTs X cs t) (w : ∀ σ H Q, t' σ H Q → t σ H Q) : PTs X cs t' := ⟨fun pins s σ H Q I q => h.run pins s σ H Q I (w σ H Q q)⟩
theorem qs_nil : PTs X [] (tQ z X.K mYes) := pts_to pts_nil fun σ H Q q => by
  obtain ⟨F, en, T, b, T', ok, e, k⟩ := q
  cases e
  exact k F H ok.b Nxt.refl
theorem qs_one {c : Expr} {n : MT} (h : PT X c (tQ z X.K n)) : PTs X [c] (tQ z X.K n) := pts_one h
theorem lc_rd {K : PySem.W.Frag} {vs : List Nat} {mi : MA} {mt : MG} {mq : MT} {me : ME} {σ : St} {H : Hp} {Q : VK} (q : tF z K (mLc vs mi mt mq me) σ H Q) : tLc (iE z K mi) (tG z K vs mt) (tQ z K mq) (tD z K me) vs σ H Q := by
  obtain ⟨F, en, T, fin, Te, ok, e, k⟩ := q
  unfold mLc at e
  cases h1 : mi en T with
  | none => rw [h1] at e; cases e
  | some p =>
    obtain ⟨ds, T1⟩ := p
    rw [h1] at e
    simp only [Option.bind_some] at e
    split at e
    · rename_i hsz
      refine ⟨F, en, T, ds, T1, ok, h1, fun F1 H1 J B1 n1 wk => fun D hD => ?_⟩
      obtain ⟨BD, nD, fD, h0D⟩ := B1.put (o := .lst []) hD
      have ndD : z.isDk D = false := by
        cases hd : z.isDk D with
        | true => exact absurd h0D (B1.dkin D hd)
        | false => rfl
      have ok1 := ok.nxt n1 B1
      refine ⟨fun i q H' => ∃ F' T' acc accv rest, Bs z F' H' T' ∧ Nxt z F1 H1 F' H' ∧ H' D = some (.lst accv) ∧ F' D = none ∧ RpAll K F' accv acc ∧ acc ++ rest = fin ∧ acc.length ≤ i ∧ i + q = ds.length ∧ mLoop mt mq me (wipeE en vs) (ds.drop i) T' = some (rest, Te),
        ⟨ds.length, F1, T1, [], [], fin, BD, nD, upd_same, fD, .nil, rfl, Nat.zero_le _, by omega, e⟩, fun i q H' hW => ?_⟩
      obtain ⟨F', T', acc, accv, rest, B', n', hD', fD', pa, ea, hal, hq, el⟩ := hW
      have sJ : Same (z.cut H1) H' := n'.st.cut.trans (cut_same z H')
      obtain ⟨w1, w2, w3⟩ := wk F' H' T' B' n'.s sJ i
      by_cases hi : i < ds.length
      · right
        have hdr : ds.drop i = ds[i] :: ds.drop (i + 1) := List.drop_eq_getElem_cons hi
        rw [hdr] at el
        unfold mLoop at el
        cases h2 : mt ds[i] (wipeE en vs) with
        | none => rw [h2] at el; cases el
        | some en2 =>
          rw [h2] at el
          simp only [Option.bind_some] at el
          cases h3 : mq en2 T' with
          | none => rw [h3] at el; cases el
          | some pb =>
            obtain ⟨b, T2⟩ := pb
            rw [h3] at el
            simp only [Option.bind_some] at el
            refine ⟨w1 hi, fun H2 => ∃ F2 T2 acc accv rest, Bs z F2 H2 T2 ∧ Nxt z F1 H1 F2 H2 ∧ H2 D = some (.lst accv) ∧ F2 D = none ∧ RpAll K F2 accv acc ∧ acc ++ rest = fin ∧ acc.length ≤ i + 1 ∧ mLoop mt mq me (wipeE en vs) (ds.drop (i + 1)) T2 = some (rest, Te), fun H2 hN => ?_, fun x H2 hy => ?_⟩
            · obtain ⟨F2, T2, acc2, accv2, rest2, a1, a2, a3, a4, a5, a6, a7, a8⟩ := hN
              exact ⟨q - 1, by omega, F2, T2, acc2, accv2, rest2, a1, a2, a3, a4, a5, a6, a7, by omega, a8⟩
            · obtain ⟨Fy, By, ny, py⟩ := w2 _ (List.getElem?_eq_getElem hi) x H2 hy
              have fD' : Fy D = none := by
                cases q2 : Fy D with
                | none => rfl
                | some o =>
                  rcases ny.nw D (by rw [q2]; simp) with h | h
                  · exact absurd fD' h
                  · rw [hD'] at h; rcases h with h | ⟨_, h⟩ <;> cases h
              have hD' := ny.st D _ hD' ndD
              have pa := dpAll_mono ny.s _ _ pa
              have n' := n'.trans ny By
              have okw := (ok1.nxt n' By).wipe vs
              refine ⟨Fy, _, T', ds[i], en2, okw, py, h2, fun σ2 ok2 out => ⟨?_, ?_⟩⟩
              · have hw := out.wipe
                have : ∀ vs : List Nat, L2.wipe (L2.wipe σ vs) vs = L2.wipe σ vs := fun vs => by
                  refine List.ext_getElem? fun j => ?_
                  by_cases hj : j ∈ vs
                  · by_cases hl : j < σ.length
                    · rw [wipe_in hj hl, wipe_in hj (by rw [wipe_length]; exact hl)]
                    · rw [List.getElem?_eq_none (by rw [wipe_length, wipe_length]; omega), List.getElem?_eq_none (by rw [wipe_length]; omega)]
                  · rw [wipe_out hj]
                rw [hw, this]
              · refine ⟨Fy, en2, T', b, T2, ok2, h3, fun F3 H3 B3 n3 => ?_⟩
                have hD3 := n3.st D _ hD' ndD
                have fD3 : F3 D = none := by
                  cases q2 : F3 D with
                  | none => rfl
                  | some o =>
                    rcases n3.nw D (by rw [q2]; simp) with h | h
                    · exact absurd fD' h
                    · rw [hD'] at h; rcases h with h | ⟨_, h⟩ <;> cases h
                cases b with
                | false =>
                  simp only [Bool.false_eq_true, if_false] at el
                  exact ⟨F3, T2, acc, accv, rest, B3, n'.trans n3 B3, hD3, fD3, dpAll_mono n3.s _ _ pa, ea, by omega, el⟩
                | true =>
                  simp only [if_true] at el
                  cases h4 : me en2 T2 with
                  | none => rw [h4] at el; cases el
                  | some py =>
                    obtain ⟨y, T4⟩ := py
                    rw [h4] at el
                    simp only [Option.bind_some] at el
                    cases h5 : mLoop mt mq me (wipeE en vs) (ds.drop (i + 1)) T4 with
                    | none => rw [h5] at el; cases el
                    | some pr =>
                      obtain ⟨rest', T5⟩ := pr
                      rw [h5] at el
                      simp only [Option.map_some, Option.some.injEq, Prod.mk.injEq] at el
                      obtain ⟨rfl, rfl⟩ := el
                      refine ⟨F3, en2, T2, y, T4, ok2.nxt n3 B3, h4, fun F4 H4 w B4 n4 pw => ?_⟩
                      have hD4 := n4.st D _ hD3 ndD
                      have fD4 : F4 D = none := by
                        cases q2 : F4 D with
                        | none => rfl
                        | some o =>
                          rcases n4.nw D (by rw [q2]; simp) with h | h
                          · exact absurd fD3 h
                          · rw [hD3] at h; rcases h with h | ⟨_, h⟩ <;> cases h
                      have n34 := n3.trans n4 B4
                      have hl := dpAll_len pa
                      have hsl := sizeLine_eq
                      refine ⟨accv, hD4, by omega, F4, T4, acc ++ [y], accv ++ [w], rest', B4.own fD4 h0D, ?_, upd_same, fD4, dpAll_app (dpAll_mono n34.s _ _ pa) (.cons pw .nil), ?_, ?_, h5⟩
                      · have n14 := n'.trans n34 B4
                        refine ⟨n14.s, fun a o h hd => ?_, n14.nw⟩
                        rw [upd_ne (ne_of_none h hD)]
                        exact n14.st a o h hd
                      · rw [← ea]; simp
                      · simp; omega
      · left
        rw [List.drop_eq_nil_of_le (by omega)] at el
        cases el
        refine ⟨w3 (by omega), k F' H' D accv B' (n1.trans n' B') ?_ hD' fD' h0D (by simpa [← ea] using pa)⟩
        cases e0 : H D with
        | none => rfl
        | some o => rw [n1.st D o e0 ndD] at hD; cases hD
    · cases e
theorem f_lc {elt it : Expr} {ifs : List Expr} {scope : Scope} {own : List (Str × Nat)} {vs : List Nat} {mi : MA} {mt : MG} {mq : MT} {me : ME} (hc : X.calm = true) (hN : X.N.Nodup) (hi : PI X tg it (iE z X.K mi)) (ok : BlkOk X.N X.env.scope scope own)
    (hg : ∀ (s : Shared) (H : Hp) (C : Addr) (cl : List (Str × Addr)) (fp : List Addr), PG (X.blk s H scope (compEnvC scope cl C X.env) fp) tg (tG z X.K vs mt)) (ht : ∀ (s : Shared) (H : Hp) (C : Addr) (cl : List (Str × Addr)) (fp : List Addr), PTs (X.blk s H scope (compEnvC scope cl C X.env) fp) ifs (tQ z X.K mq))
    (he : ∀ (s : Shared) (H : Hp) (C : Addr) (cl : List (Str × Addr)) (fp : List Addr), PE (X.blk s H scope (compEnvC scope cl C X.env) fp) elt (tD z X.K me)) (ho : own.map (·.2) = vs := by rfl) (hs : ∀ x, foldedSetIterable it X.env x = pure x := by intro _; rfl) :
    PE X (.ListComp elt [⟨tg, it, ifs, 0⟩] scope pos) (tF z X.K (mLc vs mi mt mq me)) := by
  subst ho
  exact pe_to (pe_lc hc hN hi ok hg ht he hs) fun _ _ _ q => lc_rd q
theorem s_lcF (i : Nat) {y : Str} {py spos : Pos} {elt it : Expr} {ifs : List Expr} {scope : Scope} {own : List (Str × Nat)} {vs : List Nat} {mi : MA} {mt : MG} {mq : MT} {me : ME} (hc : X.calm = true) (hN : X.N.Nodup) (hyl : X.env.scope.names.lookup y = some .local)
    (hsw : swapsWith (.ListComp elt [⟨tg, it, ifs, 0⟩] scope pos) (some (.Name y py)) spos.line X.env = pure true) (hi : PI X tg it (iE z X.K mi)) (ok : BlkOk X.N X.env.scope scope own)
    (hg : ∀ (s : Shared) (H : Hp) (C : Addr) (cl : List (Str × Addr)) (fp : List Addr), PG (X.blk s H scope (compEnvC scope cl C X.env) fp) tg (tG z X.K vs mt)) (ht : ∀ (s : Shared) (H : Hp) (C : Addr) (cl : List (Str × Addr)) (fp : List Addr), PTs (X.blk s H scope (compEnvC scope cl C X.env) fp) ifs (tQ z X.K mq))
    (he : ∀ (s : Shared) (H : Hp) (C : Addr) (cl : List (Str × Addr)) (fp : List Addr), PE (X.blk s H scope (compEnvC scope cl C X.env) fp) elt (tD z X.K me)) (hy : X.N[i]? = some y := by rfl) (ho : own.map (·.2) = vs := by rfl) (hs : ∀ x, foldedSetIterable it X.env x = pure x := by intro _; rfl) :
    PS X (.Assign [.Name y py] (.ListComp elt [⟨tg, it, ifs, 0⟩] scope pos) spos) (tS z X.K (mSetF i (mLc vs mi mt mq me))) := by
  subst ho
  exact ps_to (ps_setLc hc hN hy hyl hsw hi ok hg ht he hs) fun _ _ _ q => lc_rd (tS_setF q)
theorem s_lcD (i : Nat) {y : Str} {py spos : Pos} {elt it : Expr} {ifs : List Expr} {scope : Scope} {own : List (Str × Nat)} {vs : List Nat} {mi : MA} {mt : MG} {mq : MT} {me : ME} (hc : X.calm = true) (hN : X.N.Nodup) (hyl : X.env.scope.names.lookup y = some .local)
    (hsw : swapsWith (.ListComp elt [⟨tg, it, ifs, 0⟩] scope pos) (some (.Name y py)) spos.line X.env = pure true) (hi : PI X tg it (iE z X.K mi)) (ok : BlkOk X.N X.env.scope scope own)
    (hg : ∀ (s : Shared) (H : Hp) (C : Addr) (cl : List (Str × Addr)) (fp : List Addr), PG (X.blk s H scope (compEnvC scope cl C X.env) fp) tg (tG z X.K vs mt)) (ht : ∀ (s : Shared) (H : Hp) (C : Addr) (cl : List (Str × Addr)) (fp : List Addr), PTs (X.blk s H scope (compEnvC scope cl C X.env) fp) ifs (tQ z X.K mq))
    (he : ∀ (s : Shared) (H : Hp) (C : Addr) (cl : List (Str × Addr)) (fp : List Addr), PE (X.blk s H scope (compEnvC scope cl C X.env) fp) elt (tD z X.K me)) (hy : X.N[i]? = some y := by rfl) (ho : own.map (·.2) = vs := by rfl) (hs : ∀ x, foldedSetIterable it X.env x = pure x := by intro _; rfl) :
    PS X (.Assign [.Name y py] (.ListComp elt [⟨tg, it, ifs, 0⟩] scope pos) spos) (tS z X.K (mSet i (mL (mLc vs mi mt mq me)))) := by
  subst ho
  exact ps_to (ps_setLc hc hN hy hyl hsw hi ok hg ht he hs) fun _ _ _ q => lc_rd (tF_of (tS_set q))
end
/-! ### what a def promises -/
def SlA (dk : Option (Addr × Addr × Addr)) (K : PySem.W.Frag) (F : Hp) (v : V) : Sl → Prop
  | .dat d => Rp K F v d
  | .deck => ∃ p c g, dk = some (p, c, g) ∧ v = .ref p
  | .exc a => v = .ref a
  | .cst d => ∀ F, L2.Dp K F v d
  | .own _ => False
  | .ownD _ => False
inductive SlAs (dk : Option (Addr × Addr × Addr)) (K : PySem.W.Frag) (F : Hp) : List V → List Sl → Prop
  | nil : SlAs dk K F [] []
  | cons {v vs s ss} : SlA dk K F v s → SlAs dk K F vs ss → SlAs dk K F (v :: vs) (s :: ss)
theorem SlAs.len {dk : Option (Addr × Addr × Addr)} {K : PySem.W.Frag} {F : Hp} : ∀ {vs : List V} {ss : List Sl}, SlAs dk K F vs ss → vs.length = ss.length
  | _, _, .nil => rfl
  | _, _, .cons _ r => by rw [List.length_cons, List.length_cons, r.len]
theorem SlAs.get {dk : Option (Addr × Addr × Addr)} {K : PySem.W.Frag} {F : Hp} : ∀ {vs : List V} {ss : List Sl} {i : Nat} {s : Sl}, SlAs dk K F vs ss → ss[i]? = some s → ∃ v, vs[i]? = some v ∧ SlA dk K F v s
  | _, _, _, _, .nil, e => by simp at e
  | _, _, 0, _, .cons h _, e => by simp at e; subst e; exact ⟨_, rfl, h⟩
  | _, _, i + 1, s, .cons _ r, e => by
    obtain ⟨v, h1, h2⟩ := SlAs.get (i := i) (s := s) r (by simpa using e)
    exact ⟨v, by simpa using h1, h2⟩
theorem SlAs.mono {dk : Option (Addr × Addr × Addr)} {K : PySem.W.Frag} {F F' : Hp} (s : Same F F') : ∀ {vs : List V} {ss : List Sl}, SlAs dk K F vs ss → SlAs dk K F' vs ss
  | _, _, .nil => .nil
  | _, _, .cons (s := a) h r => .cons (by
      cases a with
      | dat d => exact dp_mono s _ _ h
      | deck => exact h
      | exc a => exact h
      | cst d => exact h
      | ownD ds => exact h
      | own ds => exact h) (r.mono s)
abbrev MF := List Sl → Dk → Option (PyData × Dk)
def spD (K : PySem.W.Frag) (n : Nat) (m : MF) : Sp := fun vs H Q _ => ∃ F dk ss T d T', vs.length = n ∧ Bs ⟨F, H, dk⟩ F H T ∧ SlAs dk K F vs ss ∧ m ss T = some (d, T') ∧ ∀ F' H' v, Bs ⟨F, H, dk⟩ F' H' T' → Rp K F' v d → Q v H'
def mFun (n : Nat) (mb : MS) : MF := fun ss T => match mb (ss.map some ++ List.replicate (n - ss.length) none) T with
  | some (.rt d T') => some (d, T')
  | some (.nx _ T') => some (.none, T')
  | _ => none
theorem ok_start {K : PySem.W.Frag} {F H : Hp} {dk : Option (Addr × Addr × Addr)} {T : Dk} {N : List Str} {vs : List V} {ss : List Sl} (B : Bs ⟨F, H, dk⟩ F H T) (a : SlAs dk K F vs ss) : Ok ⟨F, H, dk⟩ K F H (L2.start N vs) (ss.map some ++ List.replicate (N.length - ss.length) none) T := by
  have hl := a.len
  have no : ∀ (i : Nat) (s : Sl), (ss.map some ++ List.replicate (N.length - ss.length) none)[i]? = some (some s) → i < ss.length ∧ ss[i]? = some s := fun i s e => by
    by_cases hi : i < ss.length
    · rw [List.getElem?_append_left (by simpa using hi), List.getElem?_map] at e
      refine ⟨hi, ?_⟩
      cases q : ss[i]? with
      | none => rw [q] at e; cases e
      | some s' => rw [q] at e; cases e; rfl
    · rw [List.getElem?_append_right (by simpa using hi), List.getElem?_replicate] at e
      split at e <;> cases e
  refine ⟨B, ?_, fun i s e => ?_, fun i j ds es b _ e1 _ _ _ => ?_, fun i j ds es e1 _ => ?_⟩
  · unfold L2.start
    rw [List.length_append, List.length_append, List.length_map, List.length_map, List.length_replicate, List.length_replicate, hl]
  · obtain ⟨hi, e⟩ := no i s e
    obtain ⟨v, hv, p⟩ := a.get e
    refine ⟨some v, ?_, ?_⟩
    · unfold L2.start
      rw [List.getElem?_append_left (by rw [List.length_map]; omega), List.getElem?_map, hv]
      rfl
    · cases s with
      | dat d => exact ⟨v, rfl, p⟩
      | deck =>
        obtain ⟨q, c, g, e1, rfl⟩ := p
        exact ⟨q, c, g, e1, rfl⟩
      | exc a =>
        obtain rfl : v = .ref a := p
        rfl
      | cst d => exact ⟨v, rfl, p⟩
      | ownD ds => exact False.elim p
      | own ds => exact False.elim p
  · obtain ⟨_, e1⟩ := no i _ e1
    obtain ⟨v, _, p⟩ := a.get e1
    exact False.elim p
  · obtain ⟨_, e1⟩ := no i _ e1
    obtain ⟨v, _, p⟩ := a.get e1
    exact False.elim p
section
variable {P : Program} {w : World} {K : PySem.W.Frag} {mg : Str → Option Value} {base : Heap}
theorem fnD {x qual : Str} {st : Stmt} {f : Addr} {fd : FuncData} {N ps : List Str} {k : Nat} {mb : MS} (Fn : Fun K x qual st f fd) (S : FnScope N ps (defScope st))
    (hbody : ∀ (cdv : Value) (A : Around) (outer : List Env) (s : Shared) (H : Hp) (E : XK) (z : Cz), Room k (A.deeper (envOfC qual (defScope st) s.heap.objs.size f cdv)) →
      PSs (cxOf CX0 P w K mg base N qual (defScope st) f cdv A outer s H E).nox (defBody st) (tS z K mb)) : FnOk P w K mg base CX0 (k + 1) f fd ps (spD K ps.length (mFun N.length mb)) := by
  refine Fn.ok S (fun vs H Q E h => ?_) (fun cdv A outer s H vs Q E hr h => ?_)
  · obtain ⟨F, dk, ss, T, d, T', hl, _⟩ := h
    exact hl
  · obtain ⟨F, dk, ss, T, d, T', hl, B, a, e, q⟩ := h
    refine ⟨_, hbody cdv A outer s H E ⟨F, H, dk⟩ hr, ?_⟩
    unfold mFun at e
    have ok := ok_start (N := N) B a
    split at e
    · rename_i d' T1 e'
      cases e
      exact ⟨F, _, T, _, ok, e', fun F' H' v B' p => q F' H' v B' p⟩
    · rename_i en T1 e'
      cases e
      exact ⟨F, _, T, _, ok, e', fun F' H' σ' ok' _ => q F' H' .non ok'.b .non⟩
    · cases e
end
/-! ### a call of a def -/
abbrev MAs := En → Dk → Option (List Sl × Dk)
def tAs (z : Cz) (K : PySem.W.Frag) (m : MAs) : TA := fun σ H Q => ∃ F en T ss T', Ok z K F H σ en T ∧ m en T = some (ss, T') ∧ ∀ F' H' vs, Bs z F' H' T' → Nxt z F H F' H' → SlAs z.dk K F' vs ss → Q vs H'
def mN0 : MAs := fun _ T => some ([], T)
def mAd (m : ME) (ms : MAs) : MAs := fun en T => (m en T).bind fun p => (ms en p.2).map fun q => (.dat p.1 :: q.1, q.2)
def mAk (i : Nat) (ms : MAs) : MAs := fun en T => match en[i]? with
  | some (some .deck) => (ms en T).map fun q => (.deck :: q.1, q.2)
  | _ => none
def mCf (M : MF) (ms : MAs) : ME := fun en T => (ms en T).bind fun p => M p.1 p.2
section
variable {X : Cx} {z : Cz} {a : Expr} {es : List Expr} {m : ME} {ms : MAs} {pos : Pos}
theorem n_nil : PA X [] (tAs z X.K mN0) := pa_to pa_nil fun σ H Q q => by
  obtain ⟨F, en, T, ds, T', ok, e, k⟩ := q
  cases e
  exact k F H [] ok.b Nxt.refl .nil
theorem n_d (ha : PE X a (tD z X.K m)) (hr : PA X es (tAs z X.K ms)) (hs : starEach (a :: es) X.env = (false, eval a X.env) :: starEach es X.env := by rfl) : PA X (a :: es) (tAs z X.K (mAd m ms)) := pa_to (pa_cons ha hr hs) fun σ H Q q => by
  obtain ⟨F, en, T, ds, T', ok, e, k⟩ := q
  unfold mAd at e
  cases h1 : m en T with
  | none => rw [h1] at e; cases e
  | some p =>
    obtain ⟨d, T1⟩ := p
    rw [h1] at e
    simp only [Option.bind_some] at e
    cases h2 : ms en T1 with
    | none => rw [h2] at e; cases e
    | some q =>
      obtain ⟨r, T2⟩ := q
      rw [h2] at e
      cases e
      exact ⟨F, en, T, d, T1, ok, h1, fun F1 H1 v B1 n1 p1 => ⟨F1, en, T1, r, _, ok.nxt n1 B1, h2, fun F2 H2 vs B2 n2 p2 => k F2 H2 _ B2 (n1.trans n2 B2) (.cons (s := .dat d) (dp_mono n2.s _ _ p1) p2)⟩⟩
theorem n_k (i : Nat) {x : Str} {pos : Pos} (hr : PA X es (tAs z X.K ms)) (hN : X.N[i]? = some x := by rfl) (hv : Vis X.env.scope x := by first | exact Or.inl rfl | exact Or.inr (Or.inl rfl) | exact Or.inr (Or.inr rfl)) (hd : (x == ("__debug__" : Str)) = false := by decide)
    (hcd : (x == ("__classdict__" : Str)) = false := by decide) (hs : starEach (.Name x pos :: es) X.env = (false, eval (.Name x pos) X.env) :: starEach es X.env := by rfl) : PA X (.Name x pos :: es) (tAs z X.K (mAk i ms)) := pa_to (pa_cons (pe_var (i := i) hN hv hd hcd) hr hs) fun σ H Q q => by
  obtain ⟨F, en, T, ds, T', ok, e, k⟩ := q
  unfold mAk at e
  split at e
  · rename_i e'
    obtain ⟨v, hv, p, c, g, e1, e2⟩ := ok.sl i _ e'
    subst e2
    cases h2 : ms en T with
    | none => rw [h2] at e; cases e
    | some q =>
      obtain ⟨r, T2⟩ := q
      rw [h2] at e
      cases e
      exact ⟨_, hv, ⟨F, en, T, r, _, ok, h2, fun F2 H2 vs B2 n2 p2 => k F2 H2 _ B2 n2 (.cons (s := .deck) ⟨p, c, g, e1, rfl⟩ p2)⟩⟩
  · cases e
theorem dk_in {z : Cz} {F H : Hp} {T : Dk} (B : Bs z F H T) (a : Addr) (h : z.isDk a = true) : H a ≠ none := by
  have hk := B.dk
  unfold DkOk at hk
  unfold Cz.isDk dkAt at h
  cases e : z.dk with
  | none => rw [e] at h; cases h
  | some t =>
    obtain ⟨p1, c1, g1⟩ := t
    rw [e] at h hk
    obtain ⟨k1, k2, k3, _⟩ := hk
    simp only [Bool.or_eq_true, beq_iff_eq] at h
    rcases h with rfl | rfl
    · rw [k1]; simp
    · rw [k3]; simp
theorem Bs.enter {z : Cz} {F H : Hp} {T : Dk} (B : Bs z F H T) : Bs ⟨F, H, z.dk⟩ F H T :=
  ⟨B.fh, Same.refl _, fun _ h => .inl h, fun _ _ h _ => h, B.nodk, fun a h => dk_in B a h, B.dk⟩
theorem Bs.leave {z : Cz} {F H F' H' : Hp} {T T' : Dk} (B : Bs z F H T) (B' : Bs ⟨F, H, z.dk⟩ F' H' T') : Bs z F' H' T' ∧ Nxt z F H F' H' := by
  refine ⟨⟨B'.fh, B.ff.trans B'.ff, fun a h => ?_, fun a o h hd => B'.out a o (B.out a o h hd) hd, B'.nodk, B.dkin, B'.dk⟩, ⟨B'.ff, B'.out, B'.vis⟩⟩
  rcases B'.vis a h with q | q
  · exact B.vis a q
  · refine .inr ?_
    cases e : z.H0 a with
    | none => exact .inl rfl
    | some o =>
      cases hd : z.isDk a with
      | true => exact absurd (B'.nodk a hd) h
      | false =>
        have := B.out a o e hd
        change NT (H a) at q
        rw [this] at q
        rcases q with q | ⟨xs, q⟩
        · cases q
        · cases q
          exact .inr ⟨xs, rfl⟩
theorem d_call {k n : Nat} {f : Addr} {fd : FuncData} {ps : List Str} {x : Str} {p : Pos} {M : MF} (Fn : FnOk X.prog X.w X.K X.mg X.base CX0 k f fd ps (spD X.K n M)) (hr : Room k X.A) (hg : Gl X x) (hm : X.mg x = some (.ref f)) (hk : PySem.W.keepIn X.K (.ref f) = true) (hb : Binds X.K fd ps [])
    (ha : PA X (a :: es) (tAs z X.K ms)) (hn : ∀ en T ss T', ms en T = some (ss, T') → ss.length = n) (hdb : (x == ("__debug__" : Str)) = false := by decide) (he : starEach (a :: es) X.env = (false, eval a X.env) :: starEach es X.env := by rfl) (hpl : (backTo pos (starEach es X.env)).any (·.1) = false := by rfl) :
    PE X (.Call (.Name x p) (a :: es) [] pos) (tD z X.K (mCf M ms)) := pe_to (pe_call Fn hr hg hm hk hb .nil pass0 ha hdb he hpl) fun σ H Q q => by
  obtain ⟨F, en, T, d, T', ok, e, k⟩ := q
  unfold mCf at e
  cases h1 : ms en T with
  | none => rw [h1] at e; cases e
  | some p =>
    obtain ⟨ss, T1⟩ := p
    rw [h1] at e
    simp only [Option.bind_some] at e
    refine ⟨F, en, T, ss, T1, ok, h1, fun F1 H1 vs B1 n1 a1 => ?_⟩
    refine ⟨F1, z.dk, ss, T1, d, T', ?_, B1.enter, by rw [List.append_nil]; exact a1, e, fun F' H' v B' p => ?_⟩
    · rw [List.append_nil, a1.len]
      exact hn en T ss T1 h1
    · obtain ⟨B2, n2⟩ := B1.leave B'
      exact k F' H' v B2 (n1.trans n2 B2) p
theorem n_len0 : ∀ (en : En) (T : Dk) (ss : List Sl) (T' : Dk), mN0 en T = some (ss, T') → ss.length = 0 := fun en T ss T' e => by cases e; rfl
theorem n_lenD {n : Nat} (h : ∀ (en : En) (T : Dk) (ss : List Sl) (T' : Dk), ms en T = some (ss, T') → ss.length = n) : ∀ (en : En) (T : Dk) (ss : List Sl) (T' : Dk), mAd m ms en T = some (ss, T') → ss.length = n + 1 := fun en T ss T' e => by
  unfold mAd at e
  cases h1 : m en T with
  | none => rw [h1] at e; cases e
  | some p =>
    rw [h1] at e
    simp only [Option.bind_some] at e
    cases h2 : ms en p.2 with
    | none => rw [h2] at e; cases e
    | some q =>
      rw [h2] at e
      cases e
      rw [List.length_cons, h en p.2 q.1 q.2 h2]
theorem n_lenK {i n : Nat} (h : ∀ (en : En) (T : Dk) (ss : List Sl) (T' : Dk), ms en T = some (ss, T') → ss.length = n) : ∀ (en : En) (T : Dk) (ss : List Sl) (T' : Dk), mAk i ms en T = some (ss, T') → ss.length = n + 1 := fun en T ss T' e => by
  unfold mAk at e
  split at e
  · cases h2 : ms en T with
    | none => rw [h2] at e; cases e
    | some q =>
      rw [h2] at e
      cases e
      rw [List.length_cons, h en T q.1 q.2 h2]
  · cases e
end
end LQ

set_option Elab.async false
set_option linter.all false
set_option maxRecDepth 100000
set_option maxHeartbeats 2000000
/-! Promises of defs that are called where no repr is under way. -/
namespace LQ
open PySem PySem.Spec PyProof.Rows L2
structure FnG (P : Program) (w : World) (K : PySem.W.Frag) (mg : Str → Option Value) (base : Heap) (CX : CXT) (k : Nat) (f : Addr) (fd : FuncData) (ps : List Str) (sp : Sp) : Prop where
  len : ∀ (vs : List V) (H : Hp) (Q : VK) (E : XK), sp vs H Q E → vs.length = ps.length
  go : ∀ (A : Around) (out : List Env) (s : Shared) (H : Hp) (args : Args) (us : List Value) (vs : List V) (Q : VK) (E : XK),
    Room k A → A.guards = some [] → Env0 P w K mg base A out s H → BindsTo s fd args (ps.zip us) →
    Vals vs us → sp vs H Q E → codeAny (model P w) A (.call (.ref f) args) (CR CX out P w H s Q E) s
theorem FnG.up {P : Program} {w : World} {K : PySem.W.Frag} {mg : Str → Option Value} {base : Heap} {CX : CXT} {j k : Nat} {f : Addr} {fd : FuncData} {ps : List Str} {sp : Sp}
    (G : FnG P w K mg base CX j f fd ps sp) (h : j ≤ k) : FnG P w K mg base CX k f fd ps sp :=
  ⟨G.len, fun A o s H ar us vs Q E hr => G.go A o s H ar us vs Q E (hr.mono h)⟩
theorem FnG.of {P : Program} {w : World} {K : PySem.W.Frag} {mg : Str → Option Value} {base : Heap} {CX : CXT} {k : Nat} {f : Addr} {fd : FuncData} {ps : List Str} {sp : Sp}
    (G : FnOk P w K mg base CX k f fd ps sp) : FnG P w K mg base CX k f fd ps sp :=
  ⟨G.len, fun A o s H ar us vs Q E hr _ => G.run A o s H ar us vs Q E hr⟩
theorem FnG.imp {P : Program} {w : World} {K : PySem.W.Frag} {mg : Str → Option Value} {base : Heap} {CX : CXT} {k : Nat} {f : Addr} {fd : FuncData} {ps : List Str} {sp sp' : Sp}
    (G : FnG P w K mg base CX k f fd ps sp) (h : ∀ vs H Q E, sp' vs H Q E → sp vs H Q E) : FnG P w K mg base CX k f fd ps sp' :=
  ⟨fun vs H Q E q => G.len vs H Q E (h _ _ _ _ q), fun A o s H ar us vs Q E hr hg he hb hv hs => G.go A o s H ar us vs Q E hr hg he hb hv (h _ _ _ _ hs)⟩
section
variable {P : Program} {w : World} {K : PySem.W.Frag} {mg : Str → Option Value} {base : Heap} {CX : CXT}
theorem fnG {x qual : Str} {st : Stmt} {f : Addr} {fd : FuncData} {N ps : List Str} {k : Nat} {sp : Sp}
    (Fn : Fun K x qual st f fd) (S : FnScope N ps (defScope st)) (len : ∀ vs H Q E, sp vs H Q E → vs.length = ps.length)
    (hbody : ∀ (cdv : Value) (A : Around) (out : List Env) (s : Shared) (H : Hp) (vs : List V) (Q : VK) (E : XK),
      Room k (A.deeper (envOfC qual (defScope st) s.heap.objs.size f cdv)) → A.guards = some [] → sp vs H Q E →
      ∃ t, PSs (cxOf CX P w K mg base N qual (defScope st) f cdv A out s H E) (defBody st) t ∧
        t { nx := fun _ H' => Q .non H', rt := Q } (start N vs) H) :
    FnG P w K mg base CX (k + 1) f fd ps sp := by
  obtain ⟨oc, od, kV, doc, pm, an, cdv, ct, osl, rfl, lk, hcd⟩ := Fn.ex
  constructor
  · exact len
  intro A out s H args us vs Q E room gu env bnd rel want
  have many := len _ _ _ _ want
  have kin := env.mod.kin.keeps fun b o e => (env.bs b o e).1
  have lim := env.mod.nolimit.keeps fun b o e => (env.bs b o e).1
  obtain ⟨t, der, rd⟩ := hbody cdv A out s H vs Q E (room.deeper _) gu want
  refine codeAny_call_function room.depth (kin _ _ lk) rfl S.co S.gen rfl
    (PySem.W.codeRec_of kin hcd) (bnd _ _ _ _ ?_)
  refine wpAny_newFunctionEnv_cells S.kind (fun y hy => ?kinds) fun env' hE s1 inn => ?_
  case kinds =>
    rcases S.par y.1 (List.of_mem_zip (a := y.1) (b := y.2) hy).1 with q | q
    · left; exact q
    · right; exact ⟨q, PySem.W.cellsFrom_some _ _ _ (.inl q)⟩
  subst hE
  refine ⟨lim.keeps inn.toInCall.keep, codeAny_func ?_⟩
  have inv := inv_start (CX := CX) (E := E) S room.hd env many rel inn
  refine wpAny_mono (der.run [] s1 _ H _ inv rd) ?_ fun _ _ h => h
  intro fl s2 h2
  match fl, h2 with
  | .ret u, ⟨v, _, H2, i2, r2, q2⟩ => exact ⟨v, H2, i2.os, i2.bare, i2.base, i2.hok, r2, q2⟩
  | .next, ⟨_, H2, i2, q2⟩ => exact ⟨V.non, H2, i2.os, i2.bare, i2.base, i2.hok, rfl, q2⟩
  | .brk, ⟨_, _, _, q2⟩ => exact q2.elim
  | .cont, ⟨_, _, _, q2⟩ => exact q2.elim
end
section
variable {X : Cx} {CX : CXT} {k : Nat} {f : Addr} {fd : FuncData} {ps : List Str} {sp : Sp} {E : XK} {x : Str} {p pos : Pos} {e : Expr} {es : List Expr} {t : TA}
theorem pe_callG (G : FnG X.prog X.w X.K X.mg X.base CX k f fd ps sp) (room : Room k X.A) (gu : X.A.guards = some []) (hg : Gl X x) (hm : X.mg x = some (.ref f))
    (hk : PySem.W.keepIn X.K (.ref f) = true) (hb : Binds X.K fd ps []) (hx : Passes CX X E) (ha : PA X (e :: es) t)
    (hdb : (x == ("__debug__" : Str)) = false := by decide)
    (he : starEach (e :: es) X.env = (false, eval e X.env) :: starEach es X.env := by rfl) (hpl : (backTo pos (starEach es X.env)).any (·.1) = false := by rfl) : PE X (.Call (.Name x p) (e :: es) [] pos) (tCall sp [] E t) := by
  constructor
  intro pins s σ H Q inv h
  refine wpAny_Call_Name_kw (ld_glob inv hg hm ?_ hdb)
  refine PySem.W.callWith_K (h₀ := X.base) inv.ok.mod.kin hk (thn (ha.run pos pins s σ H _ inv h) ?_) he hpl
  rintro us s1 ⟨vs, H1, i1, rel, want⟩
  have many : (us ++ []).length = ps.length := by
    rw [List.append_nil, ← rel.length]
    have := G.len _ _ _ _ want
    rwa [List.append_nil] at this
  refine ⟨i1.kIn, wpAny_call (codeAny_mono (G.go X.A X.stack s1 H1 ⟨us, []⟩ (us ++ []) (vs ++ []) Q E room gu i1.env0 (hb s1 us i1.kIn many) (rel.append .nil) want) ?_)⟩
  intro r s2 h2
  match r, h2 with
  | .error v, h2 => exact hx pins σ H1 s1 v s2 i1 h2
  | .ok (.ret u), h2 => exact i1.after h2
  | .ok .next, h2 => exact h2.elim
  | .ok .brk, h2 => exact h2.elim
  | .ok .cont, h2 => exact h2.elim
end
/-- the law's own call -/
theorem law_callG {P : Program} {w : World} {K : PySem.W.Frag} {mg mb : Str → Option Value} {CX : CXT} {k : Nat} {fa a : Addr} {fd : FuncData} {x : Str} {sp : Sp} {s : Shared} {vs : List Value} {ns : List Int}
    (KX : K.In s.heap) (hns : s.heap.Ns mainGlobals mg) (hb : s.heap.Ns builtinsNs mb) (hbb : ∀ x : Str, x ≠ "__name__" → mb x = bootBuiltins x) (hlim : s.heap.NoLimit) (hg : s.gens = #[])
    (ha : s.heap.get? a = some { cls := .type "list", data := .seq vs.toArray }) (hi : IntsAre vs ns) (hl : ns.length ≤ sizeLine) (hr : Room k callerA)
    (G : ∀ base : Heap, K.In base → base.Ns mainGlobals mg → FnG P w K mg base CX k fa fd [x] sp) (hbind : ∀ (s : Shared) (u : Value), BindsTo s fd ⟨[u], []⟩ [(x, u)])
    (spec : ∀ J : Hp, Only J → SqL K J a (ns.map V.int) → sp [.ref a] J (fun r _ => r = .bl true) fun _ _ _ => False) (calm : ∀ J e s', CX [] J s (fun _ _ _ => False) e s' → False) :
    codeAny (model P w) callerA (.call (.ref fa) ⟨[.ref a], []⟩) (fun r s' => r = .ok (.ret (.bool true)) ∧ OldK s.heap s'.heap ∧ s'.os = s.os ∧ AllBare s'.gens) s := by
  have rel := vals_ints hi
  have many := hi.length
  suffices main : ∀ H : Hp, Only H → SqL K H a (ns.map V.int) → HOk P w H s.heap → (∀ b, H b ≠ none → b = a ∧ K.lookup a = none) →
      codeAny (model P w) callerA (.call (.ref fa) ⟨[.ref a], []⟩) (fun r s' => r = .ok (.ret (.bool true)) ∧ OldK s.heap s'.heap ∧ s'.os = s.os ∧ AllBare s'.gens) s by
    cases hk : K.lookup a with
    | some o =>
      have same := KX a o hk
      rw [ha] at same
      cases same
      refine main (fun _ => none) (fun _ => .inl rfl) (.inr ⟨_, vs.toArray, _, hk, rfl, rfl, rfl, ?_, by simpa using rel⟩) (fun b u z => ?_) fun b z => absurd rfl z
      · rw [List.size_toArray, many]; exact hl
      · exact nomatch (show (none : Option HO) = some u from z)
    | none =>
      have at_ : ∀ b u, (if b = a then some (HO.frz { cls := .type "list", data := .seq vs.toArray } (.lst (ns.map V.int))) else none) = some u →
          b = a ∧ u = HO.frz { cls := .type "list", data := .seq vs.toArray } (.lst (ns.map V.int)) := fun b u z => by
        split at z
        · rename_i hba
          exact ⟨hba, (Option.some.inj z).symm⟩
        · cases z
      refine main (fun b => if b = a then some (.frz { cls := .type "list", data := .seq vs.toArray } (.lst (ns.map V.int))) else none) (fun b => ?_) (.inl (.inr ⟨_, if_pos rfl⟩)) (fun b u z => ?_) fun b z => ?_
      · by_cases hba : b = a
        · exact .inr ⟨_, _, if_pos hba⟩
        · exact .inl (if_neg hba)
      · obtain ⟨rfl, rfl⟩ := at_ b u z
        exact ⟨ha, by rw [List.length_map]; exact hl, vs, _, rel, ha⟩
      · by_cases hba : b = a
        · exact ⟨hba, hk⟩
        · exact absurd (if_neg hba) z
  intro H only sq hok lone
  have out : ∀ {b : Addr} {o : Obj}, s.heap.get? b = some o → H b = none → (hidT s.heap H).get? b = some o := fun e n => hidT_get e n
  have nodict : ∀ {b : Addr} {o : Obj} {es : Array DictEntry} {ep : Nat}, s.heap.get? b = some o → o.data = .dict es ep → H b = none := by
    intro b o es ep e d
    cases q : H b with
    | none => rfl
    | some u =>
      obtain ⟨hba, _⟩ := lone b (by simp [q])
      rw [hba, ha] at e
      cases e
      exact nomatch (show Data.seq vs.toArray _ = Data.dict es ep from d)
  have tabs : ∀ {b : Addr} {m : Str → Option Value}, s.heap.Ns b m → (hidT s.heap H).Ns b m := by
    rintro b m ⟨o, es, ep, e, d, r⟩
    exact ⟨o, es, ep, out e (nodict e d), d, r⟩
  have kin : K.In (hidT s.heap H) := fun b o e => by
    refine out (KX b o e) ?_
    cases q : H b with
    | none => rfl
    | some u =>
      obtain ⟨hba, hka⟩ := lone b (by simp [q])
      rw [hba, hka] at e
      cases e
  have md : Mod K mg (hidT s.heap H) := ⟨kin, tabs hns, ⟨mb, tabs hb, hbb⟩, by obtain ⟨mc, h1, h2⟩ := hlim; exact ⟨mc, tabs h1, h2⟩⟩
  have env : Env0 P w K mg (hidT s.heap H) callerA [] s H :=
    ⟨rfl, md, fun b o e => of_hidT e, Nat.le_of_eq (hidT_size _ _), trivial, (fun b hb => nomatch (show b ∈ ([] : List Addr) from hb)), hok, .of_eq hg⟩
  have run := (G _ kin (tabs hns)).go callerA [] s H ⟨[.ref a], []⟩ [.ref a] [.ref a] _ _ hr rfl env (hbind s (.ref a)) (.cons rfl .nil) (spec H only sq)
  refine codeAny_mono run ?_
  intro r s2 h2
  match r, h2 with
  | .error v, h2 => exact (calm H v s2 h2).elim
  | .ok .next, h2 => exact h2.elim
  | .ok .brk, h2 => exact h2.elim
  | .ok .cont, h2 => exact h2.elim
  | .ok (.ret u), h2 =>
    obtain ⟨v, H2, os, bare, un, hok2, r2, q2⟩ := h2
    obtain rfl : v = .bl true := q2
    obtain rfl : u = Value.bool true := r2
    refine And.intro rfl ⟨OldK.of_keep fun b o e => ?_, os, bare⟩
    rcases only b with n | ⟨ob, xs, n⟩
    · exact un.keep b o e n (fun z => nomatch (show b ∈ ([] : List Addr) from z)) (by simp)
    · obtain ⟨e1, _⟩ := hok b _ n
      obtain ⟨e2, _⟩ := hok2 b _ (un.frzs b ob _ n)
      rw [e] at e1
      cases e1
      exact e2
theorem walk_ofG {l : PySem.W.OpenLaw} {n k : Nat} {q : Program} {loose : List Str} {XP : (Str → Option Value) → Heap → Prop} {YP : World → Heap → Prop} {d : DefRec} {K : Params → PySem.W.Frag} {CX : CXT} {sp : PySem.W.Frag → Sp} {x : Str}
    (most : l.most = some n) (few : n ≤ sizeLine) (plain : d.params.defaults = []) (room : Room k callerA) (inK : ∀ (w : World) (h : Heap), YP w h → (K w.params).In h)
    (defs : ∀ (w : World) (mg : Str → Option Value) (fa : Addr) (h : Heap), (K w.params).In h → h.Ns mainGlobals mg → mg d.name = some (.ref fa) → ∃ fd : FuncData, (∀ (s : Shared) (u : Value), BindsTo s fd ⟨[u], []⟩ [(x, u)]) ∧
      ∀ base : Heap, (K w.params).In base → base.Ns mainGlobals mg → FnG l.prog w (K w.params) mg base CX k fa fd [x] (sp (K w.params)))
    (spec : ∀ (K : PySem.W.Frag) (J : Hp) (a : Addr) (ns : List Int), ns.length ≤ n → Only J → SqL K J a (ns.map V.int) → sp K [.ref a] J (fun r _ => r = .bl true) fun _ _ _ => False)
    (calm : ∀ (J : Hp) (s : Shared) (e : Value) (s' : Shared), CX [] J s (fun _ _ _ => False) e s' → False) : PySem.W.WalkO q loose XP YP l.row.toRowW d [] (fun f vs => PySem.call f vs) := by
  apply Att.attach_call most plain
  intro w s0 s1 mg mb fa o pm cd doc a vs ns Gr Y _ _ _ hmg hobj hints hlen hg
  have kx := inK w _ Y
  obtain ⟨fd, hb, hF⟩ := defs w mg fa _ kx Gr.T.g hmg
  exact law_callG kx Gr.T.g Gr.T.b Gr.T.builtins Gr.T.nolimit hg hobj hints (Nat.le_trans hlen few) room hF hb (fun H h1 h2 => spec _ H a ns hlen h1 h2) fun H e s' => calm H s1 e s'
/-! ### the layer's own promise -/
section
variable {P : Program} {w : World} {K : PySem.W.Frag} {mg : Str → Option Value} {base : Heap}
theorem fnDG {x qual : Str} {st : Stmt} {f : Addr} {fd : FuncData} {N ps : List Str} {k : Nat} {mb : MS} (Fn : Fun K x qual st f fd) (S : FnScope N ps (defScope st))
    (hbody : ∀ (cdv : Value) (A : Around) (outer : List Env) (s : Shared) (H : Hp) (E : XK) (z : Cz), Room k (A.deeper (envOfC qual (defScope st) s.heap.objs.size f cdv)) → A.guards = some [] →
      PSs (cxOf CX0 P w K mg base N qual (defScope st) f cdv A outer s H E).nox (defBody st) (tS z K mb)) : FnG P w K mg base CX0 (k + 1) f fd ps (spD K ps.length (mFun N.length mb)) := by
  refine fnG Fn S (fun vs H Q E h => ?_) (fun cdv A outer s H vs Q E hr hg h => ?_)
  · obtain ⟨F, dk, ss, T, d, T', hl, _⟩ := h
    exact hl
  · obtain ⟨F, dk, ss, T, d, T', hl, B, a, e, q⟩ := h
    refine ⟨_, (hbody cdv A outer s H E ⟨F, H, dk⟩ hr hg).nox, ?_⟩
    unfold mFun at e
    have ok := ok_start (N := N) B a
    split at e
    · rename_i d' T1 e'
      cases e
      exact ⟨F, _, T, _, ok, e', fun F' H' v B' p => q F' H' v B' p⟩
    · rename_i en T1 e'
      cases e
      exact ⟨F, _, T, _, ok, e', fun F' H' σ' ok' _ => q F' H' .non ok'.b .non⟩
    · cases e
end
section
variable {X : Cx} {z : Cz} {a : Expr} {es : List Expr} {m : ME} {ms : MAs} {pos : Pos}
theorem d_callG {k n : Nat} {f : Addr} {fd : FuncData} {ps : List Str} {x : Str} {p : Pos} {M : MF} (Fn : FnG X.prog X.w X.K X.mg X.base CX0 k f fd ps (spD X.K n M)) (hr : Room k X.A) (gu : X.A.guards = some []) (hg : Gl X x) (hm : X.mg x = some (.ref f)) (hk : PySem.W.keepIn X.K (.ref f) = true) (hb : Binds X.K fd ps [])
    (ha : PA X (a :: es) (tAs z X.K ms)) (hn : ∀ en T ss T', ms en T = some (ss, T') → ss.length = n) (hdb : (x == ("__debug__" : Str)) = false := by decide) (he : starEach (a :: es) X.env = (false, eval a X.env) :: starEach es X.env := by rfl) (hpl : (backTo pos (starEach es X.env)).any (·.1) = false := by rfl) :
    PE X (.Call (.Name x p) (a :: es) [] pos) (tD z X.K (mCf M ms)) := pe_to (pe_callG (E := E0) Fn hr gu hg hm hk hb pass0 ha hdb he hpl) fun σ H Q q => by
  obtain ⟨F, en, T, d, T', ok, e, k⟩ := q
  unfold mCf at e
  cases h1 : ms en T with
  | none => rw [h1] at e; cases e
  | some p =>
    obtain ⟨ss, T1⟩ := p
    rw [h1] at e
    simp only [Option.bind_some] at e
    refine ⟨F, en, T, ss, T1, ok, h1, fun F1 H1 vs B1 n1 a1 => ?_⟩
    refine ⟨F1, z.dk, ss, T1, d, T', ?_, B1.enter, by rw [List.append_nil]; exact a1, e, fun F' H' v B' p => ?_⟩
    · rw [List.append_nil, a1.len]
      exact hn en T ss T1 h1
    · obtain ⟨B2, n2⟩ := B1.leave B'
      exact k F' H' v B2 (n1.trans n2 B2) p
/-! ### repr -/
def rRepr (K : PySem.W.Frag) : List V → Hp → VK → Prop := fun vs H Q => ∃ v d, vs = [v] ∧ Rp K H v d ∧ d.showable = true ∧ (d.hasDict = true → noL d = true) ∧ d.depth ≤ 60 ∧ d.shown.length ≤ sizeLine ∧ Q (.str d.shown) H
theorem call_reprD (gu : X.A.guards = some []) (hu : X.A.units + 64 < cLine) : CallR X (.builtin "repr") (rRepr X.K) := by
  rintro pins s σ H vs us Q I r ⟨v, d, rfl, p, hs, hd, hdep, hl, q⟩
  obtain ⟨u, rfl, ru⟩ := vals1 r
  obtain ⟨as, rd, hno⟩ := Rp.reads I d v u hd p ru
  cases p with
  | non =>
    cases ru
    exact PySem.P.repr_of_none ⟨.str _, H, I.tok _, ⟨_, rfl⟩, by simpa [PyData.shown] using q⟩
  | bl b =>
    cases ru
    exact PySem.P.repr_of_bool ⟨.str _, H, I.tok _, ⟨_, rfl⟩, by simpa [PyData.shown] using q⟩
  | int i =>
    obtain ⟨t, rfl⟩ := ru
    exact PySem.P.repr_of_int (by simpa [PyData.showable] using hs) ⟨.str _, H, I.tok _, ⟨_, rfl⟩, by simpa [PyData.shown] using q⟩
  | str x =>
    obtain ⟨t, rfl⟩ := ru
    exact PySem.P.repr_of_str ⟨.str _, H, I.tok _, ⟨_, rfl⟩, by simpa [PyData.shown] using q⟩ (by simpa [PyData.shown] using hl)
  | lst h1 h2 =>
    cases ru
    refine repr_of_reads' rd hs (fun e => hno (hd e)) gu (by omega) (fun _ _ e => e) (fun h' u tk hk => ?_) hl
    exact ⟨.str _, H, I.kept (t' := tk) hk, ⟨_, rfl⟩, q⟩
  | tup h1 h2 =>
    cases ru
    refine repr_of_reads' rd hs (fun e => hno (hd e)) gu (by omega) (fun _ _ e => e) (fun h' u tk hk => ?_) hl
    exact ⟨.str _, H, I.kept (t' := tk) hk, ⟨_, rfl⟩, q⟩
  | dcT h1 h2 =>
    cases ru
    refine repr_of_reads' rd hs (fun e => hno (hd e)) gu (by omega) (fun _ _ e => e) (fun h' u tk hk => ?_) hl
    exact ⟨.str _, H, I.kept (t' := tk) hk, ⟨_, rfl⟩, q⟩
  | dct h1 =>
    cases ru
    refine repr_of_reads' rd hs (fun e => hno (hd e)) gu (by omega) (fun _ _ e => e) (fun h' u tk hk => ?_) hl
    exact ⟨.str _, H, I.kept (t' := tk) hk, ⟨_, rfl⟩, q⟩
def gRepr : G1
  | [d] => if d.showable = true ∧ (d.hasDict = true → noL d = true) ∧ d.depth ≤ 60 ∧ d.shown.length ≤ 16777216 then some (.str d.shown) else none
  | _ => none
theorem l_repr {K : PySem.W.Frag} : LiftC K (rRepr K) gRepr := by
  intro H vs ds b Q h e k
  unfold gRepr at e
  split at e
  · split at e
    · rename_i hq
      cases e
      cases h with
      | cons h1 h2 =>
        cases h2
        exact ⟨_, _, rfl, h1, hq.1, hq.2.1, hq.2.2.1, by have := sizeLine_eq; omega, k _ fun _ => .str _⟩
    · cases e
  · cases e
end
end LQ

set_option Elab.async false
set_option linter.all false
set_option maxRecDepth 100000
set_option maxHeartbeats 4000000
namespace LQ
open PySem PySem.Spec PyProof.Rows L2
section
variable {prog : Program} {w : World} {A : Around} {R : Result → Shared → Prop} {s : Shared} {env : Env}
theorem sc_end {elt tg it : Expr} {ifs : List Expr} {rest : List Comprehension} {scope : Scope} {pos : Pos} {itv acc : Value}
    (h : wpAny (model prog w) A (pyNext itv) (fun r s1 => r = none ∧ R (.ok .next) s1) (fun _ _ => False) s) :
    codeAny (model prog w) A (.compLoop (.SetComp elt (⟨tg, it, ifs, 0⟩ :: rest) scope pos) 0 itv acc env) R s := by
  apply codeAny_of_tree
  show wpAny _ A ((compTurn (.SetComp elt (⟨tg, it, ifs, 0⟩ :: rest) scope pos) 0 itv acc env).onRaise (fun x => do noteFrame x env; theTreesLotGoes x)) _ _ s
  apply wpAny_noted
  have nx : wpAny (model prog w) A (pyNext itv) (fun r s1 => r = none ∧ R (.ok .next) s1) (notedBy (model prog w) A env fun e s' => R (.error e) s') s := wpAny_mono h (fun _ _ q => q) fun _ _ z => z.elim
  unfold compTurn
  show wpAny _ A (standAt it.pos >>= _) _ _ s
  refine wpAny_bind (wpAny_standAt (wpAny_bind (wpAny_mono nx ?_ fun _ _ q => q)))
  rintro r s1 ⟨rfl, q⟩
  exact wpAny_pure q
end
section
variable {X : Cx}
/-- {.. for x in nothing ..} -/
def tScE (w : World) (wi : TI) : TE := fun σ H Q => wi σ H fun J H1 => ∀ D, H1 D = none → J.stop 0 (upd H1 D (SetO w D (fun _ => false) 0)) ∧ Q (.ref D) (upd H1 D (SetO w D (fun _ => false) 0))
theorem pe_scE {elt tg it : Expr} {ifs : List Expr} {rest : List Comprehension} {scope : Scope} {own : List (Str × Nat)} {pos : Pos} {wi : TI}
    (hc : X.calm = true) (hN : X.N.Nodup) (hi : PI X tg it wi) (ok : BlkOk X.N X.env.scope scope own) (hs : ∀ x, foldedSetIterable it X.env x = pure x := by intro _; rfl) :
    PE X (.SetComp elt (⟨tg, it, ifs, 0⟩ :: rest) scope pos) (tScE X.w wi) := by
  constructor
  intro pins s σ H Q inv h
  rw [PpSet.eval_SetComp]
  have cells : ∀ y ∈ scope.names, y.2 = .free → ∃ c, X.env.cells.lookup y.1 = some c := by
    intro y hy e
    rcases ok.free y hy e with q | q
    · exact inv.ok.has _ (Or.inl q)
    · exact inv.ok.has _ (Or.inr q)
  refine wpAny_comprehension_free (use := none) rfl hs (closure_ok cells) ok.kind (fun y hy e => by rw [ok.uniq y hy, e]) ?_
  refine thn (hi.run pins s σ H _ inv h) fun xv s1 hx => thn hx fun itv s2 h2 => ?_
  obtain ⟨ad, fp, tn, J, H2, rfl, i2, tu, st2, f2, want⟩ := h2
  refine PpSet.newSet_ok (newEnv_comp ?_)
  have free : H2 s2.heap.objs.size = none := i2.hok.fresh (Nat.le_refl _)
  obtain ⟨stop, want⟩ := want _ free
  have i3 := i2.laid (t' := s2.toks) (fun b o e => Heap.get?_push_of_some _ e) (Nat.le_refl _) (setO_new (P := X.prog) (H := upd H2 s2.heap.objs.size (SetO X.w s2.heap.objs.size (fun _ => false) 0)) (setR_fresh (h := s2.heap) X.w))
  generalize new : ({ s2 with heap := s2.heap.push { cls := .type "set", dict := none, data := .set #[] 0 (.fresh 0 0 (!X.w.params.followText "set-order")) } } : Shared) = s3
  have i3 : Inv X pins σ (upd H2 s2.heap.objs.size (SetO X.w s2.heap.objs.size (fun _ => false) 0)) s3 := by
    subst new
    exact i3
  generalize hH : upd H2 s2.heap.objs.size (SetO X.w s2.heap.objs.size (fun _ => false) 0) = H3 at i3 stop want
  have up : ∀ b o, s2.heap.get? b = some o → s3.heap.get? b = some o := by
    subst new
    exact fun b o e => Heap.get?_push_of_some _ e
  have few : ∀ b ∈ fp, b < s2.heap.objs.size := fun b hb => by
    obtain ⟨o, e, _⟩ := tu.obj _ _ st2 b hb
    exact Heap.lt_size e
  have big : s2.heap.objs.size < s3.heap.objs.size := by
    subst new
    show _ < (s2.heap.push _).objs.size
    rw [Heap.size_push]
    omega
  have f3 : ∀ b ∈ fp, FpOk X pins H3 b ∧ b < s3.heap.objs.size := fun b hb => by
    have lt := few b hb
    refine ⟨⟨?_, (f2 b hb).2⟩, Nat.lt_trans lt big⟩
    subst hH
    rw [upd_ne (Nat.ne_of_lt lt)]
    exact (f2 b hb).1
  have st3 : tn 0 s3.heap := tu.keep _ _ _ st2 fun b _ o e => up b o e
  have i4 := block_start i3 ok hN f3
  show codeAny _ _ (.compStart (.SetComp elt (⟨tg, it, ifs, 0⟩ :: rest) scope pos) 0 (.ref ad) (.ref s2.heap.objs.size) (compEnvC scope (cellsFrom (s3.heap.objs.size + 1) scope.names (cloFrom X.env.cells scope.names [])) s3.heap.objs.size X.env)) _ { s3 with heap := pushCells (s3.heap.push { cls := .type "dict", data := .dict #[] }) scope.names }
  generalize hce : compEnvC scope (cellsFrom (s3.heap.objs.size + 1) scope.names (cloFrom X.env.cells scope.names [])) s3.heap.objs.size X.env = ce at i4 ⊢
  have loc : ce.locals = s3.heap.objs.size := by subst hce; rfl
  generalize hs4 : ({ s3 with heap := pushCells (s3.heap.push { cls := .type "dict", data := .dict #[] }) scope.names } : Shared) = s4 at i4 ⊢
  have st4 : tn 0 s4.heap := tu.keep _ _ _ st3 fun b _ o e => by
    subst hs4
    exact pushCells_keeps _ _ _ _ (Heap.get?_push_of_some _ e)
  have stay : ∀ b ∈ fp, FpOk (X.blk s3 H3 scope ce fp) [] H3 b := fun b hb =>
    ⟨(f3 b hb).1.1, (i4.ok.exf b hb).1, i4.ok.exfs b hb, .inl hb, fun x c e => (i4.ok.exf b hb).2 x c e, fun p hp => nomatch (show p ∈ ([] : List (Addr × Obj)) from hp)⟩
  have loop : codeAny (model X.prog X.w) X.A (.compLoop (.SetComp elt (⟨tg, it, ifs, 0⟩ :: rest) scope pos) 0 (.ref ad) (.ref s2.heap.objs.size) ce) (compPost (model X.prog X.w) X.A X.xe none (EP X pins σ Q) (.ref s2.heap.objs.size) s3.heap.objs.size) s4 := by
    refine sc_end (thn (tu.done (X.blk s3 H3 scope ce fp) rfl rfl rfl hc 0 [] s4 _ H3 (fun _ _ => False) i4 stay st4 stop) ?_)
    rintro r s5 ⟨rfl, i5⟩
    refine ⟨rfl, ?_⟩
    have i6 : Inv X pins σ H3 s5 := i3.call' (ch := fp) i5.os i5.base i5.hok i5.bare fun b hb =>
      ⟨(f3 b hb).1.2.2.2.1, (f3 b hb).1.2.1, (f3 b hb).1.2.2.2.2.1, (f3 b hb).1.2.2.2.2.2⟩
    have nC : H3 s3.heap.objs.size = none := by
      have q : H3 ce.locals = none := i5.free
      rwa [loc] at q
    obtain ⟨m, hn, _⟩ := i5.loc
    have hn : s5.heap.Ns ce.locals m := hn
    rw [loc] at hn
    obtain ⟨g0, g1, g2, g3, g4, g5⟩ := i3.fpOk (Nat.le_refl _) nC
    refine ⟨m, hn, fun h'' sb => ?_⟩
    exact ⟨.ref _, H3, i6.turned (t' := s5.toks) (fun b o hb e => (sb.2 b hb).trans e) g0 g1 g3 g4 g5, rfl, want⟩
  exact PpSet.codeAny_compStart_set loop (tu.self X.A 0 _ _ _ st4 loop)
end
section
variable {X : Cx} {z : Cz} {pos : Pos}
/-- tuple(sorted({.. for x in e for y in ..})), e without items -/
def mNone (mi : MA) : ME := fun en T => (mi en T).bind fun p => match p.1 with
  | [] => some (.tuple [], p.2)
  | _ => none
theorem d_sortE {elt tg it : Expr} {ifs : List Expr} {rest : List Comprehension} {scope : Scope} {own : List (Str × Nat)} {p1 p2 p3 p4 p5 : Pos} {mi : MA}
    (hc : X.calm = true) (hN : X.N.Nodup) (hi : PI X tg it (iD z X.K mi)) (ok : BlkOk X.N X.env.scope scope own) (gt : Gl X "tuple") (mt : X.mg "tuple" = none) (gs : Gl X "sorted") (ms : X.mg "sorted" = none)
    (hs : ∀ x, foldedSetIterable it X.env x = pure x := by intro _; rfl)
    (e1 : starEach [Expr.SetComp elt (⟨tg, it, ifs, 0⟩ :: rest) scope p5] X.env = (false, eval (.SetComp elt (⟨tg, it, ifs, 0⟩ :: rest) scope p5) X.env) :: starEach [] X.env := by rfl)
    (e2 : starEach [Expr.Call (.Name "sorted" p3) [.SetComp elt (⟨tg, it, ifs, 0⟩ :: rest) scope p5] [] p4] X.env = (false, eval (.Call (.Name "sorted" p3) [.SetComp elt (⟨tg, it, ifs, 0⟩ :: rest) scope p5] [] p4) X.env) :: starEach [] X.env := by rfl) :
    PE X (.Call (.Name "tuple" p1) [.Call (.Name "sorted" p3) [.SetComp elt (⟨tg, it, ifs, 0⟩ :: rest) scope p5] [] p4] [] p2) (tD z X.K (mNone mi)) :=
  pe_to (pe_callTy call_tuple_of gt mt (by decide +kernel) (pa_cons (pe_callB (cr_sortedSet hc) gs ms (by decide +kernel) (pa_cons (pe_scE hc hN hi ok hs) pa_nil e1) (by decide) (by decide) e1 rfl) pa_nil e2) (by decide) (by decide) e2 rfl) fun σ H Q q => by
    obtain ⟨F, en, T, d, T', ok, e, k⟩ := q
    unfold mNone at e
    cases h1 : mi en T with
    | none => rw [h1] at e; cases e
    | some p =>
      obtain ⟨ds, T1⟩ := p
      rw [h1] at e
      simp only [Option.bind_some] at e
      split at e
      · cases e
        refine ⟨F, en, T, [], _, ok, h1, fun F1 H1 J B1 n1 wk => fun D hD => ?_⟩
        obtain ⟨B2, n2, f2, h2⟩ := B1.put (o := SetO X.w D (fun _ => false) 0) hD
        refine ⟨(wk F1 _ _ B2 (Same.refl _) B2.fh 0).2.2 rfl, D, fun _ => false, 0, rfl, upd_same, by decide, fun ns p _ _ hl hp => ?_⟩
        cases ns with
        | cons _ _ => cases hl
        | nil =>
          refine ⟨p, [], rfl, .inl ⟨.inl (.inl upd_same), fun l hl => ?_⟩⟩
          obtain ⟨B3, n3, f3, h3⟩ := B2.put (o := .lst (([] : List Int).map V.int)) hp
          obtain ⟨B4, n4⟩ := B3.lay (o := .tup []) hl
          exact k _ _ _ B4 (n1.trans (n2.trans (n3.trans n4 B4) B4) B4) (.tup upd_same .nil)
      · cases e
/-! ### is, of truths -/
def gIs : G2
  | .bool a, .bool b => some (.bool (decide (a = b)))
  | _, _ => none
theorem l_is {K : PySem.W.Frag} : Lift2 K rIsB gIs := by
  intro H x y d e b Q h1 h2 eq k
  unfold gIs at eq
  split at eq
  · cases h1
    cases h2
    cases eq
    exact ⟨_, _, rfl, rfl, k _ fun _ => .bl _⟩
  · cases eq
/-! ### + of two new lists -/
def mCatF (m1 m2 : MA) : MA := fun en T => (m1 en T).bind fun p => (m2 en p.2).bind fun q => if p.1.length + q.1.length ≤ 16777216 then some (p.1 ++ q.1, q.2) else none
theorem f_cat {a b : Expr} {m1 m2 : MA} (ha : PE X a (tF z X.K m1)) (hb : PE X b (tF z X.K m2)) : PE X (.BinOp a .Add b pos) (tF z X.K (mCatF m1 m2)) := pe_to (pe_op op_cat ha hb) fun σ H Q q => by
  obtain ⟨F, en, T, d, T', ok, e, k⟩ := q
  unfold mCatF at e
  cases h1 : m1 en T with
  | none => rw [h1] at e; cases e
  | some p =>
    obtain ⟨d1, T1⟩ := p
    rw [h1] at e
    simp only [Option.bind_some] at e
    cases h2 : m2 en T1 with
    | none => rw [h2] at e; cases e
    | some p =>
      obtain ⟨d2, T2⟩ := p
      rw [h2] at e
      simp only [Option.bind_some] at e
      split at e
      · rename_i hl
        cases e
        refine ⟨F, en, T, d1, T1, ok, h1, fun F1 H1 a1 x1 B1 n1 i1 j1 l1 o1 p1 => ⟨F1, en, T1, d2, _, ok.nxt n1 B1, h2, fun F2 H2 a2 x2 B2 n2 i2 j2 l2 o2 p2 => ?_⟩⟩
        have nd : ∀ c, z.H0 c = none → z.isDk c = false := fun c hc => by
          cases hd : z.isDk c with
          | true => exact absurd hc (B1.dkin c hd)
          | false => rfl
        have hz := sizeLine_eq
        refine ⟨a1, a2, x1, x2, rfl, rfl, n2.st a1 _ j1 (nd a1 o1), j2, by have := dpAll_len p1; have := dpAll_len p2; omega, fun q hq => ?_⟩
        obtain ⟨B3, n3, f3, h3⟩ := B2.put (o := .lst (x1 ++ x2)) hq
        refine k _ _ _ _ B3 (n1.trans (n2.trans n3 B3) B3) ?_ upd_same f3 h3 (dpAll_app (dpAll_mono n2.s _ _ p1) p2)
        cases e0 : H q with
        | none => rfl
        | some o => rw [(n1.trans n2 B2).st q o e0 (nd q h3)] at hq; cases hq
      · cases e
/-- what never comes to an end here -/
def mNo : MS := fun _ _ => none
theorem s_never {st : Stmt} : PS X st (tS z X.K mNo) := ⟨fun _ _ _ _ _ _ h => by obtain ⟨_, _, _, _, _, e, _⟩ := h; cases e⟩
def mNoE : ME := fun _ _ => none
theorem d_never {a : Expr} : PE X a (tD z X.K mNoE) := ⟨fun _ _ _ _ _ _ h => by obtain ⟨_, _, _, _, _, _, e, _⟩ := h; cases e⟩
/-- for .. in enumerate(e), e without items -/
def mEnum0 (mi : ME) : MS := fun en T => (mi en T).bind fun p => match p.1 with
  | .tuple [] => some (.nx en p.2)
  | _ => none
end
end LQ

set_option Elab.async false
set_option linter.all false
set_option maxRecDepth 100000
set_option maxHeartbeats 4000000
/-! enumerate of a tuple -/
namespace LQ
open PySem PySem.Spec PyProof.Rows L2
theorem meets_enum1 {v : Value} {o : Obj} {G : Heap → Prop} (B : Begins v o G) :
    Meets (Builtin.«enumerate.__new__» ⟨[.type "enumerate", v], []⟩) (fun _ R s => G s.heap ∧
      R (.ok (.ret (.ref (s.heap.push o).objs.size))) { s with heap := (s.heap.push o).push { cls := .type "enumerate", data := .fields #[.none, .bool false, .ref s.heap.objs.size, rawInt 0, .none, .none] } }) := by
  refine .of_wp fun prog w A R s h => ?_
  obtain ⟨hp, g, dr, tk, os⟩ := s
  obtain ⟨hG, h⟩ := h
  have hsub := sub_enumerate
  have begin_ : ∀ {A' : Around} {E : Value → Shared → Prop} {Q : Value → Shared → Prop}, Q (.ref hp.objs.size) ⟨hp.push o, g, dr, tk, os⟩ →
      wpAny (model prog w) A' (pyIter v) Q E ⟨hp, g, dr, tk, os⟩ := fun q => B.iter prog w _ _ ⟨hp, g, dr, tk, os⟩ _ hG q
  wp_walk using begin_
  refine wpAny_stack_any fun st => wpAny_pure ?_
  split
  · rename_i c _ _ _ _ _
    cases (c == Value.type "enumerate") <;> (wp_walk using begin_; exact ⟨_, rfl, h⟩)
  · wp_walk using begin_
    exact ⟨_, rfl, h⟩
section
variable {prog : Program} {w : World} {A : Around} {E : Value → Shared → Prop} {s : Shared}
theorem enum_begin1 {v : Value} {o : Obj} {G : Heap → Prop} {Q : Value → Shared → Prop} (B : Begins v o G) (hG : G s.heap)
    (h : ∀ h', IsEnum h' (s.heap.objs.size + 1) s.heap.objs.size 0 .none → h'.get? s.heap.objs.size = some o → (∀ b o, s.heap.get? b = some o → h'.get? b = some o) →
      Q (.ref (s.heap.objs.size + 1)) { s with heap := h' }) : wpAny (model prog w) A (call (.type "enumerate") [v]) Q E s := by
  have size1 : (s.heap.push o).objs.size = s.heap.objs.size + 1 := Heap.size_push ..
  have new : IsEnum ((s.heap.push o).push { cls := .type "enumerate", data := .fields #[.none, .bool false, .ref s.heap.objs.size, rawInt 0, .none, .none] }) (s.heap.objs.size + 1) s.heap.objs.size 0 .none := by
    have q := Heap.get?_push_size (s.heap.push o) (o := { cls := .type "enumerate", data := .fields #[.none, .bool false, .ref s.heap.objs.size, rawInt 0, .none, .none] }) rfl
    rwa [size1] at q
  refine callType_new F.called_enumerate (by decide) (F.typeCall_enumerate_1 _) (F.newCall_enumerate_1 _)
    (fun ob => F.args_object_init_2 ob _) F.entry_enumerate_new (meets_enum1 B) ⟨hG, ?_⟩
  show _ ∧ _
  rw [size1]
  exact ⟨⟨_, new, rfl⟩, h _ new (Heap.get?_push_of_some _ (Heap.get?_push_size _ B.free)) fun b ob e => Heap.get?_push_of_some _ (Heap.get?_push_of_some _ e)⟩
end
def ItN (K : PySem.W.Frag) (a : Addr) : It where
  go := fun i H => ∃ (xs : List V) (x : V), SqT K H a xs ∧ xs[i]? = some x
  yld := fun i H v H' => ∃ T x, v = .ref T ∧ H T = none ∧ H' = upd H T (.tup [.int (i : Nat), x]) ∧ ∀ xs, SqT K H a xs → xs[i]? = some x
  stop := fun i H => ∃ xs : List V, SqT K H a xs ∧ i = xs.length
theorem turn_enumT {P : Program} {w : World} {K : PySem.W.Frag} {elts : List Expr} {kk : Nat} {tp : Pos} (a e it : Addr) :
    Turn P w K (.Tuple elts kk tp) (ItN K a) [e, it] e (fun i h => (∃ old, IsEnum h e it ((i : Nat) : Int) old) ∧ h.IsTupleIter it a i ∧ e ≠ it ∧ a ≠ it ∧ e ≠ a) := by
  refine ⟨by simp, ?_, ?_, ?_, ?_, ?_⟩
  · rintro i h ⟨⟨old, he⟩, ⟨o, ho, _, hd⟩, _⟩ b hb
    have two : b = e ∨ b = it := by simpa using hb
    rcases two with rfl | rfl
    · exact ⟨_, he, fun v q => nomatch q⟩
    · exact ⟨o, ho, fun v q => by rw [hd] at q; cases q⟩
  · rintro i h h' ⟨⟨old, he⟩, hi, ne⟩ k
    exact ⟨⟨old, k e (by simp) _ he⟩, hi.at fun o q => k it (by simp) o q, ne⟩
  · rintro X rfl rfl rfl hc i pins s σ H E I hf ⟨⟨old, he⟩, hit, ne, nat, nea⟩ ⟨xs, x, hq, hx⟩
    obtain ⟨its, rv, tp, hz⟩ := I.tuple hq
    have tup : s.heap.IsTuple a its.toArray := tp
    obtain ⟨u, hu, ru⟩ := rv.get hx
    have lte : e < s.heap.objs.size := Heap.lt_size he
    have lti : it < s.heap.objs.size := by obtain ⟨_, q, _⟩ := hit; exact Heap.lt_size q
    have lt : i < its.toArray.size := by
      have := (List.getElem?_eq_some_iff.mp hu).1
      simpa using this
    have D := Draws.tuple (prog := X.prog) (w := X.w) (A := X.A.in1) (I.ok.hd hc) it a nat its.toArray
    refine wpAny_pyNext_enum_itemC D he ⟨hit, tup⟩ lt ne (by simp [ne, nea]) fun y h' tk hy ho st' hT hsz hk => ?_
    have ey : y = u := by
      have hy : its.toArray[i]? = some y := hy
      simp at hy hu
      rw [hu] at hy
      exact (Option.some.inj hy).symm
    subst ey
    refine ⟨_, rfl, wpAny_letOwnedTupleGo_enum (s := { s with heap := h', toks := tk + 1 }) ho fun h'' he' sb => ?_⟩
    have hT2 := (sb.2 _ (Nat.ne_of_gt lte)).trans hT
    have new : ObjOk X.prog X.w (upd H s.heap.objs.size (.tup [.int (i : Nat), x])) h'' s.heap.objs.size (.tup [.int (i : Nat), x]) := by
      refine ⟨by show 2 ≤ sizeLine; decide, [.int i tk, y], .cons ⟨_, rfl⟩ (.cons ru .nil), ?_⟩
      exact ⟨_, hT2, rfl, _, rfl⟩
    have i1 := I.turnedNew (t' := tk + 1) (h' := h'') (ch := [e, it]) (fun b ob hb q => by
      have nb : b ≠ e ∧ b ≠ it := by simpa using hb
      exact (sb.2 b nb.1).trans (hk b ob nb.1 nb.2 q)) hf (Nat.le_refl _) new
    refine ⟨.ref s.heap.objs.size, _, i1, rfl, ⟨_, x, rfl, I.hok.fresh (Nat.le_refl _), rfl, fun ys hy => by rw [I.tuple_inj hy hq]; exact hx⟩, ⟨⟨y, ?_⟩, ?_, ne, nat, nea⟩, fun b hb => ?_⟩
    · have e1 : ((i + 1 : Nat) : Int) = (i : Int) + 1 := by omega
      rw [e1]
      exact he'
    · exact st'.1.at fun o q => (sb.2 it (Ne.symm ne)).trans q
    · have two : b = e ∨ b = it := by simpa using hb
      have ltb : b < s.heap.objs.size := by
        rcases two with rfl | rfl
        · exact lte
        · exact lti
      rw [upd_ne (Nat.ne_of_lt ltb)]
      exact (hf b hb).1
  · rintro X rfl rfl rfl hc i pins s σ H E I hf ⟨⟨old, he⟩, hit, ne, nat, nea⟩ ⟨xs, hq, hx⟩
    obtain ⟨its, rv, tp, hz⟩ := I.tuple hq
    have tup : s.heap.IsTuple a its.toArray := tp
    obtain ⟨f0, f1, f2, f3, f4, f5⟩ := hf it (by simp)
    have hl := rv.length
    have D := Draws.tuple (prog := X.prog) (w := X.w) (A := X.A.in1) (I.ok.hd hc) it a nat its.toArray
    have at_ : i = its.toArray.size := by simp; omega
    refine wpAny_pyNext_enum_endD D he ⟨by rw [← at_]; exact hit, tup⟩ fun h' eb => ⟨rfl, ?_⟩
    exact I.turned (t' := s.toks) (fun b o hb q => eb b o hb q) f0 f1 f3 f4 f5
  · rintro A i s Q E ⟨⟨_, he⟩, _⟩ h
    exact wpAny_pyIter_enum he h
/-- the numbered items -/
def enumD (ds : List PyData) : List PyData := ds.mapIdx fun i d => .tuple [.int (i : Nat), d]
theorem wk_enum {z : Cz} {K : PySem.W.Frag} {F1 : Hp} {a : Addr} {xs : List V} {ds : List PyData} (h : SqT K F1 a xs) (p : RpAll K F1 xs ds) : Wk z K F1 F1 (ItN K a) (enumD ds) := by
  intro F H T B s1 s2 i
  have hl := dpAll_len p
  have hl2 : (enumD ds).length = ds.length := by simp [enumD]
  have sq : SqT K H a xs := sqT_mono s2 h
  refine ⟨fun hi => ⟨xs, _, sq, List.getElem?_eq_getElem (by omega)⟩, fun d hd x H' hy => ?_, fun hi => ⟨xs, sq, by omega⟩⟩
  obtain ⟨q, y, rfl, hq, rfl, hy⟩ := hy
  obtain ⟨B2, n2⟩ := B.lay (o := .tup [.int (i : Nat), y]) hq
  refine ⟨_, B2, n2, ?_⟩
  unfold enumD at hd
  rw [List.getElem?_mapIdx] at hd
  cases e : ds[i]? with
  | none => rw [e] at hd; cases hd
  | some d' =>
    rw [e] at hd
    cases hd
    obtain ⟨v, hv, pv⟩ := dpAll_get' p e
    rw [hy xs sq] at hv
    cases hv
    exact .tup upd_same (.cons (.int _) (.cons (dp_mono (s1.trans n2.s) _ _ pv) .nil))
section
variable {X : Cx} {z : Cz} {pos : Pos}
def iEnT (K : PySem.W.Frag) (ta : TA) : TI := fun σ H R => ta σ H fun vs H1 => ∃ a xs, vs = [.ref a] ∧ SqT K H1 a xs ∧ R (ItN K a) H1
theorem pi_enT {e : Expr} {ta : TA} {p tp : Pos} {elts : List Expr} {kk : Nat} (hg : Gl X "enumerate") (hm : X.mg "enumerate" = none) (ha : PA X [e] ta) (hs : starEach [e] X.env = [(false, eval e X.env)] := by rfl) :
    PI X (.Tuple elts kk tp) (.Call (.Name "enumerate" p) [e] [] pos) (iEnT X.K ta) := by
  constructor
  intro pins s σ H R inv h
  refine Call_ (ld_blt inv hg hm boot_enumerate (PyProof.Rows.callWith_type1 (thn (ha.run pos pins s σ H _ inv h) ?_) hs rfl))
  rintro us s1 ⟨vs, H1, i1, r1, a, xs, rfl, hq, want⟩
  obtain ⟨u, rfl, ru⟩ := vals1 r1
  cases ru
  obtain ⟨its, rv, tup, hz⟩ := i1.tuple hq
  have tup : s1.heap.IsTuple a its.toArray := tup
  refine enum_begin1 (begins_tuple a its.toArray) tup fun h' he ho hk => wpAny_pyIter_enum he ?_
  have lta : a < s1.heap.objs.size := by obtain ⟨_, q, _⟩ := tup; exact Heap.lt_size q
  refine ⟨s1.heap.objs.size + 1, [s1.heap.objs.size + 1, s1.heap.objs.size], _, _, H1, rfl, i1.kept (t' := s1.toks) hk, turn_enumT a (s1.heap.objs.size + 1) s1.heap.objs.size, ?_, fun b hb => ?_, want⟩
  · exact ⟨⟨.none, he⟩, ⟨_, ho, rfl, rfl⟩, Nat.succ_ne_self _, Nat.ne_of_lt lta, Nat.ne_of_gt (Nat.lt_succ_of_lt lta)⟩
  · have two : b = s1.heap.objs.size + 1 ∨ b = s1.heap.objs.size := by simpa using hb
    have le : s1.heap.objs.size ≤ b := by
      rcases two with rfl | rfl
      · exact Nat.le_succ _
      · exact Nat.le_refl _
    exact i1.fpOk le (i1.hok.fresh le)
def mEnT (m : ME) : MA := fun en T => (m en T).bind fun p => match p.1 with
  | .tuple ds => some (enumD ds, p.2)
  | _ => none
theorem i_enT {a : Expr} {m : ME} {p tp : Pos} {elts : List Expr} {kk : Nat} (hg : Gl X "enumerate") (hm : X.mg "enumerate" = none) (ha : PE X a (tD z X.K m)) (hs : starEach [a] X.env = [(false, eval a X.env)] := by rfl) :
    PI X (.Tuple elts kk tp) (.Call (.Name "enumerate" p) [a] [] pos) (iD z X.K (mEnT m)) := pi_to (pi_enT hg hm (pa_cons ha pa_nil hs) hs) fun σ H R q => by
  obtain ⟨F, en, T, ds, T', ok, e, k⟩ := q
  unfold mEnT at e
  cases h1 : m en T with
  | none => rw [h1] at e; cases e
  | some p =>
    obtain ⟨d, T1⟩ := p
    rw [h1] at e
    simp only [Option.bind_some] at e
    split at e
    · cases e
      refine ⟨F, en, T, _, _, ok, h1, fun F' H' v B n p => ?_⟩
      cases p with
      | tup hs ha => exact ⟨_, _, rfl, tk (B.fh _ _ hs), k F' H' _ B n (wk_enum (tk hs) ha)⟩
    · cases e
end
end LQ

set_option Elab.async false
set_option linter.all false
set_option maxRecDepth 100000
set_option maxHeartbeats 4000000
namespace LQ
open PySem PySem.Spec PyProof.Rows L2
/-! ### a def that is known, a def that keeps its mirror -/
def Def (K : PySem.W.Frag) (mg : Str → Option Value) (x : Str) (st : Stmt) (ps : List Str) : Prop :=
  ∃ f fd, Fun K x x st f fd ∧ mg x = some (.ref f) ∧ Binds K fd ps []
def Cal (P : Program) (w : World) (K : PySem.W.Frag) (mg : Str → Option Value) (base : Heap) (k : Nat) (x : Str) (ps : List Str) (M : MF) : Prop :=
  ∃ f fd, FnG P w K mg base CX0 k f fd ps (spD K ps.length M) ∧ mg x = some (.ref f) ∧ PySem.W.keepIn K (.ref f) = true ∧ Binds K fd ps []
section
variable {P : Program} {w : World} {K : PySem.W.Frag} {mg : Str → Option Value} {base : Heap}
theorem cal {x : Str} {st : Stmt} {N ps : List Str} {k : Nat} {mb : MS} (D : Def K mg x st ps) (S : FnScope N ps (defScope st))
    (hbody : ∀ (f : Addr) (cdv : Value) (A : Around) (outer : List Env) (s : Shared) (H : Hp) (E : XK) (z : Cz), Room k (A.deeper (envOfC x (defScope st) s.heap.objs.size f cdv)) → A.guards = some [] →
      PSs (cxOf CX0 P w K mg base N x (defScope st) f cdv A outer s H E).nox (defBody st) (tS z K mb)) : Cal P w K mg base (k + 1) x ps (mFun N.length mb) := by
  obtain ⟨f, fd, Fn, hm, hb⟩ := D
  exact ⟨f, fd, fnDG Fn S (hbody f), hm, Fn.kp, hb⟩
theorem Cal.up {j k : Nat} {x : Str} {ps : List Str} {M : MF} (C : Cal P w K mg base j x ps M) (h : j ≤ k) : Cal P w K mg base k x ps M := by
  obtain ⟨f, fd, G, r⟩ := C
  exact ⟨f, fd, G.up h, r⟩
/-- the same def by another function that tells as much -/
theorem Cal.to {k : Nat} {x : Str} {ps : List Str} {M M' : MF} (C : Cal P w K mg base k x ps M) (h : ∀ ss T r, M' ss T = some r → M ss T = some r) : Cal P w K mg base k x ps M' := by
  obtain ⟨f, fd, G, r⟩ := C
  refine ⟨f, fd, G.imp fun vs H Q E q => ?_, r⟩
  obtain ⟨F, dk, ss, T, d, T', h1, h2, h3, h4, h5⟩ := q
  exact ⟨F, dk, ss, T, d, T', h1, h2, h3, h _ _ _ h4, h5⟩
end
section
variable {X : Cx} {z : Cz} {a b c : Expr} {es : List Expr} {m m1 m2 m3 : ME} {ms : MAs} {pos : Pos}
theorem d_cal {k : Nat} {ps : List Str} {x : Str} {p : Pos} {M : MF} (C : Cal X.prog X.w X.K X.mg X.base k x ps M) (hr : Room k X.A) (gu : X.A.guards = some []) (hg : Gl X x)
    (ha : PA X (a :: es) (tAs z X.K ms)) (hn : ∀ en T ss T', ms en T = some (ss, T') → ss.length = ps.length) (hdb : (x == ("__debug__" : Str)) = false := by decide) (he : starEach (a :: es) X.env = (false, eval a X.env) :: starEach es X.env := by rfl) (hpl : (backTo pos (starEach es X.env)).any (·.1) = false := by rfl) :
    PE X (.Call (.Name x p) (a :: es) [] pos) (tD z X.K (mCf M ms)) := by
  obtain ⟨f, fd, G, hm, hk, hb⟩ := C
  exact d_callG G hr gu hg hm hk hb ha hn hdb he hpl
/-! ### a op1 b op2 c -/
def mChain (g g' : G2) (m1 m2 m3 : ME) : ME := fun en T => (m1 en T).bind fun p => (m2 en p.2).bind fun q => (g p.1 q.1).bind fun t => match t with
  | .bool true => (m3 en q.2).bind fun r => (g' q.1 r.1).map fun b => (b, r.2)
  | .bool false => some (.bool false, q.2)
  | _ => none
theorem tD_chain {K : PySem.W.Frag} {r r' : R2} {g g' : G2} (L : Lift2 K r g) (L' : Lift2 K r' g') {σ : St} {H : Hp} {Q : VK} (h : tD z K (mChain g g' m1 m2 m3) σ H Q) : tChain r r' (tB z K m1) (tB z K m2) (tB z K m3) σ H Q := by
  obtain ⟨F, en, T, d, T', ok, e, k⟩ := h
  unfold mChain at e
  cases h1 : m1 en T with
  | none => rw [h1] at e; cases e
  | some p =>
    obtain ⟨d1, T1⟩ := p
    rw [h1] at e
    simp only [Option.bind_some] at e
    cases h2 : m2 en T1 with
    | none => rw [h2] at e; cases e
    | some p =>
      obtain ⟨d2, T2⟩ := p
      rw [h2] at e
      simp only [Option.bind_some] at e
      cases h3 : g d1 d2 with
      | none => rw [h3] at e; cases e
      | some t =>
        rw [h3] at e
        simp only [Option.bind_some] at e
        refine ⟨F, en, T, d1, T1, ok, h1, fun F1 H1 x B1 n1 p1 => ⟨F1, en, T1, d2, T2, ok.nxt n1 B1, h2, fun F2 H2 y B2 n2 p2 => ?_⟩⟩
        have ok2 := (ok.nxt n1 B1).nxt n2 B2
        refine L H2 x y d1 d2 t _ (dp_mono (n2.st.cut.trans (cut_same z H2)) _ _ p1) (dp_mono (cut_same z H2) _ _ p2) h3 fun v hv => ?_
        split at e
        · cases hv F2
          cases h4 : m3 en T2 with
          | none => rw [h4] at e; cases e
          | some p =>
            obtain ⟨d3, T3⟩ := p
            rw [h4] at e
            simp only [Option.bind_some] at e
            cases h5 : g' d2 d3 with
            | none => rw [h5] at e; cases e
            | some u =>
              rw [h5] at e
              simp only [Option.map_some, Option.some.injEq, Prod.mk.injEq] at e
              obtain ⟨rfl, rfl⟩ := e
              refine ⟨true, rfl, ⟨F2, en, T2, d3, T3, ok2, h4, fun F3 H3 y3 B3 n3 p3 => ?_⟩⟩
              exact L' H3 y y3 d2 d3 u Q (dp_mono (n3.st.cut.trans (cut_same z H3)) _ _ p2) (dp_mono (cut_same z H3) _ _ p3) h5 fun v hv => k F3 H3 v B3 (n1.trans (n2.trans n3 B3) B3) (hv F3)
        · cases hv F2
          simp only [Option.some.injEq, Prod.mk.injEq] at e
          obtain ⟨rfl, rfl⟩ := e
          exact ⟨false, rfl, k F2 H2 _ B2 (n1.trans n2 B2) (.bl false)⟩
        · cases e
theorem d_chain {op op' : CmpOp} {r r' : R2} {g g' : G2} (ho : OpR X (compareOp op) r) (L : Lift2 X.K r g) (ho' : OpR X (compareOp op') r') (L' : Lift2 X.K r' g') (ha : PE X a (tB z X.K m1)) (hb : PE X b (tB z X.K m2)) (hc : PE X c (tB z X.K m3))
    (hm : lastMarks [op, op'] [b, c] = false := by with_unfolding_all rfl) : PE X (.Compare a [op, op'] [b, c] pos) (tD z X.K (mChain g g' m1 m2 m3)) := pe_to (pe_chain ho ho' ha hb hc hm) fun _ _ _ h => tD_chain L L' h
theorem q_chain {op op' : CmpOp} {r r' : R2} {g g' : G2} (ho : OpR X (compareOp op) r) (L : Lift2 X.K r g) (ho' : OpR X (compareOp op') r') (L' : Lift2 X.K r' g') (ha : PE X a (tB z X.K m1)) (hb : PE X b (tB z X.K m2)) (hc : PE X c (tB z X.K m3))
    (hm : lastMarks [op, op'] [b, c] = false := by with_unfolding_all rfl) : PT X (.Compare a [op, op'] [b, c] pos) (tQ z X.K (mQ (mChain g g' m1 m2 m3))) := pt_to (pt_chain ho ho' ha hb hc hm) fun _ _ _ h => tD_chain L L' (tQ_of h)
/-! ### in, not in -/
def rInA (K : PySem.W.Frag) (neg : Bool) : R2 := fun x y H Q => ∃ d e ds, L2.Dp K H x d ∧ L2.Dp K H y e ∧ (e = .list ds ∨ e = .tuple ds) ∧ SeqAt.shaped d = true ∧ SeqAt.shaped e = true ∧ Q (.bl (neg ^^ ds.any fun z => PyData.eqv z d)) H
theorem op_inA (hu : X.A.units + 65 < cLine) : OpR X (compareOp .In) (rInA X.K false) := by
  rintro pins s σ H x y v u Q I rx ry ⟨d, e, ds, p1, p2, he, s1, s2, q⟩
  obtain ⟨as, r1⟩ := L2.Dp.reads I d x v p1 rx
  obtain ⟨bs, r2⟩ := L2.Dp.reads I e y u p2 ry
  have want : EP X pins σ Q (.bool (ds.any fun z => PyData.eqv z d)) s := ⟨.bl _, H, I, rfl, by simpa using q⟩
  rcases he with rfl | rfl
  · exact SeqAt.in_list_reads r2 r1 (SeqAt.canLay_of_shaped s2) (SeqAt.canLay_of_shaped s1) (room_in_shaped s1 hu) want
  · exact SeqAt.in_tuple_reads r2 r1 (SeqAt.canLay_of_shaped s2) (SeqAt.canLay_of_shaped s1) (room_in_shaped s1 hu) want
theorem op_notInA (hu : X.A.units + 65 < cLine) : OpR X (compareOp .NotIn) (rInA X.K true) := by
  rintro pins s σ H x y v u Q I rx ry ⟨d, e, ds, p1, p2, he, s1, s2, q⟩
  obtain ⟨as, r1⟩ := L2.Dp.reads I d x v p1 rx
  obtain ⟨bs, r2⟩ := L2.Dp.reads I e y u p2 ry
  have want : EP X pins σ Q (.bool (!ds.any fun z => PyData.eqv z d)) s := ⟨.bl _, H, I, rfl, by simpa using q⟩
  rcases he with rfl | rfl
  · exact SeqAt.notIn_list_reads r2 r1 (SeqAt.canLay_of_shaped s2) (SeqAt.canLay_of_shaped s1) (room_in_shaped s1 hu) want
  · exact SeqAt.notIn_tuple_reads r2 r1 (SeqAt.canLay_of_shaped s2) (SeqAt.canLay_of_shaped s1) (room_in_shaped s1 hu) want
def gIn (neg : Bool) : G2 := fun d e => match e with
  | .list ds => if SeqAt.shaped d = true ∧ SeqAt.shaped (.list ds) = true then some (.bool (neg ^^ ds.any fun z => PyData.eqv z d)) else none
  | .tuple ds => if SeqAt.shaped d = true ∧ SeqAt.shaped (.tuple ds) = true then some (.bool (neg ^^ ds.any fun z => PyData.eqv z d)) else none
  | _ => none
theorem l_in {K : PySem.W.Frag} {neg : Bool} : Lift2 K (rInA K neg) (gIn neg) := by
  intro H x y d e b Q h1 h2 eq k
  unfold gIn at eq
  split at eq
  · split at eq
    · rename_i hq
      cases eq
      exact ⟨d, _, _, rp_sh hq.1 h1, rp_sh hq.2 h2, .inl rfl, hq.1, hq.2, k _ fun _ => .bl _⟩
    · cases eq
  · split at eq
    · rename_i hq
      cases eq
      exact ⟨d, _, _, rp_sh hq.1 h1, rp_sh hq.2 h2, .inr rfl, hq.1, hq.2, k _ fun _ => .bl _⟩
    · cases eq
  · cases eq
/-! ### texts -/
def gS (f : Str → Str → PyData) : G2
  | .str x, .str y => some (f x y)
  | _, _ => none
theorem l_leS {K : PySem.W.Frag} : Lift2 K (fun x y H Q => ∃ i j, x = .str i ∧ y = .str j ∧ Q (.bl (!decide (j.cps.toList < i.cps.toList))) H) (gS fun i j => .bool (!decide (j.cps.toList < i.cps.toList))) := by
  intro H x y d e b Q h1 h2 eq k
  unfold gS at eq
  split at eq
  · cases h1
    cases h2
    cases eq
    exact ⟨_, _, rfl, rfl, k _ fun _ => .bl _⟩
  · cases eq
def gSgn (neg : Bool) : G2
  | .str x, .str y => match x.cps.toList with
    | [c] => some (.bool (neg ^^ decide (c ∈ y.cps.toList)))
    | _ => none
  | _, _ => none
theorem l_sgn {K : PySem.W.Frag} : Lift2 K (fun x y H Q => ∃ (c : Nat) (z : Str), x = .str ⟨#[c]⟩ ∧ y = .str z ∧ Q (.bl (decide (c ∈ z.cps.toList))) H) (gSgn false) := by
  intro H x y d e b Q h1 h2 eq k
  unfold gSgn at eq
  split at eq
  · rename_i x y
    split at eq
    · rename_i c hc
      cases h1
      cases h2
      cases eq
      obtain ⟨a⟩ := x
      have : a = #[c] := by
        apply Array.toList_inj.mp
        simpa using hc
      subst this
      exact ⟨c, y, rfl, rfl, by simpa using k (.bl (false ^^ decide (c ∈ y.cps.toList))) fun _ => .bl _⟩
    · cases eq
  · cases eq
theorem l_nsgn {K : PySem.W.Frag} : Lift2 K (fun x y H Q => ∃ (c : Nat) (z : Str), x = .str ⟨#[c]⟩ ∧ y = .str z ∧ Q (.bl (!decide (c ∈ z.cps.toList))) H) (gSgn true) := by
  intro H x y d e b Q h1 h2 eq k
  unfold gSgn at eq
  split at eq
  · rename_i x y
    split at eq
    · rename_i c hc
      cases h1
      cases h2
      cases eq
      obtain ⟨a⟩ := x
      have : a = #[c] := by
        apply Array.toList_inj.mp
        simpa using hc
      subst this
      exact ⟨c, y, rfl, rfl, by simpa using k (.bl (true ^^ decide (c ∈ y.cps.toList))) fun _ => .bl _⟩
    · cases eq
  · cases eq
/-! ### names of the module -/
theorem d_glob {x : Str} {u : Value} {v : V} {d : PyData} {p : Pos} (hm : X.mg x = some u) (hs : RelV v u ∧ Sc X.K v d) (hg : Gl X x := by rfl) (hd : (x == ("__debug__" : Str)) = false := by decide) : PE X (.Name x p) (tD z X.K (mC d)) := d_const (pe_glob hg hm hs.1 hd) hs.2
theorem sc_int {K : PySem.W.Frag} {i : Int} {t : Tok} : RelV (.int i) (.int i t) ∧ Sc K (.int i) (.int i) := ⟨⟨t, rfl⟩, fun _ => .int i⟩
end
/-- a module's int -/
def GInt (mg : Str → Option Value) (x : Str) (i : Int) : Prop := ∃ t, mg x = some (.int i t)
/-- a module's tuple -/
def GDat (K : PySem.W.Frag) (mg : Str → Option Value) (x : Str) (d : PyData) : Prop := ∃ a, mg x = some (.ref a) ∧ ∀ F, L2.Dp K F (.ref a) d
section
variable {X : Cx} {z : Cz}
theorem d_gint {x : Str} {i : Int} {p : Pos} (h : GInt X.mg x i) (hg : Gl X x := by rfl) (hd : (x == ("__debug__" : Str)) = false := by decide) : PE X (.Name x p) (tD z X.K (mC (.int i))) := by
  obtain ⟨t, h⟩ := h
  exact d_glob h sc_int hg hd
end
/-! ### what is written in the module for good: it is only looked at -/
def tCst (z : Cz) (K : PySem.W.Frag) (m : ME) : TE := fun σ H Q => ∃ F en T d T', Ok z K F H σ en T ∧ m en T = some (d, T') ∧ ∀ F' H' v, Bs z F' H' T' → Nxt z F H F' H' → (∀ G, L2.Dp K G v d) → Q v H'
def mCst (i : Nat) : ME := fun en T => match en[i]? with
  | some (some (.cst d)) => some (d, T)
  | _ => none
def mAc (m : ME) (ms : MAs) : MAs := fun en T => (m en T).bind fun p => (ms en p.2).map fun q => (.cst p.1 :: q.1, q.2)
section
variable {X : Cx} {z : Cz} {a b : Expr} {m m1 m2 : ME} {es : List Expr} {ms : MAs} {pos : Pos}
theorem c_gdat {x : Str} {d : PyData} {p : Pos} (h : GDat X.K X.mg x d) (hg : Gl X x := by rfl) (hd : (x == ("__debug__" : Str)) = false := by decide) : PE X (.Name x p) (tCst z X.K (mC d)) := by
  obtain ⟨a, h, hs⟩ := h
  refine pe_to (pe_glob (v := .ref a) hg h rfl hd) fun σ H Q q => ?_
  obtain ⟨F, en, T, d', T', ok, e, k⟩ := q
  cases e
  exact k F H _ ok.b Nxt.refl hs
theorem c_var (i : Nat) {x : Str} (hN : X.N[i]? = some x := by rfl) (hv : Vis X.env.scope x := by first | exact Or.inl rfl | exact Or.inr (Or.inl rfl) | exact Or.inr (Or.inr rfl)) (hd : (x == ("__debug__" : Str)) = false := by decide) (hcd : (x == ("__classdict__" : Str)) = false := by decide) : PE X (.Name x pos) (tCst z X.K (mCst i)) := pe_to (pe_var (i := i) hN hv hd hcd) fun σ H Q q => by
  obtain ⟨F, en, T, d', T', ok, e, k⟩ := q
  unfold mCst at e
  split at e
  · rename_i d e'
    cases e
    obtain ⟨v, hv, y, rfl, hs⟩ := ok.sl i _ e'
    exact ⟨y, hv, k F H _ ok.b Nxt.refl hs⟩
  · cases e
theorem tD_inC {neg : Bool} {σ : St} {H : Hp} {Q : VK} (h : tD z X.K (mBin (gIn neg) m1 m2) σ H Q) : tOp (rInA X.K neg) (tB z X.K m1) (tCst z X.K m2) σ H Q := by
  obtain ⟨F, en, T, d, T', ok, e, k⟩ := h
  obtain ⟨d1, T1, d2, e1, e2, e3⟩ := mBin_some e
  refine ⟨F, en, T, d1, T1, ok, e1, fun F1 H1 x B1 n1 p1 => ⟨F1, en, T1, d2, T', ok.nxt n1 B1, e2, fun F2 H2 y B2 n2 p2 => ?_⟩⟩
  have p1' := dp_mono (n2.st.cut.trans (cut_same z H2)) _ _ p1
  have fin : ∀ v, Sc X.K v d → Q v H2 := fun v hv => k F2 H2 v B2 (n1.trans n2 B2) (hv F2)
  unfold gIn at e3
  split at e3
  · split at e3
    · rename_i hq
      cases e3
      exact ⟨d1, _, _, rp_sh hq.1 p1', p2 H2, .inl rfl, hq.1, hq.2, fin _ fun _ => .bl _⟩
    · cases e3
  · split at e3
    · rename_i hq
      cases e3
      exact ⟨d1, _, _, rp_sh hq.1 p1', p2 H2, .inr rfl, hq.1, hq.2, fin _ fun _ => .bl _⟩
    · cases e3
  · cases e3
theorem d_inC {op : CmpOp} {neg : Bool} (ho : OpR X (compareOp op) (rInA X.K neg)) (ha : PE X a (tB z X.K m1)) (hb : PE X b (tCst z X.K m2)) (hm : behindInMarks op b = false) : PE X (.Compare a [op] [b] pos) (tD z X.K (mBin (gIn neg) m1 m2)) := pe_to (pe_cmpR ho ha hb hm) fun _ _ _ h => tD_inC h
theorem q_inC {op : CmpOp} {neg : Bool} (ho : OpR X (compareOp op) (rInA X.K neg)) (ha : PE X a (tB z X.K m1)) (hb : PE X b (tCst z X.K m2)) (hm : behindInMarks op b = false) : PT X (.Compare a [op] [b] pos) (tQ z X.K (mQ (mBin (gIn neg) m1 m2))) := pt_to (pt_cmpR ho ha hb hm) fun _ _ _ h => tD_inC (tQ_of h)
theorem n_c (ha : PE X a (tCst z X.K m)) (hr : PA X es (tAs z X.K ms)) (hs : starEach (a :: es) X.env = (false, eval a X.env) :: starEach es X.env := by rfl) : PA X (a :: es) (tAs z X.K (mAc m ms)) := pa_to (pa_cons ha hr hs) fun σ H Q q => by
  obtain ⟨F, en, T, ds, T', ok, e, k⟩ := q
  unfold mAc at e
  cases h1 : m en T with
  | none => rw [h1] at e; cases e
  | some p =>
    obtain ⟨d, T1⟩ := p
    rw [h1] at e
    simp only [Option.bind_some] at e
    cases h2 : ms en T1 with
    | none => rw [h2] at e; cases e
    | some q =>
      obtain ⟨r, T2⟩ := q
      rw [h2] at e
      cases e
      exact ⟨F, en, T, d, T1, ok, h1, fun F1 H1 v B1 n1 p1 => ⟨F1, en, T1, r, _, ok.nxt n1 B1, h2, fun F2 H2 vs B2 n2 p2 => k F2 H2 _ B2 (n1.trans n2 B2) (.cons (s := .cst d) p1 p2)⟩⟩
theorem n_lenC {n : Nat} (h : ∀ (en : En) (T : Dk) (ss : List Sl) (T' : Dk), ms en T = some (ss, T') → ss.length = n) : ∀ (en : En) (T : Dk) (ss : List Sl) (T' : Dk), mAc m ms en T = some (ss, T') → ss.length = n + 1 := fun en T ss T' e => by
  unfold mAc at e
  cases h1 : m en T with
  | none => rw [h1] at e; cases e
  | some p =>
    rw [h1] at e
    simp only [Option.bind_some] at e
    cases h2 : ms en p.2 with
    | none => rw [h2] at e; cases e
    | some q =>
      rw [h2] at e
      cases e
      rw [List.length_cons, h _ _ _ _ h2]
end
end LQ

set_option Elab.async false
set_option linter.all false
set_option maxRecDepth 100000
set_option maxHeartbeats 4000000
namespace LQ
open PySem PySem.Spec PyProof.Rows L2
theorem room65 {k : Nat} {A : Around} (r : Room k A) : A.units + 65 < cLine := by have := r.un; omega
abbrev gLt : G2 := gI0 fun i j => .bool (decide (i < j))
abbrev gLe : G2 := gI0 fun i j => .bool (decide (i ≤ j))
abbrev gGt : G2 := gI0 fun i j => .bool (decide (j < i))
abbrev gGe : G2 := gI0 fun i j => .bool (decide (j ≤ i))
abbrev gAdd : G2 := gI0 fun i j => .int (i + j)
abbrev gSub : G2 := gI0 fun i j => .int (i - j)
abbrev gMul : G2 := gI (fun i j => decide ((-18446744073709551616 < i ∧ i < 18446744073709551616) ∨ (-18446744073709551616 < j ∧ j < 18446744073709551616))) fun i j => .int (i * j)
abbrev gFdiv : G2 := gI (fun i j => decide (0 < j ∧ j < 1073741824)) fun i j => .int (i / j)
abbrev gMod : G2 := gI (fun i j => decide (0 < j)) fun i j => .int (i % j)
abbrev gPow : G2 := gI (fun i j => decide (0 ≤ j ∧ j ≤ 1000000 ∧ i.natAbs < 18446744073709551616)) fun i j => .int (i ^ j.toNat)
section
variable {K : PySem.W.Frag}
theorem l_lt : Lift2 K (rI0 fun i j => .bl (decide (i < j))) gLt := l_rI0 fun _ _ _ => .bl _
theorem l_le : Lift2 K (rI0 fun i j => .bl (decide (i ≤ j))) gLe := l_rI0 fun _ _ _ => .bl _
theorem l_gt : Lift2 K (rI0 fun i j => .bl (decide (j < i))) gGt := l_rI0 fun _ _ _ => .bl _
theorem l_ge : Lift2 K (rI0 fun i j => .bl (decide (j ≤ i))) gGe := l_rI0 fun _ _ _ => .bl _
theorem l_add : Lift2 K (rI0 fun i j => .int (i + j)) gAdd := l_rI0 fun _ _ _ => .int _
theorem l_sub : Lift2 K (rI0 fun i j => .int (i - j)) gSub := l_rI0 fun _ _ _ => .int _
theorem l_mul : Lift2 K (rI CMul fun i j => .int (i * j)) gMul := l_rI (fun i j h => by
  have h := of_decide_eq_true h
  unfold CMul
  have e : (2 : Int) ^ 64 = 18446744073709551616 := by decide
  rw [e]
  exact h) fun _ _ _ => .int _
theorem l_fdiv : Lift2 K (rI CDiv fun i j => .int (i / j)) gFdiv := l_rI (fun i j h => by simpa [CDiv] using h) fun _ _ _ => .int _
theorem l_mod : Lift2 K (rI (fun _ j => 0 < j) fun i j => .int (i % j)) gMod := l_rI (fun i j h => of_decide_eq_true h) fun _ _ _ => .int _
theorem l_pow : Lift2 K (rI CPow fun i j => .int (i ^ j.toNat)) gPow := l_rI (fun i j h => by simpa [CPow] using h) fun _ _ _ => .int _
end
section
variable {X : Cx} {z : Cz} {pos : Pos}
/-- a, b = x, y -/
def mPar (i j : Nat) (ms : MA) : MS := fun en T => (ms en T).bind fun p => match p.1 with
  | [d, e] => some (.nx ((en.set i (some (.dat d))).set j (some (.dat e))) p.2)
  | _ => none
theorem s_par (i j : Nat) {x y : Str} {a b : Expr} {ms : MA} {px py pt : Pos} {kt k2 pt2} (hc : X.calm = true) (hN : X.N.Nodup) (ha : PA X [a, b] (tDs z X.K ms))
    (hw : swappedStores [.Tuple [.Name x px, .Name y py] kt pt] (.Tuple [a, b] k2 pt2) X.env = pure (some [x, y])) (hi : X.N[i]? = some x := by rfl) (hj : X.N[j]? = some y := by rfl) (hij : i ≠ j := by decide) (hx : X.env.scope.names.lookup x = some .local := by rfl) (hy : X.env.scope.names.lookup y = some .local := by rfl)
    (one : swapsWithSole [.Tuple [.Name x px, .Name y py] kt pt] (.Tuple [a, b] k2 pt2) pos.line X.env = pure false := by rfl) : PS X (.Assign [.Tuple [.Name x px, .Name y py] kt pt] (.Tuple [a, b] k2 pt2) pos) (tS z X.K (mPar i j ms)) := ps_to (ps_par hc hN hi hj hij hx hy ha hw one) fun D σ H q => by
  obtain ⟨F, en, T, r, ok, e, k⟩ := q
  unfold mPar at e
  cases h1 : ms en T with
  | none => rw [h1] at e; cases e
  | some p =>
    obtain ⟨ds, T1⟩ := p
    rw [h1] at e
    simp only [Option.bind_some] at e
    split at e
    · cases e
      refine ⟨F, en, T, _, _, ok, h1, fun F' H' vs B n p => ?_⟩
      cases p with
      | cons p1 p2 =>
        cases p2 with
        | cons p2 p3 =>
          cases p3
          exact ⟨_, _, rfl, k F' H' _ (((ok.nxt n B).set p1).set p2) n.s⟩
    · cases e
theorem ss_never {sts : List Stmt} : PSs X sts (tS z X.K mNo) := ⟨fun _ _ _ _ _ _ h => by obtain ⟨_, _, _, _, _, e, _⟩ := h; cases e⟩
/-- x = {}, never looked at again -/
def mDict0 (i : Nat) : MS := fun en T => some (.nx (en.set i none) T)
theorem s_dict0 (i : Nat) {x : Str} {p' p2 : Pos} (hN : X.N.Nodup) (hi : X.N[i]? = some x := by rfl) (hx : Loc X.env.scope x := by first | exact Or.inl rfl | exact Or.inr rfl) (hs : swapsWith (.Dict [] [] p2) (some (.Name x p')) pos.line X.env = pure false := by rfl) (hf : X.fn x = true ∨ X.env.scope.names.lookup x = some .local := by first | exact .inl rfl | exact .inr rfl | assumption) :
    PS X (.Assign [.Name x p'] (.Dict [] [] p2) pos) (tS z X.K (mDict0 i)) := ps_to (ps_set (i := i) hN hi hx pe_dnewK hs hf) fun D σ H q => by
  obtain ⟨F, en, T, r, ok, e, k⟩ := q
  cases e
  intro d hd
  obtain ⟨B2, n2, _, _⟩ := ok.b.put (o := .dK []) hd
  have ok2 := ok.nxt n2 B2
  refine k F _ _ ⟨ok2.b, by rw [List.length_set, List.length_set]; exact ok2.len, fun j s e => ?_, fun j l ds es a hjl e1 e2 h1 h2 => ?_, nd_set ok2.nd fun ds h => by cases h⟩ (Same.refl _)
  · have w := (ok2.wipe1 (i := i)).sl j s e
    have hj : i ≠ j := fun q => by
      subst q
      by_cases hi : i < en.length
      · rw [List.getElem?_set_self hi] at e; cases e
      · rw [List.getElem?_eq_none (by rw [List.length_set]; omega)] at e; cases e
    rw [List.getElem?_set_ne hj] at w
    rw [List.getElem?_set_ne hj]
    exact w
  · have no : ∀ (j : Nat) (s : Sl), (en.set i none)[j]? = some (some s) → i ≠ j := fun j s e q => by
      subst q
      by_cases hi : i < en.length
      · rw [List.getElem?_set_self hi] at e; cases e
      · rw [List.getElem?_eq_none (by rw [List.length_set]; omega)] at e; cases e
    have hj := no j _ e1
    have hl := no l _ e2
    rw [List.getElem?_set_ne hj] at h1 e1
    rw [List.getElem?_set_ne hl] at h2 e2
    exact ok2.ne j l ds es a hjl e1 e2 h1 h2
end
end LQ

set_option Elab.async false
set_option linter.all false
set_option maxRecDepth 100000
set_option maxHeartbeats 4000000
/-! what the top has left -/
namespace LQ
open PySem PySem.Spec PyProof.Rows L2
section
variable {K : PySem.W.Frag} {mg : Str → Option Value} {h : Heap}
theorem def_mk {x : Str} {st : Stmt} {ps : List Str} {f : Addr} {oc kV dc pm cd ct : Value} {od an : Option Addr} {sl : Array (Option Value)} (X : K.In h) (G : h.Ns mainGlobals mg) (a : PySem.W.nsIn K mainGlobals x = some (some (.ref f)))
    (l : K.lookup f = some ⟨oc, od, .func (PySem.W.fnOf x x (defArgs st) (defBody st) (defScope st) .none kV dc pm an cd ct), sl⟩) (c : PySem.W.codeIn K cd x = true) (k : PySem.W.keepIn K (.ref f) = true)
    (hb : ∀ (kV doc pm : Value) (an : Option Addr) (cdv ct : Value) (us : List Value), us.length = ps.length → bindArgs (PySem.W.fnOf x x (defArgs st) (defBody st) (defScope st) .none kV doc pm an cdv ct) ⟨us, []⟩ = pure (ps.zip us)) : Def K mg x st ps :=
  ⟨f, _, fun_mk l c k, PySem.W.mg_of X G a, (fun_mk l c k).binds hb⟩
theorem gint_mk {x : Str} {i : Int} {t : Tok} (X : K.In h) (G : h.Ns mainGlobals mg) (a : PySem.W.nsIn K mainGlobals x = some (some (.int i t))) : GInt mg x i := ⟨t, PySem.W.mg_of X G a⟩
theorem gdat_mk {x : Str} {p : Addr} {o : Obj} {its : Array Value} {n : Nat} {xs : List V} {ds : List PyData} (X : K.In h) (G : h.Ns mainGlobals mg) (a : PySem.W.nsIn K mainGlobals x = some (some (.ref p))) (l : K.lookup p = some o)
    (hc : o.cls = .type "tuple") (hd : o.data = .seq its n) (hz : its.size ≤ sizeLine) (hv : Vals xs its.toList) (hp : ∀ F, L2.DpAll K F xs ds) : GDat K mg x (.tuple ds) :=
  ⟨p, PySem.W.mg_of X G a, fun F => .tup (.inr ⟨o, its, n, l, hc, hd, hz, hv⟩) (hp F)⟩
/-- the law's promise: True of every script -/
def spLaw (K : PySem.W.Frag) : Sp := fun vs H Q _ => ∃ (a : Addr) (ns : List Int), vs = [.ref a] ∧ Only H ∧ SqL K H a (ns.map V.int) ∧ ns.length ≤ 63 ∧ ∀ H', Q (.bl true) H'
theorem law_mk {P : Program} {w : World} {base : Heap} {k : Nat} {x : Str} {f : Addr} {fd : FuncData} {M : MF} (G : FnG P w K mg base CX0 k f fd [x] (spD K 1 M)) (hM : ∀ ns : List Int, ns.length ≤ 63 → ∀ T, ∃ T', M [.dat (.list (ns.map PyData.int))] T = some (.bool true, T')) :
    FnG P w K mg base CX0 k f fd [x] (spLaw K) := by
  refine G.imp fun vs H Q E q => ?_
  obtain ⟨a, ns, rfl, hO, hS, hl, k⟩ := q
  obtain ⟨T', e⟩ := hM ns hl ⟨[], [], 0, 0⟩
  refine ⟨H, none, _, ⟨[], [], 0, 0⟩, _, T', rfl, ⟨Same.refl _, Same.refl _, fun _ h => .inl h, fun _ _ h _ => h, (fun _ h => by cases h), (fun _ h => by cases h), trivial⟩, .cons (s := .dat _) (.lst hS (dpAll_ints ns)) .nil, e, fun F' H' v B p => ?_⟩
  cases p
  exact k H'
end
/-! ### mirrors at work -/
theorem ev_call1 {g : G1} {m : ME} {en : En} {T T' : Dk} {d b : PyData} (h : m en T = some (d, T')) (e : g [d] = some b) : mCall g (mCons m mNil) en T = some (b, T') := by
  show (((m en T).bind fun p => (some (([] : List PyData), p.2)).map fun q => (p.1 :: q.1, q.2)).bind fun p => (g p.1).map fun b => (b, p.2)) = _
  rw [h]
  show (g [d]).map _ = _
  rw [e]
  rfl
theorem ev_bin {g : G2} {m1 m2 : ME} {en : En} {T T1 T2 : Dk} {d1 d2 b : PyData} (h1 : m1 en T = some (d1, T1)) (h2 : m2 en T1 = some (d2, T2)) (e : g d1 d2 = some b) : mBin g m1 m2 en T = some (b, T2) := by
  show ((m1 en T).bind fun p => (m2 en p.2).bind fun q => (g p.1 q.1).map fun b => (b, q.2)) = _
  rw [h1]
  show ((m2 en T1).bind fun q => (g d1 q.1).map fun b => (b, q.2)) = _
  rw [h2]
  show (g d1 d2).map _ = _
  rw [e]
  rfl
theorem ev_seq_nx {s1 s2 : MS} {en en' : En} {T T' : Dk} (h : s1 en T = some (.nx en' T')) : mSeq s1 s2 en T = s2 en' T' := by
  unfold mSeq
  rw [h]
  rfl
theorem ev_seq_rt {s1 s2 : MS} {en : En} {T T' : Dk} {d : PyData} (h : s1 en T = some (.rt d T')) : mSeq s1 s2 en T = some (.rt d T') := by
  unfold mSeq
  rw [h]
  rfl
theorem ev_if_t {n : MT} {s1 s2 : MS} {en : En} {T T' : Dk} (h : n en T = some (true, T')) : mIf n s1 s2 en T = s1 en T' := by
  unfold mIf
  rw [h]
  rfl
theorem ev_if_f {n : MT} {s1 s2 : MS} {en : En} {T T' : Dk} (h : n en T = some (false, T')) : mIf n s1 s2 en T = s2 en T' := by
  unfold mIf
  rw [h]
  rfl
theorem ev_ret {m : ME} {en : En} {T T' : Dk} {d : PyData} (h : m en T = some (d, T')) : mRet m en T = some (.rt d T') := by
  unfold mRet
  rw [h]
  rfl
theorem ev_set {i : Nat} {m : ME} {en : En} {T T' : Dk} {d : PyData} (h : m en T = some (d, T')) : mSet i m en T = some (.nx (en.set i (some (.dat d))) T') := by
  unfold mSet
  rw [h]
  rfl
theorem ev_setF {i : Nat} {m : MA} {en : En} {T T' : Dk} {ds : List PyData} (h : m en T = some (ds, T')) : mSetF i m en T = some (.nx (en.set i (some (.own ds))) T') := by
  unfold mSetF
  rw [h]
  rfl
theorem ev_fun_rt {n : Nat} {mb : MS} {ss : List Sl} {T T' : Dk} {d : PyData} (h : mb (ss.map some ++ List.replicate (n - ss.length) none) T = some (.rt d T')) : mFun n mb ss T = some (d, T') := by
  unfold mFun
  rw [h]
theorem ev_q {m : ME} {en : En} {T T' : Dk} {d : PyData} {b : Bool} (h : m en T = some (d, T')) (e : d = .bool b) : mQ m en T = some (b, T') := by
  subst e
  unfold mQ
  rw [h]
theorem ev_not {n : MT} {en : En} {T T' : Dk} {b : Bool} (h : n en T = some (b, T')) : mNot n en T = some (!b, T') := by
  unfold mNot
  rw [h]
  rfl
end LQ

set_option Elab.async false
set_option linter.all false
set_option maxRecDepth 100000
set_option maxHeartbeats 4000000
/-! the deck -/
namespace LQ
open PySem PySem.Spec PyProof.Rows L2
section
variable {z : Cz} {F H : Hp} {T : Dk} {p c g : Addr}
theorem Bs.deckAt (B : Bs z F H T) (e : z.dk = some (p, c, g)) : H p = some (.lst [.ref c, .ref g, .int (T.i : Nat), .int (T.c : Nat)]) ∧ F c = some (.lst (T.cells.map V.int)) ∧ H g = some (.lst (T.gs.map V.int)) ∧ p ≠ g ∧ z.isDk p = true ∧ z.isDk g = true := by
  have hk := B.dk
  unfold DkOk at hk
  rw [e] at hk
  obtain ⟨k1, k2, k3, k4⟩ := hk
  refine ⟨k1, k2, k3, k4, ?_, ?_⟩
  · unfold Cz.isDk dkAt
    rw [e]
    simp
  · unfold Cz.isDk dkAt
    rw [e]
    simp
theorem Bs.setDk {a : Addr} {o : HO} {T' : Dk} (B : Bs z F H T) (ha : z.isDk a = true) (hk : DkOk z.dk F (upd H a o) T') : Bs z F (upd H a o) T' ∧ Nxt z F H F (upd H a o) := by
  have fa := B.nodk a ha
  have st : Stp z H (upd H a o) := fun b u h hd => by
    rw [upd_ne (fun e => by subst e; rw [ha] at hd; cases hd)]
    exact h
  refine ⟨⟨fun b u h => ?_, B.ff, B.vis, fun b u h hd => st b u (B.out b u h hd) hd, B.nodk, B.dkin, hk⟩, ⟨Same.refl _, st, fun _ h => .inl h⟩⟩
  rw [upd_ne (ne_of_none h fa)]
  exact B.fh b u h
theorem Bs.setG {T' : Dk} (B : Bs z F H T) (e : z.dk = some (p, c, g)) (h1 : T'.cells = T.cells) (h2 : T'.i = T.i) (h3 : T'.c = T.c) : Bs z F (upd H g (.lst (T'.gs.map V.int))) T' ∧ Nxt z F H F (upd H g (.lst (T'.gs.map V.int))) := by
  obtain ⟨k1, k2, k3, k4, k5, k6⟩ := B.deckAt e
  refine B.setDk k6 ?_
  unfold DkOk
  rw [e]
  refine ⟨?_, by rw [h1]; exact k2, upd_same, k4⟩
  rw [upd_ne k4, h2, h3]
  exact k1
theorem Bs.setP {T' : Dk} (B : Bs z F H T) (e : z.dk = some (p, c, g)) (h1 : T'.cells = T.cells) (h2 : T'.gs = T.gs) : Bs z F (upd H p (.lst [.ref c, .ref g, .int (T'.i : Nat), .int (T'.c : Nat)])) T' ∧ Nxt z F H F (upd H p (.lst [.ref c, .ref g, .int (T'.i : Nat), .int (T'.c : Nat)])) := by
  obtain ⟨k1, k2, k3, k4, k5, k6⟩ := B.deckAt e
  refine B.setDk k5 ?_
  unfold DkOk
  rw [e]
  refine ⟨upd_same, by rw [h1]; exact k2, ?_, k4⟩
  rw [upd_ne (Ne.symm k4), h2]
  exact k3
end
def isDeck (en : En) (i : Nat) : Bool := match en[i]? with
  | some (some .deck) => true
  | _ => false
section
variable {X : Cx} {z : Cz} {pos : Pos} {K : PySem.W.Frag} {F H : Hp} {σ : St} {en : En} {T : Dk}
theorem Ok.deck (ok : Ok z K F H σ en T) {i : Nat} (h : isDeck en i = true) : ∃ p c g, z.dk = some (p, c, g) ∧ σ[i]? = some (some (.ref p)) := by
  unfold isDeck at h
  split at h
  · rename_i e
    obtain ⟨v, hv, p, c, g, e1, rfl⟩ := ok.sl i _ e
    exact ⟨p, c, g, e1, hv⟩
  · cases h
def mK (i : Nat) (f : Dk → PyData) : ME := fun en T => if isDeck en i = true then some (f T, T) else none
theorem mK_some {i : Nat} {f : Dk → PyData} {T' : Dk} {d : PyData} (e : mK i f en T = some (d, T')) : isDeck en i = true ∧ d = f T ∧ T' = T := by
  unfold mK at e
  split at e
  · rename_i h
    cases e
    exact ⟨h, rfl, rfl⟩
  · cases e
/-- deck[0], deck[2], deck[3] -/
theorem k_at {i : Nat} {j : Int} {f : Dk → PyData} {x : Str} {p1 p2 : Pos} {q : Nat} (hf : ∀ (z : Cz) (K : PySem.W.Frag) (F H : Hp) (T : Dk) (p c g : Addr), Bs z F H T → z.dk = some (p, c, g) → ∃ v, atI [V.ref c, V.ref g, V.int (T.i : Nat), V.int (T.c : Nat)] j = some v ∧ Rp K F v (f T))
    (hN : X.N[i]? = some x) (hv : Vis X.env.scope x) (hd : (x == ("__debug__" : Str)) = false) (hcd : (x == ("__classdict__" : Str)) = false) : PE X (.Subscript (.Name x p1) (.Constant (.int j) q p2) pos) (tD z X.K (mK i f)) :=
  pe_to (pe_ix ix_seq (pe_var (i := i) hN hv hd hcd) pe_int (fun _ _ => rfl)) fun σ H Q h => by
    obtain ⟨F, en, T, d, T', ok, e, k⟩ := h
    obtain ⟨h1, rfl, rfl⟩ := mK_some e
    obtain ⟨p, c, g, e1, hs⟩ := ok.deck h1
    obtain ⟨k1, _⟩ := ok.b.deckAt e1
    obtain ⟨v, hv, pv⟩ := hf z X.K F H T' p c g ok.b e1
    exact ⟨_, hs, .inl ⟨p, _, j, v, rfl, rfl, .inl (.inl k1), hv, k F H v ok.b Nxt.refl pv⟩⟩
abbrev mK0 (i : Nat) : ME := mK i fun T => .list (T.cells.map PyData.int)
abbrev mK2 (i : Nat) : ME := mK i fun T => .int (T.i : Nat)
abbrev mK3 (i : Nat) : ME := mK i fun T => .int (T.c : Nat)
abbrev mKlen (i : Nat) : ME := mK i fun T => .int (T.gs.length : Nat)
theorem k_0 (i : Nat) {x : Str} {p1 p2 : Pos} {q : Nat} (hN : X.N[i]? = some x := by rfl) (hv : Vis X.env.scope x := by first | exact Or.inl rfl | exact Or.inr (Or.inl rfl) | exact Or.inr (Or.inr rfl)) (hd : (x == ("__debug__" : Str)) = false := by decide) (hcd : (x == ("__classdict__" : Str)) = false := by decide) : PE X (.Subscript (.Name x p1) (.Constant (.int 0) q p2) pos) (tD z X.K (mK0 i)) :=
  k_at (fun z K F H T p c g B e => ⟨_, rfl, .lst (.inl (.inl (B.deckAt e).2.1)) (dpAll_ints _)⟩) hN hv hd hcd
theorem k_2 (i : Nat) {x : Str} {p1 p2 : Pos} {q : Nat} (hN : X.N[i]? = some x := by rfl) (hv : Vis X.env.scope x := by first | exact Or.inl rfl | exact Or.inr (Or.inl rfl) | exact Or.inr (Or.inr rfl)) (hd : (x == ("__debug__" : Str)) = false := by decide) (hcd : (x == ("__classdict__" : Str)) = false := by decide) : PE X (.Subscript (.Name x p1) (.Constant (.int 2) q p2) pos) (tD z X.K (mK2 i)) :=
  k_at (fun z K F H T p c g B e => ⟨_, rfl, .int _⟩) hN hv hd hcd
theorem k_3 (i : Nat) {x : Str} {p1 p2 : Pos} {q : Nat} (hN : X.N[i]? = some x := by rfl) (hv : Vis X.env.scope x := by first | exact Or.inl rfl | exact Or.inr (Or.inl rfl) | exact Or.inr (Or.inr rfl)) (hd : (x == ("__debug__" : Str)) = false := by decide) (hcd : (x == ("__classdict__" : Str)) = false := by decide) : PE X (.Subscript (.Name x p1) (.Constant (.int 3) q p2) pos) (tD z X.K (mK3 i)) :=
  k_at (fun z K F H T p c g B e => ⟨_, rfl, .int _⟩) hN hv hd hcd
/-- len(deck[1]) -/
theorem k_len (i : Nat) {x : Str} {p1 p2 p3 p4 : Pos} {q : Nat} (hg : Gl X "len") (hm : X.mg "len" = none) (hN : X.N[i]? = some x := by rfl) (hv : Vis X.env.scope x := by first | exact Or.inl rfl | exact Or.inr (Or.inl rfl) | exact Or.inr (Or.inr rfl)) (hd : (x == ("__debug__" : Str)) = false := by decide) (hcd : (x == ("__classdict__" : Str)) = false := by decide) :
    PE X (.Call (.Name "len" p3) [.Subscript (.Name x p1) (.Constant (.int 1) q p2) p4] [] pos) (tD z X.K (mKlen i)) :=
  pe_to (pe_callB call_len hg hm (by decide +kernel) (pa_cons (pe_ix ix_seq (pe_var (i := i) hN hv hd hcd) pe_int (fun _ _ => rfl)) pa_nil)) fun σ H Q h => by
    obtain ⟨F, en, T, d, T', ok, e, k⟩ := h
    obtain ⟨h1, rfl, rfl⟩ := mK_some e
    obtain ⟨p, c, g, e1, hs⟩ := ok.deck h1
    obtain ⟨k1, k2, k3, _⟩ := ok.b.deckAt e1
    refine ⟨_, hs, .inl ⟨p, _, 1, .ref g, rfl, rfl, .inl (.inl k1), rfl, ?_⟩⟩
    refine ⟨.ref g, _, rfl, .inl ⟨_, .inl (.inl k3), rfl⟩, ?_⟩
    rw [List.length_map]
    exact k F H _ ok.b Nxt.refl (.int _)
/-- deck[1][e] -/
def mKit (i : Nat) (m : ME) : ME := fun en T => if isDeck en i = true then (m en T).bind fun p => match p.1 with
    | .int k => (atI p.2.gs k).map fun v => (.int v, p.2)
    | _ => none
  else none
theorem atI_map {ns : List Int} {k v : Int} (h : atI ns k = some v) : atI (ns.map V.int) k = some (.int v) := by
  unfold atI at h ⊢
  rw [List.length_map]
  cases e : ixN ns.length k with
  | none => rw [e] at h; cases h
  | some j =>
    rw [e] at h
    show (ns.map V.int)[j]? = _
    rw [List.getElem?_map]
    replace h : ns[j]? = some v := h
    rw [h]
    rfl
theorem k_it (i : Nat) {x : Str} {b : Expr} {m : ME} {p1 p2 p3 : Pos} {q : Nat} (hb : PE X b (tB z X.K m)) (hN : X.N[i]? = some x := by rfl) (hv : Vis X.env.scope x := by first | exact Or.inl rfl | exact Or.inr (Or.inl rfl) | exact Or.inr (Or.inr rfl)) (hd : (x == ("__debug__" : Str)) = false := by decide) (hcd : (x == ("__classdict__" : Str)) = false := by decide) (hs : PlainIx b := by exact fun _ _ => rfl) :
    PE X (.Subscript (.Subscript (.Name x p1) (.Constant (.int 1) q p2) p3) b pos) (tD z X.K (mKit i m)) :=
  pe_to (pe_ix ix_seq (pe_ix ix_seq (pe_var (i := i) hN hv hd hcd) pe_int (fun _ _ => rfl)) hb hs) fun σ H Q h => by
    obtain ⟨F, en, T, d, T', ok, e, k⟩ := h
    unfold mKit at e
    split at e
    · rename_i h1
      obtain ⟨p, c, g, e1, hs⟩ := ok.deck h1
      obtain ⟨k1, k2, k3, _⟩ := ok.b.deckAt e1
      refine ⟨_, hs, .inl ⟨p, _, 1, .ref g, rfl, rfl, .inl (.inl k1), rfl, ?_⟩⟩
      cases h2 : m en T with
      | none => rw [h2] at e; cases e
      | some r =>
        obtain ⟨d1, T1⟩ := r
        rw [h2] at e
        simp only [Option.bind_some] at e
        refine ⟨F, en, T, d1, T1, ok, h2, fun F1 H1 v B1 n1 p1 => ?_⟩
        split at e
        · cases p1
          rename_i j
          cases h3 : atI T1.gs j with
          | none => rw [h3] at e; cases e
          | some w =>
            rw [h3] at e
            cases e
            exact .inl ⟨g, _, _, _, rfl, rfl, .inl (.inl (B1.deckAt e1).2.2.1), atI_map h3, k F1 H1 _ B1 n1 (.int _)⟩
        · cases e
    · cases e
/-- deck[2] = e, deck[3] = e -/
def mKset (i : Nat) (f : Dk → Nat → Dk) (m : ME) : MS := fun en T => if isDeck en i = true then (m en T).bind fun p => match p.1 with
    | .int k => if 0 ≤ k then some (.nx en (f p.2 k.toNat)) else none
    | _ => none
  else none
theorem k_set {i : Nat} {j : Int} {l : Nat} {f : Dk → Nat → Dk} {x : Str} {a : Expr} {m : ME} {p1 p2 p3 : Pos} {q : Nat} (hj : ∀ (c g : Addr) (T : Dk) (k : Nat), ixN 4 j = some l ∧ [V.ref c, V.ref g, V.int (T.i : Nat), V.int (T.c : Nat)].set l (.int (k : Nat)) = [V.ref c, V.ref g, V.int ((f T k).i : Nat), V.int ((f T k).c : Nat)] ∧ (f T k).cells = T.cells ∧ (f T k).gs = T.gs)
    (ha : PE X a (tD z X.K m)) (hN : X.N[i]? = some x) (hv : Vis X.env.scope x) (hd : (x == ("__debug__" : Str)) = false) (hcd : (x == ("__classdict__" : Str)) = false)
    (hs : swapsWithSole [Expr.Subscript (.Name x p1) (.Constant (.int j) q p2) p3] a pos.line X.env = pure false := by rfl) (hw : swappedStores [Expr.Subscript (.Name x p1) (.Constant (.int j) q p2) p3] a X.env = pure none := by rfl) :
    PS X (.Assign [.Subscript (.Name x p1) (.Constant (.int j) q p2) p3] a pos) (tS z X.K (mKset i f m)) :=
  ps_to (ps_asg ha (pg_sub (pe_var (i := i) hN hv hd hcd) pe_int set_list) hs hw) fun D σ H h => by
    obtain ⟨F, en, T, r, ok, e, k⟩ := h
    unfold mKset at e
    split at e
    · rename_i h1
      cases h2 : m en T with
      | none => rw [h2] at e; cases e
      | some r =>
        obtain ⟨d1, T1⟩ := r
        rw [h2] at e
        simp only [Option.bind_some] at e
        refine ⟨F, en, T, d1, T1, ok, h2, fun F1 H1 v B1 n1 p1 => ?_⟩
        split at e
        · split at e
          · rename_i w hw
            cases e
            cases p1
            have ok1 := ok.nxt n1 B1
            obtain ⟨p, c, g, e1, hs⟩ := ok1.deck h1
            obtain ⟨k1, k2, k3, k4, _⟩ := B1.deckAt e1
            obtain ⟨j1, j2, j3, j4⟩ := hj c g T1 w.toNat
            refine ⟨.ref p, hs, p, _, j, l, rfl, rfl, k1, j1, ?_⟩
            have hw' : ((w.toNat : Nat) : Int) = w := by omega
            rw [← hw', j2]
            obtain ⟨B2, n2⟩ := B1.setP (T' := f T1 w.toNat) e1 j3 j4
            exact k F1 _ σ (ok1.nxt n2 B2) n1.s
          · cases e
        · cases e
    · cases e
abbrev mKset2 (i : Nat) : ME → MS := mKset i fun T k => { T with i := k }
abbrev mKset3 (i : Nat) : ME → MS := mKset i fun T k => { T with c := k }
theorem k_set2 (i : Nat) {x : Str} {a : Expr} {m : ME} {p1 p2 p3 : Pos} {q : Nat} (ha : PE X a (tD z X.K m)) (hN : X.N[i]? = some x := by rfl) (hv : Vis X.env.scope x := by first | exact Or.inl rfl | exact Or.inr (Or.inl rfl) | exact Or.inr (Or.inr rfl)) (hd : (x == ("__debug__" : Str)) = false := by decide) (hcd : (x == ("__classdict__" : Str)) = false := by decide)
    (hs : swapsWithSole [Expr.Subscript (.Name x p1) (.Constant (.int 2) q p2) p3] a pos.line X.env = pure false := by rfl) (hw : swappedStores [Expr.Subscript (.Name x p1) (.Constant (.int 2) q p2) p3] a X.env = pure none := by rfl) :
    PS X (.Assign [.Subscript (.Name x p1) (.Constant (.int 2) q p2) p3] a pos) (tS z X.K (mKset2 i m)) := k_set (l := 2) (fun c g T k => ⟨rfl, rfl, rfl, rfl⟩) ha hN hv hd hcd hs hw
theorem k_set3 (i : Nat) {x : Str} {a : Expr} {m : ME} {p1 p2 p3 : Pos} {q : Nat} (ha : PE X a (tD z X.K m)) (hN : X.N[i]? = some x := by rfl) (hv : Vis X.env.scope x := by first | exact Or.inl rfl | exact Or.inr (Or.inl rfl) | exact Or.inr (Or.inr rfl)) (hd : (x == ("__debug__" : Str)) = false := by decide) (hcd : (x == ("__classdict__" : Str)) = false := by decide)
    (hs : swapsWithSole [Expr.Subscript (.Name x p1) (.Constant (.int 3) q p2) p3] a pos.line X.env = pure false := by rfl) (hw : swappedStores [Expr.Subscript (.Name x p1) (.Constant (.int 3) q p2) p3] a X.env = pure none := by rfl) :
    PS X (.Assign [.Subscript (.Name x p1) (.Constant (.int 3) q p2) p3] a pos) (tS z X.K (mKset3 i m)) := k_set (l := 3) (fun c g T k => ⟨rfl, rfl, rfl, rfl⟩) ha hN hv hd hcd hs hw
/-- deck[1][e1] = e -/
def mKput (i : Nat) (m1 m : ME) : MS := fun en T => if isDeck en i = true then (m en T).bind fun p => match p.1 with
    | .int v => (m1 en p.2).bind fun q => match q.1 with
      | .int k => (ixN q.2.gs.length k).map fun j => .nx en { q.2 with gs := q.2.gs.set j v }
      | _ => none
    | _ => none
  else none
theorem k_put (i : Nat) {x : Str} {a : Expr} {m : ME} {p1 p2 p3 p4 p5 p6 p7 : Pos} {q q2 : Nat} (ha : PE X a (tD z X.K m)) (hN : X.N[i]? = some x := by rfl) (hv : Vis X.env.scope x := by first | exact Or.inl rfl | exact Or.inr (Or.inl rfl) | exact Or.inr (Or.inr rfl)) (hd : (x == ("__debug__" : Str)) = false := by decide) (hcd : (x == ("__classdict__" : Str)) = false := by decide)
    (hs : swapsWithSole [Expr.Subscript (.Subscript (.Name x p1) (.Constant (.int 1) q p2) p3) (.Subscript (.Name x p5) (.Constant (.int 2) q2 p6) p7) p4] a pos.line X.env = pure false := by rfl) (hw : swappedStores [Expr.Subscript (.Subscript (.Name x p1) (.Constant (.int 1) q p2) p3) (.Subscript (.Name x p5) (.Constant (.int 2) q2 p6) p7) p4] a X.env = pure none := by rfl) :
    PS X (.Assign [.Subscript (.Subscript (.Name x p1) (.Constant (.int 1) q p2) p3) (.Subscript (.Name x p5) (.Constant (.int 2) q2 p6) p7) p4] a pos) (tS z X.K (mKput i (mK2 i) m)) :=
  ps_to (ps_asg ha (pg_sub (pe_ix ix_seq (pe_var (i := i) hN hv hd hcd) pe_int (fun _ _ => rfl)) (bw (k_2 (z := z) i hN hv hd hcd)) set_list) hs hw) fun D σ H h => by
    obtain ⟨F, en, T, r, ok, e, k⟩ := h
    unfold mKput at e
    split at e
    · rename_i h1
      cases h2 : m en T with
      | none => rw [h2] at e; cases e
      | some r =>
        obtain ⟨d1, T1⟩ := r
        rw [h2] at e
        simp only [Option.bind_some] at e
        refine ⟨F, en, T, d1, T1, ok, h2, fun F1 H1 v B1 n1 p1 => ?_⟩
        split at e
        · rename_i w
          cases p1
          have ok1 := ok.nxt n1 B1
          obtain ⟨p, c, g, e1, hs⟩ := ok1.deck h1
          obtain ⟨k1, k2, k3, k4, _⟩ := B1.deckAt e1
          cases h3 : mK2 i en T1 with
          | none => rw [h3] at e; cases e
          | some r =>
            obtain ⟨d2, T2⟩ := r
            rw [h3] at e
            simp only [Option.bind_some] at e
            refine ⟨.ref p, hs, .inl ⟨p, _, 1, .ref g, rfl, rfl, .inl (.inl k1), rfl, ?_⟩⟩
            refine ⟨F1, en, T1, d2, T2, ok1, h3, fun F2 H2 v2 B2 n2 p2 => ?_⟩
            split at e
            · rename_i u
              cases p2
              cases h4 : ixN T2.gs.length u with
              | none => rw [h4] at e; cases e
              | some j =>
                rw [h4] at e
                cases e
                refine ⟨g, _, u, j, rfl, rfl, (B2.deckAt e1).2.2.1, by rw [List.length_map]; exact h4, ?_⟩
                have es : (T2.gs.map V.int).set j (.int w) = (T2.gs.set j w).map V.int := by rw [List.map_set]
                rw [es]
                obtain ⟨B3, n3⟩ := B2.setG (T' := { T2 with gs := T2.gs.set j w }) e1 rfl rfl rfl
                exact k F2 _ σ ((ok1.nxt n2 B2).nxt n3 B3) (n1.s.trans n2.s)
            · cases e
        · cases e
    · cases e
/-- the law's first row: a new deck; what follows, over it -/
def mDeck (i : Nat) (m : ME) (rest : MS) : MS := fun en T => (m en T).bind fun p => match p.1 with
  | .list [.list cs, .list gs, .int 0, .int 0] => match intsOf cs, intsOf gs with
    | some cs', some gs' => rest (en.set i (some .deck)) ⟨cs', gs', 0, 0⟩
    | _, _ => none
  | _ => none
end
end LQ

set_option Elab.async false
set_option linter.all false
set_option maxRecDepth 100000
set_option maxHeartbeats 4000000
/-! the deck's making, and a law over it -/
namespace LQ
open PySem PySem.Spec PyProof.Rows L2
/-- what a new deck is -/
structure NewDk (F' H H' : Hp) (p c g : Addr) (cs gs : List Int) : Prop where
  hp : H' p = some (.lst [.ref c, .ref g, .int 0, .int 0])
  hc : F' c = some (.lst (cs.map V.int))
  hg : H' g = some (.lst (gs.map V.int))
  fp : F' p = none
  fg : F' g = none
  np : H p = none
  ng : H g = none
  ne : p ≠ g
abbrev MKd := En → Dk → Option (List Int × List Int)
/-- return [x, e, 0, 0] -/
def mKd (i : Nat) (m : MA) : MKd := fun en T => match en[i]? with
  | some (some (.own ds)) => (m en T).bind fun p => (intsOf ds).bind fun cs => (intsOf p.1).map fun gs => (cs, gs)
  | _ => none
def tKd (z : Cz) (K : PySem.W.Frag) (m : MKd) : TS := fun D σ H => ∃ F en T cs gs, Ok z K F H σ en T ∧ m en T = some (cs, gs) ∧ ∀ F' H' T' p c g, Bs z F' H' T' → NewDk F' z.H0 H' p c g cs gs → D.rt (.ref p) H'
section
variable {X : Cx} {z : Cz} {pos : Pos}
theorem s_retK (i : Nat) {x : Str} {e : Expr} {m : MA} {p1 p2 p3 p4 : Pos} {q1 q2 : Nat} (he : PE X e (tF z X.K m)) (hN : X.N[i]? = some x := by rfl) (hv : Vis X.env.scope x := by first | exact Or.inl rfl | exact Or.inr (Or.inl rfl) | exact Or.inr (Or.inr rfl)) (hd : (x == ("__debug__" : Str)) = false := by decide) (hcd : (x == ("__classdict__" : Str)) = false := by decide)
    (s1 : starEach [Expr.Name x p1, e, .Constant (.int 0) q1 p2, .Constant (.int 0) q2 p3] X.env = (false, eval (.Name x p1) X.env) :: starEach [e, .Constant (.int 0) q1 p2, .Constant (.int 0) q2 p3] X.env := by rfl)
    (s2 : starEach [e, .Constant (.int 0) q1 p2, .Constant (.int 0) q2 p3] X.env = (false, eval e X.env) :: starEach [.Constant (.int 0) q1 p2, .Constant (.int 0) q2 p3] X.env := by rfl) :
    PS X (.Return (some (.List [.Name x p1, e, .Constant (.int 0) q1 p2, .Constant (.int 0) q2 p3] p4)) pos) (tKd z X.K (mKd i m)) :=
  ps_to (ps_ret (pe_lst (pa_cons (pe_var (i := i) hN hv hd hcd) (pa_cons he (pa_cons pe_int (pa_cons pe_int pa_nil)) s2) s1))) fun D σ H h => by
    obtain ⟨F, en, T, cs, gs, ok, ek, k⟩ := h
    unfold mKd at ek
    split at ek
    · rename_i ds e'
      obtain ⟨v, hv, c, xs, ex, h1, h2, h3, pc⟩ := ok.sl i _ e'
      subst ex
      cases q1 : m en T with
      | none => rw [q1] at ek; cases ek
      | some r =>
        obtain ⟨es, T1⟩ := r
        rw [q1] at ek
        simp only [Option.bind_some] at ek
        cases q2 : intsOf ds with
        | none => rw [q2] at ek; cases ek
        | some cs' =>
          rw [q2] at ek
          simp only [Option.bind_some] at ek
          cases q3 : intsOf es with
          | none => rw [q3] at ek; cases ek
          | some gs' =>
            rw [q3] at ek
            cases ek
            have exs := intsOf_dp pc q2
            subst exs
            refine ⟨_, hv, F, en, T, es, T1, ok, q1, fun F1 H1 g ys B1 n1 g0 g1 g2 g3 pg => ?_⟩
            have eys := intsOf_dp pg q3
            subst eys
            have ndc : z.isDk c = false := by
              cases hd : z.isDk c with
              | true => exact absurd h3 (B1.dkin c hd)
              | false => rfl
            have hc1 := n1.st c _ h1 ndc
            have fc1 : F1 c = none := by
              cases q : F1 c with
              | none => rfl
              | some o =>
                rcases n1.nw c (by rw [q]; simp) with h | h
                · exact absurd h2 h
                · rw [h1] at h; rcases h with h | ⟨_, h⟩ <;> cases h
            have ncg : c ≠ g := fun e => by subst e; rw [g0] at h1; cases h1
            refine ⟨by show 4 ≤ sizeLine; decide, fun p hp => ?_⟩
            obtain ⟨B2, n2, f2, h02⟩ := B1.put (o := .lst [.ref c, .ref g, .int 0, .int 0]) hp
            have npc : c ≠ p := ne_of_none hc1 hp
            have npg : g ≠ p := ne_of_none g1 hp
            have hc2 : upd H1 p (.lst [.ref c, .ref g, .int 0, .int 0]) c = some (.lst (cs.map V.int)) := by rw [upd_ne npc]; exact hc1
            have B3 := B2.freeze hc2 h3
            have s3 : Same F1 (upd F1 c (.lst (cs.map V.int))) := fun b o h => by rw [upd_ne (ne_of_none h fc1)]; exact h
            refine k _ _ _ p c g B3 ⟨upd_same, upd_same, ?_, ?_, ?_, h02, g3, Ne.symm npg⟩
            · rw [upd_ne npg]; exact g1
            · rw [upd_ne (Ne.symm npc)]; exact f2
            · rw [upd_ne (Ne.symm ncg)]; exact g2
    · cases ek
end
/-- the deck's def -/
def spK (K : PySem.W.Frag) (M : List Sl → Dk → Option (List Int × List Int)) : Sp := fun vs H Q _ => ∃ F ss T cs gs, vs.length = 1 ∧ Bs ⟨F, H, none⟩ F H T ∧ SlAs none K F vs ss ∧ M ss T = some (cs, gs) ∧
  ∀ F' H' T' p c g, Bs ⟨F, H, none⟩ F' H' T' → NewDk F' H H' p c g cs gs → Q (.ref p) H'
def mFunK (n : Nat) (s1 : MS) (m : MKd) : List Sl → Dk → Option (List Int × List Int) := fun ss T => (s1 (ss.map some ++ List.replicate (n - ss.length) none) T).bind fun r => match r with
  | .nx en T' => m en T'
  | _ => none
def CalK (P : Program) (w : World) (K : PySem.W.Frag) (mg : Str → Option Value) (base : Heap) (k : Nat) (x : Str) (ps : List Str) (M : List Sl → Dk → Option (List Int × List Int)) : Prop :=
  ∃ f fd, FnG P w K mg base CX0 k f fd ps (spK K M) ∧ mg x = some (.ref f) ∧ PySem.W.keepIn K (.ref f) = true ∧ Binds K fd ps []
section
variable {P : Program} {w : World} {K : PySem.W.Frag} {mg : Str → Option Value} {base : Heap}
theorem calK {x y : Str} {st a b : Stmt} {N : List Str} {k : Nat} {s1 : MS} {m : MKd} (D : Def K mg x st [y]) (S : FnScope N [y] (defScope st)) (hb : defBody st = [a, b])
    (h1 : ∀ (f : Addr) (cdv : Value) (A : Around) (outer : List Env) (s : Shared) (H : Hp) (E : XK) (z : Cz), Room k (A.deeper (envOfC x (defScope st) s.heap.objs.size f cdv)) → A.guards = some [] →
      PS (cxOf CX0 P w K mg base N x (defScope st) f cdv A outer s H E).nox a (tS z K s1))
    (h2 : ∀ (f : Addr) (cdv : Value) (A : Around) (outer : List Env) (s : Shared) (H : Hp) (E : XK) (z : Cz), Room k (A.deeper (envOfC x (defScope st) s.heap.objs.size f cdv)) → A.guards = some [] →
      PS (cxOf CX0 P w K mg base N x (defScope st) f cdv A outer s H E).nox b (tKd z K m)) : CalK P w K mg base (k + 1) x [y] (mFunK N.length s1 m) := by
  obtain ⟨f, fd, Fn, hm, hbi⟩ := D
  refine ⟨f, fd, fnG Fn S (fun vs H Q E h => ?_) (fun cdv A outer s H vs Q E hr hg h => ?_), hm, Fn.kp, hbi⟩
  · obtain ⟨F, ss, T, cs, gs, hl, _⟩ := h
    exact hl
  · obtain ⟨F, ss, T, cs, gs, hl, B, sl, e, q⟩ := h
    rw [hb]
    refine ⟨_, (pss_cons (h1 f cdv A outer s H E ⟨F, H, none⟩ hr hg) (pss_one (h2 f cdv A outer s H E ⟨F, H, none⟩ hr hg))).nox, ?_⟩
    unfold mFunK at e
    cases e1 : s1 (ss.map some ++ List.replicate (N.length - ss.length) none) T with
    | none => rw [e1] at e; cases e
    | some r =>
      rw [e1] at e
      simp only [Option.bind_some] at e
      split at e
      · rename_i en T'
        exact ⟨F, _, T, _, ok_start (N := N) B sl, e1, fun F1 H1 σ1 ok1 s1' => ⟨F1, en, T', cs, gs, ok1, e, fun F' H' T2 p c g B' nk => q F' H' T2 p c g B' nk⟩⟩
      · cases e
end
/-! a law over its deck -/
section
variable {X : Cx} {pos : Pos}
theorem law_deck (i : Nat) {k : Nat} {x y : Str} {ps : List Str} {e : Expr} {rest : List Stmt} {M : List Sl → Dk → Option (List Int × List Int)} {m : ME} {mr : MS} {p p1 p2 : Pos} (hN : X.N.Nodup) (C : CalK X.prog X.w X.K X.mg X.base k x ps M) (room : Room k X.A) (gu : X.A.guards = some []) (hg : Gl X x)
    (he : ∀ z, PE X e (tD z X.K m)) (hr : ∀ z, PSs X rest (tS z X.K mr)) (hi : X.N[i]? = some y := by rfl) (hx : Loc X.env.scope y := by first | exact Or.inl rfl | exact Or.inr rfl)
    (hdb : (x == ("__debug__" : Str)) = false := by decide) (hs1 : starEach [e] X.env = (false, eval e X.env) :: starEach [] X.env := by rfl) (hpl : (backTo p1 (starEach [] X.env)).any (·.1) = false := by rfl)
    (hs : swapsWith (.Call (.Name x p) [e] [] p1) (some (.Name y p2)) pos.line X.env = pure false := by rfl) (hf : X.fn y = true ∨ X.env.scope.names.lookup y = some .local := by first | exact .inl rfl | exact .inr rfl | assumption) :
    PSs X (.Assign [.Name y p2] (.Call (.Name x p) [e] [] p1) pos :: rest) (fun D σ H => ∃ z F en T d cs gs T', Ok z X.K F H σ en T ∧ z.dk = none ∧ (∀ (j : Nat) (s : Sl), en[j]? = some (some s) → ∃ d, s = .dat d) ∧ m en T = some (d, T) ∧ M [.dat d] T = some (cs, gs) ∧
      mr (en.set i (some .deck)) ⟨cs, gs, 0, 0⟩ = some (.rt (.bool true) T') ∧ ∀ H', D.rt (.bl true) H') := by
  obtain ⟨f, fd, G, hm, hk, hb⟩ := C
  constructor
  intro pins s σ H D inv h
  obtain ⟨z, F, en, T, d, cs, gs, T', ok, hz, hdat, h1, h2, h3, h4⟩ := h
  refine (pss_cons (ps_set (i := i) hN hi hx (pe_callG (E := E0) G room gu hg hm hk hb pass0 (pa_cons (he z) pa_nil hs1) hdb hs1 hpl) hs hf) (u := fun D σ H => ∃ z, tS z X.K mr D σ H) ⟨fun pins s σ H D I q => by obtain ⟨z, q⟩ := q; exact (hr z).run pins s σ H D I q⟩).run pins s σ H D inv ?_
  refine ⟨F, en, T, d, T, ok, h1, fun F1 H1 v B1 n1 p1 => ?_⟩
  have E1 := B1.enter
  rw [hz] at E1
  refine ⟨F1, [.dat d], T, cs, gs, rfl, E1, .cons (s := .dat d) p1 .nil, h2, fun F' H' T2 pp c g B' nk => ?_⟩
  have ok1 := ok.nxt n1 B1
  refine ⟨⟨F', H', some (pp, c, g)⟩, F', en.set i (some .deck), ⟨cs, gs, 0, 0⟩, _, ?_, h3, fun F3 H3 v B3 p3 => ?_⟩
  · refine ⟨⟨B'.fh, Same.refl _, fun _ h => .inl h, fun _ _ h _ => h, fun a ha => ?_, fun a ha => ?_, ⟨nk.hp, nk.hc, nk.hg, nk.ne⟩⟩, ?_, fun j s e => ?_, fun j l ds es a hjl e1 e2 _ _ => ?_, nd_set ok1.nd fun ds h => by cases h⟩
    · simp only [Cz.isDk, dkAt, Bool.or_eq_true, beq_iff_eq] at ha
      rcases ha with rfl | rfl
      · exact nk.fp
      · exact nk.fg
    · simp only [Cz.isDk, dkAt, Bool.or_eq_true, beq_iff_eq] at ha
      rcases ha with rfl | rfl
      · show H' a ≠ none
        rw [nk.hp]; simp
      · show H' a ≠ none
        rw [nk.hg]; simp
    · rw [List.length_set, List.length_set]
      exact ok1.len
    · by_cases hj : i = j
      · subst hj
        by_cases hi : i < en.length
        · rw [List.getElem?_set_self hi] at e
          cases e
          exact ⟨_, List.getElem?_set_self (by rw [ok1.len]; exact hi), pp, c, g, rfl, rfl⟩
        · rw [List.getElem?_eq_none (by rw [List.length_set]; omega)] at e; cases e
      · rw [List.getElem?_set_ne hj] at e
        rw [List.getElem?_set_ne hj]
        obtain ⟨v', hv', q⟩ := ok1.sl j s e
        obtain ⟨d', rfl⟩ := hdat j s e
        obtain ⟨y, hy, q⟩ := q
        exact ⟨v', hv', y, hy, dp_mono B'.ff _ _ q⟩
    · exfalso
      by_cases hj : i = j
      · subst hj
        by_cases hi : i < en.length
        · rw [List.getElem?_set_self hi] at e1; cases e1
        · rw [List.getElem?_eq_none (by rw [List.length_set]; omega)] at e1; cases e1
      · rw [List.getElem?_set_ne hj] at e1
        obtain ⟨d', q⟩ := hdat j _ e1
        cases q
  · cases p3
    exact h4 H3
end
end LQ

set_option Elab.async false
set_option linter.all false
set_option maxRecDepth 100000
set_option maxHeartbeats 4000000
/-! texts joined, lists copied, lists of one's own changed -/
namespace LQ
open PySem PySem.Spec PyProof.Rows L2
def gAddS : G2
  | .str x, .str y => if x.length + y.length ≤ 16777216 then some (.str (x ++ y)) else none
  | _, _ => none
theorem l_addS {K : PySem.W.Frag} : Lift2 K (fun x y H Q => ∃ i j, x = .str i ∧ y = .str j ∧ i.length + j.length ≤ sizeLine ∧ Q (.str (i ++ j)) H) gAddS := by
  intro H x y d e b Q h1 h2 eq k
  have hl := sizeLine_eq
  unfold gAddS at eq
  split at eq
  · split at eq
    · rename_i hq
      cases h1
      cases h2
      cases eq
      exact ⟨_, _, rfl, rfl, by omega, k _ fun _ => .str _⟩
    · cases eq
  · cases eq
def strsOf : List PyData → Option (List Str)
  | [] => some []
  | .str b :: r => (strsOf r).map (b :: ·)
  | _ :: _ => none
theorem strsOf_dp {K : PySem.W.Frag} {H : Hp} : ∀ {ds : List PyData} {xs : List V} {bs : List Str}, RpAll K H xs ds → strsOf ds = some bs → xs = bs.map V.str
  | [], _, _, h, e => by cases h; cases e; rfl
  | d :: r, _, bs, h, e => by
    cases h with
    | cons h1 h2 =>
      cases h1 with
      | str b =>
        unfold strsOf at e
        cases q : strsOf r with
        | none => rw [q] at e; cases e
        | some bs' =>
          rw [q] at e
          cases e
          rw [strsOf_dp h2 q]
          rfl
      | _ => cases e
def gInt : G1
  | [.int i] => some (.int i)
  | [.bool b] => some (.int (if b then 1 else 0))
  | _ => none
theorem l_int {K : PySem.W.Frag} : LiftC K (fun xs H Q => (∃ i, xs = [.int i] ∧ Q (.int i) H) ∨ ∃ k, xs = [.bl k] ∧ Q (.int (if k then 1 else 0)) H) gInt := by
  intro H vs ds b Q h e k
  unfold gInt at e
  split at e
  · cases h with
    | cons h1 h2 =>
      cases h2
      cases h1
      cases e
      exact .inl ⟨_, rfl, k _ fun _ => .int _⟩
  · cases h with
    | cons h1 h2 =>
      cases h2
      cases h1
      cases e
      exact .inr ⟨_, rfl, k _ fun _ => .int _⟩
  · cases e
section
variable {X : Cx} {z : Cz} {a o : Expr} {m m1 : ME} {pos : Pos}
/-- sep.join(e) -/
def mJoin (m1 m : ME) : ME := fun en T => (m1 en T).bind fun p => (m en p.2).bind fun q => match p.1, q.1 with
  | .str s, .list ds => (strsOf ds).bind fun ys => if (ys.map (·.length)).sum + ys.length * s.length ≤ 16777216 then some (.str (Txt.join s ys), q.2) else none
  | _, _ => none
theorem d_join {ap : Pos} (ho : PE X o (tB z X.K m1)) (ha : PE X a (tB z X.K m)) (hs : starEach [a] X.env = [(false, eval a X.env)] := by rfl) (hbase : attributeBase o "join" X.env (eval o X.env) = eval o X.env := by rfl) (hline : (ap.endLine == pos.line) = true := by rfl) :
    PE X (.Call (.Attribute o "join" ap) [a] [] pos) (tD z X.K (mJoin m1 m)) := pe_to (pe_join ho ha hs hbase hline) fun σ H Q h => by
  obtain ⟨F, en, T, d, T', ok, e, k⟩ := h
  unfold mJoin at e
  cases h1 : m1 en T with
  | none => rw [h1] at e; cases e
  | some r =>
    obtain ⟨d1, T1⟩ := r
    rw [h1] at e
    simp only [Option.bind_some] at e
    cases h2 : m en T1 with
    | none => rw [h2] at e; cases e
    | some r =>
      obtain ⟨d2, T2⟩ := r
      rw [h2] at e
      simp only [Option.bind_some] at e
      split at e
      · rename_i x1 x2 s ds
        cases h3 : strsOf ds with
        | none => rw [h3] at e; cases e
        | some ys =>
          rw [h3] at e
          simp only [Option.bind_some] at e
          split at e
          · rename_i hl
            cases e
            refine ⟨F, en, T, _, T1, ok, h1, fun F1 H1 v B1 n1 p1 => ?_⟩
            cases p1
            refine ⟨⟨_, rfl⟩, F1, en, T1, _, _, ok.nxt n1 B1, h2, fun F2 H2 w B2 n2 p2 => ?_⟩
            cases p2 with
            | lst hs ha =>
              have := strsOf_dp ha h3
              subst this
              exact ⟨s, _, ys, rfl, rfl, .inl ((cut_same z H2).seq hs), hl, k F2 H2 _ B2 (n1.trans n2 B2) (.str _)⟩
          · cases e
      · cases e
/-- list(e) -/
def mListOf (m : ME) : MA := fun en T => (m en T).bind fun p => match p.1 with
  | .list ds => some (ds, p.2)
  | .tuple ds => some (ds, p.2)
  | _ => none
theorem f_list {p : Pos} (hg : Gl X "list") (hm : X.mg "list" = none) (ha : PE X a (tE z X.K m)) (he : starEach [a] X.env = (false, eval a X.env) :: starEach [] X.env := by rfl) : PE X (.Call (.Name "list" p) [a] [] pos) (tF z X.K (mListOf m)) :=
  pe_to (pe_callTy call_list_of hg hm (by decide +kernel) (pa_cons ha pa_nil he) (by decide) (by decide) he rfl) fun σ H Q h => by
    obtain ⟨F, en, T, ds, T', ok, e, k⟩ := h
    unfold mListOf at e
    cases h1 : m en T with
    | none => rw [h1] at e; cases e
    | some r =>
      obtain ⟨d1, T1⟩ := r
      rw [h1] at e
      simp only [Option.bind_some] at e
      refine ⟨F, en, T, d1, T1, ok, h1, fun F1 H1 v B1 n1 p1 => ?_⟩
      have fin : ∀ {p : Addr} {xs : List V}, (SqL X.K H1 p xs ∨ SqT X.K H1 p xs) → RpAll X.K F1 xs ds → T1 = T' → v = .ref p → tCB (fun xs H Q => ∃ p ys, xs = [.ref p] ∧ (SqL X.K H p ys ∨ SqT X.K H p ys) ∧ ∀ l, H l = none → Q (.ref l) (upd H l (.lst ys))) (fun _ H Q => Q [v] H) σ H1 Q := by
        rintro p xs hs px rfl rfl
        refine ⟨p, xs, rfl, hs, fun l hl => ?_⟩
        obtain ⟨B2, n2, f2, h2⟩ := B1.put (o := .lst xs) hl
        refine k F1 _ l xs B2 (n1.trans n2 B2) ?_ upd_same f2 h2 px
        cases q : H l with
        | none => rfl
        | some u =>
          have nd : z.isDk l = false := by
            cases hd : z.isDk l with
            | true => exact absurd h2 (B1.dkin l hd)
            | false => rfl
          rw [n1.st l u q nd] at hl
          cases hl
      split at e
      · cases e
        obtain ⟨b, xs, rfl, hs, hx⟩ := p1
        exact fin (.inl ((cut_same z H1).seq hs)) hx rfl rfl
      · cases e
        obtain ⟨b, xs, rfl, hs, hx⟩ := p1
        exact fin (.inr (tk (cut_same z H1 _ _ hs))) hx rfl rfl
      · cases e
/-- x.append(e), x a list of one's own -/
def mApp (i : Nat) (m : ME) : MS := fun en T => match en[i]? with
  | some (some (.own ds)) => (m en T).bind fun p => if ds.length < 16777216 then some (.nx (en.set i (some (.own (ds ++ [p.1])))) p.2) else none
  | _ => none
theorem Ok.change {K : PySem.W.Frag} {F H : Hp} {σ : St} {en : En} {T : Dk} {i : Nat} {ds es : List PyData} {b : Addr} {ys : List V} (ok : Ok z K F H σ en T) (e : en[i]? = some (some (.own ds))) (hs : σ[i]? = some (some (.ref b))) (hy : RpAll K F ys es) :
    Ok z K F (upd H b (.lst ys)) σ (en.set i (some (.own es))) T := by
  obtain ⟨v, hv, b', xs, ev, h1, h2, h3, _⟩ := ok.sl i _ e
  rw [hs] at hv
  cases hv
  cases ev
  have hi : i < en.length := (List.getElem?_eq_some_iff.mp e).1
  refine ⟨ok.b.own h2 h3, by rw [List.length_set]; exact ok.len, fun j s ej => ?_, fun j l ds' es' c hjl e1 e2 g1 g2 => ?_, nd_set ok.nd fun ds h => by cases h⟩
  · by_cases hj : i = j
    · subst hj
      rw [List.getElem?_set_self hi] at ej
      cases ej
      exact ⟨_, hs, b, ys, rfl, upd_same, h2, h3, hy⟩
    · rw [List.getElem?_set_ne hj] at ej
      obtain ⟨v, hv, q⟩ := ok.sl j s ej
      refine ⟨v, hv, ?_⟩
      cases s with
      | dat d => exact q
      | deck => exact q
      | exc a => exact q
      | cst d => exact q
      | ownD ds' =>
        obtain ⟨c, zs, ev, c1, c2, c3, c4⟩ := q
        subst ev
        have nc : c ≠ b := fun ec => by
          subst ec
          rw [h1] at c1
          cases c1
        exact ⟨c, zs, rfl, by rw [upd_ne nc]; exact c1, c2, c3, c4⟩
      | own ds' =>
        obtain ⟨c, zs, ev, c1, c2, c3, c4⟩ := q
        subst ev
        have nc : c ≠ b := fun ec => by
          subst ec
          exact ok.ne i j _ _ c hj e ej hs hv
        exact ⟨c, zs, rfl, by rw [upd_ne nc]; exact c1, c2, c3, c4⟩
  · have was : ∀ (j : Nat) (q : List PyData), (en.set i (some (.own es)))[j]? = some (some (.own q)) → ∃ q', en[j]? = some (some (.own q')) := fun j q ej => by
      by_cases hj : i = j
      · subst hj
        exact ⟨ds, e⟩
      · rw [List.getElem?_set_ne hj] at ej
        exact ⟨q, ej⟩
    obtain ⟨q1, e1⟩ := was j _ e1
    obtain ⟨q2, e2⟩ := was l _ e2
    exact ok.ne j l q1 q2 c hjl e1 e2 g1 g2
/-- x[e1] = e, x a list of one's own -/
def mPut (i : Nat) (m1 m : ME) : MS := fun en T => (m en T).bind fun p => match en[i]? with
  | some (some (.own ds)) => (m1 en p.2).bind fun q => match q.1 with
    | .int k => (ixN ds.length k).map fun j => .nx (en.set i (some (.own (ds.set j p.1)))) q.2
    | _ => none
  | _ => none
theorem s_app (i : Nat) {c : Expr} (hc : PE X c (tBM X.K "list" rAppend (tVar i) (tCons (tD z X.K m) tNil))) (hs : swapsWith c none pos.line X.env = pure false := by rfl) : PS X (.Expr c pos) (tS z X.K (mApp i m)) :=
  ps_to (ps_expr hc hs) fun D σ H h => by
    obtain ⟨F, en, T, r, ok, e, k⟩ := h
    unfold mApp at e
    split at e
    · rename_i ds e1
      obtain ⟨v, hv, b, xs, ev, h1, h2, h3, px⟩ := ok.sl i _ e1
      subst ev
      cases h4 : m en T with
      | none => rw [h4] at e; cases e
      | some r =>
        obtain ⟨d, T1⟩ := r
        rw [h4] at e
        simp only [Option.bind_some] at e
        split at e
        · rename_i hl
          cases e
          refine ⟨.ref b, hv, .inl ⟨rfl, _, .inl (.inl h1)⟩, F, en, T, d, _, ok, h4, fun F1 H1 w B1 n1 p1 => ?_⟩
          have ok1 := ok.nxt n1 B1
          have nd : z.isDk b = false := by
            cases hd : z.isDk b with
            | true => exact absurd h3 (B1.dkin b hd)
            | false => rfl
          refine ⟨b, xs, w, rfl, rfl, n1.st b _ h1 nd, by have := dpAll_len px; have := sizeLine_eq; omega, ?_⟩
          exact k F1 _ σ (ok1.change e1 hv (dpAll_app (dpAll_mono n1.s _ _ px) (.cons p1 .nil))) n1.s
        · cases e
    · cases e
theorem s_put (i : Nat) {x : Str} {b : Expr} {p1 p2 : Pos} (ha : PE X a (tD z X.K m)) (hg : PG X (.Subscript (.Name x p1) b p2) (L2.gSub (tVar i) (tB z X.K m1) rSetL)) (hs : swapsWithSole [Expr.Subscript (.Name x p1) b p2] a pos.line X.env = pure false := by rfl) (hw : swappedStores [Expr.Subscript (.Name x p1) b p2] a X.env = pure none := by rfl)
    (hq : (assignEach [Expr.Subscript (.Name x p1) b p2] X.env).map (·.2) = [assign (.Subscript (.Name x p1) b p2) X.env] := by rfl) : PS X (.Assign [.Subscript (.Name x p1) b p2] a pos) (tS z X.K (mPut i m1 m)) :=
  ps_to (ps_asg ha hg hs hw hq) fun D σ H h => by
    obtain ⟨F, en, T, r, ok, e, k⟩ := h
    unfold mPut at e
    cases h4 : m en T with
    | none => rw [h4] at e; cases e
    | some r =>
      obtain ⟨d, T1⟩ := r
      rw [h4] at e
      simp only [Option.bind_some] at e
      refine ⟨F, en, T, d, T1, ok, h4, fun F1 H1 w B1 n1 p1 => ?_⟩
      split at e
      · rename_i ds e1
        have ok1 := ok.nxt n1 B1
        obtain ⟨v, hv, b, xs, ev, h1, h2, h3, px⟩ := ok1.sl i _ e1
        subst ev
        cases h5 : m1 en T1 with
        | none => rw [h5] at e; cases e
        | some r =>
          obtain ⟨d2, T2⟩ := r
          rw [h5] at e
          simp only [Option.bind_some] at e
          refine ⟨.ref b, hv, F1, en, T1, d2, T2, ok1, h5, fun F2 H2 u B2 n2 p2 => ?_⟩
          split at e
          · rename_i kk
            cases p2
            cases h6 : ixN ds.length kk with
            | none => rw [h6] at e; cases e
            | some j =>
              rw [h6] at e
              cases e
              have ok2 := ok1.nxt n2 B2
              obtain ⟨v', hv', b', xs', ev', g1, g2, g3, pg⟩ := ok2.sl i _ e1
              rw [hv] at hv'
              cases hv'
              cases ev'
              refine ⟨b, xs', kk, j, rfl, rfl, g1, by rw [dpAll_len pg]; exact h6, ?_⟩
              exact k F2 _ σ (ok2.change e1 hv (dpAll_set (dp_mono n2.s _ _ p1) j pg)) (n1.s.trans n2.s)
          · cases e
      · cases e
end
end LQ

set_option Elab.async false
set_option linter.all false
set_option maxRecDepth 100000
set_option maxHeartbeats 4000000
/-! defs that raise; try; what is asked of a caught error -/
namespace LQ
open PySem PySem.Spec PyProof.Rows L2
inductive RX where
  | ok (r : Res)
  | er (x : Str) (en : En) (T : Dk)
abbrev MX := En → Dk → Option RX
def EndX (z : Cz) (K : PySem.W.Frag) (mg : Str → Option Value) (F : Hp) (D : Ends) (W : WX) : RX → Prop
  | .ok r => EndR z K F D r
  | .er x en T => ∀ C, mg x = some (.ref C) → ∀ F' H' σ', Ok z K F' H' σ' en T → Same F F' → W (.ref C) none σ' H'
theorem EndX.mono {z : Cz} {K : PySem.W.Frag} {mg : Str → Option Value} {F F' : Hp} {D : Ends} {W : WX} {r : RX} (s : Same F F') (h : EndX z K mg F D W r) : EndX z K mg F' D W r := by
  cases r with
  | ok r => exact EndR.mono s h
  | er x en T => exact fun C g F2 H2 σ2 ok s2 => h C g F2 H2 σ2 ok (s.trans s2)
def tX (z : Cz) (K : PySem.W.Frag) (mg : Str → Option Value) (W : WX) (m : MX) : TS := fun D σ H => ∃ F en T r, Ok z K F H σ en T ∧ m en T = some r ∧ EndX z K mg F D W r
def liftX (m : MS) : MX := fun en T => (m en T).map .ok
def mSeqX (s1 s2 : MX) : MX := fun en T => (s1 en T).bind fun r => match r with
  | .ok (.nx en' T') => s2 en' T'
  | r => some r
def mIfX (n : MT) (s1 s2 : MX) : MX := fun en T => (n en T).bind fun p => if p.1 = true then s1 en p.2 else s2 en p.2
def mRaise (x : Str) : MX := fun en T => some (.er x en T)
/-- what the written part says of an error's class -/
structure ErrC (K : PySem.W.Frag) (mg : Str → Option Value) (x : Str) (C : Addr) : Prop where
  g : mg x = some (.ref C)
  q : PySem.W.excIn K C [.type "ValueError", .type "Exception", .type "BaseException", .type "object"] "ValueError.__new__" = true
  k : PySem.W.keepIn K (.ref C) = true
  b : PySem.W.subIn K (.ref C) (.type "BaseException") = some true
  t : PySem.W.typeIn K (.ref C) = some (.type "type")
section
variable {X : Cx} {z : Cz} {W : WX} {pos : Pos} {c : Expr} {s1 s2 : MX}
theorem tX_of {m : MS} {D : Ends} {σ : St} {H : Hp} (q : tX z X.K X.mg W (liftX m) D σ H) : tS z X.K m D σ H := by
  obtain ⟨F, en, T, r, ok, e, k⟩ := q
  unfold liftX at e
  cases h1 : m en T with
  | none => rw [h1] at e; cases e
  | some r' =>
    rw [h1] at e
    cases e
    exact ⟨F, en, T, r', ok, h1, k⟩
theorem x_of {st : Stmt} {m : MS} (h : PS X st (tS z X.K m)) : PS X st (tX z X.K X.mg W (liftX m)) := ps_to h fun D σ H q => tX_of q
theorem xs_of {st : List Stmt} {m : MS} (h : PSs X st (tS z X.K m)) : PSs X st (tX z X.K X.mg W (liftX m)) := pss_to h fun D σ H q => tX_of q
theorem xs_one {st : Stmt} (h1 : PS X st (tX z X.K X.mg W s1)) : PSs X [st] (tX z X.K X.mg W s1) := pss_one h1
theorem xs_cons {st : Stmt} {rest : List Stmt} (h1 : PS X st (tX z X.K X.mg W s1)) (h2 : PSs X rest (tX z X.K X.mg W s2)) : PSs X (st :: rest) (tX z X.K X.mg W (mSeqX s1 s2)) := pss_to (pss_cons h1 h2) fun D σ H q => by
  obtain ⟨F, en, T, r, ok, e, k⟩ := q
  unfold mSeqX at e
  cases h1 : s1 en T with
  | none => rw [h1] at e; cases e
  | some q =>
    rw [h1] at e
    simp only [Option.bind_some] at e
    cases q with
    | er x en' T' => cases e; exact ⟨F, en, T, _, ok, h1, k⟩
    | ok q =>
      cases q with
      | nx en' T' => exact ⟨F, en, T, _, ok, h1, fun F' H' σ' ok' s => ⟨F', en', T', r, ok', e, k.mono s⟩⟩
      | rt d T' => cases e; exact ⟨F, en, T, _, ok, h1, k⟩
      | bk en' T' => cases e; exact ⟨F, en, T, _, ok, h1, k⟩
      | ct en' T' => cases e; exact ⟨F, en, T, _, ok, h1, k⟩
theorem x_if {n : MT} {A B : List Stmt} (hc : PT X c (tQ z X.K n)) (ha : PSs X A (tX z X.K X.mg W s1)) (hb : PSs X B (tX z X.K X.mg W s2)) : PS X (.If c A B pos) (tX z X.K X.mg W (mIfX n s1 s2)) := ps_to (ps_if hc ha hb) fun D σ H q => by
  obtain ⟨F, en, T, r, ok, e, k⟩ := q
  unfold mIfX at e
  cases h1 : n en T with
  | none => rw [h1] at e; cases e
  | some p =>
    obtain ⟨t, T1⟩ := p
    rw [h1] at e
    simp only [Option.bind_some] at e
    refine ⟨F, en, T, t, T1, ok, h1, fun F1 H1 B1 k1 => ?_⟩
    cases t with
    | true => exact ⟨F1, en, T1, r, ok.nxt k1 B1, e, k.mono k1.s⟩
    | false => exact ⟨F1, en, T1, r, ok.nxt k1 B1, e, k.mono k1.s⟩
theorem x_raise {C : Addr} {x m : Str} {j : Nat} {p p2 pos2 : Pos} (hc : X.calm = true) (tk : L2N.Takes X W) (e : ErrC X.K X.mg x C) (hg : Gl X x) (hdb : (x == ("__debug__" : Str)) = false := by decide) :
    PS X (.Raise (some (.Call (.Name x p) [.Constant (.str m) j p2] [] pos2)) none pos) (tX z X.K X.mg W (mRaise x)) := ps_to (L2N.ps_raise hc tk (L2N.pmk_own PySem.F.excBase_ValueError e.q e.g e.k (raises_own e.b e.t) hg hdb)) fun D σ H q => by
  obtain ⟨F, en, T, r, ok, e', k⟩ := q
  cases e'
  exact k C e.g F H σ ok (Same.refl _)
end
/-! ### a call that may raise, its promise where no repr is under way -/
section
variable {X : Cx} {CX : CXT} {k : Nat} {f : Addr} {fd : FuncData} {ps : List Str} {sp : Sp} {E : St → XK} {x : Str} {p pos : Pos} {e : Expr} {es : List Expr} {t : TA}
theorem pe_callSG (G : FnG X.prog X.w X.K X.mg X.base CX k f fd ps sp) (room : Room k X.A) (gu : X.A.guards = some []) (hg : Gl X x) (hm : X.mg x = some (.ref f)) (hk : PySem.W.keepIn X.K (.ref f) = true) (hb : Binds X.K fd ps [])
    (hx : ∀ σ, PassesAt CX X σ (E σ)) (ha : PA X (e :: es) t) (hdb : (x == ("__debug__" : Str)) = false := by decide)
    (he : starEach (e :: es) X.env = (false, eval e X.env) :: starEach es X.env := by rfl) (hpl : (backTo pos (starEach es X.env)).any (·.1) = false := by rfl) : PE X (.Call (.Name x p) (e :: es) [] pos) (tCallS sp E t) := by
  constructor
  intro pins s σ H Q inv h
  refine wpAny_Call_Name_kw (ld_glob inv hg hm ?_ hdb)
  refine PySem.W.callWith_K (h₀ := X.base) inv.ok.mod.kin hk (thn (ha.run pos pins s σ H _ inv h) ?_) he hpl
  rintro us s1 ⟨vs, H1, i1, rel, want⟩
  have many : us.length = ps.length := by rw [← rel.length]; exact G.len _ _ _ _ want
  have bnd := hb s1 us i1.kIn (by rw [List.append_nil]; exact many)
  rw [List.append_nil] at bnd
  refine ⟨i1.kIn, wpAny_call (codeAny_mono (G.go X.A X.stack s1 H1 ⟨us, []⟩ us vs Q (E σ) room gu i1.env0 bnd rel want) ?_)⟩
  intro r s2 h2
  match r, h2 with
  | .error v, h2 => exact hx σ pins H1 s1 v s2 i1 h2
  | .ok (.ret u), h2 => exact i1.after h2
  | .ok .next, h2 => exact h2.elim
  | .ok .brk, h2 => exact h2.elim
  | .ok .cont, h2 => exact h2.elim
end
abbrev MFX := List Sl → Dk → Option ((PyData × Dk) ⊕ (Str × Dk))
def OutX (z : Cz) (K : PySem.W.Frag) (mg : Str → Option Value) (Q : VK) (E : XK) : (PyData × Dk) ⊕ (Str × Dk) → Prop
  | .inl p => ∀ F' H' v, Bs z F' H' p.2 → Rp K F' v p.1 → Q v H'
  | .inr p => ∀ C, mg p.1 = some (.ref C) → ∀ F' H', Bs z F' H' p.2 → E (.ref C) none H'
def spX (K : PySem.W.Frag) (mg : Str → Option Value) (n : Nat) (M : MFX) : Sp := fun vs H Q E => ∃ F dk ss T r, vs.length = n ∧ Bs ⟨F, H, dk⟩ F H T ∧ SlAs dk K F vs ss ∧ M ss T = some r ∧ OutX ⟨F, H, dk⟩ K mg Q E r
def CalX (P : Program) (w : World) (K : PySem.W.Frag) (mg : Str → Option Value) (base : Heap) (k : Nat) (x : Str) (ps : List Str) (M : MFX) : Prop :=
  ∃ f fd, FnG P w K mg base (L2N.CX P w) k f fd ps (spX K mg ps.length M) ∧ mg x = some (.ref f) ∧ PySem.W.keepIn K (.ref f) = true ∧ Binds K fd ps []
def mFunX (n : Nat) (mb : MX) : MFX := fun ss T => match mb (ss.map some ++ List.replicate (n - ss.length) none) T with
  | some (.ok (.rt d T')) => some (.inl (d, T'))
  | some (.ok (.nx _ T')) => some (.inl (.none, T'))
  | some (.er x _ T') => some (.inr (x, T'))
  | _ => none
section
variable {P : Program} {w : World} {K : PySem.W.Frag} {mg : Str → Option Value} {base : Heap}
theorem calX {x : Str} {st : Stmt} {N ps : List Str} {k : Nat} {mb : MX} (D : Def K mg x st ps) (S : FnScope N ps (defScope st))
    (hbody : ∀ (f : Addr) (cdv : Value) (A : Around) (outer : List Env) (s : Shared) (H : Hp) (E : XK) (z : Cz), Room k (A.deeper (envOfC x (defScope st) s.heap.objs.size f cdv)) → A.guards = some [] →
      L2N.Takes (cxOf (L2N.CX P w) P w K mg base N x (defScope st) f cdv A outer s H E) (fun cls d _ H => E cls d H) →
      PSs (cxOf (L2N.CX P w) P w K mg base N x (defScope st) f cdv A outer s H E) (defBody st) (tX z K mg (fun cls d _ H => E cls d H) mb)) : CalX P w K mg base (k + 1) x ps (mFunX N.length mb) := by
  obtain ⟨f, fd, Fn, hm, hb⟩ := D
  refine ⟨f, fd, fnG Fn S (fun vs H Q E h => ?_) (fun cdv A outer s H vs Q E hr hg h => ?_), hm, Fn.kp, hb⟩
  · obtain ⟨F, dk, ss, T, d, hl, _⟩ := h
    exact hl
  · obtain ⟨F, dk, ss, T, r, hl, B, a, e, q⟩ := h
    refine ⟨_, hbody f cdv A outer s H E ⟨F, H, dk⟩ hr hg (L2N.takes_of rfl rfl rfl rfl), ?_⟩
    unfold mFunX at e
    have ok := ok_start (N := N) B a
    split at e
    · rename_i d' T1 e'
      cases e
      exact ⟨F, _, T, _, ok, e', fun F' H' v B' p => q F' H' v B' p⟩
    · rename_i en T1 e'
      cases e
      exact ⟨F, _, T, _, ok, e', fun F' H' σ' ok' _ => q F' H' .non ok'.b .non⟩
    · rename_i x en T1 e'
      cases e
      exact ⟨F, _, T, _, ok, e', fun C g F' H' σ' ok' _ => q C g F' H' ok'.b⟩
    · cases e
end
/-! ### x = f(..), where f may raise -/
def mSetX (i : Nat) (M : MFX) (ms : MAs) : MX := fun en T => (ms en T).bind fun p => (M p.1 p.2).map fun r => match r with
  | .inl q => .ok (.nx (en.set i (some (.dat q.1))) q.2)
  | .inr q => .er q.1 en q.2
section
variable {X : Cx} {z : Cz} {W : WX} {a : Expr} {es : List Expr} {ms : MAs} {pos pos2 : Pos}
theorem x_setCall (i : Nat) {k : Nat} {ps : List Str} {x y : Str} {p pos' : Pos} {M : MFX} (hN : X.N.Nodup) (tk : L2N.Takes X W) (Cf : CalX X.prog X.w X.K X.mg X.base k x ps M) (hr : Room k X.A) (gu : X.A.guards = some []) (hg : Gl X x)
    (ha : PA X (a :: es) (tAs z X.K ms)) (hn : ∀ en T ss T', ms en T = some (ss, T') → ss.length = ps.length) (hdb : (x == ("__debug__" : Str)) = false := by decide) (he : starEach (a :: es) X.env = (false, eval a X.env) :: starEach es X.env := by rfl) (hpl : (backTo pos2 (starEach es X.env)).any (·.1) = false := by rfl)
    (hi : X.N[i]? = some y := by rfl) (hx : Loc X.env.scope y := by first | exact Or.inl rfl | exact Or.inr rfl) (hs : swapsWith (.Call (.Name x p) (a :: es) [] pos2) (some (.Name y pos')) pos.line X.env = pure false := by rfl) (hf : X.fn y = true ∨ X.env.scope.names.lookup y = some .local := by first | exact .inl rfl | exact .inr rfl | assumption) :
    PS X (.Assign [.Name y pos'] (.Call (.Name x p) (a :: es) [] pos2) pos) (tX z X.K X.mg W (mSetX i M ms)) := by
  obtain ⟨f, fd, G, hm, hk, hb⟩ := Cf
  refine ps_to (ps_set (i := i) hN hi hx (pe_callSG (E := WE W) G hr gu hg hm hk hb (fun σ => L2N.passAt tk σ) ha hdb he hpl) hs hf) fun D σ H q => ?_
  obtain ⟨F, en, T, r, ok, e, kk⟩ := q
  unfold mSetX at e
  cases h1 : ms en T with
  | none => rw [h1] at e; cases e
  | some p =>
    obtain ⟨ss, T1⟩ := p
    rw [h1] at e
    simp only [Option.bind_some] at e
    cases h2 : M ss T1 with
    | none => rw [h2] at e; cases e
    | some o =>
      rw [h2] at e
      cases e
      refine ⟨F, en, T, ss, T1, ok, h1, fun F1 H1 vs B1 n1 a1 => ?_⟩
      refine ⟨F1, z.dk, ss, T1, o, ?_, B1.enter, a1, h2, ?_⟩
      · rw [a1.len]
        exact hn en T ss T1 h1
      · cases o with
        | inl q =>
          intro F' H' v B' p
          obtain ⟨B2, n2⟩ := B1.leave B'
          have n3 := n1.trans n2 B2
          exact kk F' H' _ ((ok.nxt n3 B2).set p) n3.s
        | inr q =>
          intro C g F' H' B'
          obtain ⟨B2, n2⟩ := B1.leave B'
          have n3 := n1.trans n2 B2
          exact kk C g F' H' σ (ok.nxt n3 B2) n3.s
end
end LQ

set_option Elab.async false
set_option linter.all false
set_option maxRecDepth 100000
set_option maxHeartbeats 4000000
/-! a list of truths that grows; what is asked of the error that is handled -/
namespace LQ
open PySem PySem.Spec PyProof.Rows L2
section
variable {X : Cx} {z : Cz} {b : Expr} {pos : Pos}
/-! ### one's own list + a new one -/
def mCatV (i : Nat) (m2 : MA) : MA := fun en T => match en[i]? with
  | some (some (.own ds)) => (m2 en T).bind fun q => if ds.length + q.1.length ≤ 16777216 then some (ds ++ q.1, q.2) else none
  | _ => none
theorem f_catV (i : Nat) {m2 : MA} {x : Str} {p : Pos} (hb : PE X b (tF z X.K m2)) (hN : X.N[i]? = some x := by rfl) (hv : Vis X.env.scope x := by first | exact Or.inl rfl | exact Or.inr (Or.inl rfl) | exact Or.inr (Or.inr rfl)) (hd : (x == ("__debug__" : Str)) = false := by decide)
    (hcd : (x == ("__classdict__" : Str)) = false := by decide) : PE X (.BinOp (.Name x p) .Add b pos) (tF z X.K (mCatV i m2)) := pe_to (pe_op op_cat (pe_var (i := i) hN hv hd hcd) hb) fun σ H Q q => by
  obtain ⟨F, en, T, d, T', ok, e, k⟩ := q
  unfold mCatV at e
  split at e
  · rename_i ds e1
    obtain ⟨v, hv, a1, x1, ev, j1, l1, o1, p1⟩ := ok.sl i _ e1
    subst ev
    cases h2 : m2 en T with
    | none => rw [h2] at e; cases e
    | some p =>
      obtain ⟨d2, T2⟩ := p
      rw [h2] at e
      simp only [Option.bind_some] at e
      split at e
      · rename_i hl
        cases e
        refine ⟨_, hv, F, en, T, d2, _, ok, h2, fun F2 H2 a2 x2 B2 n2 i2 j2 l2 o2 p2 => ?_⟩
        have nd : ∀ c, z.H0 c = none → z.isDk c = false := fun c hc => by
          cases hd : z.isDk c with
          | true => exact absurd hc (B2.dkin c hd)
          | false => rfl
        have hz := sizeLine_eq
        refine ⟨a1, a2, x1, x2, rfl, rfl, n2.st a1 _ j1 (nd a1 o1), j2, by have := dpAll_len p1; have := dpAll_len p2; omega, fun q hq => ?_⟩
        obtain ⟨B3, n3, f3, h3⟩ := B2.put (o := .lst (x1 ++ x2)) hq
        refine k _ _ _ _ B3 (n2.trans n3 B3) ?_ upd_same f3 h3 (dpAll_app (dpAll_mono n2.s _ _ p1) p2)
        cases e0 : H q with
        | none => rfl
        | some o => rw [n2.st q o e0 (nd q h3)] at hq; cases hq
      · cases e
  · cases e
/-! ### count of truths -/
def eqb (b : Bool) (v : Value) : Bool := match v with
  | .bool c => c == b
  | _ => false
theorem vals_bl : ∀ {bs : List Bool} {us : List Value}, Vals (bs.map V.bl) us → us = bs.map Value.bool
  | [], _, .nil => rfl
  | b :: r, _, .cons h t => by
    have h1 := vals_bl t
    subst h1
    cases h
    rfl
theorem eqb_count (b : Bool) : ∀ bs : List Bool, (bs.map Value.bool).countP (eqb b) = bs.count b
  | [] => rfl
  | c :: r => by
    have ih := eqb_count b r
    rw [List.map_cons, List.countP_cons, List.count_cons, ih] <;> rfl
def rCntB (K : PySem.W.Frag) : V → List V → Hp → VK → Prop := fun x xs H Q => ∃ (p : Addr) (bs : List Bool) (b : Bool), x = .ref p ∧ xs = [.bl b] ∧ SqL K H p (bs.map V.bl) ∧ Q (.int (bs.count b : Nat)) H
theorem mt_bcount : MtR X "list.count" (rCntB X.K) := by
  intro pins s σ H x xs v us Q I rx rxs h
  obtain ⟨p, bs, b, rfl, rfl, hs, q⟩ := h
  cases rx
  obtain ⟨u, rfl, ru⟩ := rxs.one
  cases ru
  obtain ⟨its, rv, ⟨⟨cls, dd, data, sl⟩, n, ho, hc, hdn, hd⟩, hlen⟩ := I.list hs
  simp only at hc hd
  subst hc hd
  have hi := vals_bl rv
  subst hi
  refine call_meets PySem.F.slot_list_count ⟨_, ho, rfl⟩ PySem.F.entry_list_count (PySem.F.args_list_count_2 _ _)
    (SeqAt.list_countAt p (bs.map Value.bool).toArray n dd sl (.bool b) (eqb b)) ⟨ho, fun y hy => ?_, ?_⟩
  · have hy' : y ∈ bs.map Value.bool := by simpa using hy
    obtain ⟨c, _, rfl⟩ := List.mem_map.mp hy'
    exact SeqAt.EqAt.bool_bool c b
  · refine ⟨.int (bs.count b : Nat), H, I.tok _, ⟨s.toks, ?_⟩, q⟩
    show Value.int (((bs.map Value.bool).toArray.toList.countP (eqb b) : Nat) : Int) s.toks = Value.int ((bs.count b : Nat) : Int) s.toks
    rw [List.toList_toArray, eqb_count]
def mCntV (i : Nat) (b : Bool) : ME := fun en T => match en[i]? with
  | some (some (.own ds)) => (boolsOf ds).map fun bs => (.int (bs.count b : Nat), T)
  | _ => none
theorem d_cntV (i : Nat) {x : Str} {b : Bool} {p ap p2 : Pos} {j : Nat} (hN : X.N[i]? = some x := by rfl) (hv : Vis X.env.scope x := by first | exact Or.inl rfl | exact Or.inr (Or.inl rfl) | exact Or.inr (Or.inr rfl)) (hd : (x == ("__debug__" : Str)) = false := by decide)
    (hcd : (x == ("__classdict__" : Str)) = false := by decide) (hl : (ap.endLine == pos.line) = true := by rfl) : PE X (.Call (.Attribute (.Name x p) "count" ap) [.Constant (.bool b) j p2] [] pos) (tD z X.K (mCntV i b)) :=
  pe_to (pe_bm PySem.F.plainAttrs_list PySem.F.slot_list_count PySem.F.type_list_count mt_bcount (pv i hN hv hd hcd) (pa_cons pe_bl pa_nil) (hline := hl)) fun σ H Q q => by
    obtain ⟨F, en, T, d, T', ok, e, k⟩ := q
    unfold mCntV at e
    split at e
    · rename_i ds e1
      cases h1 : boolsOf ds with
      | none => rw [h1] at e; cases e
      | some bs =>
        rw [h1] at e
        cases e
        obtain ⟨v, hv, a, xs, ev, ha, _, _, pa⟩ := ok.sl i _ e1
        subst ev
        have := boolsOf_dp pa h1
        subst this
        exact ⟨_, hv, .inl ⟨rfl, _, .inl (.inl ha)⟩, a, bs, b, rfl, rfl, .inl (.inl ha), k F H _ ok.b Nxt.refl (.int _)⟩
    · cases e
/-! ### isinstance of the error that is handled -/
theorem call_isX {a D : Addr} {oe : Obj} (C : ExcC X.K D) (hz : Zc (.ref D) none oe) (hf : ∃ vs, oe.data = .fields vs) (hp : (a, oe) ∈ X.pn) : CallR X (.builtin "isinstance") (rIsE X.K D a) := by
  intro pins s σ H xs us Q I r h
  obtain ⟨c, cv, b, rfl, hcv, e, q⟩ := h
  obtain ⟨u, w, rfl, rx, rt⟩ := r.two
  cases rx
  have ec := hcv _ rt
  subst ec
  have hget := (I.pin (a, oe) (List.mem_append_left _ hp)).1
  obtain ⟨vs, hv⟩ := hf
  have J : PySem.W.InstAt s.heap a oe D none := by
    obtain ⟨oc, od, oda, osl⟩ := oe
    obtain ⟨h1, h2⟩ := hz
    dsimp only at h1 h2 hv
    subst h1 h2 hv
    exact ⟨hget, rfl, rfl, trivial⟩
  exact PySem.W.kia_one (PySem.W.handS_kitx_exc C.hg C.hk C.hs C.hd C.ha C.hn C.ht C.hm) I.kIn J e (fun z => nomatch z) fun tk => ⟨.bl b, H, I.kept (t' := tk) fun _ _ z => z, rfl, q⟩
def mIsE (i : Nat) (a : Addr) (b : Bool) : ME := fun en T => match en[i]? with
  | some (some (.exc a')) => if a' = a then some (.bool b, T) else none
  | _ => none
theorem d_isE (i : Nat) {a D : Addr} {oe : Obj} {x : Str} {c : Expr} {t : Bool} {v : V} {cv : Value} {p p2 : Pos} (hg : Gl X "isinstance") (hm : X.mg "isinstance" = none) (C : ExcC X.K D) (hz : Zc (.ref D) none oe) (hf : ∃ vs, oe.data = .fields vs) (hp : (a, oe) ∈ X.pn) (hc : PE X c (tC v)) (r : ∀ u, RelV v u → u = cv)
    (kit : PySem.W.kitOne X.K (.ref D) cv = some t) (hN : X.N[i]? = some x := by rfl) (hv : Vis X.env.scope x := by first | exact Or.inl rfl | exact Or.inr (Or.inl rfl) | exact Or.inr (Or.inr rfl)) (hd : (x == ("__debug__" : Str)) = false := by decide)
    (hcd : (x == ("__classdict__" : Str)) = false := by decide) (he : starEach (.Name x p2 :: [c]) X.env = (false, eval (.Name x p2) X.env) :: starEach [c] X.env := by rfl) (he2 : starEach (c :: []) X.env = (false, eval c X.env) :: starEach [] X.env := by rfl) (hpl : (backTo pos (starEach [c] X.env)).any (·.1) = false := by rfl) :
    PE X (.Call (.Name "isinstance" p) [.Name x p2, c] [] pos) (tD z X.K (mIsE i a t)) :=
  pe_to (pe_callB (call_isX C hz hf hp) hg hm (by decide +kernel) (pa_cons (pe_var (i := i) hN hv hd hcd) (pa_cons hc pa_nil he2) he) (by decide) (by decide) he hpl) fun σ H Q q => by
    obtain ⟨F, en, T, d, T', ok, e, k⟩ := q
    unfold mIsE at e
    split at e
    · rename_i a' e1
      split at e
      · rename_i h
        cases e
        subst h
        obtain ⟨w, hw, ew⟩ := ok.sl i _ e1
        cases ew
        exact ⟨_, hw, v, cv, t, rfl, r, kit, k F H _ ok.b Nxt.refl (.bl _)⟩
      · cases e
    · cases e
end
end LQ

set_option Elab.async false
set_option linter.all false
set_option maxRecDepth 100000
set_option maxHeartbeats 4000000
/-! a def that asks the handled error; try .. except X as e -/
namespace LQ
open PySem PySem.Spec PyProof.Rows L2
/-- a slot that holds no list of one's own is set -/
theorem Ok.setAny {z : Cz} {K : PySem.W.Frag} {F H : Hp} {σ : St} {en : En} {T : Dk} {i : Nat} {v : Option V} {s : Option Sl} (k : Ok z K F H σ en T) (hs : ∀ s', s = some s' → SlOk z K F H v s') (hn : ∀ ds, s ≠ some (.own ds)) (hd : ∀ ds, s ≠ some (.ownD ds) := by intro ds h; cases h) : Ok z K F H (σ.set i v) (en.set i s) T := by
  have at_ : ∀ (j : Nat) (s' : Sl), (en.set i s)[j]? = some (some s') → (i = j ∧ i < en.length ∧ s = some s') ∨ (i ≠ j ∧ en[j]? = some (some s')) := fun j s' e => by
    by_cases hj : i = j
    · subst hj
      by_cases hi : i < en.length
      · rw [List.getElem?_set_self hi] at e
        exact .inl ⟨rfl, hi, Option.some.inj e⟩
      · rw [List.getElem?_eq_none (by rw [List.length_set]; omega)] at e
        cases e
    · rw [List.getElem?_set_ne hj] at e
      exact .inr ⟨hj, e⟩
  refine ⟨k.b, by rw [List.length_set, List.length_set]; exact k.len, fun j s' e => ?_, fun j l ds es a hjl e1 e2 h1 h2 => ?_, nd_set k.nd hd⟩
  · rcases at_ j s' e with ⟨rfl, hi, e'⟩ | ⟨hj, e'⟩
    · exact ⟨v, List.getElem?_set_self (by rw [k.len]; exact hi), hs s' e'⟩
    · rw [List.getElem?_set_ne hj]
      exact k.sl j s' e'
  · rcases at_ j _ e1 with ⟨_, _, e'⟩ | ⟨hj, e1'⟩
    · exact hn _ e'
    · rcases at_ l _ e2 with ⟨_, _, e'⟩ | ⟨hl, e2'⟩
      · exact hn _ e'
      · rw [List.getElem?_set_ne hj] at h1
        rw [List.getElem?_set_ne hl] at h2
        exact k.ne j l ds es a hjl e1' e2' h1 h2
/-! ### what a def promises that is handed the error -/
structure FnE (P : Program) (w : World) (K : PySem.W.Frag) (mg : Str → Option Value) (base : Heap) (k : Nat) (f : Addr) (fd : FuncData) (ps : List Str) (D : Addr) (M : Addr → MF) : Prop where
  go : ∀ (A : Around) (out : List Env) (s : Shared) (H : Hp) (args : Args) (us : List Value) (vs : List V) (Q : VK) (E : XK) (p : Addr × Obj),
    L2H.RoomH k A → A.guards = some [] → L2H.Hot1 A p → L2H.PinOk out H s p → Zc (.ref D) none p.2 → Env0 P w K mg base A out s H → BindsTo s fd args (ps.zip us) →
    Vals vs us → spD K ps.length (M p.1) vs H Q E → codeAny (model P w) A (.call (.ref f) args) (CR CX0 out P w H s Q E) s
section
variable {P : Program} {w : World} {K : PySem.W.Frag} {mg : Str → Option Value} {base : Heap}
theorem fnE {x qual : Str} {st : Stmt} {f D : Addr} {fd : FuncData} {N ps : List Str} {k : Nat} {mb : Addr → MS} (Fn : Fun K x qual st f fd) (S : FnScope N ps (defScope st))
    (hbody : ∀ (cdv : Value) (A : Around) (out : List Env) (s : Shared) (H : Hp) (E : XK) (z : Cz) (p : Addr × Obj), L2H.Hot1 A p → Zc (.ref D) none p.2 → L2H.RoomH k (A.deeper (envOfC qual (defScope st) s.heap.objs.size f cdv)) → A.guards = some [] →
      PSs (L2H.cxH CX0 P w K mg base N qual (defScope st) f cdv A out s H E p) (defBody st) (tS z K (mb p.1))) : FnE P w K mg base (k + 1) f fd ps D (fun a => mFun N.length (mb a)) := by
  obtain ⟨oc, od, kV, doc, pm, an, cdv, ct, osl, rfl, lk, hcd⟩ := Fn.ex
  constructor
  intro A out s H args us vs Q E p room gu hot pin cls env bnd rel want
  obtain ⟨F, dk, ss, T, d, T', many, B, a, e, q⟩ := want
  have kin := env.mod.kin.keeps fun b o e => (env.bs b o e).1
  have lim := env.mod.nolimit.keeps fun b o e => (env.bs b o e).1
  have der := hbody cdv A out s H E ⟨F, H, dk⟩ p hot cls (room.deeper _) gu
  have ok := ok_start (N := N) B a
  refine codeAny_call_function room.depth (kin _ _ lk) rfl S.co S.gen rfl
    (PySem.W.codeRec_of kin hcd) (bnd _ _ _ _ ?_)
  refine wpAny_newFunctionEnv_cells S.kind (fun y hy => ?kinds) fun env' hE s1 inn => ?_
  case kinds =>
    rcases S.par y.1 (List.of_mem_zip (a := y.1) (b := y.2) hy).1 with q | q
    · left; exact q
    · right; exact ⟨q, PySem.W.cellsFrom_some _ _ _ (.inl q)⟩
  subst hE
  refine ⟨lim.keeps inn.toInCall.keep, codeAny_func ?_⟩
  have inv := L2H.inv_startH (CX := CX0) (E := E) S pin env many rel inn
  have rd : tS ⟨F, H, dk⟩ K (mb p.1) { nx := fun _ H' => Q .non H', rt := Q } (start N vs) H := by
    unfold mFun at e
    split at e
    · rename_i d' T1 e'
      cases e
      exact ⟨F, _, T, _, ok, e', fun F' H' v B' p => q F' H' v B' p⟩
    · rename_i en T1 e'
      cases e
      exact ⟨F, _, T, _, ok, e', fun F' H' σ' ok' _ => q F' H' .non ok'.b .non⟩
    · cases e
  refine wpAny_mono (der.run [] s1 _ H _ inv rd) ?_ fun _ _ h => h
  intro fl s2 h2
  match fl, h2 with
  | .ret u, ⟨v, _, H2, i2, r2, q2⟩ => exact ⟨v, H2, i2.os, i2.bare, i2.base, i2.hok, r2, q2⟩
  | .next, ⟨_, H2, i2, q2⟩ => exact ⟨V.non, H2, i2.os, i2.bare, i2.base, i2.hok, rfl, q2⟩
  | .brk, ⟨_, _, _, q2⟩ => exact q2.elim
  | .cont, ⟨_, _, _, q2⟩ => exact q2.elim
end
def CalE (P : Program) (w : World) (K : PySem.W.Frag) (mg : Str → Option Value) (base : Heap) (k : Nat) (x : Str) (ps : List Str) (D : Addr) (M : Addr → MF) : Prop :=
  ∃ f fd, FnE P w K mg base k f fd ps D M ∧ mg x = some (.ref f) ∧ PySem.W.keepIn K (.ref f) = true ∧ Binds K fd ps []
/-! ### the call f(e) -/
def mAe (i : Nat) (ms : MAs) : MAs := fun en T => match en[i]? with
  | some (some (.exc a)) => (ms en T).map fun q => (.exc a :: q.1, q.2)
  | _ => none
section
variable {X : Cx} {z : Cz} {a : Expr} {es : List Expr} {ms : MAs} {pos : Pos}
theorem n_e (i : Nat) {x : Str} {pos : Pos} (hr : PA X es (tAs z X.K ms)) (hN : X.N[i]? = some x := by rfl) (hv : Vis X.env.scope x := by first | exact Or.inl rfl | exact Or.inr (Or.inl rfl) | exact Or.inr (Or.inr rfl)) (hd : (x == ("__debug__" : Str)) = false := by decide)
    (hcd : (x == ("__classdict__" : Str)) = false := by decide) (hs : starEach (.Name x pos :: es) X.env = (false, eval (.Name x pos) X.env) :: starEach es X.env := by rfl) : PA X (.Name x pos :: es) (tAs z X.K (mAe i ms)) := pa_to (pa_cons (pe_var (i := i) hN hv hd hcd) hr hs) fun σ H Q q => by
  obtain ⟨F, en, T, ds, T', ok, e, k⟩ := q
  unfold mAe at e
  split at e
  · rename_i a e'
    obtain ⟨v, hv, e2⟩ := ok.sl i _ e'
    cases e2
    cases h2 : ms en T with
    | none => rw [h2] at e; cases e
    | some q =>
      obtain ⟨r, T2⟩ := q
      rw [h2] at e
      cases e
      exact ⟨_, hv, ⟨F, en, T, r, _, ok, h2, fun F2 H2 vs B2 n2 p2 => k F2 H2 _ B2 n2 (.cons (s := .exc a) rfl p2)⟩⟩
  · cases e
theorem d_calE {k : Nat} {ps : List Str} {x : Str} {p : Pos} {D : Addr} {M : Addr → MF} {q : Addr × Obj} (C : CalE X.prog X.w X.K X.mg X.base k x ps D M) (hr : L2H.RoomH k X.A) (gu : X.A.guards = some []) (hot : L2H.Hot1 X.A q) (hq : q ∈ X.pn) (cls : Zc (.ref D) none q.2) (hg : Gl X x)
    (ha : PA X (a :: es) (tAs z X.K ms)) (hn : ∀ en T ss T', ms en T = some (ss, T') → ss.length = ps.length) (hdb : (x == ("__debug__" : Str)) = false := by decide) (he : starEach (a :: es) X.env = (false, eval a X.env) :: starEach es X.env := by rfl) (hpl : (backTo pos (starEach es X.env)).any (·.1) = false := by rfl) :
    PE X (.Call (.Name x p) (a :: es) [] pos) (tD z X.K (mCf (M q.1) ms)) := by
  obtain ⟨f, fd, G, hm, hk, hb⟩ := C
  constructor
  intro pins s σ H Q inv h
  refine wpAny_Call_Name_kw (ld_glob inv hg hm ?_ hdb)
  obtain ⟨F, en, T, d, T', ok, e, kk⟩ := h
  unfold mCf at e
  cases h1 : ms en T with
  | none => rw [h1] at e; cases e
  | some r =>
    obtain ⟨ss, T1⟩ := r
    rw [h1] at e
    simp only [Option.bind_some] at e
    refine PySem.W.callWith_K (h₀ := X.base) inv.ok.mod.kin hk (thn (ha.run pos pins s σ H (fun vs H1 => spD X.K ps.length (M q.1) vs H1 Q E0) inv ⟨F, en, T, ss, T1, ok, h1, fun F1 H1 vs B1 n1 a1 => ?_⟩) ?_) he hpl
    · refine ⟨F1, z.dk, ss, T1, d, T', ?_, B1.enter, a1, e, fun F' H' v B' p => ?_⟩
      · rw [a1.len]
        exact hn en T ss T1 h1
      · obtain ⟨B2, n2⟩ := B1.leave B'
        exact kk F' H' v B2 (n1.trans n2 B2) p
    · rintro us s1 ⟨vs, H1, i1, rel, want⟩
      have many : us.length = ps.length := by
        rw [← rel.length]
        obtain ⟨_, _, _, _, _, _, l, _⟩ := want
        exact l
      have bnd := hb s1 us i1.kIn (by rw [List.append_nil]; exact many)
      rw [List.append_nil] at bnd
      obtain ⟨p1, p2, p3, p4, p5⟩ := i1.pin q (List.mem_append_left _ hq)
      have pin : L2H.PinOk X.stack H1 s1 q := ⟨p1, p2, fun hm => by
        rcases List.mem_cons.mp (i1.stkSub q.1 hm) with h | h
        · exact p3 h
        · exact p4 h, p5⟩
      refine ⟨i1.kIn, wpAny_call (codeAny_mono (G.go X.A X.stack s1 H1 ⟨us, []⟩ us vs Q E0 q hr gu hot pin cls i1.env0 bnd rel want) ?_)⟩
      intro r s2 h2
      match r, h2 with
      | .error v, h2 => exact h2.elim
      | .ok (.ret u), h2 => exact i1.after h2
      | .ok .next, h2 => exact h2.elim
      | .ok .brk, h2 => exact h2.elim
      | .ok .cont, h2 => exact h2.elim
end
theorem n_lenE {i n : Nat} {ms : MAs} (h : ∀ en T ss T', ms en T = some (ss, T') → ss.length = n) : ∀ en T ss T', mAe i ms en T = some (ss, T') → ss.length = n + 1 := fun en T ss T' e => by
  unfold mAe at e
  split at e
  · cases h2 : ms en T with
    | none => rw [h2] at e; cases e
    | some q =>
      rw [h2] at e
      cases e
      rw [List.length_cons, h en T _ _ h2]
  · cases e
/-! ### try: .. except x as n: .. -/
def clr (i : Nat) : Res → Res
  | .nx en T => .nx (en.set i none) T
  | .rt d T => .rt d T
  | .bk en T => .bk (en.set i none) T
  | .ct en T => .ct (en.set i none) T
def mTry (ex : Str) (mb : MX) (mh : MS) : MS := fun en T => (mb en T).bind fun r => match r with
  | .ok r => some r
  | .er x en' T' => if x = ex then mh en' T' else none
theorem pss_pre {X : Cx} {body : List Stmt} {p : Prop} {t : TS} (h : p → PSs X body t) : PSs X body (fun D σ H => p ∧ t D σ H) := ⟨fun pins s σ H D I q => (h q.1).run pins s σ H D I q.2⟩
section
variable {X : Cx} {z : Cz} {body suite : List Stmt} {b₀ : Stmt} {pos pos' np : Pos} {mb : MX} {mh : MS}
theorem s_try (i : Nat) {x n ex : Str} {C D : Addr} {msu : Addr → MS} (hs : X.stack = X.env :: X.outer) (hf : X.env.frame = some X.env.locals) (hN : X.N.Nodup) (hi : X.N[i]? = some n) (hln : X.env.kindOf n = some .local) (hc : Names X x (.ref C)) (gD : X.mg ex = some (.ref D)) (hex : PySem.W.exmOne X.K (.ref D) (.ref C) = some true)
    (hb : ∀ (W : WX) (pn : List (Addr × Obj)) (xe : Value → Shared → Prop), L2N.Takes (X.tr pn xe) W → PassesOwn (model X.prog X.w) X.A X.env xe → PSs (X.tr pn xe) body (tX z X.K X.mg W mb))
    (hsu : ∀ (a : Addr) (oe : Obj) (pn : List (Addr × Obj)), L2H.Hot1 (X.A.mark (some (.ref a))) (a, oe) → Zc (.ref D) none oe → PSs (X.suite a ((a, oe) :: pn)) (b₀ :: suite) (tS z X.K (msu a)))
    (hm : ∀ en T r, mh en T = some r → ∀ a, ∃ r', msu a (en.set i (some (.exc a))) T = some r' ∧ clr i r' = r) :
    PS X (.Try body [.ExceptHandler (some (.Name x np)) (some n) (b₀ :: suite) pos'] [] [] pos) (tS z X.K (mTry ex mb mh)) := by
  refine ps_to (L2N.ps_try_as (Wout := fun _ _ _ _ => False) (ts := fun a cls d D' σ H => (cls = .ref D ∧ d = none) ∧ tS z X.K (msu a) D' σ H) (tb := fun W => tX z X.K X.mg W mb) hs hf hN hi hln hc ?_ hb ?_) fun D' σ H q => ?_
  · rintro u s' ⟨a, B, sI, pins, σ, H, cls, d, e, I, nb, up, sky, na, os, ag, w⟩
    exact w.elim
  · intro a oe cls d pn hz hfd
    refine pss_pre fun hp => ?_
    obtain ⟨rfl, rfl⟩ := hp
    obtain ⟨vs, hv⟩ := hfd
    exact hsu a oe pn ⟨rfl, vs, hv, hz.2.2 vs hv⟩ hz.zc
  · obtain ⟨F, en, T, r, ok, e, k⟩ := q
    unfold mTry at e
    cases h1 : mb en T with
    | none => rw [h1] at e; cases e
    | some o =>
      rw [h1] at e
      simp only [Option.bind_some] at e
      refine ⟨F, en, T, o, ok, h1, ?_⟩
      cases o with
      | ok r' =>
        cases e
        exact k
      | er y en' T' =>
        simp only at e
        split at e
        · rename_i hy
          subst hy
          intro Cx g F' H' σ' ok' s'
          rw [gD] at g
          cases g
          refine ⟨true, hex, fun _ a ha => ⟨⟨rfl, rfl⟩, ?_⟩, fun h => by cases h⟩
          obtain ⟨r', e1, e2⟩ := hm en' T' r e a
          subst e2
          refine ⟨F', _, T', r', ok'.setAny (v := some (.ref a)) (s := some (.exc a)) (fun s' e => by cases e; rfl) (fun ds h => by cases h), e1, ?_⟩
          have k' := k.mono s'
          cases r' with
          | nx en2 T2 => exact fun F2 H2 σ2 o2 s2 => k' F2 H2 _ (o2.setAny (v := none) (s := none) (fun s' e => by cases e) (fun ds h => by cases h)) s2
          | rt d T2 => exact k'
          | bk en2 T2 => exact fun F2 H2 σ2 o2 s2 => k' F2 H2 _ (o2.setAny (v := none) (s := none) (fun s' e => by cases e) (fun ds h => by cases h)) s2
          | ct en2 T2 => exact fun F2 H2 σ2 o2 s2 => k' F2 H2 _ (o2.setAny (v := none) (s := none) (fun s' e => by cases e) (fun ds h => by cases h)) s2
        · cases e
end
/-! ### small things for the printed texts -/
theorem _root_.L2H.RoomH.units {k : Nat} {A : Around} (r : L2H.RoomH k A) : A.units + 64 < cLine := by have := r.un; omega
theorem roomS {k : Nat} {A : Around} {v : Option Value} (r : Room k A) : L2H.RoomH k (A.mark v) := ⟨r.dp, r.un⟩
theorem hotF {A : Around} {p : Addr × Obj} (h : L2H.Hot1 A p) : ∃ vs, p.2.data = .fields vs := by
  obtain ⟨_, vs, hv, _⟩ := h
  exact ⟨vs, hv⟩
def mHandS (i j : Nat) (v : PyData) : MS := fun en T => if i < en.length then some (.nx ((en.set j (some (.dat v))).set i none) T) else none
theorem hand_set {i j : Nat} {v : PyData} {me : Addr → ME} (hij : i ≠ j) (he : ∀ a en T, en[i]? = some (some (.exc a)) → me a en T = some (v, T)) : ∀ en T r, mHandS i j v en T = some r → ∀ a, ∃ r', mSet j (me a) (en.set i (some (.exc a))) T = some r' ∧ clr i r' = r := fun en T r e a => by
  unfold mHandS at e
  split at e
  · rename_i hi
    cases e
    refine ⟨_, ev_set (he a _ T (List.getElem?_set_self hi)), ?_⟩
    show Res.nx (((en.set i (some (.exc a))).set j (some (.dat v))).set i none) T = _
    rw [List.set_comm _ _ hij, List.set_set]
  · cases e
end LQ

set_option Elab.async false
set_option linter.all false
set_option maxRecDepth 100000
set_option maxHeartbeats 4000000
/-! a law over its deck, as the top hands it on -/
namespace LQ
open PySem PySem.Spec PyProof.Rows L2
def tLaw (i : Nat) (K : PySem.W.Frag) (m : ME) (M : List Sl → Dk → Option (List Int × List Int)) (mr : MS) : TS := fun D σ H => ∃ z F en T d cs gs T', Ok z K F H σ en T ∧ z.dk = none ∧ (∀ (j : Nat) (s : Sl), en[j]? = some (some s) → ∃ d, s = .dat d) ∧ m en T = some (d, T) ∧ M [.dat d] T = some (cs, gs) ∧
      mr (en.set i (some .deck)) ⟨cs, gs, 0, 0⟩ = some (.rt (.bool true) T') ∧ ∀ H', D.rt (.bl true) H'
section
variable {P : Program} {w : World} {K : PySem.W.Frag} {mg : Str → Option Value} {base : Heap}
theorem law_mkD {x qual y : Str} {st : Stmt} {f : Addr} {fd : FuncData} {N : List Str} {k i : Nat} {M : List Sl → Dk → Option (List Int × List Int)} {mr : MS} (Fn : Fun K x qual st f fd) (S : FnScope N [y] (defScope st))
    (hbody : ∀ (cdv : Value) (A : Around) (outer : List Env) (s : Shared) (H : Hp) (E : XK), Room k (A.deeper (envOfC qual (defScope st) s.heap.objs.size f cdv)) → A.guards = some [] →
      PSs (cxOf CX0 P w K mg base N qual (defScope st) f cdv A outer s H E).nox (defBody st) (tLaw i K (mVar 0) M mr))
    (hM : ∀ ns : List Int, ns.length ≤ 63 → ∃ cs gs T', M [.dat (.list (ns.map PyData.int))] ⟨[], [], 0, 0⟩ = some (cs, gs) ∧ mr ((some (.dat (.list (ns.map PyData.int))) :: List.replicate (N.length - 1) none).set i (some .deck)) ⟨cs, gs, 0, 0⟩ = some (.rt (.bool true) T')) :
    FnG P w K mg base CX0 (k + 1) f fd [y] (spLaw K) := by
  refine fnG Fn S (fun vs H Q E h => ?_) (fun cdv A outer s H vs Q E hr hg h => ?_)
  · obtain ⟨a, ns, rfl, _⟩ := h
    rfl
  · obtain ⟨a, ns, rfl, hO, hS, hl, q⟩ := h
    obtain ⟨cs, gs, T', e1, e2⟩ := hM ns hl
    have B : Bs ⟨H, H, none⟩ H H ⟨[], [], 0, 0⟩ := ⟨Same.refl _, Same.refl _, fun _ h => .inl h, fun _ _ h _ => h, (fun _ h => by cases h), (fun _ h => by cases h), trivial⟩
    have sl : SlAs none K H [V.ref a] [.dat (.list (ns.map PyData.int))] := .cons (s := .dat _) (.lst hS (dpAll_ints ns)) .nil
    refine ⟨_, (hbody cdv A outer s H E hr hg).nox, ⟨H, H, none⟩, H, _, ⟨[], [], 0, 0⟩, .list (ns.map PyData.int), cs, gs, T', ok_start (N := N) B sl, rfl, fun j s e => ?_, rfl, e1, e2, q⟩
    cases j with
    | zero => exact ⟨_, (Option.some.inj (Option.some.inj e)).symm⟩
    | succ j =>
      exfalso
      have e' : (List.replicate (N.length - 1) (none : Option Sl))[j]? = some (some s) := e
      rw [List.getElem?_replicate] at e'
      split at e' <;> cases e'
end
end LQ
namespace LQ
open PySem PySem.Spec PyProof.Rows L2
theorem kitR {K : PySem.W.Frag} {t : Value} {C : Addr} {b : Bool} (ci : (PySem.W.clsIn K C).isSome = true) (ty : PySem.W.typeIn K (.ref C) = some (.type "type")) (self : PySem.W.subIn K (.ref C) (.ref C) = some true) (s : PySem.W.subIn K t (.ref C) = some b) : PySem.W.kitOne K t (.ref C) = some b := by
  unfold PySem.W.kitOne
  split
  · rename_i h
    have e : t = .ref C := eq_of_beq h
    subst e
    rw [self] at s
    exact s
  · show (if ((PySem.W.clsIn K C).isSome && PySem.W.typeIn K (.ref C) == some (.type "type")) = true then PySem.W.subIn K t (.ref C) else none) = some b
    rw [ci, ty, if_pos (by decide)]
    exact s
theorem kitV {K : PySem.W.Frag} {D : Addr} {b : Bool} (s : PySem.W.subIn K (.ref D) (.type "ValueError") = some b) : PySem.W.kitOne K (.ref D) (.type "ValueError") = some b := by
  unfold PySem.W.kitOne
  have hne : (Value.ref D == Value.type "ValueError") = false := beq_eq_false_iff_ne.mpr fun h => by cases h
  rw [hne, if_neg Bool.false_ne_true]
  show (if PySem.W.kitMeta "ValueError" = true then _ else none) = _
  rw [if_pos (by decide +kernel)]
  exact s
end LQ

set_option Elab.async false
set_option linter.all false
set_option maxRecDepth 100000
set_option maxHeartbeats 4000000
/-! mirrors by what they end in -/
namespace LQ
open PySem PySem.Spec PyProof.Rows L2
/-- it gives something, and of that Q -/
def W {β : Type} (x : Option β) (Q : β → Prop) : Prop := ∃ r, x = some r ∧ Q r
section
variable {β γ : Type} {Q : β → Prop}
theorem W_some {r : β} : W (some r) Q ↔ Q r := Iff.intro (fun ⟨_, e, q⟩ => by cases e; exact q) (fun q => ⟨_, rfl, q⟩)
theorem W_none : W (none : Option β) Q ↔ False := Iff.intro (fun ⟨_, e, _⟩ => by cases e) False.elim
theorem W_bind {x : Option γ} {f : γ → Option β} : W (x.bind f) Q ↔ W x fun r => W (f r) Q := by
  cases x with
  | none => rw [Option.bind_none, W_none, W_none]
  | some r => rw [Option.bind_some, W_some]
theorem W_map {x : Option γ} {f : γ → β} : W (x.map f) Q ↔ W x fun r => Q (f r) := by
  cases x with
  | none => rw [Option.map_none, W_none, W_none]
  | some r => rw [Option.map_some, W_some, W_some]
theorem W.imp {x : Option β} {Q' : β → Prop} (h : W x Q) (k : ∀ r, Q r → Q' r) : W x Q' := by
  obtain ⟨r, e, q⟩ := h
  exact ⟨r, e, k r q⟩
theorem W.of {x : Option β} {r : β} (e : x = some r) (q : Q r) : W x Q := ⟨r, e, q⟩
theorem W_congr {x : Option β} {Q' : β → Prop} (h : ∀ r, Q r ↔ Q' r) : W x Q ↔ W x Q' := Iff.intro (fun w => w.imp fun r => (h r).mp) (fun w => w.imp fun r => (h r).mpr)
theorem W_ite {c : Prop} [Decidable c] {x y : Option β} : W (if c then x else y) Q ↔ (if c then W x Q else W y Q) := by
  split <;> exact Iff.rfl
theorem W_if_t {c : Prop} [Decidable c] {x y : Option β} (h : c) : W (if c then x else y) Q ↔ W x Q := by rw [if_pos h]
end
/-- behind the first of two statements -/
def seqQ (s2 : MS) (Q : Res → Prop) : Res → Prop
  | .nx en T => W (s2 en T) Q
  | r => Q r
section
variable {en : En} {T : Dk}
section
variable {Q : PyData × Dk → Prop}
theorem W_mC {d : PyData} : W (mC d en T) Q ↔ Q (d, T) := W_some
theorem W_mVar0 {d : PyData} {es : En} : W (mVar 0 (some (.dat d) :: es) T) Q ↔ Q (d, T) := W_some
theorem W_mVarS {i : Nat} {x : Option Sl} {es : En} : W (mVar (i + 1) (x :: es) T) Q ↔ W (mVar i es T) Q := by
  unfold mVar
  rw [List.getElem?_cons_succ]
theorem W_mVarBd {d : PyData} {es : En} : W (mVarB 0 (some (.dat d) :: es) T) Q ↔ Q (d, T) := W_some
theorem W_mVarBo {d : List PyData} {es : En} : W (mVarB 0 (some (.own d) :: es) T) Q ↔ Q (.list d, T) := W_some
theorem W_mVarBS {i : Nat} {x : Option Sl} {es : En} : W (mVarB (i + 1) (x :: es) T) Q ↔ W (mVarB i es T) Q := by
  unfold mVarB
  rw [List.getElem?_cons_succ]
theorem W_mBin {g : G2} {m1 m2 : ME} : W (mBin g m1 m2 en T) Q ↔ W (m1 en T) fun p => W (m2 en p.2) fun q => W (g p.1 q.1) fun b => Q (b, q.2) := by
  unfold mBin
  simp only [W_bind, W_map]
theorem W_mCall {g : G1} {ms : MA} : W (mCall g ms en T) Q ↔ W (ms en T) fun p => W (g p.1) fun b => Q (b, p.2) := by
  unfold mCall
  simp only [W_bind, W_map]
theorem W_mL {m : MA} : W (mL m en T) Q ↔ W (m en T) fun p => Q (.list p.1, p.2) := by
  unfold mL
  simp only [W_map]
theorem W_mAndV {m1 m2 : ME} : W (mAndV m1 m2 en T) Q ↔ W (m1 en T) fun p => ∃ b, p.1 = .bool b ∧ if b = true then W (m2 en p.2) Q else Q (.bool false, p.2) := by
  unfold mAndV
  simp only [W_bind]
  refine W_congr fun p => ?_
  obtain ⟨d, T'⟩ := p
  cases d with
  | bool b => cases b <;> simp [W_some]
  | _ => simp [W_none]
theorem W_mOrV {m1 m2 : ME} : W (mOrV m1 m2 en T) Q ↔ W (m1 en T) fun p => ∃ b, p.1 = .bool b ∧ if b = true then Q (.bool true, p.2) else W (m2 en p.2) Q := by
  unfold mOrV
  simp only [W_bind]
  refine W_congr fun p => ?_
  obtain ⟨d, T'⟩ := p
  cases d with
  | bool b => cases b <;> simp [W_some]
  | _ => simp [W_none]
theorem W_mNotV {m1 : ME} : W (mNotV m1 en T) Q ↔ W (m1 en T) fun p => ∃ b, p.1 = .bool b ∧ Q (.bool (!b), p.2) := by
  unfold mNotV
  simp only [W_bind]
  refine W_congr fun p => ?_
  obtain ⟨d, T'⟩ := p
  cases d with
  | bool b => cases b <;> simp [W_some]
  | _ => simp [W_none]
theorem W_mTup {ms : MA} : W (mTup ms en T) Q ↔ W (ms en T) fun p => p.1.length ≤ 1000 ∧ Q (.tuple p.1, p.2) := by
  unfold mTup
  simp only [W_bind]
  constructor
  · exact fun h => h.imp fun r h => by
      split at h
      · rename_i hl
        exact ⟨hl, W_some.mp h⟩
      · exact (W_none.mp h).elim
  · exact fun h => h.imp fun r h => by
      rw [if_pos h.1]
      exact W_some.mpr h.2
theorem W_mIfx {n : MT} {m1 m2 : ME} : W (mIfx n m1 m2 en T) Q ↔ W (n en T) fun p => if p.1 = true then W (m1 en p.2) Q else W (m2 en p.2) Q := by
  unfold mIfx
  simp only [W_bind, W_ite]
theorem W_mCf {M : MF} {ms : MAs} : W (mCf M ms en T) Q ↔ W (ms en T) fun p => W (M p.1 p.2) Q := by
  unfold mCf
  simp only [W_bind]
theorem W_mIsi {t : String} {m : ME} : W (mIsi t m en T) Q ↔ W (m en T) fun p => W (kitB (tyD p.1) t) fun b => Q (.bool b, p.2) := by
  unfold mIsi
  simp only [W_bind, W_map]
end
section
variable {Q : List PyData × Dk → Prop}
theorem W_mNil : W (mNil en T) Q ↔ Q ([], T) := W_some
theorem W_mCons {m : ME} {ms : MA} : W (mCons m ms en T) Q ↔ W (m en T) fun p => W (ms en p.2) fun q => Q (p.1 :: q.1, q.2) := by
  unfold mCons
  simp only [W_bind, W_map]
theorem W_mLst {ms : MA} : W (mLst ms en T) Q ↔ W (ms en T) fun p => p.1.length ≤ 1000 ∧ Q p := by
  unfold mLst
  simp only [W_bind]
  constructor
  · exact fun h => h.imp fun r h => by
      split at h
      · rename_i hl
        exact ⟨hl, W_some.mp h⟩
      · exact (W_none.mp h).elim
  · exact fun h => h.imp fun r h => by
      rw [if_pos h.1]
      exact W_some.mpr h.2
theorem W_mIt {m : ME} : W (mIt m en T) Q ↔ W (m en T) fun p => W (itemsD p.1) fun ds => Q (ds, p.2) := by
  unfold mIt
  simp only [W_bind, W_map]
theorem W_mRng1 {m : ME} : W (mRng1 m en T) Q ↔ W (m en T) fun p => ∃ j, p.1 = .int j ∧ (-4611686018427387904 ≤ j ∧ j < 4611686018427387904) ∧ Q ((rng 0 j.toNat).map PyData.int, p.2) := by
  unfold mRng1
  simp only [W_bind]
  refine W_congr fun p => ?_
  obtain ⟨d, T'⟩ := p
  cases d with
  | int j =>
    simp only [PyData.int.injEq, exists_eq_left']
    split
    · rename_i h
      simp [W_some, h]
    · rename_i h
      simp only [W_none, false_iff]
      exact fun q => h q.1
  | _ => simp [W_none]
theorem W_mLc {vs : List Nat} {mi : MA} {mt : MG} {mq : MT} {me : ME} : W (mLc vs mi mt mq me en T) Q ↔ W (mi en T) fun p => p.1.length ≤ 16777216 ∧ W (mLoop mt mq me (wipeE en vs) p.1 p.2) Q := by
  unfold mLc
  simp only [W_bind]
  constructor
  · exact fun h => h.imp fun r h => by
      split at h
      · rename_i hl
        exact ⟨hl, h⟩
      · exact (W_none.mp h).elim
  · exact fun h => h.imp fun r h => by
      rw [if_pos h.1]
      exact h.2
theorem W_mCatVo {ds : List PyData} {es : En} {m2 : MA} {i : Nat} (e : en[i]? = some (some (.own ds))) : W (mCatV i m2 en T) Q ↔ W (m2 en T) fun q => ds.length + q.1.length ≤ 16777216 ∧ Q (ds ++ q.1, q.2) := by
  unfold mCatV
  rw [e]
  simp only [W_bind]
  constructor
  · exact fun h => h.imp fun r h => by
      split at h
      · rename_i hl
        exact ⟨hl, W_some.mp h⟩
      · exact (W_none.mp h).elim
  · exact fun h => h.imp fun r h => by
      rw [if_pos h.1]
      exact W_some.mpr h.2
end
section
variable {Q : Bool × Dk → Prop}
theorem W_mYes : W (mYes en T) Q ↔ Q (true, T) := W_some
theorem W_mQ {m : ME} : W (mQ m en T) Q ↔ W (m en T) fun p => ∃ b, p.1 = .bool b ∧ Q (b, p.2) := by
  unfold mQ
  cases h : m en T with
  | none => exact ⟨fun h => (W_none.mp h).elim, fun h => (W_none.mp h).elim⟩
  | some p =>
    obtain ⟨d, T'⟩ := p
    rw [W_some]
    cases d with
    | bool b => exact ⟨fun h => ⟨b, rfl, W_some.mp h⟩, fun ⟨b', e, q⟩ => by cases e; exact W_some.mpr q⟩
    | _ => exact ⟨fun h => (W_none.mp h).elim, fun ⟨_, e, _⟩ => by cases e⟩
theorem W_mTru {m : ME} : W (mTru m en T) Q ↔ W (m en T) fun p => W (truD p.1) fun b => Q (b, p.2) := by
  unfold mTru
  simp only [W_bind, W_map]
theorem W_mAnd {m1 m2 : MT} : W (mAnd m1 m2 en T) Q ↔ W (m1 en T) fun p => if p.1 = true then W (m2 en p.2) Q else Q (false, p.2) := by
  unfold mAnd
  simp only [W_bind, W_ite, W_some]
theorem W_mOr {m1 m2 : MT} : W (mOr m1 m2 en T) Q ↔ W (m1 en T) fun p => if p.1 = true then Q (true, p.2) else W (m2 en p.2) Q := by
  unfold mOr
  simp only [W_bind, W_ite, W_some]
theorem W_mNot {m : MT} : W (mNot m en T) Q ↔ W (m en T) fun p => Q (!p.1, p.2) := by
  unfold mNot
  simp only [W_map]
end
section
variable {Q : List Sl × Dk → Prop}
theorem W_mN0 : W (mN0 en T) Q ↔ Q ([], T) := W_some
theorem W_mAd {m : ME} {ms : MAs} : W (mAd m ms en T) Q ↔ W (m en T) fun p => W (ms en p.2) fun q => Q (.dat p.1 :: q.1, q.2) := by
  unfold mAd
  simp only [W_bind, W_map]
theorem W_mAk {i : Nat} {ms : MAs} (e : en[i]? = some (some .deck)) : W (mAk i ms en T) Q ↔ W (ms en T) fun q => Q (.deck :: q.1, q.2) := by
  unfold mAk
  rw [e]
  simp only [W_map]
end
section
variable {Q : List Sl × Dk → Prop}
theorem W_mAk0 {es : En} {ms : MAs} : W (mAk 0 ms (some .deck :: es) T) Q ↔ W (ms (some .deck :: es) T) fun q => Q (.deck :: q.1, q.2) := W_mAk rfl
theorem W_mAk1 {x : Option Sl} {es : En} {ms : MAs} : W (mAk 1 ms (x :: some .deck :: es) T) Q ↔ W (ms (x :: some .deck :: es) T) fun q => Q (.deck :: q.1, q.2) := W_mAk rfl
end
section
variable {Q : Res → Prop}
theorem W_mNext : W (mNext en T) Q ↔ Q (.nx en T) := W_some
theorem W_mSeq {s1 s2 : MS} : W (mSeq s1 s2 en T) Q ↔ W (s1 en T) (seqQ s2 Q) := by
  unfold mSeq
  simp only [W_bind]
  refine W_congr fun r => ?_
  cases r <;> simp [W_some, seqQ]
theorem seqQ_nx {s2 : MS} : seqQ s2 Q (.nx en T) ↔ W (s2 en T) Q := Iff.rfl
theorem seqQ_rt {s2 : MS} {d : PyData} : seqQ s2 Q (.rt d T) ↔ Q (.rt d T) := Iff.rfl
theorem seqQ_bk {s2 : MS} : seqQ s2 Q (.bk en T) ↔ Q (.bk en T) := Iff.rfl
theorem seqQ_ct {s2 : MS} : seqQ s2 Q (.ct en T) ↔ Q (.ct en T) := Iff.rfl
theorem W_seq_nx {s1 s2 : MS} {en' : En} {T' : Dk} (h : s1 en T = some (.nx en' T')) (q : W (s2 en' T') Q) : W (mSeq s1 s2 en T) Q := W_mSeq.mpr (W.of h q)
theorem W_mRet {m : ME} : W (mRet m en T) Q ↔ W (m en T) fun p => Q (.rt p.1 p.2) := by
  unfold mRet
  simp only [W_map]
theorem W_mSet {i : Nat} {m : ME} : W (mSet i m en T) Q ↔ W (m en T) fun p => Q (.nx (en.set i (some (.dat p.1))) p.2) := by
  unfold mSet
  simp only [W_map]
theorem W_mSetF {i : Nat} {m : MA} : W (mSetF i m en T) Q ↔ W (m en T) fun p => Q (.nx (en.set i (some (.own p.1))) p.2) := by
  unfold mSetF
  simp only [W_map]
theorem W_mIf {n : MT} {s1 s2 : MS} : W (mIf n s1 s2 en T) Q ↔ W (n en T) fun p => if p.1 = true then W (s1 en p.2) Q else W (s2 en p.2) Q := by
  unfold mIf
  simp only [W_bind, W_ite]
theorem W_mAsg {m : ME} {g : MG} : W (mAsg m g en T) Q ↔ W (m en T) fun p => W (g p.1 en) fun en' => Q (.nx en' p.2) := by
  unfold mAsg
  simp only [W_bind, W_map]
theorem W_mPut {i : Nat} {m1 m : ME} {ds : List PyData} (e : en[i]? = some (some (.own ds))) : W (mPut i m1 m en T) Q ↔ W (m en T) fun p => W (m1 en p.2) fun q => ∃ k j, q.1 = .int k ∧ ixN ds.length k = some j ∧ Q (.nx (en.set i (some (.own (ds.set j p.1)))) q.2) := by
  unfold mPut
  rw [e]
  simp only [W_bind]
  refine W_congr fun p => W_congr fun q => ?_
  obtain ⟨d, T'⟩ := q
  cases d with
  | int k => simp only [W_map, PyData.int.injEq, ← exists_and_left, exists_eq_left']; exact Iff.intro (fun ⟨j, h⟩ => ⟨k, j, rfl, h⟩) (fun ⟨_, j, e, h⟩ => ⟨j, e ▸ h⟩)
  | _ => simp [W_none]
theorem W_mApp {i : Nat} {m : ME} {ds : List PyData} (e : en[i]? = some (some (.own ds))) : W (mApp i m en T) Q ↔ W (m en T) fun p => ds.length < 16777216 ∧ Q (.nx (en.set i (some (.own (ds ++ [p.1])))) p.2) := by
  unfold mApp
  rw [e]
  simp only [W_bind]
  refine W_congr fun p => ?_
  split
  · rename_i h
    simp [W_some, h]
  · rename_i h
    simp [W_none, h]
theorem W_mFor {mi : MA} {mt : MG} {mb : MS} : W (mFor mi mt mb en T) Q ↔ W (mi en T) fun p => W (mFold mt mb p.1 en p.2) Q := by
  unfold mFor
  simp only [W_bind]
end
theorem W_mFun {n : Nat} {mb : MS} {ss : List Sl} {Q : PyData × Dk → Prop} (h : W (mb (ss.map some ++ List.replicate (n - ss.length) none) T) fun r => ∃ d T', r = .rt d T' ∧ Q (d, T')) : W (mFun n mb ss T) Q := by
  obtain ⟨r, e, d, T', rfl, q⟩ := h
  refine ⟨_, ?_, q⟩
  unfold mFun
  rw [e]
end
/-- a for whose body goes on: what holds ahead of each round -/
theorem W_fold {mt : MG} {mb : MS} {Q : Res → Prop} (I : List PyData → En → Dk → Prop) (step : ∀ d ds en T, I (d :: ds) en T → W (mt d en) fun en1 => W (mb en1 T) fun r => ∃ en' T', (r = .nx en' T' ∨ r = .ct en' T') ∧ I ds en' T') :
    ∀ (ds : List PyData) (en : En) (T : Dk), I ds en T → (∀ en' T', I [] en' T' → Q (.nx en' T')) → W (mFold mt mb ds en T) Q
  | [], en, T, h, k => W_some.mpr (k en T h)
  | d :: ds, en, T, h, k => by
    show W ((mt d en).bind fun en1 => (mb en1 T).bind fun r => match r with
      | .nx en' T' => mFold mt mb ds en' T'
      | .ct en' T' => mFold mt mb ds en' T'
      | .bk en' T' => some (.nx en' T')
      | .rt d T' => some (.rt d T')) Q
    simp only [W_bind]
    refine (step d ds en T h).imp fun en1 h1 => h1.imp fun r h2 => ?_
    obtain ⟨en', T', e, hi⟩ := h2
    rcases e with rfl | rfl
    · exact W_fold I step ds en' T' hi k
    · exact W_fold I step ds en' T' hi k
/-- a comprehension without a test: element by element -/
theorem W_loop {mt : MG} {me : ME} {en : En} {Q : List PyData × Dk → Prop} (I : List PyData → List PyData → Dk → Prop) (step : ∀ d ds es T, I (d :: ds) es T → W (mt d en) fun en1 => W (me en1 T) fun p => I ds (es ++ [p.1]) p.2) :
    ∀ (ds es : List PyData) (T : Dk), I ds es T → (∀ es' T', I [] (es ++ es') T' → Q (es', T')) → W (mLoop mt mYes me en ds T) Q
  | [], es, T, h, k => W_some.mpr (k [] T (by simpa using h))
  | d :: ds, es, T, h, k => by
    show W ((mt d en).bind fun en2 => (mYes en2 T).bind fun b => if b.1 = true then (me en2 b.2).bind fun y => (mLoop mt mYes me en ds y.2).map fun r => (y.1 :: r.1, r.2) else mLoop mt mYes me en ds b.2) Q
    simp only [W_bind]
    refine (step d ds es T h).imp fun en1 h1 => W_some.mpr ?_
    rw [if_pos rfl]
    simp only [W_bind, W_map]
    refine h1.imp fun p hp => ?_
    refine W_loop I step ds (es ++ [p.1]) p.2 hp fun es' T' hi => k (p.1 :: es') T' ?_
    simpa using hi
/-- a comprehension of what has a value, the deck as it was -/
theorem loop_pure {mt : MG} {mq : MT} {me : ME} {en : En} (b : PyData → Bool) (f : PyData → PyData) (T : Dk) :
    ∀ (ds : List PyData), (∀ d ∈ ds, ∃ en1, mt d en = some en1 ∧ mq en1 T = some (b d, T) ∧ (b d = true → me en1 T = some (f d, T))) → mLoop mt mq me en ds T = some ((ds.filter b).map f, T)
  | [], _ => rfl
  | d :: ds, h => by
    obtain ⟨en1, e1, e2, e3⟩ := h d List.mem_cons_self
    have ih := loop_pure b f T ds fun d hd => h d (List.mem_cons_of_mem _ hd)
    show ((mt d en).bind fun en2 => (mq en2 T).bind fun b => if b.1 = true then (me en2 b.2).bind fun y => (mLoop mt mq me en ds y.2).map fun r => (y.1 :: r.1, r.2) else mLoop mt mq me en ds b.2) = _
    rw [e1, Option.bind_some, e2, Option.bind_some]
    cases hb : b d with
    | true =>
      rw [if_pos rfl, e3 hb, Option.bind_some, ih, List.filter_cons_of_pos hb]
      rfl
    | false =>
      rw [if_neg (by simp), ih, List.filter_cons_of_neg (by simp [hb])]
end LQ

set_option Elab.async false
set_option linter.all false
set_option maxRecDepth 100000
set_option maxHeartbeats 4000000
/-! t[::-1] of tuples -/
namespace LQ
open PySem PySem.Spec PyProof.Rows L2 HT
section
variable {prog : Program} {w : World} {A : Around} {E : Value → Shared → Prop} {s : Shared}
theorem sliceApplied_rev {sl : Addr} {vl vu vs : Value} {n : Nat} {Q : Int × Int × Nat → Shared → Prop} (hs : s.heap.IsSliceOf sl vl vu vs) (pl : IsPart vl none) (pu : IsPart vu none) (ps : IsPart vs (some (-1)))
    (h : Q ((n : Int) - 1, -1, n) s) : wpAny (model prog w) A (Builtin.Slice.sliceApplied (.ref sl) (pure (n : Int))) Q E s := by
  obtain ⟨os, hos, hcs, hds⟩ := id hs
  unfold Builtin.Slice.sliceApplied Builtin.Slice.sliceFields
  refine wpAny_bind (wpAny_bind (wpAny_field hos hds (x := vl) rfl (wpAny_bind (wpAny_field hos hds (x := vu) rfl (wpAny_bind (wpAny_field hos hds (x := vs) rfl (wpAny_pure ?_)))))))
  refine wpAny_bind (slicePart_ ps ?_)
  show wpAny _ _ (if ((-1 : Int) == 0) = true then _ else _) _ _ s
  rw [if_neg (by decide)]
  refine wpAny_bind (slicePart_ pl (wpAny_bind (slicePart_ pu (wpAny_bind (wpAny_pure ?_)))))
  show wpAny _ _ (pure ((n : Int) - 1, (-1 : Int), Builtin.Slice.slicePlaces ((n : Int) - 1) (-1) (-1))) _ _ s
  have e : Builtin.Slice.slicePlaces ((n : Int) - 1) (-1) (-1) = n := by
    unfold Builtin.Slice.slicePlaces
    rw [if_neg (by omega)]
    split
    · have : ((n : Int) - 1 - -1 - 1) / (-(-1)) + 1 = (n : Int) := by
        rw [show (-(-1) : Int) = 1 by omega, Int.ediv_one]
        omega
      rw [this]
      simp
    · simp
      omega
  rw [e]
  exact wpAny_pure h
theorem fm_some {f : Nat → Option Value} {g : Nat → Value} : ∀ l : List Nat, (∀ m ∈ l, f m = some (g m)) → l.filterMap f = l.map g
  | [], _ => rfl
  | m :: l, h => by
    rw [List.filterMap_cons_some (h m List.mem_cons_self), List.map_cons, fm_some l fun m hm => h m (List.mem_cons_of_mem _ hm)]
theorem pick_rev (xs : Array Value) : ((List.range xs.size).filterMap fun (m : Nat) => xs[(((xs.size : Nat) : Int) - 1 + (m : Int) * (-1)).toNat]?).toArray = xs.toList.reverse.toArray := by
  congr 1
  apply List.ext_getElem?
  intro i
  have e : ∀ m ∈ List.range xs.size, (fun (m : Nat) => xs[(((xs.size : Nat) : Int) - 1 + (m : Int) * (-1)).toNat]?) m = some ((xs.toList.reverse)[m]?.getD .none) := by
    intro m hm
    have hm : m < xs.size := List.mem_range.mp hm
    have e1 : (((xs.size : Nat) : Int) - 1 + (m : Int) * (-1)).toNat = xs.size - 1 - m := by omega
    show xs[(((xs.size : Nat) : Int) - 1 + (m : Int) * (-1)).toNat]? = _
    rw [e1, List.getElem?_reverse (by simpa using hm)]
    have : xs.size - 1 - m < xs.size := by omega
    simp [Array.length_toList, this]
  have e2 : (List.range xs.size).filterMap (fun (m : Nat) => xs[(((xs.size : Nat) : Int) - 1 + (m : Int) * (-1)).toNat]?) = (List.range xs.size).map (fun m => (xs.toList.reverse)[m]?.getD .none) := fm_some _ e
  rw [e2, List.getElem?_map]
  by_cases hi : i < xs.size
  · rw [List.getElem?_range hi]
    have : i < xs.toList.reverse.length := by simpa using hi
    simp [List.getElem?_eq_getElem this]
  · rw [List.getElem?_eq_none (by simpa using hi), List.getElem?_eq_none (by simpa using hi)]
    rfl
theorem getItem_tuple_rev {t sl : Addr} {items : Array Value} {vl vu vs : Value} {Q : Value → Shared → Prop} (ht : IsTup s.heap t items) (hs : s.heap.IsSliceOf sl vl vu vs) (pl : IsPart vl none) (pu : IsPart vu none) (ps : IsPart vs (some (-1)))
    (h : Q (.ref s.heap.objs.size) { s with heap := s.heap.push { cls := .type "tuple", data := .seq items.toList.reverse.toArray } })
    (hsz : items.size ≤ sizeLine) : wpAny (model prog w) A (getItem (.ref t) (.ref sl)) Q E s := by
  have htake : sizeOk (.seq items.toList.reverse.toArray) := by
    show items.toList.reverse.toArray.size ≤ sizeLine
    rw [List.size_toArray, List.length_reverse, Array.length_toList]
    omega
  obtain ⟨os, hos, hcs, hds⟩ := id hs
  have hTs : s.TypeIs (.ref sl) "slice" := ⟨os, hos, hcs⟩
  unfold getItem
  try with_reducible refine wpAny_holding ?_
  first | refine wpAny_bind (wpAny_pure ?_) | skip
  refine wpAny_bind (wpAny_sequenceKey ht.typeIs (by decide) ?_)
  refine wpAny_bind (wpAny_callSpecial?_slot (name := Str.ofString "__getitem__") ht.typeIs PyProof.Rows.slot_tuple_getitem
    (wpAny_call_entry PyProof.Rows.slot_tuple_getitem ht.typeIs entry_tuple_getitem ?_ (args_tuple_getitem _ _)))
  show wpAny _ _ (Builtin.Tuple.tupleItemsOf (.ref t) >>= _) _ _ s
  refine wpAny_bind (tupleItemsOf_ ht ?_)
  refine wpAny_bind (wpAny_typeOf hTs ?_)
  rw [if_pos (by decide)]
  refine wpAny_bind (sliceApplied_rev hs pl pu ps ?_)
  have hno : ¬ (((((items.size : Nat) : Int) - 1) == 0 && (-1 : Int) == 1 && items.size == items.size) = true) := by simp
  show wpAny _ _ (if ((((items.size : Nat) : Int) - 1) == 0 && (-1 : Int) == 1 && items.size == items.size) = true then _ else _) _ _ s
  rw [if_neg hno, pick_rev]
  first
    | exact wpAny_bind (m := Builtin.Tuple.tupleExact _) (wpAny_newObj_type (wpAny_pure ⟨_, rfl, wpAny_pure h⟩) htake)
    | exact wpAny_bind (m := Builtin.Tuple.tupleExact _) (wpAny_newObj_type (wpAny_bind (wpAny_pure (wpAny_pure ⟨_, rfl, wpAny_pure h⟩))) htake)
    | exact wpAny_bind (wpAny_bind (m := Builtin.Tuple.tupleExact _) (wpAny_newObj_type (wpAny_pure (wpAny_pure ⟨_, rfl, wpAny_pure h⟩)) htake))
    | exact wpAny_bind (wpAny_bind (m := Builtin.Tuple.tupleExact _) (wpAny_newObj_type (wpAny_pure ⟨_, rfl, wpAny_pure h⟩) htake))
end
section
variable {X : Cx}
def tRevT (K : PySem.W.Frag) (te : TE) : TE := fun σ H Q => te σ H fun x H1 => ∃ a xs, x = .ref a ∧ SqT K H1 a xs ∧ ∀ p, H1 p = none → Q (.ref p) (upd H1 p (.tup xs.reverse))
theorem pe_revT {e : Expr} {te : TE} {k : Nat} {p1 p2 p3 pos : Pos} (he : PE X e te) : PE X (.Subscript e (.Slice none none (some (.UnaryOp .USub (.Constant (.int 1) k p1) p2)) p3) pos) (tRevT X.K te) := by
  refine ⟨fun pins s σ H Q I h => ?_⟩
  refine Subscript_ (thn (he.run pins s σ H _ I h) fun v s1 ⟨x, H1, I1, r1, q1⟩ => ?_)
  obtain ⟨a, xs, ex, hx, q⟩ := q1
  subst ex
  cases r1
  have hst : PO X (some (.UnaryOp .USub (.Constant (.int 1) k p1) p2)) (tPart (tUn (rU fun i => .int (-i)) (tC (.int 1)))) := po_some (pe_un un_neg pe_int)
  refine wpAny_Slice (thn (po_none.run pins s1 σ H1 (fun o H2 => o = none ∧ H2 = H1) I1 ⟨rfl, rfl⟩) fun vl s2 ⟨l, H2, I2, pl, el, e2⟩ => ?_)
  subst el e2
  refine thn (po_none.run pins s2 σ H2 (fun o H3 => o = none ∧ H3 = H2) I2 ⟨rfl, rfl⟩) fun vu s3 ⟨u, H3, I3, pu, eu, e3⟩ => ?_
  subst eu e3
  refine thn (hst.run pins s3 σ H3 (fun o H4 => o = some (-1) ∧ H4 = H3) I3 ⟨1, rfl, -1, rfl, rfl, rfl⟩) fun vs s4 ⟨o, H4, I4, ps, eo, e4⟩ => ?_
  subst eo e4
  have I5 : Inv X pins σ H4 { s4 with heap := s4.heap.push { cls := .type "slice", data := .fields #[vl, vu, vs] } } := I4.kept (t' := s4.toks) fun b ob q => Heap.get?_push_of_some _ q
  obtain ⟨its, r, ht, hz⟩ := I5.tuple hx
  have hlen := r.length
  show wpAny (model X.prog X.w) X.A (subscriptTail e (.Slice none none (some (.UnaryOp .USub (.Constant (.int 1) k p1) p2)) p3) (.ref a) (.ref s4.heap.objs.size)) (EP X pins σ Q) X.xe { s4 with heap := s4.heap.push { cls := .type "slice", data := .fields #[vl, vu, vs] } }
  refine tail_any (ops := [.ref a, .ref s4.heap.objs.size]) ht.typeIs (PyProof.Rows.slot_tuple_getitem.lookup) ?_ (by with_unfolding_all rfl)
  refine getItem_tuple_rev ht (Heap.IsSliceOf.new _ vl vu vs) pl pu ps ?_ (by rw [List.size_toArray]; omega)
  refine ⟨.ref _, _, I5.laid (t' := s4.toks) (o := .tup xs.reverse) (fun b ob q => Heap.get?_push_of_some _ q) (Nat.le_refl _) ?_, rfl, q _ (I5.hok.fresh (Nat.le_refl _))⟩
  exact ⟨by rw [List.length_reverse]; exact hz, _, r.reverse, IsTup.new _ _⟩
end
/-! ### the same over data -/
theorem dpAll_rev {K : PySem.W.Frag} {F : Hp} : ∀ {ds : List PyData} {vs : List V}, RpAll K F vs ds → RpAll K F vs.reverse ds.reverse
  | [], _, h => by cases h; exact .nil
  | d :: ds, _, h => by
    cases h with
    | cons h1 h2 =>
      rw [List.reverse_cons, List.reverse_cons]
      exact dpAll_app (dpAll_rev h2) (.cons h1 .nil)
section
variable {X : Cx} {z : Cz} {a b : Expr} {m m1 m2 : ME} {pos : Pos}
def mRevT (m : ME) : ME := fun en T => (m en T).bind fun p => match p.1 with
  | .tuple ds => some (.tuple ds.reverse, p.2)
  | _ => none
theorem d_revT {k : Nat} {p1 p2 p3 : Pos} (ha : PE X a (tD z X.K m)) : PE X (.Subscript a (.Slice none none (some (.UnaryOp .USub (.Constant (.int 1) k p1) p2)) p3) pos) (tD z X.K (mRevT m)) := pe_to (pe_revT ha) fun σ H Q q => by
  obtain ⟨F, en, T, d, T', ok, e, k⟩ := q
  unfold mRevT at e
  cases h1 : m en T with
  | none => rw [h1] at e; cases e
  | some p =>
    obtain ⟨ds, T1⟩ := p
    rw [h1] at e
    simp only [Option.bind_some] at e
    split at e
    · cases e
      refine ⟨F, en, T, _, _, ok, h1, fun F1 H1 v B1 n1 p1 => ?_⟩
      cases p1 with
      | tup hs hx =>
        refine ⟨_, _, rfl, tk (B1.fh _ _ hs), fun q hq => ?_⟩
        obtain ⟨B2, n2⟩ := B1.lay (o := .tup _) hq
        exact k _ _ _ B2 (n1.trans n2 B2) (.tup upd_same (dpAll_mono n2.s _ _ (dpAll_rev hx)))
    · cases e
/-- -e -/
def mNeg (m : ME) : ME := fun en T => (m en T).bind fun p => match p.1 with
  | .int i => some (.int (-i), p.2)
  | _ => none
theorem d_neg (ha : PE X a (tB z X.K m)) : PE X (.UnaryOp .USub a pos) (tD z X.K (mNeg m)) := pe_to (pe_un un_neg ha) fun σ H Q q => by
  obtain ⟨F, en, T, d, T', ok, e, k⟩ := q
  unfold mNeg at e
  cases h1 : m en T with
  | none => rw [h1] at e; cases e
  | some p =>
    obtain ⟨ds, T1⟩ := p
    rw [h1] at e
    simp only [Option.bind_some] at e
    split at e
    · cases e
      refine ⟨F, en, T, _, _, ok, h1, fun F1 H1 v B1 n1 p1 => ?_⟩
      cases p1
      exact ⟨_, rfl, k _ _ _ B1 n1 (.int _)⟩
    · cases e
/-- t + u of tuples -/
def gCatT : G2
  | .tuple xs, .tuple ys => if xs.length + ys.length ≤ 16777216 then some (.tuple (xs ++ ys)) else none
  | _, _ => none
theorem d_catT (ha : PE X a (tD z X.K m1)) (hb : PE X b (tD z X.K m2)) : PE X (.BinOp a .Add b pos) (tD z X.K (mBin gCatT m1 m2)) := pe_to (pe_op op_catA ha hb) fun σ H Q q => by
  obtain ⟨F, en, T, d, T', ok, e, k⟩ := q
  unfold mBin at e
  cases h1 : m1 en T with
  | none => rw [h1] at e; cases e
  | some p =>
    obtain ⟨d1, T1⟩ := p
    rw [h1] at e
    simp only [Option.bind_some] at e
    cases h2 : m2 en T1 with
    | none => rw [h2] at e; cases e
    | some p =>
      obtain ⟨d2, T2⟩ := p
      rw [h2] at e
      simp only [Option.bind_some] at e
      cases h3 : gCatT d1 d2 with
      | none => rw [h3] at e; cases e
      | some r =>
        rw [h3] at e
        cases e
        refine ⟨F, en, T, d1, T1, ok, h1, fun F1 H1 v1 B1 n1 p1 => ⟨F1, en, T1, d2, _, ok.nxt n1 B1, h2, fun F2 H2 v2 B2 n2 p2 => ?_⟩⟩
        have hz := sizeLine_eq
        unfold gCatT at h3
        split at h3
        · split at h3
          · rename_i hl
            cases h3
            cases p1 with
            | tup hs hx =>
              cases p2 with
              | tup ht hy =>
                rename_i a1 vs a2 ws
                have hx2 := dpAll_mono n2.s _ _ hx
                have hs2 := n2.s _ _ hs
                refine ⟨a1, a2, vs, ws, rfl, rfl, tk (B2.fh _ _ hs2), tk (B2.fh _ _ ht), by have := dpAll_len hx; have := dpAll_len hy; omega, fun e0 => ?_, fun e0 e1 => ?_, fun e0 e1 q hq => ?_⟩
                · subst e0
                  cases hx2
                  exact k _ _ _ B2 (n1.trans n2 B2) (.tup ht hy)
                · subst e1
                  cases hy
                  rw [List.append_nil] at k
                  exact k _ _ _ B2 (n1.trans n2 B2) (.tup hs2 hx2)
                · obtain ⟨B3, n3⟩ := B2.lay (o := .tup (vs ++ ws)) hq
                  exact k _ _ _ B3 (n1.trans (n2.trans n3 B3) B3) (.tup upd_same (dpAll_mono n3.s _ _ (dpAll_app hx2 hy)))
          · cases h3
        · cases h3
/-- tuple(e) of a list -/
def mTupOf (m : ME) : ME := fun en T => (m en T).bind fun p => match p.1 with
  | .list ds => some (.tuple ds, p.2)
  | _ => none
theorem d_tupOf {p : Pos} (hg : Gl X "tuple") (hm : X.mg "tuple" = none) (ha : PE X a (tE z X.K m)) (he : starEach [a] X.env = (false, eval a X.env) :: starEach [] X.env := by rfl) : PE X (.Call (.Name "tuple" p) [a] [] pos) (tD z X.K (mTupOf m)) :=
  pe_to (pe_callTy call_tuple_of hg hm (by decide +kernel) (pa_cons ha pa_nil he) (by decide) (by decide) he rfl) fun σ H Q h => by
    obtain ⟨F, en, T, ds, T', ok, e, k⟩ := h
    unfold mTupOf at e
    cases h1 : m en T with
    | none => rw [h1] at e; cases e
    | some r =>
      obtain ⟨d1, T1⟩ := r
      rw [h1] at e
      simp only [Option.bind_some] at e
      refine ⟨F, en, T, d1, T1, ok, h1, fun F1 H1 v B1 n1 p1 => ?_⟩
      split at e
      · cases e
        obtain ⟨b, xs, rfl, hs, hx⟩ := p1
        refine ⟨b, xs, rfl, .inl ⟨(cut_same z H1).seq hs, fun l hl => ?_⟩⟩
        obtain ⟨B2, n2⟩ := B1.lay (o := .tup xs) hl
        exact k _ _ _ B2 (n1.trans n2 B2) (.tup upd_same (dpAll_mono n2.s _ _ hx))
      · cases e
/-- {} -/
theorem d_dict0 : PE X (.Dict [] [] pos) (tD z X.K (mC (.dict []))) := pe_to pe_dnewK fun σ H Q q => by
  obtain ⟨F, en, T, d, T', ok, e, k⟩ := q
  cases e
  intro p hp
  obtain ⟨B2, n2⟩ := ok.b.lay (o := .dK []) hp
  exact k _ _ _ B2 n2 (.dct upd_same)
/-- xs * n of a new list -/
def mRep (m1 : MA) (m2 : ME) : MA := fun en T => (m1 en T).bind fun p => (m2 en p.2).bind fun q => match q.1 with
  | .int k => if (-1000 < k ∧ k < 1000) ∧ p.1.length ≤ 1000 then some ((List.replicate k.toNat p.1).flatten, q.2) else none
  | _ => none
theorem dpAll_flat {K : PySem.W.Frag} {F : Hp} {xs : List V} {ds : List PyData} (h : RpAll K F xs ds) : ∀ n : Nat, RpAll K F (List.replicate n xs).flatten (List.replicate n ds).flatten
  | 0 => .nil
  | n + 1 => by
    rw [List.replicate_succ, List.replicate_succ, List.flatten_cons, List.flatten_cons]
    exact dpAll_app h (dpAll_flat h n)
theorem f_rep {m1 : MA} (ha : PE X a (tF z X.K m1)) (hb : PE X b (tB z X.K m2)) : PE X (.BinOp a .Mult b pos) (tF z X.K (mRep m1 m2)) := pe_to (pe_op op_rep ha hb) fun σ H Q q => by
  obtain ⟨F, en, T, d, T', ok, e, k⟩ := q
  unfold mRep at e
  cases h1 : m1 en T with
  | none => rw [h1] at e; cases e
  | some p =>
    obtain ⟨d1, T1⟩ := p
    rw [h1] at e
    simp only [Option.bind_some] at e
    cases h2 : m2 en T1 with
    | none => rw [h2] at e; cases e
    | some p =>
      obtain ⟨d2, T2⟩ := p
      rw [h2] at e
      simp only [Option.bind_some] at e
      split at e
      · rename_i k0
        split at e
        · rename_i hl
          cases e
          refine ⟨F, en, T, d1, T1, ok, h1, fun F1 H1 a1 x1 B1 n1 i1 j1 l1 o1 p1 => ⟨F1, en, T1, _, _, ok.nxt n1 B1, h2, fun F2 H2 v2 B2 n2 p2 => ?_⟩⟩
          have nd : ∀ c, z.H0 c = none → z.isDk c = false := fun c hc => by
            cases hd : z.isDk c with
            | true => exact absurd hc (B1.dkin c hd)
            | false => rfl
          have hz := sizeLine_eq
          cases p2
          have hx := dpAll_len p1
          have hm : x1.length * k0.toNat ≤ 1000 * 1000 := Nat.mul_le_mul (by omega) (by omega)
          refine ⟨a1, k0, x1, rfl, rfl, n2.st a1 _ j1 (nd a1 o1), by omega, by omega, by omega, fun q hq => ?_⟩
          obtain ⟨B3, n3, f3, h3⟩ := B2.put (o := .lst (List.replicate k0.toNat x1).flatten) hq
          refine k _ _ _ _ B3 (n1.trans (n2.trans n3 B3) B3) ?_ upd_same f3 h3 (dpAll_mono n2.s _ _ (dpAll_flat p1 k0.toNat))
          cases e0 : H q with
          | none => rfl
          | some o => rw [(n1.trans n2 B2).st q o e0 (nd q h3)] at hq; cases hq
        · cases e
      · cases e
end
/-- str(n) -/
def gStrI : G1
  | [.int i] => if i.natAbs.log2 < 1920 then some (.str (toString i)) else none
  | _ => none
theorem l_strI {K : PySem.W.Frag} : LiftC K (fun xs H Q => ∃ i, xs = [.int i] ∧ i.natAbs.log2 < 1920 ∧ Q (.str (toString i)) H) gStrI := by
  intro H vs ds b Q h e k
  unfold gStrI at e
  split at e
  · split at e
    · rename_i hq
      cases h with
      | cons h1 h2 =>
        cases h2
        cases h1
        cases e
        exact ⟨_, rfl, hq, k _ fun _ => .str _⟩
    · cases e
  · cases e
/-- is None, is not None -/
def isNn : PyData → Bool
  | .none => true
  | _ => false
def gIsN (neg : Bool) : G2 := fun d e => match e with
  | .none => some (.bool (neg ^^ isNn d))
  | _ => none
theorem non_iff {K : PySem.W.Frag} {H : Hp} {x : V} {d : PyData} (h : Rp K H x d) : decide (x = .non) = isNn d := by
  cases h <;> simp [isNn]
theorem l_isN {K : PySem.W.Frag} : Lift2 K (fun x y H Q => y = .non ∧ Q (.bl (decide (x = .non))) H) (gIsN false) := by
  intro H x y d e b Q h1 h2 eq k
  unfold gIsN at eq
  split at eq
  · cases h2
    cases eq
    refine ⟨rfl, ?_⟩
    rw [non_iff h1]
    exact k _ fun _ => by simpa using .bl _
  · cases eq
theorem l_notN {K : PySem.W.Frag} : Lift2 K (fun x y H Q => y = .non ∧ Q (.bl (!decide (x = .non))) H) (gIsN true) := by
  intro H x y d e b Q h1 h2 eq k
  unfold gIsN at eq
  split at eq
  · cases h2
    cases eq
    refine ⟨rfl, ?_⟩
    rw [non_iff h1]
    exact k _ fun _ => by simpa using .bl _
  · cases eq
/-- == and != of texts -/
theorem l_eqS {K : PySem.W.Frag} : Lift2 K rEq (gS fun i j => .bool (i == j)) := by
  intro H x y d e b Q h1 h2 eq k
  unfold gS at eq
  split at eq
  · cases h1
    cases h2
    cases eq
    refine ⟨rfl, ?_⟩
    rw [dec_str]
    exact k _ fun _ => .bl _
  · cases eq
theorem l_neS {K : PySem.W.Frag} : Lift2 K rNe (gS fun i j => .bool (!(i == j))) := by
  intro H x y d e b Q h1 h2 eq k
  unfold gS at eq
  split at eq
  · cases h1
    cases h2
    cases eq
    refine ⟨rfl, ?_⟩
    rw [dec_str]
    exact k _ fun _ => .bl _
  · cases eq
def gMax2 : G1
  | [.int i, .int j] => some (.int (if j > i then j else i))
  | _ => none
theorem l_max2 {K : PySem.W.Frag} : LiftC K (fun xs H Q => ∃ i j, xs = [.int i, .int j] ∧ Q (.int (if j > i then j else i)) H) gMax2 := by
  intro H vs ds b Q h e k
  unfold gMax2 at e
  split at e
  · cases h with
    | cons h1 h2 =>
      cases h2 with
      | cons h3 h4 =>
        cases h4
        cases h1
        cases h3
        cases e
        exact ⟨_, _, rfl, k _ fun _ => .int _⟩
  · cases e
end LQ

set_option Elab.async false
set_option linter.all false
set_option maxRecDepth 100000
set_option maxHeartbeats 4000000
/-! dicts of one's own, whose keys are flat tuples -/
namespace LQ
open PySem PySem.Spec PyProof.Rows L2
/-! ### keys -/
def keyOf1 : PyData → Option Key
  | .int i => some (.inl i)
  | .str x => some (.inr x)
  | _ => none
def keysOf : List PyData → Option (List Key)
  | [] => some []
  | d :: ds => (keyOf1 d).bind fun k => (keysOf ds).map (k :: ·)
def keyL : PyData → Option (List Key)
  | .tuple ds => keysOf ds
  | _ => none
theorem keysOf_eq : ∀ {ds : List PyData} {ks : List Key}, keysOf ds = some ks → ds = ks.map keyD
  | [], ks, e => by cases e; rfl
  | d :: ds, ks, e => by
    simp only [keysOf] at e
    cases h1 : keyOf1 d with
    | none => rw [h1] at e; cases e
    | some k =>
      rw [h1] at e
      simp only [Option.bind_some] at e
      cases h2 : keysOf ds with
      | none => rw [h2] at e; cases e
      | some r =>
        rw [h2] at e
        cases e
        rw [List.map_cons, ← keysOf_eq h2]
        congr 1
        cases d <;> first | (cases h1; rfl) | cases h1
theorem keyL_eq {d : PyData} {ks : List Key} (e : keyL d = some ks) : d = .tuple (ks.map keyD) := by
  cases d with
  | tuple ds => rw [keysOf_eq e]
  | _ => cases e
theorem vals_key {K : PySem.W.Frag} {F : Hp} : ∀ {ks : List Key} {xs : List V}, RpAll K F xs (ks.map keyD) → xs = ks.map kV
  | [], _, h => by cases h; rfl
  | k :: ks, _, h => by
    cases h with
    | cons h1 h2 =>
      rw [List.map_cons, vals_key h2]
      congr 1
      cases k <;> cases h1 <;> rfl
theorem rp_key {K : PySem.W.Frag} {F : Hp} {y : V} {d : PyData} {ks : List Key} (h : Rp K F y d) (e : keyL d = some ks) : ∃ b, y = .ref b ∧ F b = some (.tup (ks.map kV)) := by
  have := keyL_eq e
  subst this
  cases h with
  | tup hs ha =>
    have := vals_key ha
    subst this
    exact ⟨_, rfl, hs⟩
theorem key_eqv1 (a b : Key) : PyData.eqv (keyD a) (keyD b) = decide (a = b) := by
  cases a <;> cases b <;> simp only [keyD, PyData.eqv] <;> rw [Bool.eq_iff_iff] <;> simp
theorem key_eqvAll : ∀ a b : List Key, PyData.eqvAll (a.map keyD) (b.map keyD) = decide (a = b)
  | [], [] => by simp [PyData.eqvAll]
  | [], _ :: _ => by simp [PyData.eqvAll]
  | _ :: _, [] => by simp [PyData.eqvAll]
  | a :: as, b :: bs => by
    simp only [List.map_cons, PyData.eqvAll, key_eqv1, key_eqvAll as bs]
    rw [Bool.eq_iff_iff]
    simp
theorem key_eqv (a b : List Key) : PyData.eqv (.tuple (a.map keyD)) (.tuple (b.map keyD)) = decide (a = b) := by
  simp only [PyData.eqv]
  exact key_eqvAll a b
/-! ### a dict as a list of pairs -/
def getKv (kvs : List (PyData × PyData)) (d : PyData) : Option PyData := (kvs.find? fun p => PyData.eqv p.1 d).map (·.2)
def putKv (kvs : List (PyData × PyData)) (d e : PyData) : List (PyData × PyData) :=
  if (kvs.any fun p => PyData.eqv p.1 d) = true then kvs.map (fun p => if PyData.eqv p.1 d = true then (p.1, e) else p) else kvs ++ [(d, e)]
theorem kv_get {K : PySem.W.Frag} {F : Hp} {ks : List Key} : ∀ {vs : List (List Key × V)} {kvs : List (PyData × PyData)}, KvOk K F vs kvs →
    (valV vs ks = none ∧ getKv kvs (.tuple (ks.map keyD)) = none) ∨ ∃ v e, valV vs ks = some v ∧ getKv kvs (.tuple (ks.map keyD)) = some e ∧ Rp K F v e
  | _, _, .nil => .inl ⟨rfl, rfl⟩
  | _, _, .cons (ks := k) (v := v) (e := e) (vs := vs) (kvs := kvs) h r => by
    by_cases hk : k = ks
    · subst hk
      refine .inr ⟨v, e, ?_, ?_, h⟩
      · simp [valV]
      · simp [getKv, key_eqv]
    · have e1 : valV ((k, v) :: vs) ks = valV vs ks := by simp [valV, hk]
      have e2 : getKv ((.tuple (k.map keyD), e) :: kvs) (.tuple (ks.map keyD)) = getKv kvs (.tuple (ks.map keyD)) := by simp [getKv, key_eqv, hk]
      rw [e1, e2]
      exact kv_get r
theorem kv_any {K : PySem.W.Frag} {F : Hp} {ks : List Key} : ∀ {vs : List (List Key × V)} {kvs : List (PyData × PyData)}, KvOk K F vs kvs → (kvs.any fun p => PyData.eqv p.1 (.tuple (ks.map keyD))) = vs.any fun kv => decide (kv.1 = ks)
  | _, _, .nil => rfl
  | _, _, .cons h r => by simp only [List.any_cons, key_eqv, kv_any r]
theorem kv_map {K : PySem.W.Frag} {F : Hp} {ks : List Key} {v : V} {e : PyData} (he : Rp K F v e) : ∀ {vs : List (List Key × V)} {kvs : List (PyData × PyData)}, KvOk K F vs kvs →
    KvOk K F (vs.map fun kv => if kv.1 = ks then (kv.1, v) else kv) (kvs.map fun p => if PyData.eqv p.1 (.tuple (ks.map keyD)) = true then (p.1, e) else p)
  | _, _, .nil => .nil
  | _, _, .cons (ks := k) h r => by
    by_cases hk : k = ks
    · subst hk
      simp only [List.map_cons, key_eqv, decide_true, if_true]
      exact .cons he (kv_map he r)
    · simp only [List.map_cons, key_eqv, hk, decide_false, Bool.false_eq_true, if_false]
      exact .cons h (kv_map he r)
theorem kv_app {K : PySem.W.Frag} {F : Hp} : ∀ {vs ws : List (List Key × V)} {kvs lvs : List (PyData × PyData)}, KvOk K F vs kvs → KvOk K F ws lvs → KvOk K F (vs ++ ws) (kvs ++ lvs)
  | _, _, _, _, .nil, g => g
  | _, _, _, _, .cons h r, g => .cons h (kv_app r g)
theorem kv_put {K : PySem.W.Frag} {F : Hp} {ks : List Key} {v : V} {e : PyData} {vs : List (List Key × V)} {kvs : List (PyData × PyData)} (he : Rp K F v e) (h : KvOk K F vs kvs) : KvOk K F (putK vs ks v) (putKv kvs (.tuple (ks.map keyD)) e) := by
  unfold putK putKv
  rw [kv_any h]
  split
  · exact kv_map he h
  · exact kv_app h (.cons he .nil)
/-! ### the slot -/
def noD (en : En) : Bool := en.all fun s => match s with
  | some (.ownD _) => false
  | _ => true
theorem noD_no {en : En} (h : noD en = true) (j : Nat) (ds : List (PyData × PyData)) : en[j]? ≠ some (some (.ownD ds)) := fun e => by
  have := List.all_eq_true.mp h _ (List.mem_of_getElem? e)
  cases this
theorem Ok.setD {z : Cz} {K : PySem.W.Frag} {F H : Hp} {σ : St} {en : En} {T : Dk} {i : Nat} {a : Addr} {vs : List (List Key × V)} {kvs : List (PyData × PyData)} (k : Ok z K F H σ en T) (hn : noD (en.set i none) = true) (ha : H a = some (.dT vs)) (hf : F a = none) (h0 : z.H0 a = none) (p : KvOk K F vs kvs) :
    Ok z K F H (σ.set i (some (.ref a))) (en.set i (some (.ownD kvs))) T := by
  have w := k.wipe1 (i := i)
  have old : ∀ (j : Nat) (s : Sl), i ≠ j → (en.set i (some (.ownD kvs)))[j]? = some (some s) → (en.set i none)[j]? = some (some s) := fun j s hj e => by
    rw [List.getElem?_set_ne hj] at e ⊢
    exact e
  refine ⟨k.b, by rw [List.length_set, List.length_set]; exact k.len, fun j s e => ?_, fun j l ds es b hjl e1 e2 h1 h2 => ?_, fun j l ds es e1 e2 => ?_⟩
  · by_cases hj : i = j
    · subst hj
      by_cases hi : i < en.length
      · rw [List.getElem?_set_self hi] at e
        cases e
        exact ⟨_, List.getElem?_set_self (by rw [k.len]; exact hi), a, vs, rfl, ha, hf, h0, p⟩
      · rw [List.getElem?_eq_none (by rw [List.length_set]; omega)] at e
        cases e
    · obtain ⟨v, hv, q⟩ := w.sl j s (old j s hj e)
      rw [List.getElem?_set_ne hj] at hv ⊢
      exact ⟨v, hv, q⟩
  · have nj : i ≠ j := fun q => by
      subst q
      by_cases hi : i < en.length
      · rw [List.getElem?_set_self hi] at e1; cases e1
      · rw [List.getElem?_eq_none (by rw [List.length_set]; omega)] at e1; cases e1
    have nl : i ≠ l := fun q => by
      subst q
      by_cases hi : i < en.length
      · rw [List.getElem?_set_self hi] at e2; cases e2
      · rw [List.getElem?_eq_none (by rw [List.length_set]; omega)] at e2; cases e2
    rw [List.getElem?_set_ne nj] at h1 e1
    rw [List.getElem?_set_ne nl] at h2 e2
    exact k.ne j l ds es b hjl e1 e2 h1 h2
  · by_cases hj : i = j
    · by_cases hl : i = l
      · exact hj.symm.trans hl
      · exact absurd (old l _ hl e2) (noD_no hn l es)
    · exact absurd (old j _ hj e1) (noD_no hn j ds)
/-! ### mirrors and rules -/
def mInD (neg : Bool) (i : Nat) (m : ME) : ME := fun en T => (m en T).bind fun p => match en[i]? with
  | some (some (.ownD kvs)) => if (keyL p.1).isSome = true then some (.bool (neg ^^ (getKv kvs p.1).isSome), p.2) else none
  | _ => none
def mGetD (i : Nat) (m : ME) : ME := fun en T => (m en T).bind fun p => match en[i]? with
  | some (some (.ownD kvs)) => if (keyL p.1).isSome = true then (getKv kvs p.1).map fun e => (e, p.2) else none
  | _ => none
def mPutD (i : Nat) (mk mv : ME) : MS := fun en T => (mv en T).bind fun v => (mk en v.2).bind fun p => match en[i]? with
  | some (some (.ownD kvs)) => if (keyL p.1).isSome = true ∧ kvs.length < 16777216 then some (.nx (en.set i (some (.ownD (putKv kvs p.1 v.1)))) p.2) else none
  | _ => none
def mNewD (i : Nat) : MS := fun en T => if noD (en.set i none) = true then some (.nx (en.set i (some (.ownD []))) T) else none
section
variable {X : Cx} {z : Cz} {a : Expr} {m m1 m2 : ME} {pos pos' p2 : Pos}
theorem isSome_ex {α : Type} {o : Option α} (h : o.isSome = true) : ∃ x, o = some x := Option.isSome_iff_exists.mp h
/-- what a look-up rests on -/
theorem dget_of {F H : Hp} {σ : St} {en : En} {T : Dk} {i : Nat} {kvs : List (PyData × PyData)} {y : V} {d : PyData} (ok : Ok z X.K F H σ en T) (e : en[i]? = some (some (.ownD kvs))) (p : Rp X.K F y d) (hk : (keyL d).isSome = true) :
    ∃ b vs, σ[i]? = some (some (.ref b)) ∧ KvOk X.K F vs kvs ∧ H b = some (.dT vs) ∧ F b = none ∧ z.H0 b = none ∧ ∃ ks c, d = .tuple (ks.map keyD) ∧ y = .ref c ∧ H c = some (.tup (ks.map kV)) ∧ DGet H b y (valV vs ks) := by
  obtain ⟨v, hv, b, vs, rfl, h1, h2, h3, q⟩ := ok.sl i _ e
  obtain ⟨ks, hks⟩ := isSome_ex hk
  obtain ⟨c, rfl, hc⟩ := rp_key p hks
  exact ⟨b, vs, hv, q, h1, h2, h3, ks, c, keyL_eq hks, rfl, ok.b.fh _ _ hc, DGet.t h1 (ok.b.fh _ _ hc)⟩
theorem tD_inD {neg : Bool} {i : Nat} {σ : St} {H : Hp} {Q : VK} (h : tD z X.K (mInD neg i m) σ H Q) : tD z X.K m σ H fun y H1 => ∃ v, σ[i]? = some (some v) ∧ ∃ a o, v = .ref a ∧ DGet H1 a y o ∧ Q (.bl (neg ^^ o.isSome)) H1 := by
  obtain ⟨F, en, T, d, T', ok, e, k⟩ := h
  unfold mInD at e
  cases h1 : m en T with
  | none => rw [h1] at e; cases e
  | some p =>
    obtain ⟨d1, T1⟩ := p
    rw [h1] at e
    simp only [Option.bind_some] at e
    split at e
    · rename_i kvs ei
      split at e
      · rename_i hk
        cases e
        refine ⟨F, en, T, d1, _, ok, h1, fun F1 H1 y B1 n1 p1 => ?_⟩
        obtain ⟨b, vs, hv, q, _, _, _, ks, c, rfl, rfl, _, g⟩ := dget_of (ok.nxt n1 B1) ei p1 hk
        refine ⟨_, hv, b, _, rfl, g, ?_⟩
        have : (valV vs ks).isSome = (getKv kvs (.tuple (ks.map keyD))).isSome := by
          rcases kv_get (ks := ks) q with ⟨e1, e2⟩ | ⟨_, _, e1, e2, _⟩ <;> rw [e1, e2] <;> rfl
        rw [this]
        exact k F1 H1 _ B1 n1 (.bl _)
      · cases e
    · cases e
theorem d_inD (i : Nat) {x : Str} {p : Pos} (hu : X.A.units + 1 < cLine) (ha : PE X a (tD z X.K m)) (hN : X.N[i]? = some x := by rfl) (hv : Vis X.env.scope x := by first | exact Or.inl rfl | exact Or.inr (Or.inl rfl) | exact Or.inr (Or.inr rfl)) (hd : (x == ("__debug__" : Str)) = false := by decide) (hcd : (x == ("__classdict__" : Str)) = false := by decide) (hm : behindInMarks .In (.Name x p) = false := by rfl) :
    PE X (.Compare a [.In] [.Name x p] pos) (tD z X.K (mInD false i m)) := pe_to (pe_cmp (pc_din hu ha (pe_var (i := i) hN hv hd hcd)) hm) fun σ H Q q => by
  have := tD_inD q
  simp only [Bool.false_xor] at this
  exact this
theorem d_ninD (i : Nat) {x : Str} {p : Pos} (hu : X.A.units + 1 < cLine) (ha : PE X a (tD z X.K m)) (hN : X.N[i]? = some x := by rfl) (hv : Vis X.env.scope x := by first | exact Or.inl rfl | exact Or.inr (Or.inl rfl) | exact Or.inr (Or.inr rfl)) (hd : (x == ("__debug__" : Str)) = false := by decide) (hcd : (x == ("__classdict__" : Str)) = false := by decide) (hm : behindInMarks .NotIn (.Name x p) = false := by rfl) :
    PE X (.Compare a [.NotIn] [.Name x p] pos) (tD z X.K (mInD true i m)) := pe_to (pe_cmp (pc_dnotin hu ha (pe_var (i := i) hN hv hd hcd)) hm) fun σ H Q q => by
  have := tD_inD q
  simp only [Bool.true_xor] at this
  exact this
/-- d[k] -/
theorem d_getD (i : Nat) {x : Str} {p : Pos} (hu : X.A.units + 1 < cLine) (ha : PE X a (tD z X.K m)) (hs : NoSl a := by intro _ _; rfl) (hN : X.N[i]? = some x := by rfl) (hv : Vis X.env.scope x := by first | exact Or.inl rfl | exact Or.inr (Or.inl rfl) | exact Or.inr (Or.inr rfl)) (hd : (x == ("__debug__" : Str)) = false := by decide) (hcd : (x == ("__classdict__" : Str)) = false := by decide) :
    PE X (.Subscript (.Name x p) a pos) (tD z X.K (mGetD i m)) := pe_to (pe_dget hu (pe_var (i := i) hN hv hd hcd) ha hs) fun σ H Q q => by
  obtain ⟨F, en, T, d, T', ok, e, k⟩ := q
  unfold mGetD at e
  cases h1 : m en T with
  | none => rw [h1] at e; cases e
  | some p =>
    obtain ⟨d1, T1⟩ := p
    rw [h1] at e
    simp only [Option.bind_some] at e
    split at e
    · rename_i kvs ei
      split at e
      · rename_i hk
        cases h2 : getKv kvs d1 with
        | none => rw [h2] at e; cases e
        | some r =>
          rw [h2] at e
          cases e
          obtain ⟨v0, hv0, _⟩ := ok.sl i _ ei
          obtain ⟨v1, hv1, b0, vs0, e0, _⟩ := ok.sl i _ ei
          rw [hv0] at hv1
          cases hv1
          subst e0
          refine ⟨_, hv0, F, en, T, d1, _, ok, h1, fun F1 H1 y B1 n1 p1 => ?_⟩
          obtain ⟨b, vs, hv, q, _, _, _, ks, c, rfl, rfl, _, g⟩ := dget_of (ok.nxt n1 B1) ei p1 hk
          rw [hv0] at hv
          cases hv
          rcases kv_get (ks := ks) q with ⟨_, e2⟩ | ⟨v, r', e1, e2, pr⟩
          · rw [e2] at h2; cases h2
          · rw [e2] at h2
            cases h2
            rw [e1] at g
            exact ⟨b0, v, rfl, g, k F1 H1 v B1 n1 pr⟩
      · cases e
    · cases e
/-- d[k] = v -/
theorem s_putD (i : Nat) {x : Str} {p : Pos} {k v : Expr} (hu : X.A.units + 1 < cLine) (hv : PE X v (tD z X.K m1)) (hk : PE X k (tD z X.K m2)) (hs : swapsWith v (some (.Subscript (.Name x p) k pos')) pos.line X.env = pure false := by rfl) (hN : X.N[i]? = some x := by rfl) (hvi : Vis X.env.scope x := by first | exact Or.inl rfl | exact Or.inr (Or.inl rfl) | exact Or.inr (Or.inr rfl)) (hd : (x == ("__debug__" : Str)) = false := by decide) (hcd : (x == ("__classdict__" : Str)) = false := by decide) :
    PS X (.Assign [.Subscript (.Name x p) k pos'] v pos) (tS z X.K (mPutD i m2 m1)) := ps_to (ps_dput hu (pe_var (i := i) hN hvi hd hcd) hk hv hs) fun D σ H q => by
  obtain ⟨F, en, T, r, ok, e, kk⟩ := q
  unfold mPutD at e
  cases h1 : m1 en T with
  | none => rw [h1] at e; cases e
  | some p1 =>
    obtain ⟨d1, T1⟩ := p1
    rw [h1] at e
    simp only [Option.bind_some] at e
    cases h2 : m2 en T1 with
    | none => rw [h2] at e; cases e
    | some p2 =>
      obtain ⟨d2, T2⟩ := p2
      rw [h2] at e
      simp only [Option.bind_some] at e
      split at e
      · rename_i kvs ei
        split at e
        · rename_i hk
          cases e
          refine ⟨F, en, T, d1, T1, ok, h1, fun F1 H1 y1 B1 n1 q1 => ?_⟩
          have ok1 := ok.nxt n1 B1
          obtain ⟨v0, hv0, b0, vs0, e0, _⟩ := ok1.sl i _ ei
          subst e0
          refine ⟨_, hv0, F1, en, T1, d2, _, ok1, h2, fun F2 H2 y2 B2 n2 q2 => ?_⟩
          have ok2 := ok1.nxt n2 B2
          obtain ⟨b, vs, hv, kq, hb, hbf, hb0, ks, c, rfl, rfl, hc, g⟩ := dget_of ok2 ei q2 hk.1
          rw [hv0] at hv
          cases hv
          have hz := sizeLine_eq
          have q1' := dp_mono n2.s _ _ q1
          refine ⟨b0, _, rfl, DPut.t hb hc (by rw [kv_len kq]; omega), ?_⟩
          refine kk F2 _ σ ?_ (n1.s.trans n2.s)
          have hi : i < en.length := (List.getElem?_eq_some_iff.mp ei).1
          refine ⟨ok2.b.own hbf hb0, by rw [List.length_set]; exact ok2.len, fun j s ej => ?_, fun j l ds es w hjl e1 e2 => ?_, fun j l ds es e1 e2 => ?_⟩
          · by_cases hj : i = j
            · subst hj
              rw [List.getElem?_set_self hi] at ej
              cases ej
              exact ⟨_, hv0, b0, _, rfl, upd_same, hbf, hb0, kv_put q1' kq⟩
            · rw [List.getElem?_set_ne hj] at ej
              obtain ⟨w, hw, sq⟩ := ok2.sl j s ej
              refine ⟨w, hw, ?_⟩
              cases s with
              | dat d => exact sq
              | deck => exact sq
              | exc a => exact sq
              | cst d => exact sq
              | ownD ds => exact absurd (ok2.nd i j _ _ ei ej) hj
              | own ds =>
                obtain ⟨c', zs, ev, c1, c2, c3, c4⟩ := sq
                subst ev
                have nc : c' ≠ b0 := fun ec => by
                  subst ec
                  rw [hb] at c1
                  cases c1
                exact ⟨c', zs, rfl, by rw [upd_ne nc]; exact c1, c2, c3, c4⟩
          · have was : ∀ (j : Nat) (q : List PyData), (en.set i (some (.ownD (putKv kvs (.tuple (ks.map keyD)) d1))))[j]? = some (some (.own q)) → en[j]? = some (some (.own q)) := fun j q ej => by
              by_cases hj : i = j
              · subst hj
                rw [List.getElem?_set_self hi] at ej
                cases ej
              · rw [List.getElem?_set_ne hj] at ej
                exact ej
            exact ok2.ne j l ds es w hjl (was j _ e1) (was l _ e2)
          · have was : ∀ (j : Nat) (q : List (PyData × PyData)), (en.set i (some (.ownD (putKv kvs (.tuple (ks.map keyD)) d1))))[j]? = some (some (.ownD q)) → ∃ q', en[j]? = some (some (.ownD q')) := fun j q ej => by
              by_cases hj : i = j
              · subst hj
                exact ⟨kvs, ei⟩
              · rw [List.getElem?_set_ne hj] at ej
                exact ⟨q, ej⟩
            obtain ⟨q1, e1⟩ := was j _ e1
            obtain ⟨q2, e2⟩ := was l _ e2
            exact ok2.nd j l q1 q2 e1 e2
        · cases e
      · cases e
/-- d = {} -/
theorem s_newD (i : Nat) {x : Str} {p' : Pos} (hN : X.N.Nodup) (hi : X.N[i]? = some x := by rfl) (hx : Loc X.env.scope x := by first | exact Or.inl rfl | exact Or.inr rfl) (hs : swapsWith (.Dict [] [] p2) (some (.Name x p')) pos.line X.env = pure false := by rfl) (hf : X.fn x = true ∨ X.env.scope.names.lookup x = some .local := by first | exact .inl rfl | exact .inr rfl | assumption) :
    PS X (.Assign [.Name x p'] (.Dict [] [] p2) pos) (tS z X.K (mNewD i)) := ps_to (ps_set (i := i) hN hi hx pe_dnewT hs hf) fun D σ H q => by
  obtain ⟨F, en, T, r, ok, e, k⟩ := q
  unfold mNewD at e
  split at e
  · rename_i hn
    cases e
    intro d hd
    obtain ⟨B2, n2, f2, h2⟩ := ok.b.put (o := .dT []) hd
    exact k F _ _ ((ok.nxt n2 B2).setD hn upd_same f2 h2 .nil) (Same.refl _)
  · cases e
end
/-! ### {k: v}, one pair -/
def tDisp1 (tk tv : TE) : TE := fun σ H Q => ∀ p, H p = none → tk σ (upd H p (.dT [])) fun y H1 => tv σ H1 fun v H2 => H2 p = some (.dT []) ∧ ∃ ks b, y = .ref b ∧ H2 b = some (.tup (ks.map kV)) ∧ Q (.ref p) (upd H2 p (.dT [(ks, v)]))
theorem pe_disp1T {X : Cx} {pos : Pos} {k v : Expr} {tk tv : TE} (hu : X.A.units + 1 < cLine) (hk : PE X k tk) (hv : PE X v tv) : PE X (.Dict [some k] [v] pos) (tDisp1 tk tv) := by
  constructor
  intro pins s σ H Q I q
  have fresh := I.hok.fresh (Nat.le_refl s.heap.objs.size)
  have I1 := I.laid (a := s.heap.objs.size) (o := .dT []) (t' := s.toks) (h' := s.heap.push { cls := .type "dict", data := .dict #[] }) (fun _ _ e => Heap.get?_push_of_some _ e) (Nat.le_refl _) (dt_empty s.heap I.big)
  have hn := pairTrees_length [some k] [v] X.env pos rfl rfl
  rw [arm_eval_Dict, zip_pairTrees [some k] [v] X.env pos rfl rfl, dictDisplay_pairs (pairTrees [some k] [v] X.env pos) (fun e => by rw [e] at hn; cases hn) (by rw [hn]; show 1 < 17; omega)]
  refine wpAny_bind (wpAny_standAt (wpAny_bind (wpAny_subDictH (knd := tupleKind (mixKind X.prog X.w)) (Q := fun d s' => wpAny (model X.prog X.w) X.A (pure (Value.ref d)) (EP X pins σ Q) X.xe s') ?_ (by rw [hn]; show 1 ≤ 15; omega) ?_)))
  · show X.A.units < cLine
    omega
  · have run := (pps_cons (pos := pos) hk hv pps_nil).run pins _ σ _ (fun ps H2 => match ps with
      | [(y, v)] => H2 s.heap.objs.size = some (.dT []) ∧ ∃ ks b, y = .ref b ∧ H2 b = some (.tup (ks.map kV)) ∧ Q (.ref s.heap.objs.size) (upd H2 s.heap.objs.size (.dT [(ks, v)]))
      | _ => False) I1 (q _ fresh)
    refine wpAny_mono run (fun ws s2 h2 => ?_) fun _ _ h => h
    obtain ⟨ps, H2, I2, rel, h3⟩ := h2
    cases rel with
    | nil => exact h3.elim
    | @cons p0 w ps0 ws0 r1 r2 =>
      obtain ⟨y, vv⟩ := p0
      cases r2 with
      | cons _ _ => exact h3.elim
      | nil =>
        obtain ⟨e, ks, b, ey, hb, q2⟩ := h3
        subst ey
        obtain ⟨w1, w2⟩ := w
        obtain ⟨ra, rb⟩ := r1
        cases (show w1 = Value.ref b from ra)
        obtain ⟨z, hd, xs, kt, dd⟩ := dt_of I2.hok e
        cases kt
        refine ⟨[(ks, b, w2)], ⟨rfl, rfl, key_of I2.hok hb, trivial⟩, dd, fun h' tk dd' hs => wpAny_pure ⟨.ref _, _, ?_, rfl, q2⟩⟩
        obtain ⟨ob, es, ep, o1, o2, o3, o4, _, o5⟩ := dd'
        have hz := sizeLine_eq
        refine d_write I2 (by rw [e]; exact True.intro) hs ⟨ob, o1⟩ ⟨by show 1 ≤ sizeLine; omega, hd, [(ks, b, w2)], .cons ⟨rfl, ?_, rb⟩ .nil, ob, es, ep, o1, o2, o3, o4, o5⟩
        rw [upd_ne (fun ec => by subst ec; rw [e] at hb; cases hb)]
        exact hb
/-! ### d = {k: v} -/
theorem Ok.updFree {z : Cz} {K : PySem.W.Frag} {F H : Hp} {σ : St} {en : En} {T : Dk} {p : Addr} {o : HO} (k : Ok z K F H σ en T) (hf : F p = none) (h0 : z.H0 p = none) (h1 : ∀ (j : Nat) (ds : List PyData), en[j]? = some (some (.own ds)) → σ[j]? ≠ some (some (.ref p))) (h2 : ∀ (j : Nat) (ds : List (PyData × PyData)), en[j]? = some (some (.ownD ds)) → σ[j]? ≠ some (some (.ref p))) :
    Ok z K F (upd H p o) σ en T := by
  refine ⟨k.b.own hf h0, k.len, fun j s e => ?_, k.ne, k.nd⟩
  obtain ⟨v, hv, q⟩ := k.sl j s e
  refine ⟨v, hv, ?_⟩
  cases s with
  | dat d => exact q
  | deck => exact q
  | exc a => exact q
  | cst d => exact q
  | own ds =>
    obtain ⟨c, zs, rfl, c1, c2, c3, c4⟩ := q
    exact ⟨c, zs, rfl, by rw [upd_ne (show c ≠ p from fun ec => h1 j ds e (by rw [← ec]; exact hv))]; exact c1, c2, c3, c4⟩
  | ownD ds =>
    obtain ⟨c, zs, rfl, c1, c2, c3, c4⟩ := q
    exact ⟨c, zs, rfl, by rw [upd_ne (show c ≠ p from fun ec => h2 j ds e (by rw [← ec]; exact hv))]; exact c1, c2, c3, c4⟩
def mNewD1 (i : Nat) (mk mv : ME) : MS := fun en T => (mk en T).bind fun k => (mv en k.2).bind fun v => if (keyL k.1).isSome = true ∧ noD (en.set i none) = true then some (.nx (en.set i (some (.ownD [(k.1, v.1)]))) v.2) else none
theorem s_newD1 (i : Nat) {X : Cx} {z : Cz} {pos p2 p' : Pos} {mk mv : ME} {x : Str} {k v : Expr} (hu : X.A.units + 1 < cLine) (hN : X.N.Nodup) (hk : PE X k (tD z X.K mk)) (hv : PE X v (tD z X.K mv)) (hi : X.N[i]? = some x := by rfl) (hx : Loc X.env.scope x := by first | exact Or.inl rfl | exact Or.inr rfl) (hs : swapsWith (.Dict [some k] [v] p2) (some (.Name x p')) pos.line X.env = pure false := by rfl) (hf : X.fn x = true ∨ X.env.scope.names.lookup x = some .local := by first | exact .inl rfl | exact .inr rfl | assumption) :
    PS X (.Assign [.Name x p'] (.Dict [some k] [v] p2) pos) (tS z X.K (mNewD1 i mk mv)) := ps_to (ps_set (i := i) hN hi hx (pe_disp1T hu hk hv) hs hf) fun D σ H q => by
  obtain ⟨F, en, T, r, ok, e, kk⟩ := q
  unfold mNewD1 at e
  cases h1 : mk en T with
  | none => rw [h1] at e; cases e
  | some p1 =>
    obtain ⟨d1, T1⟩ := p1
    rw [h1] at e
    simp only [Option.bind_some] at e
    cases h2 : mv en T1 with
    | none => rw [h2] at e; cases e
    | some p2 =>
      obtain ⟨d2, T2⟩ := p2
      rw [h2] at e
      simp only [Option.bind_some] at e
      split at e
      · rename_i hc
        cases e
        intro p hp
        obtain ⟨B0, n0, f0, g0⟩ := ok.b.put (o := .dT []) hp
        have ok0 := ok.nxt n0 B0
        have np1 : ∀ (j : Nat) (ds : List PyData), en[j]? = some (some (.own ds)) → σ[j]? ≠ some (some (.ref p)) := fun j ds ej hj => by
          obtain ⟨w, hw, c, zs, ec, c1, _⟩ := ok.sl j _ ej
          rw [hj] at hw
          cases hw
          cases ec
          rw [hp] at c1
          cases c1
        have np2 : ∀ (j : Nat) (ds : List (PyData × PyData)), en[j]? = some (some (.ownD ds)) → σ[j]? ≠ some (some (.ref p)) := fun j ds ej hj => by
          obtain ⟨w, hw, c, zs, ec, c1, _⟩ := ok.sl j _ ej
          rw [hj] at hw
          cases hw
          cases ec
          rw [hp] at c1
          cases c1
        have ndk : z.isDk p = false := by
          cases hd : z.isDk p with
          | true => exact absurd g0 (ok.b.dkin p hd)
          | false => rfl
        refine ⟨F, en, T, d1, T1, ok0, h1, fun F1 H1 y B1 n1 q1 => ⟨F1, en, T1, d2, _, ok0.nxt n1 B1, h2, fun F2 H2 w B2 n2 q2 => ?_⟩⟩
        have n12 := n1.trans n2 B2
        have ok2 := ok0.nxt n12 B2
        have hp2 : H2 p = some (.dT []) := n12.st p _ upd_same ndk
        have fp2 : F2 p = none := by
          cases q : F2 p with
          | none => rfl
          | some o =>
            rcases n12.nw p (by rw [q]; simp) with h | h
            · exact absurd f0 h
            · rw [upd_same] at h; rcases h with h | ⟨_, h⟩ <;> cases h
        obtain ⟨ks, hks⟩ := isSome_ex hc.1
        obtain ⟨c, rfl, hcc⟩ := rp_key (dp_mono n2.s _ _ q1) hks
        have ed := keyL_eq hks
        subst ed
        refine ⟨hp2, ks, c, rfl, B2.fh _ _ hcc, ?_⟩
        have okU := ok2.updFree (p := p) (o := .dT [(ks, w)]) fp2 g0 np1 np2
        exact kk F2 _ _ (okU.setD hc.2 upd_same fp2 g0 (.cons q2 .nil)) n12.s
      · cases e
end LQ

set_option Elab.async false
set_option linter.all false
set_option maxRecDepth 100000
set_option maxHeartbeats 4000000
/-! dicts as data: told, asked -/
namespace LQ
open PySem PySem.Spec PyProof.Rows L2
def mRetD (i : Nat) : MS := fun en T => match en[i]? with
  | some (some (.ownD kvs)) => some (.rt (.dict kvs) T)
  | _ => none
def gInKv (neg : Bool) : G2 := fun d e => match e with
  | .dict (p :: kvs) => if (keyL d).isSome = true then some (.bool (neg ^^ (getKv (p :: kvs) d).isSome)) else none
  | _ => none
def mIxKv (m1 m2 : ME) : ME := fun en T => (m1 en T).bind fun p => (m2 en p.2).bind fun q => match p.1 with
  | .dict (x :: kvs) => if (keyL q.1).isSome = true then (getKv (x :: kvs) q.1).map fun e => (e, q.2) else none
  | _ => none
def mGetKv (m1 m2 : ME) : ME := fun en T => (m1 en T).bind fun p => (m2 en p.2).bind fun q => match p.1 with
  | .dict (x :: kvs) => if (keyL q.1).isSome = true then some ((getKv (x :: kvs) q.1).getD .none, q.2) else none
  | _ => none
section
variable {X : Cx} {z : Cz} {a b : Expr} {m1 m2 : ME} {pos pos' : Pos}
theorem s_retD (i : Nat) {x : Str} (hN : X.N[i]? = some x := by rfl) (hv : Vis X.env.scope x := by first | exact Or.inl rfl | exact Or.inr (Or.inl rfl) | exact Or.inr (Or.inr rfl)) (hd : (x == ("__debug__" : Str)) = false := by decide)
    (hcd : (x == ("__classdict__" : Str)) = false := by decide) : PS X (.Return (some (.Name x pos')) pos) (tS z X.K (mRetD i)) := ps_to (ps_ret (pe_var (i := i) hN hv hd hcd)) fun D σ H q => by
  obtain ⟨F, en, T, r, ok, e, k⟩ := q
  unfold mRetD at e
  split at e
  · rename_i kvs e'
    cases e
    obtain ⟨v, hv, c, vs, ex, h1, h2, h3, p⟩ := ok.sl i _ e'
    subst ex
    have s : Same F (upd F c (.dT vs)) := fun w o h => by rw [upd_ne (ne_of_none h h2)]; exact h
    exact ⟨.ref c, hv, k _ H _ (ok.b.freeze h1 h3) (.dcT upd_same (kv_mono s p))⟩
  · cases e
/-- what a look-up in a told dict rests on -/
theorem dgetD_of {F H : Hp} {x y : V} {p : PyData × PyData} {kvs : List (PyData × PyData)} {d : PyData} (fh : Same F H) (hx : Rp X.K F x (.dict (p :: kvs))) (hy : Rp X.K F y d) (hk : (keyL d).isSome = true) :
    ∃ c vs ks, x = .ref c ∧ KvOk X.K F vs (p :: kvs) ∧ H c = some (.dT vs) ∧ d = .tuple (ks.map keyD) ∧ DGet H c y (valV vs ks) := by
  obtain ⟨ks, hks⟩ := isSome_ex hk
  obtain ⟨w, rfl, hw⟩ := rp_key hy hks
  cases hx with
  | dcT hc hv => exact ⟨_, _, ks, rfl, hv, fh _ _ hc, keyL_eq hks, DGet.t (fh _ _ hc) (fh _ _ hw)⟩
theorem tD_inKv {neg : Bool} {σ : St} {H : Hp} {Q : VK} (h : tD z X.K (mBin (gInKv neg) m1 m2) σ H Q) : tD z X.K m1 σ H fun y H1 => tD z X.K m2 σ H1 fun x H2 => ∃ a o, x = .ref a ∧ DGet H2 a y o ∧ Q (.bl (neg ^^ o.isSome)) H2 := by
  obtain ⟨F, en, T, d, T', ok, e, k⟩ := h
  obtain ⟨d1, T1, d2, e1, e2, e3⟩ := mBin_some e
  refine ⟨F, en, T, d1, T1, ok, e1, fun F1 H1 y B1 n1 p1 => ⟨F1, en, T1, d2, T', ok.nxt n1 B1, e2, fun F2 H2 x B2 n2 p2 => ?_⟩⟩
  unfold gInKv at e3
  split at e3
  · split at e3
    · rename_i hk
      cases e3
      obtain ⟨c, vs, ks, rfl, q, hc, rfl, g⟩ := dgetD_of B2.fh p2 (dp_mono n2.s _ _ p1) hk
      refine ⟨c, _, rfl, g, ?_⟩
      have := kv_get (ks := ks) q
      rename_i p0 kvs0
      have es : (valV vs ks).isSome = (getKv (p0 :: kvs0) (.tuple (ks.map keyD))).isSome := by
        rcases this with ⟨e1, e2⟩ | ⟨_, _, e1, e2, _⟩ <;> rw [e1, e2] <;> rfl
      rw [es]
      exact k F2 H2 _ B2 (n1.trans n2 B2) (.bl _)
    · cases e3
  · cases e3
theorem d_inKv (hu : X.A.units + 1 < cLine) (ha : PE X a (tD z X.K m1)) (hb : PE X b (tD z X.K m2)) (hm : behindInMarks .In b = false := by rfl) : PE X (.Compare a [.In] [b] pos) (tD z X.K (mBin (gInKv false) m1 m2)) := pe_to (pe_cmp (pc_din hu ha hb) hm) fun σ H Q q => by
  have := tD_inKv q
  simp only [Bool.false_xor] at this
  exact this
theorem d_ninKv (hu : X.A.units + 1 < cLine) (ha : PE X a (tD z X.K m1)) (hb : PE X b (tD z X.K m2)) (hm : behindInMarks .NotIn b = false := by rfl) : PE X (.Compare a [.NotIn] [b] pos) (tD z X.K (mBin (gInKv true) m1 m2)) := pe_to (pe_cmp (pc_dnotin hu ha hb) hm) fun σ H Q q => by
  have := tD_inKv q
  simp only [Bool.true_xor] at this
  exact this
/-- e[k], e a told dict -/
theorem d_ixKv (hu : X.A.units + 1 < cLine) (ha : PE X a (tD z X.K m1)) (hb : PE X b (tD z X.K m2)) (hs : NoSl b := by intro _ _; rfl) : PE X (.Subscript a b pos) (tD z X.K (mIxKv m1 m2)) := pe_to (pe_dget hu ha hb hs) fun σ H Q q => by
  obtain ⟨F, en, T, d, T', ok, e, k⟩ := q
  unfold mIxKv at e
  cases h1 : m1 en T with
  | none => rw [h1] at e; cases e
  | some p =>
    obtain ⟨d1, T1⟩ := p
    rw [h1] at e
    simp only [Option.bind_some] at e
    cases h2 : m2 en T1 with
    | none => rw [h2] at e; cases e
    | some p =>
      obtain ⟨d2, T2⟩ := p
      rw [h2] at e
      simp only [Option.bind_some] at e
      split at e
      · rename_i p0 kvs0
        split at e
        · rename_i hk
          cases h3 : getKv (p0 :: kvs0) d2 with
          | none => rw [h3] at e; cases e
          | some r =>
            rw [h3] at e
            cases e
            refine ⟨F, en, T, _, T1, ok, h1, fun F1 H1 x B1 n1 p1 => ⟨F1, en, T1, d2, _, ok.nxt n1 B1, h2, fun F2 H2 y B2 n2 p2 => ?_⟩⟩
            obtain ⟨c, vs, ks, rfl, q, hc, rfl, g⟩ := dgetD_of B2.fh (dp_mono n2.s _ _ p1) p2 hk
            rcases kv_get (ks := ks) q with ⟨_, e2⟩ | ⟨v, r', e1, e2, pr⟩
            · rw [e2] at h3; cases h3
            · rw [e2] at h3
              cases h3
              rw [e1] at g
              exact ⟨c, v, rfl, g, k F2 H2 v B2 (n1.trans n2 B2) pr⟩
        · cases e
      · cases e
/-- e.get(k), e a told dict -/
theorem d_getKv {apos cpos : Pos} (hu : X.A.units + 1 < cLine) (ha : PE X a (tD z X.K m1)) (hb : PE X b (tD z X.K m2)) (m : M1 X a "get" apos b cpos) : PE X (.Call (.Attribute a "get" apos) [b] [] cpos) (tD z X.K (mGetKv m1 m2)) := pe_to (pe_dget1 hu ha hb m) fun σ H Q q => by
  obtain ⟨F, en, T, d, T', ok, e, k⟩ := q
  unfold mGetKv at e
  cases h1 : m1 en T with
  | none => rw [h1] at e; cases e
  | some p =>
    obtain ⟨d1, T1⟩ := p
    rw [h1] at e
    simp only [Option.bind_some] at e
    cases h2 : m2 en T1 with
    | none => rw [h2] at e; cases e
    | some p =>
      obtain ⟨d2, T2⟩ := p
      rw [h2] at e
      simp only [Option.bind_some] at e
      split at e
      · rename_i p0 kvs0
        split at e
        · rename_i hk
          cases e
          refine ⟨F, en, T, _, T1, ok, h1, fun F1 H1 x B1 n1 p1 => ?_⟩
          cases p1 with
          | dcT hc hv =>
            refine ⟨_, rfl, .inr ⟨_, .inl (B1.fh _ _ hc)⟩, F1, en, T1, d2, _, ok.nxt n1 B1, h2, fun F2 H2 y B2 n2 p2 => ?_⟩
            obtain ⟨c, vs, ks, ec, q, hc', rfl, g⟩ := dgetD_of B2.fh (dp_mono n2.s _ _ (Rp.dcT hc hv)) p2 hk
            cases ec
            refine ⟨_, g, ?_⟩
            rcases kv_get (ks := ks) q with ⟨e1, e2⟩ | ⟨v, r', e1, e2, pr⟩
            · rw [e1]
              rw [e2] at k
              exact k F2 H2 _ B2 (n1.trans n2 B2) .non
            · rw [e1]
              rw [e2] at k
              exact k F2 H2 _ B2 (n1.trans n2 B2) pr
        · cases e
      · cases e
end
end LQ

set_option Elab.async false
set_option linter.all false
set_option maxRecDepth 100000
set_option maxHeartbeats 4000000
/-! lists of one's own: pop(i), insert; len of a told dict -/
namespace LQ
open PySem PySem.Spec PyProof.Rows L2
theorem room1 {k : Nat} {A : Around} (r : Room k A) : A.units + 1 < cLine := by have := r.un; omega
theorem dpAll_erase {K : PySem.W.Frag} {F : Hp} : ∀ {ds : List PyData} {vs : List V} (n : Nat), RpAll K F vs ds → RpAll K F (vs.eraseIdx n) (ds.eraseIdx n)
  | [], _, _, h => by cases h; exact .nil
  | _ :: ds, _, 0, h => by
    cases h with
    | cons _ h => exact h
  | _ :: ds, _, n + 1, h => by
    cases h with
    | cons a h => exact .cons a (dpAll_erase n h)
/-- y = x.pop(e), x a list of one's own -/
def mPop (i : Nat) (m : ME) (g : MG) : MS := fun en T => match en[i]? with
  | some (some (.own ds)) => (m en T).bind fun p => match p.1 with
    | .int k => if -(2 ^ 63) ≤ k ∧ k < 2 ^ 63 then (seqIndex? k ds.length).bind fun j => (ds[j]?).bind fun d => (g d (en.set i (some (.own (ds.eraseIdx j))))).map fun en' => .nx en' p.2 else none
    | _ => none
  | _ => none
/-- x.insert(e1, e), x a list of one's own -/
def mIns (i : Nat) (m1 m : ME) : MS := fun en T => match en[i]? with
  | some (some (.own ds)) => (m1 en T).bind fun q => (m en q.2).bind fun p => match q.1 with
    | .int k => if 0 ≤ k ∧ k < 2 ^ 63 ∧ ds.length < 16777216 then some (.nx (en.set i (some (.own (ds.take k.toNat ++ [p.1] ++ ds.drop k.toNat)))) p.2) else none
    | _ => none
  | _ => none
section
variable {X : Cx} {z : Cz} {a b : Expr} {m m1 m2 : ME} {pos pos' : Pos}
theorem s_pop (i : Nat) {tg c : Expr} {g : MG} {vs : List Nat} (hc : PE X c (tBM X.K "list" rPopAt (tVar i) (tCons (tD z X.K m) tNil))) (hg : PG X tg (tG z X.K vs g)) (hs : swapsWithSole [tg] c pos.line X.env = pure false := by rfl) (hw : swappedStores [tg] c X.env = pure none := by rfl)
    (h1 : (assignEach [tg] X.env).map (·.2) = [assign tg X.env] := by rfl) : PS X (.Assign [tg] c pos) (tS z X.K (mPop i m g)) := ps_to (ps_asg hc hg hs hw h1) fun D σ H q => by
  obtain ⟨F, en, T, r, ok, e, k⟩ := q
  unfold mPop at e
  split at e
  · rename_i ds e1
    obtain ⟨v, hv, b, xs, ev, h1, h2, h3, px⟩ := ok.sl i _ e1
    subst ev
    cases h4 : m en T with
    | none => rw [h4] at e; cases e
    | some r =>
      obtain ⟨d, T1⟩ := r
      rw [h4] at e
      simp only [Option.bind_some] at e
      split at e
      · rename_i kk
        split at e
        · rename_i hr
          cases h5 : seqIndex? kk ds.length with
          | none => rw [h5] at e; cases e
          | some j =>
            rw [h5] at e
            simp only [Option.bind_some] at e
            cases h6 : ds[j]? with
            | none => rw [h6] at e; cases e
            | some d0 =>
              rw [h6] at e
              simp only [Option.bind_some] at e
              cases h7 : g d0 (en.set i (some (.own (ds.eraseIdx j)))) with
              | none => rw [h7] at e; cases e
              | some en' =>
                rw [h7] at e
                cases e
                refine ⟨.ref b, hv, .inl ⟨rfl, _, .inl (.inl h1)⟩, F, en, T, _, _, ok, h4, fun F1 H1 w B1 n1 p1 => ?_⟩
                cases p1
                have ok1 := ok.nxt n1 B1
                have nd : z.isDk b = false := by
                  cases hd : z.isDk b with
                  | true => exact absurd h3 (B1.dkin b hd)
                  | false => rfl
                have px1 := dpAll_mono n1.s _ _ px
                obtain ⟨y, hy, py⟩ := dpAll_get' px1 h6
                refine ⟨b, xs, kk, j, y, rfl, rfl, n1.st b _ h1 nd, hr.1, hr.2, by rw [dpAll_len px]; exact h5, hy, ?_⟩
                exact ⟨F1, _, _, d0, en', ok1.change e1 hv (dpAll_erase j px1), py, h7, fun σ' ok' _ => k F1 _ σ' ok' n1.s⟩
        · cases e
      · cases e
  · cases e
theorem s_ins (i : Nat) {c : Expr} (hc : PE X c (tBM X.K "list" (fun x vs H Q => ∃ (l : Addr) (xs : List V) (i : Int) (y : V), x = .ref l ∧ vs = [.int i, y] ∧ H l = some (.lst xs) ∧ xs.length < sizeLine ∧ 0 ≤ i ∧ i < 2 ^ 63 ∧
    Q .non (upd H l (.lst (xs.take i.toNat ++ [y] ++ xs.drop i.toNat)))) (tVar i) (tCons (tD z X.K m1) (tCons (tD z X.K m) tNil)))) (hs : swapsWith c none pos.line X.env = pure false := by rfl) : PS X (.Expr c pos) (tS z X.K (mIns i m1 m)) :=
  ps_to (ps_expr hc hs) fun D σ H h => by
    obtain ⟨F, en, T, r, ok, e, k⟩ := h
    unfold mIns at e
    split at e
    · rename_i ds e1
      obtain ⟨v, hv, b, xs, ev, h1, h2, h3, px⟩ := ok.sl i _ e1
      subst ev
      cases h4 : m1 en T with
      | none => rw [h4] at e; cases e
      | some r =>
        obtain ⟨d1, T1⟩ := r
        rw [h4] at e
        simp only [Option.bind_some] at e
        cases h5 : m en T1 with
        | none => rw [h5] at e; cases e
        | some r =>
          obtain ⟨d2, T2⟩ := r
          rw [h5] at e
          simp only [Option.bind_some] at e
          split at e
          · rename_i kk
            split at e
            · rename_i hr
              cases e
              refine ⟨.ref b, hv, .inl ⟨rfl, _, .inl (.inl h1)⟩, F, en, T, _, T1, ok, h4, fun F1 H1 w B1 n1 p1 => ⟨F1, en, T1, d2, _, ok.nxt n1 B1, h5, fun F2 H2 u B2 n2 p2 => ?_⟩⟩
              cases p1
              have n := n1.trans n2 B2
              have ok2 := ok.nxt n B2
              have nd : z.isDk b = false := by
                cases hd : z.isDk b with
                | true => exact absurd h3 (B2.dkin b hd)
                | false => rfl
              have px2 := dpAll_mono n.s _ _ px
              refine ⟨b, xs, kk, u, rfl, rfl, n.st b _ h1 nd, by have := dpAll_len px; have := sizeLine_eq; omega, hr.1, hr.2.1, ?_⟩
              exact k F2 _ σ (ok2.change e1 hv (dpAll_app (dpAll_app (dpAll_take _ px2) (.cons p2 .nil)) (dpAll_drop _ px2))) n.s
            · cases e
          · cases e
    · cases e
/-! tests -/
theorem q_inD (i : Nat) {x : Str} {p : Pos} (hu : X.A.units + 1 < cLine) (ha : PE X a (tD z X.K m)) (hN : X.N[i]? = some x := by rfl) (hv : Vis X.env.scope x := by first | exact Or.inl rfl | exact Or.inr (Or.inl rfl) | exact Or.inr (Or.inr rfl)) (hd : (x == ("__debug__" : Str)) = false := by decide) (hcd : (x == ("__classdict__" : Str)) = false := by decide) (hm : behindInMarks .In (.Name x p) = false := by rfl) :
    PT X (.Compare a [.In] [.Name x p] pos) (tQ z X.K (mQ (mInD false i m))) := pt_to (pt_cmp (pc_din hu ha (pe_var (i := i) hN hv hd hcd)) hm) fun σ H Q q => by
  have := tD_inD (tQ_of q)
  simp only [Bool.false_xor] at this
  exact this
theorem q_ninD (i : Nat) {x : Str} {p : Pos} (hu : X.A.units + 1 < cLine) (ha : PE X a (tD z X.K m)) (hN : X.N[i]? = some x := by rfl) (hv : Vis X.env.scope x := by first | exact Or.inl rfl | exact Or.inr (Or.inl rfl) | exact Or.inr (Or.inr rfl)) (hd : (x == ("__debug__" : Str)) = false := by decide) (hcd : (x == ("__classdict__" : Str)) = false := by decide) (hm : behindInMarks .NotIn (.Name x p) = false := by rfl) :
    PT X (.Compare a [.NotIn] [.Name x p] pos) (tQ z X.K (mQ (mInD true i m))) := pt_to (pt_cmp (pc_dnotin hu ha (pe_var (i := i) hN hv hd hcd)) hm) fun σ H Q q => by
  have := tD_inD (tQ_of q)
  simp only [Bool.true_xor] at this
  exact this
theorem q_inKv (hu : X.A.units + 1 < cLine) (ha : PE X a (tD z X.K m1)) (hb : PE X b (tD z X.K m2)) (hm : behindInMarks .In b = false := by rfl) : PT X (.Compare a [.In] [b] pos) (tQ z X.K (mQ (mBin (gInKv false) m1 m2))) := pt_to (pt_cmp (pc_din hu ha hb) hm) fun σ H Q q => by
  have := tD_inKv (tQ_of q)
  simp only [Bool.false_xor] at this
  exact this
theorem q_ninKv (hu : X.A.units + 1 < cLine) (ha : PE X a (tD z X.K m1)) (hb : PE X b (tD z X.K m2)) (hm : behindInMarks .NotIn b = false := by rfl) : PT X (.Compare a [.NotIn] [b] pos) (tQ z X.K (mQ (mBin (gInKv true) m1 m2))) := pt_to (pt_cmp (pc_dnotin hu ha hb) hm) fun σ H Q q => by
  have := tD_inKv (tQ_of q)
  simp only [Bool.true_xor] at this
  exact this
end
end LQ

set_option Elab.async false
set_option linter.all false
set_option maxRecDepth 100000
set_option maxHeartbeats 4000000
/-! the shapes: what the smallest functions tell -/
namespace LQ
open PySem PySem.Spec PyProof.Rows L2
/-! ### more of mirrors at work: values, the deck as it was -/
theorem ev_chain {g g' : G2} {m1 m2 m3 : ME} {en : En} {T T1 T2 : Dk} {d1 d2 d3 : PyData} {b1 b2 : Bool} (h1 : m1 en T = some (d1, T1)) (h2 : m2 en T1 = some (d2, T2)) (e : g d1 d2 = some (.bool b1)) (h3 : m3 en T2 = some (d3, T2)) (e' : g' d2 d3 = some (.bool b2)) : mChain g g' m1 m2 m3 en T = some (.bool (b1 && b2), T2) := by
  unfold mChain
  rw [h1]
  show ((m2 en T1).bind fun q => (g d1 q.1).bind _) = _
  rw [h2]
  show (g d1 d2).bind _ = _
  rw [e]
  cases b1 with
  | true =>
    show ((m3 en T2).bind fun r => (g' d2 r.1).map fun b => (b, r.2)) = _
    rw [h3]
    show (g' d2 d3).map _ = _
    rw [e']
    rfl
  | false => rfl
theorem ev_andV {m1 m2 : ME} {en : En} {T T1 : Dk} {b1 b2 : Bool} (h1 : m1 en T = some (.bool b1, T1)) (h2 : b1 = true → m2 en T1 = some (.bool b2, T1)) : mAndV m1 m2 en T = some (.bool (b1 && b2), T1) := by
  unfold mAndV
  rw [h1]
  cases b1 with
  | true => exact h2 rfl
  | false => rfl
theorem ev_orV {m1 m2 : ME} {en : En} {T T1 : Dk} {b1 b2 : Bool} (h1 : m1 en T = some (.bool b1, T1)) (h2 : b1 = false → m2 en T1 = some (.bool b2, T1)) : mOrV m1 m2 en T = some (.bool (b1 || b2), T1) := by
  unfold mOrV
  rw [h1]
  cases b1 with
  | true => rfl
  | false => exact h2 rfl
theorem ev_or {m1 m2 : MT} {en : En} {T T1 : Dk} {b1 b2 : Bool} (h1 : m1 en T = some (b1, T1)) (h2 : b1 = false → m2 en T1 = some (b2, T1)) : mOr m1 m2 en T = some (b1 || b2, T1) := by
  unfold mOr
  rw [h1]
  cases b1 with
  | true => rfl
  | false => exact h2 rfl
theorem ev_and {m1 m2 : MT} {en : En} {T T1 : Dk} {b1 b2 : Bool} (h1 : m1 en T = some (b1, T1)) (h2 : b1 = true → m2 en T1 = some (b2, T1)) : mAnd m1 m2 en T = some (b1 && b2, T1) := by
  unfold mAnd
  rw [h1]
  cases b1 with
  | true => exact h2 rfl
  | false => rfl
theorem ev_qb {m : ME} {en : En} {T T' : Dk} {b : Bool} (h : m en T = some (.bool b, T')) : mQ m en T = some (b, T') := by
  unfold mQ
  rw [h]
theorem ev_cf1 {M : MF} {m : ME} {en : En} {T T' : Dk} {d : PyData} {r : PyData × Dk} (h : m en T = some (d, T')) (e : M [.dat d] T' = some r) : mCf M (mAd m mN0) en T = some r := by
  unfold mCf mAd mN0
  rw [h]
  exact e
theorem ev_cf2 {M : MF} {m1 m2 : ME} {en : En} {T T1 T2 : Dk} {d1 d2 : PyData} {r : PyData × Dk} (h1 : m1 en T = some (d1, T1)) (h2 : m2 en T1 = some (d2, T2)) (e : M [.dat d1, .dat d2] T2 = some r) : mCf M (mAd m1 (mAd m2 mN0)) en T = some r := by
  unfold mCf mAd mN0
  rw [h1]
  show ((((m2 en T1).bind fun p => (some (([] : List Sl), p.2)).map fun q => (Sl.dat p.1 :: q.1, q.2)).map fun q => (Sl.dat d1 :: q.1, q.2)).bind fun p => M p.1 p.2) = _
  rw [h2]
  exact e
theorem ev_lc {vs : List Nat} {mi : MA} {mt : MG} {mq : MT} {me : ME} {en : En} {T T1 : Dk} {ds : List PyData} {r : List PyData × Dk} (h : mi en T = some (ds, T1)) (hl : ds.length ≤ 16777216) (e : mLoop mt mq me (wipeE en vs) ds T1 = some r) : mLc vs mi mt mq me en T = some r := by
  unfold mLc
  rw [h]
  show (if ds.length ≤ 16777216 then _ else _) = _
  rw [if_pos hl]
  exact e
theorem ev_it {m : ME} {en : En} {T T1 : Dk} {d : PyData} {ds : List PyData} (h : m en T = some (d, T1)) (e : itemsD d = some ds) : mIt m en T = some (ds, T1) := by
  unfold mIt
  rw [h]
  show (itemsD d).map _ = _
  rw [e]
  rfl
theorem ev_L {m : MA} {en : En} {T T1 : Dk} {ds : List PyData} (h : m en T = some (ds, T1)) : mL m en T = some (.list ds, T1) := by
  unfold mL
  rw [h]
  rfl
/-! ### whole numbers, tuples -/
def isWh : PyData → Bool
  | .int _ => true
  | _ => false
def isTupN (n : Int) : PyData → Bool
  | .tuple ds => (ds.length : Int) == n
  | _ => false
theorem v_isi_int (d : PyData) : kitB (tyD d) "int" = some (match d with | .int _ => true | .bool _ => true | _ => false) := by
  cases d <;> rfl
theorem v_isi_bool (d : PyData) : kitB (tyD d) "bool" = some (match d with | .bool _ => true | _ => false) := by
  cases d <;> rfl
theorem v_isi_str (d : PyData) : kitB (tyD d) "str" = some (match d with | .str _ => true | _ => false) := by
  cases d <;> rfl
theorem v_isi_tuple (d : PyData) : kitB (tyD d) "tuple" = some (match d with | .tuple _ => true | _ => false) := by
  cases d <;> rfl
theorem v_isi_list (d : PyData) : kitB (tyD d) "list" = some (match d with | .list _ => true | _ => false) := by
  cases d <;> rfl
def V_is_whole : MF := mFun 1 (mRet (mAndV (mIsi "int" (mVar 0)) (mNotV (mIsi "bool" (mVar 0)))))
theorem v_is_whole (d : PyData) (T : Dk) : V_is_whole [.dat d] T = some (.bool (isWh d), T) := by
  cases d <;> rfl
def V_is_tuple_of : MF := mFun 2 (mRet (mAndV (mIsi "tuple" (mVar 0)) (mBin gEq (mCall gLen (mCons (mVar 0) mNil)) (mVar 1))))
theorem v_is_tuple_of (d : PyData) (n : Int) (T : Dk) : V_is_tuple_of [.dat d, .dat (.int n)] T = some (.bool (isTupN n d), T) := by
  cases d <;> rfl
/-! ### names -/
def letD (c : Nat) : Bool := decide (97 ≤ c) && decide (c ≤ 122)
def nmS (s : Str) : Bool := decide (1 ≤ s.length) && decide (s.length ≤ 8) && !(s == "if") && !(s == "and") && s.cps.toList.all letD
def nmD : PyData → Bool
  | .str s => nmS s
  | _ => false
/-- no text in it that is too long -/
def shortD : PyData → Prop
  | .str s => s.length ≤ 16777216
  | _ => True
theorem lt_one (c n : Nat) : ([c] < [n]) ↔ c < n := by
  constructor
  · intro h
    cases h with
    | rel h => exact h
    | cons h => cases h
  · exact fun h => .rel h
theorem v_le_a (c : Nat) : (gS fun i j => PyData.bool (!decide (j.cps.toList < i.cps.toList))) (.str "a") (.str ⟨#[c]⟩) = some (.bool (decide (97 ≤ c))) := by
  show some (PyData.bool (!decide ([c] < (Str.ofString "a").cps.toList))) = _
  rw [show (Str.ofString "a").cps.toList = [97] by decide +kernel]
  congr 2
  rw [Bool.eq_iff_iff]
  simp only [Bool.not_eq_true', decide_eq_false_iff_not, decide_eq_true_eq, lt_one]
  omega
theorem v_le_z (c : Nat) : (gS fun i j => PyData.bool (!decide (j.cps.toList < i.cps.toList))) (.str ⟨#[c]⟩) (.str "z") = some (.bool (decide (c ≤ 122))) := by
  show some (PyData.bool (!decide ((Str.ofString "z").cps.toList < [c]))) = _
  rw [show (Str.ofString "z").cps.toList = [122] by decide +kernel]
  congr 2
  rw [Bool.eq_iff_iff]
  simp only [Bool.not_eq_true', decide_eq_false_iff_not, decide_eq_true_eq, lt_one]
  omega
theorem bools_map {α : Type} (f : α → Bool) : ∀ l : List α, boolsOf (l.map fun x => PyData.bool (f x)) = some (l.map f)
  | [] => rfl
  | x :: l => by
    show (boolsOf (l.map fun x => PyData.bool (f x))).map (f x :: ·) = _
    rw [bools_map f l]
    rfl
theorem all_map {α : Type} (f : α → Bool) (l : List α) : gAll [.list (l.map fun x => PyData.bool (f x))] = some (.bool (l.all f)) := by
  show (boolsOf _).map _ = _
  rw [bools_map]
  show some (PyData.bool ((l.map f).all id)) = _
  rw [List.all_map]
  rfl
def sgnOf : PyData → Nat
  | .str s => s.cps.toList.headD 0
  | _ => 0
theorem signs_loop {mt : MG} {me : ME} {en : En} (f : Nat → PyData) (T : Dk) (x : Str) (h : ∀ c, ∃ en1, mt (.str ⟨#[c]⟩) en = some en1 ∧ me en1 T = some (f c, T)) :
    mLoop mt mYes me en ((signs x).map PyData.str) T = some (x.cps.toList.map f, T) := by
  rw [loop_pure (fun _ => true) (fun d => f (sgnOf d))]
  · congr 2
    rw [List.filter_eq_self.mpr fun _ _ => rfl]
    unfold signs
    rw [List.map_map, List.map_map]
    refine List.map_congr_left fun c _ => ?_
    rfl
  · intro d hd
    unfold signs at hd
    rw [List.map_map] at hd
    obtain ⟨c, _, rfl⟩ := List.mem_map.mp hd
    obtain ⟨en1, e1, e2⟩ := h c
    exact ⟨en1, e1, rfl, fun _ => e2⟩
def V_is_name : MF := mFun 2 (mSeq (mIf (mOr (mNot (mQ (mIsi "str" (mVar 0)))) (mNot (mQ (mChain gLe gLe (mC (PyData.int (1))) (mCall gLen (mCons (mVar 0) mNil)) (mC (PyData.int (8))))))) (mRet (mC (PyData.bool false))) mNext)
  (mRet (mAndV (mBin (gIn true) (mVar 0) (mC (PyData.tuple [(PyData.str "if"), (PyData.str "and")]))) (mCall gAll (mCons (mL (mLc [1] (mIt (mVar 0)) (gtName 1) mYes (mChain (gS fun i j => .bool (!decide (j.cps.toList < i.cps.toList))) (gS fun i j => .bool (!decide (j.cps.toList < i.cps.toList))) (mC (PyData.str "a")) (mVar 1) (mC (PyData.str "z"))))) mNil)))))
theorem v_chain_len (x : Str) (hl : x.length ≤ 16777216) (en : En) (T : Dk) (e : mVar 0 en T = some (.str x, T)) : mChain gLe gLe (mC (PyData.int (1))) (mCall gLen (mCons (mVar 0) mNil)) (mC (PyData.int (8))) en T = some (.bool (decide (1 ≤ x.length) && decide (x.length ≤ 8)), T) := by
  have e1 : mCall gLen (mCons (mVar 0) mNil) en T = some (.int (x.length : Nat), T) := by
    refine ev_call1 (d := .str x) e ?_
    show (if x.length ≤ 16777216 then _ else _) = _
    rw [if_pos hl]
  refine (ev_chain (d1 := .int 1) (d2 := .int (x.length : Nat)) (d3 := .int 8) rfl e1 rfl rfl rfl).trans ?_
  congr 3
  rw [Bool.eq_iff_iff]
  simp only [Bool.and_eq_true, decide_eq_true_eq]
  omega
theorem sh_str (x : Str) : SeqAt.shaped (.str x) = PyData.canLay0 (.str x) := by
  show (PyData.canLay0 (.str x) && decide (PyData.depth (.str x) ≤ 64)) = _
  rw [show decide (PyData.depth (.str x) ≤ 64) = true from rfl, Bool.and_true]
theorem in_if (x : Str) (h : PyData.canLay0 (.str x) = true) (neg : Bool) : gIn neg (.str x) (.tuple [.str "if", .str "and"]) = some (.bool (neg ^^ (x == "if" || x == "and"))) := by
  show (if SeqAt.shaped (.str x) = true ∧ SeqAt.shaped (.tuple [.str "if", .str "and"]) = true then _ else _) = _
  rw [if_pos ⟨by rw [sh_str]; exact h, by decide +kernel⟩]
  congr 3
  show ([PyData.str "if", PyData.str "and"].any fun z => PyData.eqv z (.str x)) = _
  simp only [List.any_cons, List.any_nil, Bool.or_false, PyData.eqv]
  rw [Bool.eq_iff_iff]
  simp only [Bool.or_eq_true, beq_iff_eq]
  exact ⟨fun h => h.imp Eq.symm Eq.symm, fun h => h.imp Eq.symm Eq.symm⟩
theorem v_is_name (d : PyData) (T : Dk) (hl : ∀ s, d = .str s → s.length ≤ 16777216 ∧ PyData.canLay0 (.str s) = true) : V_is_name [.dat d] T = some (.bool (nmD d), T) := by
  cases d with
  | str x =>
    obtain ⟨h1, h2⟩ := hl x rfl
    refine ev_fun_rt ?_
    have hc := v_chain_len x h1 [some (.dat (.str x)), none] T rfl
    have ht : (mOr (mNot (mQ (mIsi "str" (mVar 0)))) (mNot (mQ (mChain gLe gLe (mC (PyData.int (1))) (mCall gLen (mCons (mVar 0) mNil)) (mC (PyData.int (8))))))) [some (.dat (.str x)), none] T = some (!(decide (1 ≤ x.length) && decide (x.length ≤ 8)), T) := by
      refine (ev_or (b1 := false) rfl fun _ => ev_not (ev_qb hc)).trans ?_
      rfl
    cases hb : (decide (1 ≤ x.length) && decide (x.length ≤ 8)) with
    | false =>
      rw [hb] at ht
      refine (ev_seq_rt ((ev_if_t ht).trans (ev_ret rfl))).trans ?_
      show _ = some (Res.rt (.bool (nmS x)) T)
      unfold nmS
      rw [hb]
      rfl
    | true =>
      rw [hb] at ht
      refine (ev_seq_nx ((ev_if_f ht).trans rfl)).trans ?_
      refine (ev_ret (ev_andV (ev_bin (d1 := .str x) rfl rfl (in_if x h2 true)) (b2 := x.cps.toList.all letD) fun _ => ?_)).trans ?_
      · refine ev_call1 (d := .list (x.cps.toList.map fun c => .bool (letD c))) (ev_L (ev_lc (ev_it (d := .str x) rfl rfl) ?_ (signs_loop (fun c => .bool (letD c)) T x fun c => ⟨_, rfl, ?_⟩))) (all_map letD _)
        · simp only [signs, List.length_map]
          exact h1
        · exact ev_chain (d1 := .str "a") (d2 := .str ⟨#[c]⟩) (d3 := .str "z") rfl rfl (v_le_a c) rfl (v_le_z c)
      · congr 3
        show _ = nmS x
        unfold nmS
        rw [hb]
        cases (x == "if") <;> cases (x == "and") <;> rfl
  | _ => rfl
end LQ

set_option Elab.async false
set_option linter.all false
set_option maxRecDepth 100000
set_option maxHeartbeats 4000000
/-! sides, turns, sorts, rows, rules -/
namespace LQ
open PySem PySem.Spec PyProof.Rows L2
mutual
/-- its texts are short and of signs that there are -/
def okB : PyData → Bool
  | .str s => decide (s.length ≤ 16777216) && PyData.canLay0 (.str s)
  | .list ds => okAll ds
  | .tuple ds => okAll ds
  | _ => true
def okAll : List PyData → Bool
  | [] => true
  | d :: ds => okB d && okAll ds
end
theorem okB_tuple (ds : List PyData) : okB (.tuple ds) = okAll ds := by rw [okB]
theorem okB_list (ds : List PyData) : okB (.list ds) = okAll ds := by rw [okB]
theorem okB_int (i : Int) : okB (.int i) = true := by simp [okB]
theorem okAll_nil : okAll [] = true := by rw [okAll]
theorem okAll_cons (d : PyData) (ds : List PyData) : okAll (d :: ds) = (okB d && okAll ds) := by rw [okAll]
theorem okAll_mem : ∀ {ds : List PyData}, okAll ds = true → ∀ d ∈ ds, okB d = true
  | [], _, _, h => by cases h
  | e :: ds, h, d, hd => by
    simp only [okAll, Bool.and_eq_true] at h
    rcases List.mem_cons.mp hd with rfl | hd
    · exact h.1
    · exact okAll_mem h.2 d hd
theorem okB_str {d : PyData} (h : okB d = true) : ∀ s, d = .str s → s.length ≤ 16777216 ∧ PyData.canLay0 (.str s) = true := by
  rintro s rfl
  simpa only [okB, Bool.and_eq_true, decide_eq_true_eq] using h
def sdD : PyData → Bool
  | .int i => i == 0 || i == 1
  | _ => false
def trD : PyData → Bool
  | .tuple [a, b] => nmD a && sdD b
  | _ => false
def soD : PyData → Bool
  | .tuple [a, b] => nmD a && sdD b
  | .tuple [a] => nmD a
  | _ => false
def roD : PyData → Bool
  | .tuple [a, b] => nmD a && nmD b
  | .tuple [a, b, c] => nmD a && nmD b && nmD c
  | _ => false
def isW (w : PyData) (x : Str) : Bool := match w with
  | .str s => s == x
  | _ => false
def ruD : PyData → Bool
  | .tuple [w, a, b] => if isW w "within" || isW w "apart" then soD a && soD b else (isW w "along" || isW w "away") && trD a && trD b
  | _ => false
def V_is_side : MF := mFun 1 (mRet (mAndV (mCf V_is_whole (mAd (mVar 0) mN0)) (mBin (gIn false) (mVar 0) (mTup (mCons (mC (PyData.int (0))) (mCons (mC (PyData.int (1))) mNil))))))
theorem v_is_side (d : PyData) (T : Dk) : V_is_side [.dat d] T = some (.bool (sdD d), T) := by
  cases d with
  | int i =>
    refine ev_fun_rt (ev_ret (ev_andV (b1 := true) (ev_cf1 (d := .int i) rfl rfl) fun _ => ?_))
    refine ev_bin (d1 := .int i) (d2 := .tuple [.int 0, .int 1]) rfl rfl ?_
    unfold gIn
    show (if SeqAt.shaped (.int i) = true ∧ SeqAt.shaped (.tuple [.int 0, .int 1]) = true then some (PyData.bool (false ^^ [PyData.int 0, PyData.int 1].any fun z => PyData.eqv z (.int i))) else none) = _
    rw [if_pos ⟨rfl, by decide +kernel⟩]
    simp only [List.any_cons, List.any_nil, PyData.eqv, Bool.false_xor, Bool.or_false]
    congr 2
    rw [Bool.eq_iff_iff]
    simp only [Bool.or_eq_true, beq_iff_eq]
    omega
  | _ => rfl
theorem ix_tup {ds : List PyData} {i : Nat} {d : PyData} (h : ds[i]? = some d) : ixD (.tuple ds) (.int (i : Nat)) = some d := atI_nat h
def V_is_turn : MF := mFun 1 (mRet (mAndV (mCf V_is_tuple_of (mAd (mVar 0) (mAd (mC (PyData.int (2))) mN0))) (mAndV (mCf V_is_name (mAd (mBin ixD (mVar 0) (mC (PyData.int (0)))) mN0)) (mCf V_is_side (mAd (mBin ixD (mVar 0) (mC (PyData.int (1)))) mN0)))))
theorem tup_two {d : PyData} (h : isTupN 2 d = true) : ∃ a b, d = .tuple [a, b] := by
  cases d with
  | tuple ds =>
    have e : ds.length = 2 := by
      have : ((ds.length : Int) == 2) = true := h
      have := eq_of_beq this
      omega
    match ds, e with
    | [a, b], _ => exact ⟨a, b, rfl⟩
  | _ => cases h
theorem tup_one {d : PyData} (h : isTupN 1 d = true) : ∃ a, d = .tuple [a] := by
  cases d with
  | tuple ds =>
    have e : ds.length = 1 := by
      have : ((ds.length : Int) == 1) = true := h
      have := eq_of_beq this
      omega
    match ds, e with
    | [a], _ => exact ⟨a, rfl⟩
  | _ => cases h
theorem tup_three {d : PyData} (h : isTupN 3 d = true) : ∃ a b c, d = .tuple [a, b, c] := by
  cases d with
  | tuple ds =>
    have e : ds.length = 3 := by
      have : ((ds.length : Int) == 3) = true := h
      have := eq_of_beq this
      omega
    match ds, e with
    | [a, b, c], _ => exact ⟨a, b, c, rfl⟩
  | _ => cases h
theorem tr_not {d : PyData} (h : isTupN 2 d = false) : trD d = false := by
  unfold trD
  split
  · exact absurd h (by simp [isTupN])
  · rfl
theorem v_is_turn (d : PyData) (T : Dk) (hd : okB d = true) : V_is_turn [.dat d] T = some (.bool (trD d), T) := by
  cases h : isTupN 2 d with
  | true =>
    obtain ⟨a, b, rfl⟩ := tup_two h
    simp only [okB, okAll, Bool.and_eq_true] at hd
    refine ev_fun_rt ((ev_ret (ev_andV (b1 := true) (ev_cf2 (d1 := .tuple [a, b]) (d2 := .int 2) rfl rfl (v_is_tuple_of _ _ _)) fun _ => ev_andV (b1 := nmD a) (b2 := sdD b) (ev_cf1 (d := a) (ev_bin (d1 := .tuple [a, b]) (d2 := .int 0) rfl rfl (ix_tup (i := 0) rfl)) (v_is_name a T (okB_str hd.1))) fun _ => ev_cf1 (d := b) (ev_bin (d1 := .tuple [a, b]) (d2 := .int 1) rfl rfl (ix_tup (i := 1) rfl)) (v_is_side b T))).trans ?_)
    rfl
  | false =>
    rw [tr_not h]
    refine ev_fun_rt ((ev_ret (ev_andV (b1 := false) (b2 := false) (ev_cf2 (d1 := d) (d2 := .int 2) rfl rfl ?_) fun h => by cases h)))
    rw [v_is_tuple_of, h]
def V_is_sort : MF := mFun 1 (mRet (mOrV (mCf V_is_turn (mAd (mVar 0) mN0)) (mAndV (mCf V_is_tuple_of (mAd (mVar 0) (mAd (mC (PyData.int (1))) mN0))) (mCf V_is_name (mAd (mBin ixD (mVar 0) (mC (PyData.int (0)))) mN0)))))
theorem so_eq (d : PyData) : soD d = (trD d || (isTupN 1 d && match d with | .tuple [a] => nmD a | _ => false)) := by
  cases d with
  | tuple ds =>
    rcases ds with _ | ⟨a, _ | ⟨b, _ | ⟨c, ds⟩⟩⟩
    · rfl
    · simp [soD, trD, isTupN]
    · simp [soD, trD, isTupN]
    · simp [soD, trD, isTupN]
  | _ => rfl
theorem v_is_sort (d : PyData) (T : Dk) (hd : okB d = true) : V_is_sort [.dat d] T = some (.bool (soD d), T) := by
  rw [so_eq]
  refine ev_fun_rt (ev_ret (ev_orV (ev_cf1 (d := d) rfl (v_is_turn d T hd)) fun _ => ev_andV (ev_cf2 (d1 := d) (d2 := .int 1) rfl rfl (v_is_tuple_of _ _ _)) fun h => ?_))
  obtain ⟨a, rfl⟩ := tup_one h
  simp only [okB, okAll, Bool.and_eq_true] at hd
  exact ev_cf1 (d := a) (ev_bin (d1 := .tuple [a]) (d2 := .int 0) rfl rfl (ix_tup (i := 0) rfl)) (v_is_name a T (okB_str hd.1))
def V_is_row : MF := mFun 2 (mRet (mAndV (mOrV (mCf V_is_tuple_of (mAd (mVar 0) (mAd (mC (PyData.int (2))) mN0))) (mCf V_is_tuple_of (mAd (mVar 0) (mAd (mC (PyData.int (3))) mN0)))) (mCall gAll (mCons (mL (mLc [1] (mIt (mVar 0)) (gtName 1) mYes (mCf V_is_name (mAd (mVar 1) mN0)))) mNil))))
theorem ro_eq (d : PyData) : roD d = ((isTupN 2 d || isTupN 3 d) && match d with | .tuple ds => ds.all nmD | _ => false) := by
  cases d with
  | tuple ds =>
    rcases ds with _ | ⟨a, _ | ⟨b, _ | ⟨c, _ | ⟨e, ds⟩⟩⟩⟩
    · rfl
    · rfl
    · simp [roD, isTupN]
    · simp [roD, isTupN, Bool.and_assoc]
    · simp [roD, isTupN]
      omega
  | _ => rfl
theorem names_loop {en : En} (x : PyData) (T : Dk) (ds : List PyData) (hd : ∀ d ∈ ds, okB d = true) : mLoop (gtName 1) mYes (mCf V_is_name (mAd (mVar 1) mN0)) [some (.dat x), none] ds T = some (ds.map fun d => .bool (nmD d), T) := by
  rw [loop_pure (fun _ => true) (fun d => .bool (nmD d))]
  · rw [List.filter_eq_self.mpr fun _ _ => rfl]
  · exact fun d h => ⟨_, rfl, rfl, fun _ => ev_cf1 (d := d) rfl (v_is_name d T (okB_str (hd d h)))⟩
theorem v_is_row (d : PyData) (T : Dk) (hd : okB d = true) : V_is_row [.dat d] T = some (.bool (roD d), T) := by
  rw [ro_eq]
  refine ev_fun_rt (ev_ret (ev_andV (ev_orV (ev_cf2 (d1 := d) (d2 := .int 2) rfl rfl (v_is_tuple_of _ _ _)) fun _ => ev_cf2 (d1 := d) (d2 := .int 3) rfl rfl (v_is_tuple_of _ _ _)) fun h => ?_))
  cases d with
  | tuple ds =>
    have hl : ds.length ≤ 16777216 := by
      simp only [isTupN, Bool.or_eq_true, beq_iff_eq] at h
      omega
    simp only [okB] at hd
    exact ev_call1 (d := .list (ds.map fun d => .bool (nmD d))) (ev_L (ev_lc (ev_it (d := .tuple ds) rfl rfl) hl (names_loop (en := []) (.tuple ds) T ds (okAll_mem hd)))) (all_map nmD ds)
  | _ => cases h
theorem isW_eq (w : PyData) (x : Str) : PyData.eqv (.str x) w = isW w x := by
  cases w <;> simp only [PyData.eqv, isW]
  rw [Bool.eq_iff_iff]
  simp only [beq_iff_eq]
  exact eq_comm
theorem in_words (w : PyData) (x y : Str) (h : SeqAt.shaped w = true) (hx : SeqAt.shaped (.tuple [.str x, .str y]) = true) : gIn false w (.tuple [.str x, .str y]) = some (.bool (isW w x || isW w y)) := by
  unfold gIn
  show (if SeqAt.shaped w = true ∧ SeqAt.shaped (.tuple [.str x, .str y]) = true then some (PyData.bool (false ^^ [PyData.str x, PyData.str y].any fun z => PyData.eqv z w)) else none) = _
  rw [if_pos ⟨h, hx⟩]
  simp only [List.any_cons, List.any_nil, isW_eq, Bool.false_xor, Bool.or_false]
def V_is_rule : MF := mFun 4 (mSeq (mIf (mNot (mQ (mCf V_is_tuple_of (mAd (mVar 0) (mAd (mC (PyData.int (3))) mN0))))) (mRet (mC (PyData.bool false))) mNext)
  (mSeq (mAsg (mVar 0) (gtTup 3 (gtCons (gtName 1) (gtCons (gtName 2) (gtCons (gtName 3) gtNil)))))
  (mSeq (mIf (mQ (mBin (gIn false) (mVar 1) (mC (PyData.tuple [(PyData.str "within"), (PyData.str "apart")])))) (mRet (mAndV (mCf V_is_sort (mAd (mVar 2) mN0)) (mCf V_is_sort (mAd (mVar 3) mN0)))) mNext)
  (mRet (mAndV (mBin (gIn false) (mVar 1) (mC (PyData.tuple [(PyData.str "along"), (PyData.str "away")]))) (mAndV (mCf V_is_turn (mAd (mVar 2) mN0)) (mCf V_is_turn (mAd (mVar 3) mN0))))))))
theorem ru_not {d : PyData} (h : isTupN 3 d = false) : ruD d = false := by
  unfold ruD
  split
  · exact absurd h (by simp [isTupN])
  · rfl
theorem v_is_rule (d : PyData) (T : Dk) (hd : okB d = true) (hw : ∀ w a b, d = .tuple [w, a, b] → SeqAt.shaped w = true) : V_is_rule [.dat d] T = some (.bool (ruD d), T) := by
  have ht : (mNot (mQ (mCf V_is_tuple_of (mAd (mVar 0) (mAd (mC (PyData.int (3))) mN0))))) [some (.dat d), none, none, none] T = some (!isTupN 3 d, T) := ev_not (ev_qb (ev_cf2 (d1 := d) (d2 := .int 3) rfl rfl (v_is_tuple_of _ _ _)))
  cases h : isTupN 3 d with
  | false =>
    rw [h] at ht
    rw [ru_not h]
    exact ev_fun_rt (ev_seq_rt ((ev_if_t ht).trans (ev_ret rfl)))
  | true =>
    rw [h] at ht
    obtain ⟨w, a, b, rfl⟩ := tup_three h
    have sw := hw w a b rfl
    simp only [okB, okAll, Bool.and_eq_true] at hd
    obtain ⟨h1, h2, h3, -⟩ := hd
    let en : En := [some (.dat (.tuple [w, a, b])), some (.dat w), some (.dat a), some (.dat b)]
    have q : (mQ (mBin (gIn false) (mVar 1) (mC (PyData.tuple [(PyData.str "within"), (PyData.str "apart")])))) en T = some (isW w "within" || isW w "apart", T) := ev_qb (ev_bin (d1 := w) rfl rfl (in_words w _ _ sw (by decide +kernel)))
    refine ev_fun_rt ((ev_seq_nx ((ev_if_f ht).trans rfl)).trans ((ev_seq_nx (en' := en) (T' := T) rfl).trans ?_))
    show _ = some (Res.rt (.bool (if (isW w "within" || isW w "apart") = true then soD a && soD b else (isW w "along" || isW w "away") && trD a && trD b)) T)
    cases hq : (isW w "within" || isW w "apart") with
    | true =>
      rw [hq] at q
      rw [if_pos rfl]
      exact ev_seq_rt ((ev_if_t q).trans (ev_ret (ev_andV (ev_cf1 (d := a) rfl (v_is_sort a T h2)) fun _ => ev_cf1 (d := b) rfl (v_is_sort b T h3))))
    | false =>
      rw [hq] at q
      rw [if_neg (by simp)]
      refine (ev_seq_nx ((ev_if_f q).trans rfl)).trans ((ev_ret (ev_andV (ev_bin (d1 := w) rfl rfl (in_words w _ _ sw (by decide +kernel))) fun _ => ev_andV (ev_cf1 (d := a) rfl (v_is_turn a T h2)) fun _ => ev_cf1 (d := b) rfl (v_is_turn b T h3))).trans ?_)
      rw [Bool.and_assoc]
end LQ

set_option Elab.async false
set_option linter.all false
set_option maxRecDepth 100000
set_option maxHeartbeats 4000000
/-! a law's own look at names -/
namespace LQ
open PySem PySem.Spec PyProof.Rows L2
theorem abc_cps : (Str.ofString "abcdefghijklmnopqrstuvwxyz").cps.toList = [97, 98, 99, 100, 101, 102, 103, 104, 105, 106, 107, 108, 109, 110, 111, 112, 113, 114, 115, 116, 117, 118, 119, 120, 121, 122] := by decide +kernel
theorem mem_abc (c : Nat) : decide (c ∈ (Str.ofString "abcdefghijklmnopqrstuvwxyz").cps.toList) = letD c := by
  rw [abc_cps, Bool.eq_iff_iff]
  simp only [decide_eq_true_eq, letD, Bool.and_eq_true, List.mem_cons, List.not_mem_nil, or_false]
  omega
theorem canLayAll_signs : ∀ (cs : List Nat), (∀ c ∈ cs, c < 0x110000) → PyData.canLayAll0 (cs.map fun c => PyData.str ⟨#[c]⟩) = true
  | [], _ => by simp [PyData.canLayAll0]
  | c :: cs, h => by
    have h1 := h c List.mem_cons_self
    have h2 := canLayAll_signs cs fun c hc => h c (List.mem_cons_of_mem _ hc)
    simp only [List.map_cons, PyData.canLayAll0, h2, Bool.and_true, PyData.canLay0]
    simp [PyData.strOk, h1]
theorem canLay_cps {s : Str} (h : PyData.canLay0 (.str s) = true) : ∀ c ∈ s.cps.toList, c < 0x110000 := by
  have h' : PyData.strOk s = true := by simpa [PyData.canLay0] using h
  unfold PyData.strOk at h'
  intro c hc
  have := Array.all_eq_true_iff_forall_mem.mp h' c (by simpa using hc)
  simpa using this
theorem depthAll_signs : ∀ (cs : List Nat), PyData.depthAll (cs.map fun c => PyData.str ⟨#[c]⟩) ≤ 1
  | [] => by simp [PyData.depthAll]
  | c :: cs => by
    have := depthAll_signs cs
    simp only [List.map_cons, PyData.depthAll, PyData.depth]
    omega
theorem shaped_signs (cs : List Nat) (h : ∀ c ∈ cs, c < 0x110000) : SeqAt.shaped (.list (cs.map fun c => PyData.str ⟨#[c]⟩)) = true := by
  have h1 := canLayAll_signs cs h
  have h2 := depthAll_signs cs
  unfold SeqAt.shaped
  simp only [PyData.canLay0, h1, Bool.true_and, PyData.depth]
  exact decide_eq_true (by omega)
def V__law_is_name : MF := mFun 2 (mSeq (mIf (mOr (mNot (mQ (mIsi "str" (mVar 0)))) (mOr (mQ (mBin gLt (mCall gLen (mCons (mVar 0) mNil)) (mC (PyData.int (1))))) (mOr (mQ (mBin gGt (mCall gLen (mCons (mVar 0) mNil)) (mC (PyData.int (8))))) (mQ (mBin (gIn false) (mVar 0) (mTup (mCons (mC (PyData.str "if")) (mCons (mC (PyData.str "and")) mNil)))))))) (mRet (mC (PyData.bool false))) mNext)
  (mRet (mBin gEq (mL (mLc [1] (mIt (mVar 0)) (gtName 1) (mQ (mBin (gSgn true) (mVar 1) (mC (PyData.str "abcdefghijklmnopqrstuvwxyz")))) (mVar 1))) (mL (mLst mNil)))))
theorem eq_nil (ds : List PyData) (h : SeqAt.shaped (.list ds) = true) : gEq (.list ds) (.list []) = some (.bool ds.isEmpty) := by
  unfold gEq
  rw [if_pos ⟨h, by decide +kernel⟩]
  congr 2
  cases ds <;> simp [PyData.eqv, PyData.eqvAll]
theorem v__law_is_name (d : PyData) (T : Dk) (hd : okB d = true) : V__law_is_name [.dat d] T = some (.bool (nmD d), T) := by
  cases d with
  | str x =>
    obtain ⟨h1, h2⟩ := okB_str hd x rfl
    let en : En := [some (.dat (.str x)), none]
    have hlen : (mCall gLen (mCons (mVar 0) mNil)) en T = some (.int (x.length : Nat), T) := by
      refine ev_call1 (d := .str x) rfl ?_
      show (if x.length ≤ 16777216 then _ else _) = _
      rw [if_pos h1]
    have ht : (mOr (mNot (mQ (mIsi "str" (mVar 0)))) (mOr (mQ (mBin gLt (mCall gLen (mCons (mVar 0) mNil)) (mC (PyData.int (1))))) (mOr (mQ (mBin gGt (mCall gLen (mCons (mVar 0) mNil)) (mC (PyData.int (8))))) (mQ (mBin (gIn false) (mVar 0) (mTup (mCons (mC (PyData.str "if")) (mCons (mC (PyData.str "and")) mNil)))))))) en T = some (false || (decide (((x.length : Nat) : Int) < 1) || (decide ((8 : Int) < ((x.length : Nat) : Int)) || (false ^^ (x == "if" || x == "and")))), T) :=
      ev_or (b1 := false) rfl fun _ => ev_or (ev_qb (ev_bin hlen (d2 := .int 1) rfl rfl)) fun _ => ev_or (ev_qb (ev_bin hlen (d2 := .int 8) rfl rfl)) fun _ => ev_qb (ev_bin (d1 := .str x) (d2 := .tuple [.str "if", .str "and"]) rfl rfl (in_if x h2 false))
    have hc := canLay_cps h2
    have hv : nmS x = (!(false || (decide (((x.length : Nat) : Int) < 1) || (decide ((8 : Int) < ((x.length : Nat) : Int)) || (false ^^ (x == "if" || x == "and"))))) && x.cps.toList.all letD) := by
      unfold nmS
      rw [show decide (((x.length : Nat) : Int) < 1) = !decide (1 ≤ x.length) by rw [Bool.eq_iff_iff]; simp only [Bool.not_eq_true', decide_eq_true_eq, decide_eq_false_iff_not]; omega,
        show decide ((8 : Int) < ((x.length : Nat) : Int)) = !decide (x.length ≤ 8) by rw [Bool.eq_iff_iff]; simp only [Bool.not_eq_true', decide_eq_true_eq, decide_eq_false_iff_not]; omega]
      cases decide (1 ≤ x.length) <;> cases decide (x.length ≤ 8) <;> cases (x == "if") <;> cases (x == "and") <;> cases (x.cps.toList.all letD) <;> rfl
    show _ = some (PyData.bool (nmS x), T)
    rw [hv]
    cases hb : (false || (decide (((x.length : Nat) : Int) < 1) || (decide ((8 : Int) < ((x.length : Nat) : Int)) || (false ^^ (x == "if" || x == "and"))))) with
    | true =>
      rw [hb] at ht
      exact ev_fun_rt (ev_seq_rt ((ev_if_t ht).trans (ev_ret rfl)))
    | false =>
      rw [hb] at ht
      refine ev_fun_rt ((ev_seq_nx ((ev_if_f ht).trans rfl)).trans ?_)
      have hl : mLoop (gtName 1) (mQ (mBin (gSgn true) (mVar 1) (mC (PyData.str "abcdefghijklmnopqrstuvwxyz")))) (mVar 1) (wipeE en [1]) ((signs x).map PyData.str) T = some (((x.cps.toList.filter fun c => !letD c).map fun c => PyData.str ⟨#[c]⟩), T) := by
        rw [loop_pure (fun d => !letD (sgnOf d)) id]
        · congr 2
          rw [List.map_id]
          unfold signs
          rw [List.map_map, List.filter_map]
          rfl
        · intro d hd
          unfold signs at hd
          rw [List.map_map] at hd
          obtain ⟨c, _, rfl⟩ := List.mem_map.mp hd
          refine ⟨_, rfl, ev_qb (ev_bin (d1 := .str ⟨#[c]⟩) (d2 := .str "abcdefghijklmnopqrstuvwxyz") rfl rfl ?_), fun _ => rfl⟩
          show some (PyData.bool (true ^^ decide (c ∈ (Str.ofString "abcdefghijklmnopqrstuvwxyz").cps.toList))) = _
          rw [mem_abc, Bool.true_xor]
          rfl
      refine (ev_ret (ev_bin (d2 := .list []) (ev_L (ev_lc (ev_it (d := .str x) rfl rfl) ?_ hl)) rfl (eq_nil _ (shaped_signs _ ?_)))).trans ?_
      · simp only [signs, List.length_map]
        exact h1
      · exact fun c h => hc c (List.mem_filter.mp h).1
      · congr 3
        rw [Bool.eq_iff_iff]
        simp only [List.isEmpty_iff, List.map_eq_nil_iff, List.filter_eq_nil_iff, Bool.not_eq_true', Bool.not_eq_false, Bool.not_false, Bool.true_and, List.all_eq_true]
  | _ => rfl
end LQ

set_option Elab.async false
set_option linter.all false
set_option maxRecDepth 100000
set_option maxHeartbeats 4000000
/-! the deck: each take is a number below what is asked -/
namespace LQ
open PySem PySem.Spec PyProof.Rows L2
def VB__law_cell : MS := (mSeq (mIf (mQ (mBin gEq (mCall gLen (mCons (mVar 0) mNil)) (mC (PyData.int (0))))) (mRet (mBin gAdd (mBin gMul (mC (PyData.int (7))) (mVar 1)) (mC (PyData.int (3))))) mNext)
  (mRet (mCall gAbs (mCons (mBin ixD (mVar 0) (mBin gMod (mVar 1) (mCall gLen (mCons (mVar 0) mNil)))) mNil))))
def V__law_cell : MF := mFun 2 VB__law_cell
def VB__law_take : MS := (mSeq (fun en T => mWhile (mQ (mBin gLt (mK2 0) (mKlen 0))) (mSeq (mSet 3 (mKit 0 (mK2 0)))
  (mSeq (mIf (mQ (mBin gGt (mVar 3) (mC (PyData.int (0))))) (mSeq (mKput 0 (mK2 0) (mBin gFdiv (mVar 3) (mVar 1)))
  (mRet (mBin gMod (mVar 3) (mVar 1)))) mNext)
  (mKset2 0 (mBin gAdd (mK2 0) (mC (PyData.int (1))))))) ((fun en T => T.gs.length + 1 - T.i) en T) en T)
  (mSeq (mKset3 0 (mBin gAdd (mK3 0) (mC (PyData.int (1)))))
  (mSeq (mSet 2 (mBin gAdd (mBin gMul (mBin gAdd (mBin gMod (mCf V__law_cell (mAd (mK0 0) (mAd (mK3 0) mN0))) (mC (PyData.int (1000003)))) (mC (PyData.int (5)))) (mBin gAdd (mK3 0) (mC (PyData.int (2))))) (mBin gMul (mC (PyData.int (7919))) (mK3 0))))
  (mRet (mBin gMod (mBin gFdiv (mBin gMod (mBin gPow (mVar 2) (mC (PyData.int (5)))) (mC (PyData.int (2147483647)))) (mC (PyData.int (13)))) (mVar 1))))))
def V__law_take : MF := mFun 4 VB__law_take
def VB__law_pick : MS := (mRet (mBin ixD (mVar 1) (mCf V__law_take (mAk 0 (mAd (mCall gLen (mCons (mVar 1) mNil)) mN0)))))
def V__law_pick : MF := mFun 2 VB__law_pick
def VS__law_deck : MS := (mSetF 1 (mListOf (mL (mSlF (mVar 0) mP0 (mP (mC (PyData.int (63))))))))
def VR__law_deck : MKd := mKd 1 (mLc [2] (mIt (mVarB 1)) (gtName 2) (mQ (mBin gGe (mCall gAbs (mCons (mVar 2) mNil)) (mBin gPow (mC (PyData.int (10))) (mC (PyData.int (18)))))) (mCall gAbs (mCons (mVar 2) mNil)))
def V__law_deck : List Sl → Dk → Option (List Int × List Int) := mFunK 3 VS__law_deck VR__law_deck
/-- a deck as it may be: few cells, great cells not below nought, a place among them, few takes -/
structure Gd (k : Nat) (T : Dk) : Prop where
  few : T.cells.length ≤ 63
  pos : ∀ g ∈ T.gs, 0 ≤ g
  at_ : T.i ≤ T.gs.length
  c : T.c ≤ k
theorem Gd.up {k l : Nat} {T : Dk} (h : Gd k T) (e : k ≤ l) : Gd l T := ⟨h.few, h.pos, h.at_, Nat.le_trans h.c e⟩
def tCond : MT := mQ (mBin gLt (mK2 0) (mKlen 0))
def tBody : MS := (mSeq (mSet 3 (mKit 0 (mK2 0)))
  (mSeq (mIf (mQ (mBin gGt (mVar 3) (mC (PyData.int (0))))) (mSeq (mKput 0 (mK2 0) (mBin gFdiv (mVar 3) (mVar 1)))
  (mRet (mBin gMod (mVar 3) (mVar 1)))) mNext)
  (mKset2 0 (mBin gAdd (mK2 0) (mC (PyData.int (1)))))))
theorem tCond_val (n : Int) (a b : Option Sl) (T : Dk) : tCond [some .deck, some (.dat (.int n)), a, b] T = some (decide (((T.i : Nat) : Int) < ((T.gs.length : Nat) : Int)), T) := rfl
theorem ixN_nat {n j : Nat} (h : j < n) : ixN n (j : Int) = some j := by
  unfold ixN
  rw [if_pos (by omega), if_pos (by omega)]
  simp
theorem tBody_val (n : Int) (a b : Option Sl) (T : Dk) (v : Int) (hn : 0 < n) (hn2 : n < 1073741824) (hi : T.i < T.gs.length) (hv : T.gs[T.i]? = some v) :
    tBody [some .deck, some (.dat (.int n)), a, b] T = some (if 0 < v then .rt (.int (v % n)) { T with gs := T.gs.set T.i (v / n) } else .nx [some .deck, some (.dat (.int n)), a, some (.dat (.int v))] { T with i := T.i + 1 }) := by
  have e1 : mKit 0 (mK2 0) [some .deck, some (.dat (.int n)), a, b] T = some (.int v, T) := by
    show (atI T.gs ((T.i : Nat) : Int)).map _ = _
    rw [atI_nat hv]
    rfl
  have e2 : mSet 3 (mKit 0 (mK2 0)) [some .deck, some (.dat (.int n)), a, b] T = some (.nx [some .deck, some (.dat (.int n)), a, some (.dat (.int v))] T) := by
    unfold mSet
    rw [e1]
    rfl
  show ((mSet 3 (mKit 0 (mK2 0)) [some .deck, some (.dat (.int n)), a, b] T).bind _) = _
  rw [e2]
  show (mSeq (mIf (mQ (mBin gGt (mVar 3) (mC (PyData.int (0))))) (mSeq (mKput 0 (mK2 0) (mBin gFdiv (mVar 3) (mVar 1))) (mRet (mBin gMod (mVar 3) (mVar 1)))) mNext) (mKset2 0 (mBin gAdd (mK2 0) (mC (PyData.int (1)))))) [some .deck, some (.dat (.int n)), a, some (.dat (.int v))] T = _
  by_cases h0 : 0 < v
  · rw [if_pos h0]
    have f1 : (mBin gFdiv (mVar 3) (mVar 1)) [some .deck, some (.dat (.int n)), a, some (.dat (.int v))] T = some (.int (v / n), T) := by
      refine ev_bin (d1 := .int v) (d2 := .int n) rfl rfl ?_
      show (if decide (0 < n ∧ n < 1073741824) = true then some (PyData.int (v / n)) else none) = _
      rw [if_pos (decide_eq_true ⟨hn, hn2⟩)]
    have f2 : mKput 0 (mK2 0) (mBin gFdiv (mVar 3) (mVar 1)) [some .deck, some (.dat (.int n)), a, some (.dat (.int v))] T = some (.nx [some .deck, some (.dat (.int n)), a, some (.dat (.int v))] { T with gs := T.gs.set T.i (v / n) }) := by
      show ((mBin gFdiv (mVar 3) (mVar 1)) [some .deck, some (.dat (.int n)), a, some (.dat (.int v))] T).bind _ = _
      rw [f1]
      show (ixN T.gs.length ((T.i : Nat) : Int)).map _ = _
      rw [ixN_nat hi]
      rfl
    have f3 : (mBin gMod (mVar 3) (mVar 1)) [some .deck, some (.dat (.int n)), a, some (.dat (.int v))] { T with gs := T.gs.set T.i (v / n) } = some (.int (v % n), { T with gs := T.gs.set T.i (v / n) }) := by
      refine ev_bin (d1 := .int v) (d2 := .int n) rfl rfl ?_
      show (if decide (0 < n) = true then some (PyData.int (v % n)) else none) = _
      rw [if_pos (decide_eq_true hn)]
    have f4 : mIf (mQ (mBin gGt (mVar 3) (mC (PyData.int (0))))) (mSeq (mKput 0 (mK2 0) (mBin gFdiv (mVar 3) (mVar 1))) (mRet (mBin gMod (mVar 3) (mVar 1)))) mNext [some .deck, some (.dat (.int n)), a, some (.dat (.int v))] T = some (.rt (.int (v % n)) { T with gs := T.gs.set T.i (v / n) }) := by
      show (if decide (0 < v) = true then mSeq (mKput 0 (mK2 0) (mBin gFdiv (mVar 3) (mVar 1))) (mRet (mBin gMod (mVar 3) (mVar 1))) [some .deck, some (.dat (.int n)), a, some (.dat (.int v))] T else _) = _
      rw [if_pos (decide_eq_true h0)]
      show (mKput 0 (mK2 0) (mBin gFdiv (mVar 3) (mVar 1)) [some .deck, some (.dat (.int n)), a, some (.dat (.int v))] T).bind _ = _
      rw [f2]
      show ((mBin gMod (mVar 3) (mVar 1)) [some .deck, some (.dat (.int n)), a, some (.dat (.int v))] { T with gs := T.gs.set T.i (v / n) }).map _ = _
      rw [f3]
      rfl
    show (mIf (mQ (mBin gGt (mVar 3) (mC (PyData.int (0))))) (mSeq (mKput 0 (mK2 0) (mBin gFdiv (mVar 3) (mVar 1))) (mRet (mBin gMod (mVar 3) (mVar 1)))) mNext [some .deck, some (.dat (.int n)), a, some (.dat (.int v))] T).bind _ = _
    rw [f4]
    rfl
  · rw [if_neg h0]
    have f4 : mIf (mQ (mBin gGt (mVar 3) (mC (PyData.int (0))))) (mSeq (mKput 0 (mK2 0) (mBin gFdiv (mVar 3) (mVar 1))) (mRet (mBin gMod (mVar 3) (mVar 1)))) mNext [some .deck, some (.dat (.int n)), a, some (.dat (.int v))] T = some (.nx [some .deck, some (.dat (.int n)), a, some (.dat (.int v))] T) := by
      show (if decide (0 < v) = true then _ else mNext [some .deck, some (.dat (.int n)), a, some (.dat (.int v))] T) = _
      rw [if_neg (by simpa using h0)]
      rfl
    show (mIf (mQ (mBin gGt (mVar 3) (mC (PyData.int (0))))) (mSeq (mKput 0 (mK2 0) (mBin gFdiv (mVar 3) (mVar 1))) (mRet (mBin gMod (mVar 3) (mVar 1)))) mNext [some .deck, some (.dat (.int n)), a, some (.dat (.int v))] T).bind _ = _
    rw [f4]
    show (if 0 ≤ ((T.i : Nat) : Int) + 1 then some (Res.nx [some .deck, some (.dat (.int n)), a, some (.dat (.int v))] { T with i := (((T.i : Nat) : Int) + 1).toNat }) else none) = _
    rw [if_pos (by omega), show ((((T.i : Nat) : Int) + 1).toNat) = T.i + 1 by omega]
/-- the loop: a number below n, or the great cells are used up -/
theorem loop_val (n : Int) (hn : 0 < n) (hn2 : n < 1073741824) (a : Option Sl) {k : Nat} : ∀ (q : Nat) (b : Option Sl) (T : Dk), Gd k T → T.gs.length + 1 - T.i ≤ q →
    (∃ v T', mWhile tCond tBody q [some .deck, some (.dat (.int n)), a, b] T = some (.rt (.int v) T') ∧ 0 ≤ v ∧ v < n ∧ T'.cells = T.cells ∧ Gd k T') ∨
    (∃ b' T', mWhile tCond tBody q [some .deck, some (.dat (.int n)), a, b] T = some (.nx [some .deck, some (.dat (.int n)), a, b'] T') ∧ T'.cells = T.cells ∧ Gd k T')
  | 0, b, T, g, hq => by have := g.at_; omega
  | q + 1, b, T, g, hq => by
    have step : mWhile tCond tBody (q + 1) [some .deck, some (.dat (.int n)), a, b] T = (if decide (((T.i : Nat) : Int) < ((T.gs.length : Nat) : Int)) = true then (tBody [some .deck, some (.dat (.int n)), a, b] T).bind fun r => match r with
      | .nx en' T' => mWhile tCond tBody q en' T'
      | .ct en' T' => mWhile tCond tBody q en' T'
      | .bk en' T' => some (.nx en' T')
      | .rt d T' => some (.rt d T')
      else some (.nx [some .deck, some (.dat (.int n)), a, b] T)) := rfl
    by_cases hi : T.i < T.gs.length
    · rw [step, if_pos (decide_eq_true (by omega)), tBody_val n a b T T.gs[T.i] hn hn2 hi (List.getElem?_eq_getElem hi)]
      by_cases hv : 0 < T.gs[T.i]
      · rw [if_pos hv]
        refine .inl ⟨_, _, rfl, Int.emod_nonneg _ (by omega), Int.emod_lt_of_pos _ hn, rfl, ⟨g.few, fun x hx => ?_, by simpa using g.at_, g.c⟩⟩
        rcases List.mem_or_eq_of_mem_set hx with h | h
        · exact g.pos x h
        · subst h
          exact Int.ediv_nonneg (by omega) (by omega)
      · rw [if_neg hv]
        rcases loop_val n hn hn2 a q (some (.dat (.int T.gs[T.i]))) { T with i := T.i + 1 } ⟨g.few, g.pos, hi, g.c⟩ (by show T.gs.length + 1 - (T.i + 1) ≤ q; omega) with ⟨v, T', e, r⟩ | ⟨b', T', e, r⟩
        · exact .inl ⟨v, T', e, r⟩
        · exact .inr ⟨b', T', e, r⟩
    · rw [step, if_neg (by simpa using (by omega : ¬ ((T.i : Nat) : Int) < ((T.gs.length : Nat) : Int)))]
      exact .inr ⟨b, T, rfl, rfl, g⟩
theorem eq_ints (i j : Int) : gEq (.int i) (.int j) = some (.bool (i == j)) := rfl
theorem cell_val (cs : List Int) (c : Nat) (T : Dk) : ∃ v, V__law_cell [.dat (.list (cs.map PyData.int)), .dat (.int (c : Nat))] T = some (.int v, T) := by
  have hlen : (mCall gLen (mCons (mVar 0) mNil)) [some (.dat (.list (cs.map PyData.int))), some (.dat (.int (c : Nat)))] T = some (.int ((cs.length : Nat) : Int), T) := by
    refine ev_call1 (d := .list (cs.map PyData.int)) rfl ?_
    show some (PyData.int (((cs.map PyData.int).length : Nat) : Int)) = _
    rw [List.length_map]
  have htest : (mQ (mBin gEq (mCall gLen (mCons (mVar 0) mNil)) (mC (PyData.int (0))))) [some (.dat (.list (cs.map PyData.int))), some (.dat (.int (c : Nat)))] T = some (((cs.length : Nat) : Int) == 0, T) := by
    unfold mQ
    rw [ev_bin hlen (d2 := .int 0) rfl (eq_ints _ _)]
  by_cases h0 : cs.length = 0
  · refine ⟨7 * ((c : Nat) : Int) + 3, ?_⟩
    have ht : (((cs.length : Nat) : Int) == 0) = true := by simp [h0]
    rw [ht] at htest
    have e1 : (mBin gAdd (mBin gMul (mC (PyData.int (7))) (mVar 1)) (mC (PyData.int (3)))) [some (.dat (.list (cs.map PyData.int))), some (.dat (.int (c : Nat)))] T = some (.int (7 * ((c : Nat) : Int) + 3), T) := by
      refine ev_bin (d1 := .int (7 * ((c : Nat) : Int))) (d2 := .int 3) (ev_bin (d1 := .int 7) (d2 := .int (c : Nat)) rfl rfl ?_) rfl rfl
      rfl
    exact ev_fun_rt (ev_seq_rt ((ev_if_t htest).trans (ev_ret e1)))
  · have ht : (((cs.length : Nat) : Int) == 0) = false := by
      simp only [beq_eq_false_iff_ne, ne_eq]
      omega
    rw [ht] at htest
    have hm : 0 ≤ ((c : Nat) : Int) % ((cs.length : Nat) : Int) := Int.emod_nonneg _ (by omega)
    have hl : ((c : Nat) : Int) % ((cs.length : Nat) : Int) < ((cs.length : Nat) : Int) := Int.emod_lt_of_pos _ (by omega)
    obtain ⟨j, hj⟩ : ∃ j : Nat, ((c : Nat) : Int) % ((cs.length : Nat) : Int) = (j : Int) := ⟨_, (Int.toNat_of_nonneg hm).symm⟩
    have hjl : j < cs.length := by omega
    have e0 : (mBin gMod (mVar 1) (mCall gLen (mCons (mVar 0) mNil))) [some (.dat (.list (cs.map PyData.int))), some (.dat (.int (c : Nat)))] T = some (.int (j : Nat), T) := by
      refine ev_bin (d1 := .int (c : Nat)) rfl hlen ?_
      show (if decide (0 < ((cs.length : Nat) : Int)) = true then some (PyData.int (((c : Nat) : Int) % ((cs.length : Nat) : Int))) else none) = _
      rw [if_pos (decide_eq_true (by omega)), hj]
    have e1 : (mBin ixD (mVar 0) (mBin gMod (mVar 1) (mCall gLen (mCons (mVar 0) mNil)))) [some (.dat (.list (cs.map PyData.int))), some (.dat (.int (c : Nat)))] T = some (.int cs[j], T) := by
      refine ev_bin (d1 := .list (cs.map PyData.int)) rfl e0 ?_
      show atI (cs.map PyData.int) ((j : Nat) : Int) = _
      refine atI_nat ?_
      rw [List.getElem?_map, List.getElem?_eq_getElem hjl]
      rfl
    refine ⟨if cs[j] < 0 then -cs[j] else cs[j], ?_⟩
    have e2 : (mCall gAbs (mCons (mBin ixD (mVar 0) (mBin gMod (mVar 1) (mCall gLen (mCons (mVar 0) mNil)))) mNil)) [some (.dat (.list (cs.map PyData.int))), some (.dat (.int (c : Nat)))] T = some (.int (if cs[j] < 0 then -cs[j] else cs[j]), T) := ev_call1 e1 rfl
    exact ev_fun_rt ((ev_seq_nx ((ev_if_f htest).trans rfl)).trans (ev_ret e2))
/-- a take: a number below n, whatever the script -/
theorem take_val (n : Int) (hn : 0 < n) (hn2 : n < 1073741824) {k : Nat} (hk : k < 1000000000) (T : Dk) (g : Gd k T) : ∃ v T', V__law_take [.deck, .dat (.int n)] T = some (.int v, T') ∧ 0 ≤ v ∧ v < n ∧ T'.cells = T.cells ∧ Gd (k + 1) T' := by
  have goal : ∃ v T', VB__law_take [some .deck, some (.dat (.int n)), none, none] T = some (.rt (.int v) T') ∧ 0 ≤ v ∧ v < n ∧ T'.cells = T.cells ∧ Gd (k + 1) T' := by
    rcases loop_val n hn hn2 none (T.gs.length + 1 - T.i) none T g (Nat.le_refl _) with ⟨v, T', e, h0, h1, h2, h3⟩ | ⟨b, T', e, h2, h3⟩
    · refine ⟨v, T', ?_, h0, h1, h2, h3.up (Nat.le_succ _)⟩
      exact ev_seq_rt e
    · obtain ⟨w, hw⟩ := cell_val T'.cells (T'.c + 1) { T' with c := T'.c + 1 }
      have hc := h3.c
      have s1 : mKset3 0 (mBin gAdd (mK3 0) (mC (PyData.int (1)))) [some .deck, some (.dat (.int n)), none, b] T' = some (.nx [some .deck, some (.dat (.int n)), none, b] { T' with c := T'.c + 1 }) := by
        show (if 0 ≤ ((T'.c : Nat) : Int) + 1 then some (Res.nx [some .deck, some (.dat (.int n)), none, b] { T' with c := (((T'.c : Nat) : Int) + 1).toNat }) else none) = _
        rw [if_pos (by omega), show ((((T'.c : Nat) : Int) + 1).toNat) = T'.c + 1 by omega]
      let T2 : Dk := { T' with c := T'.c + 1 }
      let en : En := [some .deck, some (.dat (.int n)), none, b]
      have c1 : (mCf V__law_cell (mAd (mK0 0) (mAd (mK3 0) mN0))) en T2 = some (.int w, T2) := hw
      have c2 : (mBin gMod (mCf V__law_cell (mAd (mK0 0) (mAd (mK3 0) mN0))) (mC (PyData.int (1000003)))) en T2 = some (.int (w % 1000003), T2) := ev_bin c1 (d2 := .int 1000003) rfl rfl
      have c3 : (mBin gAdd (mBin gMod (mCf V__law_cell (mAd (mK0 0) (mAd (mK3 0) mN0))) (mC (PyData.int (1000003)))) (mC (PyData.int (5)))) en T2 = some (.int (w % 1000003 + 5), T2) := ev_bin c2 (d2 := .int 5) rfl rfl
      have w0 : 0 ≤ w % 1000003 := Int.emod_nonneg _ (by decide)
      have w1 : w % 1000003 < 1000003 := Int.emod_lt_of_pos _ (by decide)
      have c4 : (mBin gAdd (mK3 0) (mC (PyData.int (2)))) en T2 = some (.int (((T'.c + 1 : Nat) : Int) + 2), T2) := ev_bin (d1 := .int ((T'.c + 1 : Nat) : Int)) (d2 := .int 2) rfl rfl rfl
      have c5 : (mBin gMul (mBin gAdd (mBin gMod (mCf V__law_cell (mAd (mK0 0) (mAd (mK3 0) mN0))) (mC (PyData.int (1000003)))) (mC (PyData.int (5)))) (mBin gAdd (mK3 0) (mC (PyData.int (2))))) en T2 = some (.int ((w % 1000003 + 5) * (((T'.c + 1 : Nat) : Int) + 2)), T2) := by
        refine ev_bin c3 c4 ?_
        show (if decide _ = true then some (PyData.int ((w % 1000003 + 5) * (((T'.c + 1 : Nat) : Int) + 2))) else none) = _
        rw [if_pos (decide_eq_true (.inl ⟨by omega, by omega⟩))]
      have c6 : (mBin gMul (mC (PyData.int (7919))) (mK3 0)) en T2 = some (.int (7919 * ((T'.c + 1 : Nat) : Int)), T2) := ev_bin (d1 := .int 7919) (d2 := .int ((T'.c + 1 : Nat) : Int)) rfl rfl rfl
      let N : Int := (w % 1000003 + 5) * (((T'.c + 1 : Nat) : Int) + 2) + 7919 * ((T'.c + 1 : Nat) : Int)
      have N0 : 0 ≤ N := Int.add_nonneg (Int.mul_nonneg (by omega) (by omega)) (by omega)
      have N1 : N < 18446744073709551616 := by
        have a1 : (w % 1000003 + 5) * (((T'.c + 1 : Nat) : Int) + 2) ≤ 1000010 * 1000000010 := Int.mul_le_mul (by omega) (by omega) (by omega) (by omega)
        have a2 : 7919 * ((T'.c + 1 : Nat) : Int) ≤ 7919 * 1000000010 := by omega
        show (w % 1000003 + 5) * (((T'.c + 1 : Nat) : Int) + 2) + 7919 * ((T'.c + 1 : Nat) : Int) < 18446744073709551616
        omega
      have c7 : (mBin gAdd (mBin gMul (mBin gAdd (mBin gMod (mCf V__law_cell (mAd (mK0 0) (mAd (mK3 0) mN0))) (mC (PyData.int (1000003)))) (mC (PyData.int (5)))) (mBin gAdd (mK3 0) (mC (PyData.int (2))))) (mBin gMul (mC (PyData.int (7919))) (mK3 0))) en T2 = some (.int N, T2) := ev_bin c5 c6 rfl
      let en2 : En := [some .deck, some (.dat (.int n)), some (.dat (.int N)), b]
      have d1 : (mBin gPow (mVar 2) (mC (PyData.int (5)))) en2 T2 = some (.int (N ^ (5 : Int).toNat), T2) := by
        refine ev_bin (d1 := .int N) (d2 := .int 5) rfl rfl ?_
        show (if decide ((0 : Int) ≤ 5 ∧ (5 : Int) ≤ 1000000 ∧ N.natAbs < 18446744073709551616) = true then some (PyData.int (N ^ (5 : Int).toNat)) else none) = _
        rw [if_pos (decide_eq_true ⟨by decide, by decide, by omega⟩)]
      have d2 : (mBin gMod (mBin gPow (mVar 2) (mC (PyData.int (5)))) (mC (PyData.int (2147483647)))) en2 T2 = some (.int (N ^ (5 : Int).toNat % 2147483647), T2) := ev_bin d1 (d2 := .int 2147483647) rfl rfl
      have d3 : (mBin gFdiv (mBin gMod (mBin gPow (mVar 2) (mC (PyData.int (5)))) (mC (PyData.int (2147483647)))) (mC (PyData.int (13)))) en2 T2 = some (.int (N ^ (5 : Int).toNat % 2147483647 / 13), T2) := ev_bin d2 (d2 := .int 13) rfl rfl
      have d4 : (mBin gMod (mBin gFdiv (mBin gMod (mBin gPow (mVar 2) (mC (PyData.int (5)))) (mC (PyData.int (2147483647)))) (mC (PyData.int (13)))) (mVar 1)) en2 T2 = some (.int (N ^ (5 : Int).toNat % 2147483647 / 13 % n), T2) := by
        refine ev_bin d3 (d2 := .int n) rfl ?_
        show (if decide (0 < n) = true then some (PyData.int (N ^ (5 : Int).toNat % 2147483647 / 13 % n)) else none) = _
        rw [if_pos (decide_eq_true hn)]
      refine ⟨N ^ (5 : Int).toNat % 2147483647 / 13 % n, T2, ?_, Int.emod_nonneg _ (by omega), Int.emod_lt_of_pos _ hn, h2, ⟨h3.few, h3.pos, h3.at_, by show T'.c + 1 ≤ k + 1; omega⟩⟩
      exact (ev_seq_nx e).trans ((ev_seq_nx s1).trans ((ev_seq_nx (ev_set (i := 2) c7)).trans (ev_ret d4)))
  obtain ⟨v, T', e, r⟩ := goal
  exact ⟨v, T', ev_fun_rt e, r⟩

theorem take_W {n : Int} {k : Nat} {T : Dk} {Q : PyData × Dk → Prop} (g : Gd k T) (hn : 0 < n) (hn2 : n < 1073741824) (hk : k < 1000000000) (q : ∀ (v : Int) (T' : Dk), 0 ≤ v → v < n → Gd (k + 1) T' → Q (.int v, T')) : W (V__law_take [.deck, .dat (.int n)] T) Q := by
  obtain ⟨v, T', e, h0, h1, _, g'⟩ := take_val n hn hn2 hk T g
  exact ⟨_, e, q v T' h0 h1 g'⟩
theorem atI_some {α : Type} (l : List α) (v : Int) (h0 : 0 ≤ v) (h1 : v < (l.length : Nat)) : ∃ x ∈ l, atI l v = some x := by
  obtain ⟨j, rfl⟩ := Int.eq_ofNat_of_zero_le h0
  have hj : j < l.length := by omega
  exact ⟨l[j], List.getElem_mem hj, atI_nat (List.getElem?_eq_getElem hj)⟩
theorem pick_W {ds : List PyData} {k : Nat} {T : Dk} {Q : PyData × Dk → Prop} (g : Gd k T) (hn : ds ≠ []) (hl : ds.length < 1073741824) (hk : k < 1000000000) (q : ∀ d ∈ ds, ∀ (T' : Dk), Gd (k + 1) T' → Q (d, T')) : W (V__law_pick [.deck, .dat (.list ds)] T) Q := by
  have hp : 0 < ds.length := List.length_pos_iff.mpr hn
  refine W_mFun ?_
  unfold VB__law_pick
  simp only [W_mRet, W_mBin]
  refine W.of (r := (.list ds, T)) rfl ?_
  simp only [W_mCf]
  refine W.of (r := ([.deck, .dat (.int (ds.length : Nat))], T)) rfl ?_
  refine take_W g (by omega) (by omega) hk fun v T' h0 h1 g' => ?_
  obtain ⟨x, hx, e⟩ := atI_some ds v h0 h1
  exact W.of (show ixD (.list ds) (.int v) = some x from e) ⟨_, _, rfl, q x hx T' g'⟩
theorem pickS_W {s : Str} {k : Nat} {T : Dk} {Q : PyData × Dk → Prop} (g : Gd k T) (hn : 0 < s.length) (hl : s.length ≤ 16777216) (hk : k < 1000000000) (q : ∀ c ∈ s.cps.toList, ∀ (T' : Dk), Gd (k + 1) T' → Q (.str ⟨#[c]⟩, T')) : W (V__law_pick [.deck, .dat (.str s)] T) Q := by
  refine W_mFun ?_
  unfold VB__law_pick
  simp only [W_mRet, W_mBin]
  refine W.of (r := (.str s, T)) rfl ?_
  simp only [W_mCf]
  refine W.of (r := ([.deck, .dat (.int (s.length : Nat))], T)) ?_ ?_
  · have e : (mCall gLen (mCons (mVar 1) mNil)) [some .deck, some (.dat (.str s))] T = some (.int (s.length : Nat), T) := by
      refine ev_call1 (d := .str s) rfl ?_
      show (if s.length ≤ 16777216 then _ else _) = _
      rw [if_pos hl]
    show ((((mCall gLen (mCons (mVar 1) mNil)) [some .deck, some (.dat (.str s))] T).bind fun p => (some (([] : List Sl), p.2)).map fun q => (Sl.dat p.1 :: q.1, q.2)).map fun q => (Sl.deck :: q.1, q.2)) = _
    rw [e]
    rfl
  refine take_W g (by omega) (by omega) hk fun v T' h0 h1 g' => ?_
  obtain ⟨x, hx, e⟩ := atI_some s.cps.toList v h0 (by simpa [Str.length] using h1)
  refine W.of (show ixD (.str s) (.int v) = some (.str ⟨#[x]⟩) from ?_) ⟨_, _, rfl, q x hx T' g'⟩
  show (if s.length ≤ 16777216 then (atI s.cps.toList v).map fun c => PyData.str ⟨#[c]⟩ else none) = _
  rw [if_pos hl, e]
  rfl
end LQ

set_option Elab.async false
set_option linter.all false
set_option maxRecDepth 100000
set_option maxHeartbeats 4000000
/-! the deck's making -/
namespace LQ
open PySem PySem.Spec PyProof.Rows L2
theorem ints_map : ∀ ns : List Int, intsOf (ns.map PyData.int) = some ns
  | [] => rfl
  | n :: ns => by
    show (intsOf (ns.map PyData.int)).map (n :: ·) = _
    rw [ints_map ns]
    rfl
theorem cut_head (ds : List PyData) (n : Nat) (h : ds.length ≤ n) : cutD ds none (some (n : Nat)) = ds := by
  unfold cutD
  have e1 : HT.sIx ds.length 0 none = 0 := rfl
  have e2 : HT.sIx ds.length ds.length (some ((n : Nat) : Int)) = ds.length := by
    rw [HT.sIx_nat]
    omega
  rw [e1, e2, List.drop_zero, Nat.sub_zero, List.take_length]
def absI (i : Int) : Int := if i < 0 then -i else i
def dOf : PyData → Int
  | .int i => i
  | _ => 0
theorem deck_val (ns : List Int) (h : ns.length ≤ 63) (T : Dk) : V__law_deck [.dat (.list (ns.map PyData.int))] T = some (ns, (ns.filter fun i => decide (10 ^ 18 ≤ absI i)).map absI) := by
  let en : En := [some (.dat (.list (ns.map PyData.int))), some (.own (ns.map PyData.int)), none]
  have e1 : VS__law_deck [some (.dat (.list (ns.map PyData.int))), none, none] T = some (.nx en T) := by
    refine ev_setF (i := 1) (ds := ns.map PyData.int) ?_
    show (some (cutD (ns.map PyData.int) none (some ((63 : Nat) : Int)), T)) = _
    rw [cut_head _ _ (by simpa using h)]
  have e2 : (mLc [2] (mIt (mVarB 1)) (gtName 2) (mQ (mBin gGe (mCall gAbs (mCons (mVar 2) mNil)) (mBin gPow (mC (PyData.int (10))) (mC (PyData.int (18)))))) (mCall gAbs (mCons (mVar 2) mNil))) en T = some (((ns.filter fun i => decide (10 ^ 18 ≤ absI i)).map absI).map PyData.int, T) := by
    refine ev_lc (ds := ns.map PyData.int) rfl (by simpa using (by omega : ns.length ≤ 16777216)) ?_
    rw [loop_pure (fun d => decide (10 ^ 18 ≤ absI (dOf d))) (fun d => .int (absI (dOf d)))]
    · congr 2
      rw [List.filter_map, List.map_map, List.map_map]
      rfl
    · intro d hd
      obtain ⟨i, _, rfl⟩ := List.mem_map.mp hd
      have ea : (mCall gAbs (mCons (mVar 2) mNil)) [some (.dat (.list (ns.map PyData.int))), some (.own (ns.map PyData.int)), some (.dat (.int i))] T = some (.int (absI i), T) := rfl
      refine ⟨[some (.dat (.list (ns.map PyData.int))), some (.own (ns.map PyData.int)), some (.dat (.int i))], rfl, ev_qb (ev_bin ea (d2 := .int (10 ^ 18)) ?_ rfl), fun _ => ea⟩
      refine ev_bin (d1 := .int 10) (d2 := .int 18) rfl rfl ?_
      show (if decide ((0 : Int) ≤ 18 ∧ (18 : Int) ≤ 1000000 ∧ (10 : Int).natAbs < 18446744073709551616) = true then some (PyData.int ((10 : Int) ^ (18 : Int).toNat)) else none) = _
      rw [if_pos (by decide)]
      rfl
  unfold V__law_deck mFunK
  show ((VS__law_deck [some (.dat (.list (ns.map PyData.int))), none, none] T).bind fun r => _) = _
  rw [e1]
  show (((mLc [2] (mIt (mVarB 1)) (gtName 2) (mQ (mBin gGe (mCall gAbs (mCons (mVar 2) mNil)) (mBin gPow (mC (PyData.int (10))) (mC (PyData.int (18)))))) (mCall gAbs (mCons (mVar 2) mNil))) en T).bind fun p => (intsOf (ns.map PyData.int)).bind fun cs => (intsOf p.1).map fun gs => (cs, gs)) = _
  rw [e2]
  show ((intsOf (ns.map PyData.int)).bind fun cs => (intsOf (((ns.filter fun i => decide (10 ^ 18 ≤ absI i)).map absI).map PyData.int)).map fun gs => (cs, gs)) = _
  rw [ints_map, ints_map]
  rfl
theorem deck_good (ns : List Int) (h : ns.length ≤ 63) : Gd 0 ⟨ns, (ns.filter fun i => decide (10 ^ 18 ≤ absI i)).map absI, 0, 0⟩ := by
  refine ⟨h, fun g hg => ?_, Nat.zero_le _, Nat.le_refl _⟩
  obtain ⟨i, hi, rfl⟩ := List.mem_map.mp hg
  have := of_decide_eq_true (List.mem_filter.mp hi).2
  omega
end LQ

set_option Elab.async false
set_option linter.all false
set_option maxRecDepth 100000
set_option maxHeartbeats 4000000
/-! texts that are drawn -/
namespace LQ
open PySem PySem.Spec PyProof.Rows L2
theorem canLay_of {s : Str} (h : ∀ c ∈ s.cps.toList, c < 0x110000) : PyData.canLay0 (.str s) = true := by
  simp only [PyData.canLay0]
  unfold PyData.strOk
  refine Array.all_eq_true_iff_forall_mem.mpr fun c hc => ?_
  exact decide_eq_true (h c (by simpa using hc))
theorem mem_join (sep : Str) : ∀ (ys : List Str) (c : Nat), c ∈ (Str.join sep ys).cps.toList → c ∈ sep.cps.toList ∨ ∃ y ∈ ys, c ∈ y.cps.toList
  | [], c, h => by cases h
  | [x], c, h => .inr ⟨x, List.mem_cons_self, h⟩
  | x :: y :: r, c, h => by
    have h' : c ∈ (x ++ sep ++ Str.join sep (y :: r)).cps.toList := h
    have e : (x ++ sep ++ Str.join sep (y :: r)).cps.toList = x.cps.toList ++ sep.cps.toList ++ (Str.join sep (y :: r)).cps.toList := by
      show (x.cps ++ sep.cps ++ (Str.join sep (y :: r)).cps).toList = _
      simp
    rw [e, List.mem_append, List.mem_append] at h'
    rcases h' with (h | h) | h
    · exact .inr ⟨x, List.mem_cons_self, h⟩
    · exact .inl h
    · rcases mem_join sep (y :: r) c h with h | ⟨z, hz, h⟩
      · exact .inl h
      · exact .inr ⟨z, List.mem_cons_of_mem _ hz, h⟩
/-- one sign -/
def Sgn (d : PyData) : Prop := ∃ c : Nat, c < 0x110000 ∧ d = .str ⟨#[c]⟩
theorem strs_signs : ∀ ds : List PyData, (∀ d ∈ ds, Sgn d) → ∃ ys : List Str, strsOf ds = some ys ∧ ys.length = ds.length ∧ ∀ y ∈ ys, y.length = 1 ∧ ∀ c ∈ y.cps.toList, c < 0x110000
  | [], _ => ⟨[], rfl, rfl, fun _ h => by cases h⟩
  | d :: ds, h => by
    obtain ⟨c, hc, rfl⟩ := h d List.mem_cons_self
    obtain ⟨ys, e, hl, hy⟩ := strs_signs ds fun d hd => h d (List.mem_cons_of_mem _ hd)
    refine ⟨⟨#[c]⟩ :: ys, ?_, by simp [hl], fun y hy' => ?_⟩
    · show (strsOf ds).map _ = _
      rw [e]
      rfl
    · rcases List.mem_cons.mp hy' with rfl | h
      · refine ⟨rfl, fun c' h => ?_⟩
        have : c' = c := by simpa using h
        omega
      · exact hy y h
theorem sum_ones : ∀ ys : List Str, (∀ y ∈ ys, y.length = 1) → (ys.map (·.length)).sum = ys.length
  | [], _ => rfl
  | y :: ys, h => by
    rw [List.map_cons, List.sum_cons, h y List.mem_cons_self, sum_ones ys fun y hy => h y (List.mem_cons_of_mem _ hy), List.length_cons]
    omega
/-- "".join of signs -/
theorem join_signs {ds : List PyData} (h : ∀ d ∈ ds, Sgn d) (hl : ds.length ≤ 16777216) {m : ME} {en : En} {T T' : Dk} (e : m en T = some (.list ds, T')) : ∃ s : Str, mJoin (mC (.str "")) m en T = some (.str s, T') ∧ s.length ≤ ds.length ∧ PyData.canLay0 (.str s) = true := by
  obtain ⟨ys, e1, hy, h1⟩ := strs_signs ds h
  have hs := sum_ones ys fun y hy => (h1 y hy).1
  refine ⟨Txt.join "" ys, ?_, ?_, canLay_of fun c hc => ?_⟩
  · unfold mJoin
    show ((m en T).bind _) = _
    rw [e]
    show ((strsOf ds).bind fun ys => if (ys.map (·.length)).sum + ys.length * (Str.ofString "").length ≤ 16777216 then some (PyData.str (Txt.join "" ys), T') else none) = _
    rw [e1]
    show (if _ then _ else _) = _
    rw [if_pos (by rw [hs, show (Str.ofString "").length = 0 by decide +kernel]; omega)]
  · show (Builtin.Str.glued "" ys).length ≤ _
    rw [StrLaws.glued_eq_join]
    have := StrLaws.join_length_le "" ys
    rw [hs, show (Str.ofString "").length = 0 by decide +kernel] at this
    omega
  · have hc' : c ∈ (Builtin.Str.glued "" ys).cps.toList := hc
    rw [StrLaws.glued_eq_join] at hc'
    rcases mem_join _ ys c hc' with h | ⟨y, hy, h⟩
    · rw [show (Str.ofString "").cps.toList = [] by decide +kernel] at h
      cases h
    · exact (h1 y hy).2 c h
theorem rng_len (n : Nat) : (rng 0 n).length = n := by simp [rng]
end LQ

set_option Elab.async false
set_option linter.all false
set_option maxRecDepth 100000
set_option maxHeartbeats 4000000
/-! the other deck: its cells are never none -/
namespace LQ
open PySem PySem.Spec PyProof.Rows L2
structure GB (k : Nat) (T : Dk) : Prop where
  few : T.cells ≠ []
  pos : ∀ g ∈ T.gs, 0 ≤ g
  at_ : T.i ≤ T.gs.length
  c : T.c ≤ k
theorem GB.up {k l : Nat} {T : Dk} (h : GB k T) (e : k ≤ l) : GB l T := ⟨h.few, h.pos, h.at_, Nat.le_trans h.c e⟩
def XB__law_take : MS := (mSeq (fun en T => mWhile (mQ (mBin gLt (mK2 0) (mKlen 0))) (mSeq (mSet 2 (mKit 0 (mK2 0)))
  (mSeq (mIf (mQ (mBin gGt (mVar 2) (mC (PyData.int (0))))) (mSeq (mKput 0 (mK2 0) (mBin gFdiv (mVar 2) (mVar 1)))
  (mRet (mBin gMod (mVar 2) (mVar 1)))) mNext)
  (mKset2 0 (mBin gAdd (mK2 0) (mC (PyData.int (1))))))) ((fun en T => T.gs.length + 1 - T.i) en T) en T)
  (mSeq (mKset3 0 (mBin gAdd (mK3 0) (mC (PyData.int (1)))))
  (mSeq (mSet 2 (mBin gAdd (mBin gMod (mBin ixD (mK0 0) (mBin gMod (mK3 0) (mCall gLen (mCons (mK0 0) mNil)))) (mC (PyData.int (1000003)))) (mC (PyData.int (5)))))
  (mRet (mBin gMod (mBin gFdiv (mBin gMod (mBin gPow (mBin gAdd (mBin gMul (mVar 2) (mBin gAdd (mK3 0) (mC (PyData.int (2))))) (mBin gMul (mC (PyData.int (7919))) (mK3 0))) (mC (PyData.int (5)))) (mC (PyData.int (2147483647)))) (mC (PyData.int (13)))) (mVar 1))))))
def X__law_take : MF := mFun 3 XB__law_take
def uCond : MT := mQ (mBin gLt (mK2 0) (mKlen 0))
def uBody : MS := (mSeq (mSet 2 (mKit 0 (mK2 0)))
  (mSeq (mIf (mQ (mBin gGt (mVar 2) (mC (PyData.int (0))))) (mSeq (mKput 0 (mK2 0) (mBin gFdiv (mVar 2) (mVar 1)))
  (mRet (mBin gMod (mVar 2) (mVar 1)))) mNext)
  (mKset2 0 (mBin gAdd (mK2 0) (mC (PyData.int (1)))))))
theorem uCond_val (n : Int) (b : Option Sl) (T : Dk) : uCond [some .deck, some (.dat (.int n)), b] T = some (decide (((T.i : Nat) : Int) < ((T.gs.length : Nat) : Int)), T) := rfl
theorem uBody_val (n : Int) (b : Option Sl) (T : Dk) (v : Int) (hn : 0 < n) (hn2 : n < 1073741824) (hi : T.i < T.gs.length) (hv : T.gs[T.i]? = some v) :
    uBody [some .deck, some (.dat (.int n)), b] T = some (if 0 < v then .rt (.int (v % n)) { T with gs := T.gs.set T.i (v / n) } else .nx [some .deck, some (.dat (.int n)), some (.dat (.int v))] { T with i := T.i + 1 }) := by
  have e1 : mKit 0 (mK2 0) [some .deck, some (.dat (.int n)), b] T = some (.int v, T) := by
    show (atI T.gs ((T.i : Nat) : Int)).map _ = _
    rw [atI_nat hv]
    rfl
  have e2 : mSet 2 (mKit 0 (mK2 0)) [some .deck, some (.dat (.int n)), b] T = some (.nx [some .deck, some (.dat (.int n)), some (.dat (.int v))] T) := by
    unfold mSet
    rw [e1]
    rfl
  show ((mSet 2 (mKit 0 (mK2 0)) [some .deck, some (.dat (.int n)), b] T).bind _) = _
  rw [e2]
  show (mSeq (mIf (mQ (mBin gGt (mVar 2) (mC (PyData.int (0))))) (mSeq (mKput 0 (mK2 0) (mBin gFdiv (mVar 2) (mVar 1))) (mRet (mBin gMod (mVar 2) (mVar 1)))) mNext) (mKset2 0 (mBin gAdd (mK2 0) (mC (PyData.int (1)))))) [some .deck, some (.dat (.int n)), some (.dat (.int v))] T = _
  by_cases h0 : 0 < v
  · rw [if_pos h0]
    have f1 : (mBin gFdiv (mVar 2) (mVar 1)) [some .deck, some (.dat (.int n)), some (.dat (.int v))] T = some (.int (v / n), T) := by
      refine ev_bin (d1 := .int v) (d2 := .int n) rfl rfl ?_
      show (if decide (0 < n ∧ n < 1073741824) = true then some (PyData.int (v / n)) else none) = _
      rw [if_pos (decide_eq_true ⟨hn, hn2⟩)]
    have f2 : mKput 0 (mK2 0) (mBin gFdiv (mVar 2) (mVar 1)) [some .deck, some (.dat (.int n)), some (.dat (.int v))] T = some (.nx [some .deck, some (.dat (.int n)), some (.dat (.int v))] { T with gs := T.gs.set T.i (v / n) }) := by
      show ((mBin gFdiv (mVar 2) (mVar 1)) [some .deck, some (.dat (.int n)), some (.dat (.int v))] T).bind _ = _
      rw [f1]
      show (ixN T.gs.length ((T.i : Nat) : Int)).map _ = _
      rw [ixN_nat hi]
      rfl
    have f3 : (mBin gMod (mVar 2) (mVar 1)) [some .deck, some (.dat (.int n)), some (.dat (.int v))] { T with gs := T.gs.set T.i (v / n) } = some (.int (v % n), { T with gs := T.gs.set T.i (v / n) }) := by
      refine ev_bin (d1 := .int v) (d2 := .int n) rfl rfl ?_
      show (if decide (0 < n) = true then some (PyData.int (v % n)) else none) = _
      rw [if_pos (decide_eq_true hn)]
    have f4 : mIf (mQ (mBin gGt (mVar 2) (mC (PyData.int (0))))) (mSeq (mKput 0 (mK2 0) (mBin gFdiv (mVar 2) (mVar 1))) (mRet (mBin gMod (mVar 2) (mVar 1)))) mNext [some .deck, some (.dat (.int n)), some (.dat (.int v))] T = some (.rt (.int (v % n)) { T with gs := T.gs.set T.i (v / n) }) := by
      show (if decide (0 < v) = true then mSeq (mKput 0 (mK2 0) (mBin gFdiv (mVar 2) (mVar 1))) (mRet (mBin gMod (mVar 2) (mVar 1))) [some .deck, some (.dat (.int n)), some (.dat (.int v))] T else _) = _
      rw [if_pos (decide_eq_true h0)]
      show (mKput 0 (mK2 0) (mBin gFdiv (mVar 2) (mVar 1)) [some .deck, some (.dat (.int n)), some (.dat (.int v))] T).bind _ = _
      rw [f2]
      show ((mBin gMod (mVar 2) (mVar 1)) [some .deck, some (.dat (.int n)), some (.dat (.int v))] { T with gs := T.gs.set T.i (v / n) }).map _ = _
      rw [f3]
      rfl
    show (mIf (mQ (mBin gGt (mVar 2) (mC (PyData.int (0))))) (mSeq (mKput 0 (mK2 0) (mBin gFdiv (mVar 2) (mVar 1))) (mRet (mBin gMod (mVar 2) (mVar 1)))) mNext [some .deck, some (.dat (.int n)), some (.dat (.int v))] T).bind _ = _
    rw [f4]
    rfl
  · rw [if_neg h0]
    have f4 : mIf (mQ (mBin gGt (mVar 2) (mC (PyData.int (0))))) (mSeq (mKput 0 (mK2 0) (mBin gFdiv (mVar 2) (mVar 1))) (mRet (mBin gMod (mVar 2) (mVar 1)))) mNext [some .deck, some (.dat (.int n)), some (.dat (.int v))] T = some (.nx [some .deck, some (.dat (.int n)), some (.dat (.int v))] T) := by
      show (if decide (0 < v) = true then _ else mNext [some .deck, some (.dat (.int n)), some (.dat (.int v))] T) = _
      rw [if_neg (by simpa using h0)]
      rfl
    show (mIf (mQ (mBin gGt (mVar 2) (mC (PyData.int (0))))) (mSeq (mKput 0 (mK2 0) (mBin gFdiv (mVar 2) (mVar 1))) (mRet (mBin gMod (mVar 2) (mVar 1)))) mNext [some .deck, some (.dat (.int n)), some (.dat (.int v))] T).bind _ = _
    rw [f4]
    show (if 0 ≤ ((T.i : Nat) : Int) + 1 then some (Res.nx [some .deck, some (.dat (.int n)), some (.dat (.int v))] { T with i := (((T.i : Nat) : Int) + 1).toNat }) else none) = _
    rw [if_pos (by omega), show ((((T.i : Nat) : Int) + 1).toNat) = T.i + 1 by omega]
/-- the loop: a number below n, or the great cells are used up -/
theorem loopB_val (n : Int) (hn : 0 < n) (hn2 : n < 1073741824) {k : Nat} : ∀ (q : Nat) (b : Option Sl) (T : Dk), GB k T → T.gs.length + 1 - T.i ≤ q →
    (∃ v T', mWhile uCond uBody q [some .deck, some (.dat (.int n)), b] T = some (.rt (.int v) T') ∧ 0 ≤ v ∧ v < n ∧ T'.cells = T.cells ∧ GB k T') ∨
    (∃ b' T', mWhile uCond uBody q [some .deck, some (.dat (.int n)), b] T = some (.nx [some .deck, some (.dat (.int n)), b'] T') ∧ T'.cells = T.cells ∧ GB k T')
  | 0, b, T, g, hq => by have := g.at_; omega
  | q + 1, b, T, g, hq => by
    have step : mWhile uCond uBody (q + 1) [some .deck, some (.dat (.int n)), b] T = (if decide (((T.i : Nat) : Int) < ((T.gs.length : Nat) : Int)) = true then (uBody [some .deck, some (.dat (.int n)), b] T).bind fun r => match r with
      | .nx en' T' => mWhile uCond uBody q en' T'
      | .ct en' T' => mWhile uCond uBody q en' T'
      | .bk en' T' => some (.nx en' T')
      | .rt d T' => some (.rt d T')
      else some (.nx [some .deck, some (.dat (.int n)), b] T)) := rfl
    by_cases hi : T.i < T.gs.length
    · rw [step, if_pos (decide_eq_true (by omega)), uBody_val n b T T.gs[T.i] hn hn2 hi (List.getElem?_eq_getElem hi)]
      by_cases hv : 0 < T.gs[T.i]
      · rw [if_pos hv]
        refine .inl ⟨_, _, rfl, Int.emod_nonneg _ (by omega), Int.emod_lt_of_pos _ hn, rfl, ⟨g.few, fun x hx => ?_, by simpa using g.at_, g.c⟩⟩
        rcases List.mem_or_eq_of_mem_set hx with h | h
        · exact g.pos x h
        · subst h
          exact Int.ediv_nonneg (by omega) (by omega)
      · rw [if_neg hv]
        rcases loopB_val n hn hn2 q (some (.dat (.int T.gs[T.i]))) { T with i := T.i + 1 } ⟨g.few, g.pos, hi, g.c⟩ (by show T.gs.length + 1 - (T.i + 1) ≤ q; omega) with ⟨v, T', e, r⟩ | ⟨b', T', e, r⟩
        · exact .inl ⟨v, T', e, r⟩
        · exact .inr ⟨b', T', e, r⟩
    · rw [step, if_neg (by simpa using (by omega : ¬ ((T.i : Nat) : Int) < ((T.gs.length : Nat) : Int)))]
      exact .inr ⟨b, T, rfl, rfl, g⟩

theorem takeB_val (n : Int) (hn : 0 < n) (hn2 : n < 1073741824) {k : Nat} (hk : k < 1000000000) (T : Dk) (g : GB k T) : ∃ v T', X__law_take [.deck, .dat (.int n)] T = some (.int v, T') ∧ 0 ≤ v ∧ v < n ∧ GB (k + 1) T' := by
  have goal : ∃ v T', XB__law_take [some .deck, some (.dat (.int n)), none] T = some (.rt (.int v) T') ∧ 0 ≤ v ∧ v < n ∧ GB (k + 1) T' := by
    rcases loopB_val n hn hn2 (T.gs.length + 1 - T.i) none T g (Nat.le_refl _) with ⟨v, T', e, h0, h1, h2, h3⟩ | ⟨b, T', e, h2, h3⟩
    · exact ⟨v, T', ev_seq_rt e, h0, h1, h3.up (Nat.le_succ _)⟩
    · have hc := h3.c
      have s1 : mKset3 0 (mBin gAdd (mK3 0) (mC (PyData.int (1)))) [some .deck, some (.dat (.int n)), b] T' = some (.nx [some .deck, some (.dat (.int n)), b] { T' with c := T'.c + 1 }) := by
        show (if 0 ≤ ((T'.c : Nat) : Int) + 1 then some (Res.nx [some .deck, some (.dat (.int n)), b] { T' with c := (((T'.c : Nat) : Int) + 1).toNat }) else none) = _
        rw [if_pos (by omega), show ((((T'.c : Nat) : Int) + 1).toNat) = T'.c + 1 by omega]
      let T2 : Dk := { T' with c := T'.c + 1 }
      let en : En := [some .deck, some (.dat (.int n)), b]
      have hl : 0 < T'.cells.length := List.length_pos_iff.mpr h3.few
      have m0 : 0 ≤ ((T'.c + 1 : Nat) : Int) % ((T'.cells.length : Nat) : Int) := Int.emod_nonneg _ (by omega)
      have m1 : ((T'.c + 1 : Nat) : Int) % ((T'.cells.length : Nat) : Int) < ((T'.cells.length : Nat) : Int) := Int.emod_lt_of_pos _ (by omega)
      obtain ⟨x, hx, ex⟩ := atI_some (T'.cells.map PyData.int) _ m0 (by rw [List.length_map]; exact m1)
      obtain ⟨w, _, rfl⟩ := List.mem_map.mp hx
      have cl : (mCall gLen (mCons (mK0 0) mNil)) en T2 = some (.int ((T'.cells.length : Nat) : Int), T2) := by
        refine ev_call1 (d := .list (T'.cells.map PyData.int)) rfl ?_
        show some (PyData.int (((T'.cells.map PyData.int).length : Nat) : Int)) = _
        rw [List.length_map]
      have c0 : (mBin gMod (mK3 0) (mCall gLen (mCons (mK0 0) mNil))) en T2 = some (.int (((T'.c + 1 : Nat) : Int) % ((T'.cells.length : Nat) : Int)), T2) := by
        refine ev_bin (d1 := .int ((T'.c + 1 : Nat) : Int)) rfl cl ?_
        show (if decide (0 < ((T'.cells.length : Nat) : Int)) = true then some (PyData.int (((T'.c + 1 : Nat) : Int) % ((T'.cells.length : Nat) : Int))) else none) = _
        rw [if_pos (decide_eq_true (by omega))]
      have c1 : (mBin ixD (mK0 0) (mBin gMod (mK3 0) (mCall gLen (mCons (mK0 0) mNil)))) en T2 = some (.int w, T2) := ev_bin (d1 := .list (T'.cells.map PyData.int)) rfl c0 ex
      have c2 := ev_bin (g := gMod) c1 (m2 := mC (PyData.int (1000003))) (d2 := .int 1000003) rfl (b := .int (w % 1000003)) rfl
      have c3 := ev_bin (g := gAdd) c2 (m2 := mC (PyData.int (5))) (d2 := .int 5) rfl (b := .int (w % 1000003 + 5)) rfl
      have w0 : 0 ≤ w % 1000003 := Int.emod_nonneg _ (by decide)
      have w1 : w % 1000003 < 1000003 := Int.emod_lt_of_pos _ (by decide)
      let M : Int := w % 1000003 + 5
      let en2 : En := [some .deck, some (.dat (.int n)), some (.dat (.int M))]
      have c4 : (mBin gAdd (mK3 0) (mC (PyData.int (2)))) en2 T2 = some (.int (((T'.c + 1 : Nat) : Int) + 2), T2) := ev_bin (d1 := .int ((T'.c + 1 : Nat) : Int)) (d2 := .int 2) rfl rfl rfl
      have c5 : (mBin gMul (mVar 2) (mBin gAdd (mK3 0) (mC (PyData.int (2))))) en2 T2 = some (.int (M * (((T'.c + 1 : Nat) : Int) + 2)), T2) := by
        refine ev_bin (d1 := .int M) rfl c4 ?_
        show (if decide _ = true then some (PyData.int (M * (((T'.c + 1 : Nat) : Int) + 2))) else none) = _
        rw [if_pos (decide_eq_true (.inl ⟨by show _ < w % 1000003 + 5; omega, by show w % 1000003 + 5 < _; omega⟩))]
      have c6 : (mBin gMul (mC (PyData.int (7919))) (mK3 0)) en2 T2 = some (.int (7919 * ((T'.c + 1 : Nat) : Int)), T2) := ev_bin (d1 := .int 7919) (d2 := .int ((T'.c + 1 : Nat) : Int)) rfl rfl rfl
      let N : Int := M * (((T'.c + 1 : Nat) : Int) + 2) + 7919 * ((T'.c + 1 : Nat) : Int)
      have N0 : 0 ≤ N := Int.add_nonneg (Int.mul_nonneg (by show 0 ≤ w % 1000003 + 5; omega) (by omega)) (by omega)
      have N1 : N < 18446744073709551616 := by
        have a1 : (w % 1000003 + 5) * (((T'.c + 1 : Nat) : Int) + 2) ≤ 1000010 * 1000000010 := Int.mul_le_mul (by omega) (by omega) (by omega) (by omega)
        have a2 : 7919 * ((T'.c + 1 : Nat) : Int) ≤ 7919 * 1000000010 := by omega
        show (w % 1000003 + 5) * (((T'.c + 1 : Nat) : Int) + 2) + 7919 * ((T'.c + 1 : Nat) : Int) < 18446744073709551616
        omega
      have c7 := ev_bin (g := gAdd) c5 c6 (b := .int N) rfl
      have d1 : (mBin gPow (mBin gAdd (mBin gMul (mVar 2) (mBin gAdd (mK3 0) (mC (PyData.int (2))))) (mBin gMul (mC (PyData.int (7919))) (mK3 0))) (mC (PyData.int (5)))) en2 T2 = some (.int (N ^ (5 : Int).toNat), T2) := by
        refine ev_bin c7 (d2 := .int 5) rfl ?_
        show (if decide ((0 : Int) ≤ 5 ∧ (5 : Int) ≤ 1000000 ∧ N.natAbs < 18446744073709551616) = true then some (PyData.int (N ^ (5 : Int).toNat)) else none) = _
        rw [if_pos (decide_eq_true ⟨by decide, by decide, by omega⟩)]
      have d2 := ev_bin (g := gMod) d1 (m2 := mC (PyData.int (2147483647))) (d2 := .int 2147483647) rfl (b := .int (N ^ (5 : Int).toNat % 2147483647)) rfl
      have d3 := ev_bin (g := gFdiv) d2 (m2 := mC (PyData.int (13))) (d2 := .int 13) rfl (b := .int (N ^ (5 : Int).toNat % 2147483647 / 13)) rfl
      have d4 : (mBin gMod (mBin gFdiv (mBin gMod (mBin gPow (mBin gAdd (mBin gMul (mVar 2) (mBin gAdd (mK3 0) (mC (PyData.int (2))))) (mBin gMul (mC (PyData.int (7919))) (mK3 0))) (mC (PyData.int (5)))) (mC (PyData.int (2147483647)))) (mC (PyData.int (13)))) (mVar 1)) en2 T2 = some (.int (N ^ (5 : Int).toNat % 2147483647 / 13 % n), T2) := by
        refine ev_bin d3 (d2 := .int n) rfl ?_
        show (if decide (0 < n) = true then some (PyData.int (N ^ (5 : Int).toNat % 2147483647 / 13 % n)) else none) = _
        rw [if_pos (decide_eq_true hn)]
      refine ⟨N ^ (5 : Int).toNat % 2147483647 / 13 % n, T2, ?_, Int.emod_nonneg _ (by omega), Int.emod_lt_of_pos _ hn, ⟨h3.few, h3.pos, h3.at_, by show T'.c + 1 ≤ k + 1; omega⟩⟩
      exact (ev_seq_nx e).trans ((ev_seq_nx s1).trans ((ev_seq_nx (ev_set (i := 2) c3)).trans (ev_ret d4)))
  obtain ⟨v, T', e, r⟩ := goal
  exact ⟨v, T', ev_fun_rt e, r⟩
theorem takeB_W {n : Int} {k : Nat} {T : Dk} {Q : PyData × Dk → Prop} (g : GB k T) (hn : 0 < n) (hn2 : n < 1073741824) (hk : k < 1000000000) (q : ∀ (v : Int) (T' : Dk), 0 ≤ v → v < n → GB (k + 1) T' → Q (.int v, T')) : W (X__law_take [.deck, .dat (.int n)] T) Q := by
  obtain ⟨v, T', e, h0, h1, g'⟩ := takeB_val n hn hn2 hk T g
  exact ⟨_, e, q v T' h0 h1 g'⟩
end LQ

set_option Elab.async false
set_option linter.all false
set_option maxRecDepth 100000
set_option maxHeartbeats 4000000
/-! the other deck's making; texts cut and put together -/
namespace LQ
open PySem PySem.Spec PyProof.Rows L2
def XS__law_deck : MS := (mSetF 1 (mCatF (mLc [2] (mIt (mVar 0)) (gtName 2) mYes (mCall gAbs (mCons (mVar 2) mNil))) (mRep (mLst (mCons (mC (PyData.int (3))) mNil)) (mCall gInt (mCons (mBin gEq (mCall gLen (mCons (mVar 0) mNil)) (mC (PyData.int (0)))) mNil)))))
def XR__law_deck : MKd := mKd 1 (mLc [2] (mIt (mVarB 1)) (gtName 2) (mQ (mBin gGe (mVar 2) (mBin gPow (mC (PyData.int (10))) (mC (PyData.int (18)))))) (mVar 2))
def X__law_deck : List Sl → Dk → Option (List Int × List Int) := mFunK 3 XS__law_deck XR__law_deck
def cellsB (ns : List Int) : List Int := ns.map absI ++ (if ns.length = 0 then [3] else [])
theorem absI_nn (i : Int) : 0 ≤ absI i := by
  unfold absI
  split <;> omega
theorem cellsB_nn (ns : List Int) : ∀ g ∈ cellsB ns, 0 ≤ g := by
  intro g hg
  unfold cellsB at hg
  rcases List.mem_append.mp hg with h | h
  · obtain ⟨i, _, rfl⟩ := List.mem_map.mp h
    exact absI_nn i
  · split at h
    · rw [List.mem_singleton.mp h]; decide
    · cases h
theorem cellsB_ne (ns : List Int) : cellsB ns ≠ [] := by
  unfold cellsB
  cases ns with
  | nil => simp
  | cons n ns => simp
theorem deckB_val (ns : List Int) (h : ns.length ≤ 63) (T : Dk) : X__law_deck [.dat (.list (ns.map PyData.int))] T = some (cellsB ns, (cellsB ns).filter fun i => decide (10 ^ 18 ≤ i)) := by
  let en : En := [some (.dat (.list (ns.map PyData.int))), some (.own ((cellsB ns).map PyData.int)), none]
  have e0 : (mLc [2] (mIt (mVar 0)) (gtName 2) mYes (mCall gAbs (mCons (mVar 2) mNil))) [some (.dat (.list (ns.map PyData.int))), none, none] T = some ((ns.map absI).map PyData.int, T) := by
    refine ev_lc (ds := ns.map PyData.int) rfl (by simpa using (by omega : ns.length ≤ 16777216)) ?_
    rw [loop_pure (fun _ => true) (fun d => .int (absI (dOf d)))]
    · congr 2
      rw [List.filter_eq_self.mpr fun _ _ => rfl, List.map_map, List.map_map]
      rfl
    · intro d hd
      obtain ⟨i, _, rfl⟩ := List.mem_map.mp hd
      exact ⟨_, rfl, rfl, fun _ => rfl⟩
  have e1 : (mRep (mLst (mCons (mC (PyData.int (3))) mNil)) (mCall gInt (mCons (mBin gEq (mCall gLen (mCons (mVar 0) mNil)) (mC (PyData.int (0)))) mNil))) [some (.dat (.list (ns.map PyData.int))), none, none] T = some ((if ns.length = 0 then [3] else []).map PyData.int, T) := by
    have hl : (mCall gLen (mCons (mVar 0) mNil)) [some (.dat (.list (ns.map PyData.int))), none, none] T = some (.int (ns.length : Nat), T) := by
      refine ev_call1 (d := .list (ns.map PyData.int)) rfl ?_
      show some (PyData.int (((ns.map PyData.int).length : Nat) : Int)) = _
      rw [List.length_map]
    have hq : (mCall gInt (mCons (mBin gEq (mCall gLen (mCons (mVar 0) mNil)) (mC (PyData.int (0)))) mNil)) [some (.dat (.list (ns.map PyData.int))), none, none] T = some (.int (if ((ns.length : Nat) : Int) == 0 then 1 else 0), T) := ev_call1 (ev_bin hl (d2 := .int 0) rfl (eq_ints _ _)) rfl
    have h3 : (mLst (mCons (mC (PyData.int (3))) mNil)) [some (.dat (.list (ns.map PyData.int))), none, none] T = some ([.int 3], T) := rfl
    unfold mRep
    rw [h3]
    simp only [Option.bind_some]
    rw [hq]
    simp only [Option.bind_some]
    by_cases h0 : ns.length = 0
    · have hb : (((ns.length : Nat) : Int) == 0) = true := by simp [h0]
      rw [hb, if_pos h0]
      rfl
    · have hb : (((ns.length : Nat) : Int) == 0) = false := by simp only [beq_eq_false_iff_ne, ne_eq]; omega
      rw [hb, if_neg h0]
      rfl
  have e2 : XS__law_deck [some (.dat (.list (ns.map PyData.int))), none, none] T = some (.nx en T) := by
    refine ev_setF (i := 1) (ds := (cellsB ns).map PyData.int) ?_
    unfold mCatF
    rw [e0]
    show ((mRep (mLst (mCons (mC (PyData.int (3))) mNil)) (mCall gInt (mCons (mBin gEq (mCall gLen (mCons (mVar 0) mNil)) (mC (PyData.int (0)))) mNil))) [some (.dat (.list (ns.map PyData.int))), none, none] T).bind _ = _
    rw [e1]
    show (if ((ns.map absI).map PyData.int).length + ((if ns.length = 0 then [3] else []).map PyData.int).length ≤ 16777216 then some (((ns.map absI).map PyData.int) ++ ((if ns.length = 0 then [3] else []).map PyData.int), T) else none) = _
    rw [if_pos]
    · unfold cellsB
      rw [List.map_append]
    · simp only [List.length_map]
      split
      · simp only [List.length_cons, List.length_nil]; omega
      · simp only [List.length_nil]; omega
  have hlen : (cellsB ns).length ≤ 64 := by
    unfold cellsB
    rw [List.length_append, List.length_map]
    split
    · simp only [List.length_cons, List.length_nil]; omega
    · simp only [List.length_nil]; omega
  have e3 : (mLc [2] (mIt (mVarB 1)) (gtName 2) (mQ (mBin gGe (mVar 2) (mBin gPow (mC (PyData.int (10))) (mC (PyData.int (18)))))) (mVar 2)) en T = some (((cellsB ns).filter fun i => decide (10 ^ 18 ≤ i)).map PyData.int, T) := by
    refine ev_lc (ds := (cellsB ns).map PyData.int) rfl (by rw [List.length_map]; omega) ?_
    rw [loop_pure (fun d => decide (10 ^ 18 ≤ dOf d)) id]
    · congr 2
      rw [List.map_id, List.filter_map]
      rfl
    · intro d hd
      obtain ⟨i, _, rfl⟩ := List.mem_map.mp hd
      refine ⟨_, rfl, ev_qb (ev_bin (d1 := .int i) (d2 := .int (10 ^ 18)) rfl ?_ rfl), fun _ => rfl⟩
      refine ev_bin (d1 := .int 10) (d2 := .int 18) rfl rfl ?_
      show (if decide ((0 : Int) ≤ 18 ∧ (18 : Int) ≤ 1000000 ∧ (10 : Int).natAbs < 18446744073709551616) = true then some (PyData.int ((10 : Int) ^ (18 : Int).toNat)) else none) = _
      rw [if_pos (by decide)]
      rfl
  unfold X__law_deck mFunK
  show ((XS__law_deck [some (.dat (.list (ns.map PyData.int))), none, none] T).bind fun r => _) = _
  rw [e2]
  show (((mLc [2] (mIt (mVarB 1)) (gtName 2) (mQ (mBin gGe (mVar 2) (mBin gPow (mC (PyData.int (10))) (mC (PyData.int (18)))))) (mVar 2)) en T).bind fun p => (intsOf ((cellsB ns).map PyData.int)).bind fun cs => (intsOf p.1).map fun gs => (cs, gs)) = _
  rw [e3]
  show ((intsOf ((cellsB ns).map PyData.int)).bind fun cs => (intsOf (((cellsB ns).filter fun i => decide (10 ^ 18 ≤ i)).map PyData.int)).map fun gs => (cs, gs)) = _
  rw [ints_map, ints_map]
  rfl
theorem deckB_good (ns : List Int) : GB 0 ⟨cellsB ns, (cellsB ns).filter fun i => decide (10 ^ 18 ≤ i), 0, 0⟩ := ⟨cellsB_ne ns, fun g hg => cellsB_nn ns g (List.mem_filter.mp hg).1, Nat.zero_le _, Nat.le_refl _⟩
/-! ### texts -/
/-- a text of at most n signs that there are -/
def Tx (n : Nat) (s : Str) : Prop := s.length ≤ n ∧ ∀ c ∈ s.cps.toList, c < 0x110000
theorem Tx.up {n m : Nat} {s : Str} (h : Tx n s) (e : n ≤ m) : Tx m s := ⟨Nat.le_trans h.1 e, h.2⟩
theorem Tx.lay {n : Nat} {s : Str} (h : Tx n s) : PyData.canLay0 (.str s) = true := canLay_of h.2
theorem Tx.app {n m : Nat} {s t : Str} (h : Tx n s) (g : Tx m t) : Tx (n + m) (s ++ t) := by
  have e : (s ++ t).cps = s.cps ++ t.cps := rfl
  refine ⟨?_, fun c hc => ?_⟩
  · show (s ++ t).cps.size ≤ _
    rw [e, Array.size_append]
    exact Nat.add_le_add h.1 g.1
  · rw [e, Array.toList_append, List.mem_append] at hc
    rcases hc with hc | hc
    · exact h.2 c hc
    · exact g.2 c hc
theorem Tx.sgn {c : Nat} (h : c < 0x110000) : Tx 1 ⟨#[c]⟩ := by
  refine ⟨Nat.le_refl _, fun d hd => ?_⟩
  have : d = c := by simpa using hd
  omega
theorem add_str {n m : Nat} {s t : Str} (h : Tx n s) (g : Tx m t) (e : n + m ≤ 16777216) : gAddS (.str s) (.str t) = some (.str (s ++ t)) := by
  show (if s.length + t.length ≤ 16777216 then _ else _) = _
  rw [if_pos (by have := h.1; have := g.1; omega)]
theorem join_signsT {ds : List PyData} (h : ∀ d ∈ ds, Sgn d) (hl : ds.length ≤ 16777216) {m : ME} {en : En} {T T' : Dk} (e : m en T = some (.list ds, T')) : ∃ s : Str, mJoin (mC (.str "")) m en T = some (.str s, T') ∧ Tx ds.length s := by
  obtain ⟨s, e, h1, h2⟩ := join_signs h hl e
  exact ⟨s, e, h1, canLay_cps h2⟩
end LQ

set_option Elab.async false
set_option linter.all false
set_option maxRecDepth 100000
set_option maxHeartbeats 4000000
/-! more of W -/
namespace LQ
open PySem PySem.Spec PyProof.Rows L2
section
variable {en : En} {T : Dk}
theorem W_mSl {g : PyData → Option Int → Option Int → Option PyData} {m : ME} {o1 o2 : MO} {Q : PyData × Dk → Prop} : W (mSl g m o1 o2 en T) Q ↔ W (m en T) fun p => W (o1 en p.2) fun q => W (o2 en q.2) fun r => W (g p.1 q.1 r.1) fun d => Q (d, r.2) := by
  unfold mSl
  simp only [W_bind, W_map]
theorem W_mP0 {Q : Option Int × Dk → Prop} : W (mP0 en T) Q ↔ Q (none, T) := W_some
theorem W_mP {m : ME} {Q : Option Int × Dk → Prop} : W (mP m en T) Q ↔ W (m en T) fun p => ∃ i, p.1 = .int i ∧ Q (some i, p.2) := by
  unfold mP
  cases h : m en T with
  | none => exact ⟨fun h => (W_none.mp h).elim, fun h => (W_none.mp h).elim⟩
  | some p =>
    obtain ⟨d, T'⟩ := p
    rw [W_some]
    cases d with
    | int b => exact ⟨fun h => ⟨b, rfl, W_some.mp h⟩, fun ⟨b', e, q⟩ => by cases e; exact W_some.mpr q⟩
    | _ => exact ⟨fun h => (W_none.mp h).elim, fun ⟨_, e, _⟩ => by cases e⟩
theorem W_mSlF {m : ME} {o1 o2 : MO} {Q : List PyData × Dk → Prop} : W (mSlF m o1 o2 en T) Q ↔ W (m en T) fun p => W (o1 en p.2) fun q => W (o2 en q.2) fun r => ∃ ds, p.1 = .list ds ∧ Q (cutD ds q.1 r.1, r.2) := by
  unfold mSlF
  simp only [W_bind]
  refine W_congr fun p => W_congr fun q => W_congr fun r => ?_
  obtain ⟨d, T'⟩ := p
  cases d <;> simp [W_none, W_some]
theorem W_mNeg {m : ME} {Q : PyData × Dk → Prop} : W (mNeg m en T) Q ↔ W (m en T) fun p => ∃ i, p.1 = .int i ∧ Q (.int (-i), p.2) := by
  unfold mNeg
  simp only [W_bind]
  refine W_congr fun p => ?_
  obtain ⟨d, T'⟩ := p
  cases d <;> simp [W_none, W_some]
theorem W_mRevT {m : ME} {Q : PyData × Dk → Prop} : W (mRevT m en T) Q ↔ W (m en T) fun p => ∃ ds, p.1 = .tuple ds ∧ Q (.tuple ds.reverse, p.2) := by
  unfold mRevT
  simp only [W_bind]
  refine W_congr fun p => ?_
  obtain ⟨d, T'⟩ := p
  cases d <;> simp [W_none, W_some]
theorem W_mTupOf {m : ME} {Q : PyData × Dk → Prop} : W (mTupOf m en T) Q ↔ W (m en T) fun p => ∃ ds, p.1 = .list ds ∧ Q (.tuple ds, p.2) := by
  unfold mTupOf
  simp only [W_bind]
  refine W_congr fun p => ?_
  obtain ⟨d, T'⟩ := p
  cases d <;> simp [W_none, W_some]
theorem W_mListT {m : ME} {Q : List PyData × Dk → Prop} : W (mListOf m en T) Q ↔ W (m en T) fun p => ∃ ds, (p.1 = .list ds ∨ p.1 = .tuple ds) ∧ Q (ds, p.2) := by
  unfold mListOf
  simp only [W_bind]
  refine W_congr fun p => ?_
  obtain ⟨d, T'⟩ := p
  cases d <;> simp [W_none, W_some]
theorem W_mAk2 {x y : Option Sl} {es : En} {ms : MAs} {Q : List Sl × Dk → Prop} : W (mAk 2 ms (x :: y :: some .deck :: es) T) Q ↔ W (ms (x :: y :: some .deck :: es) T) fun q => Q (.deck :: q.1, q.2) := W_mAk rfl
theorem W_mAc {m : ME} {ms : MAs} {Q : List Sl × Dk → Prop} : W (mAc m ms en T) Q ↔ W (m en T) fun p => W (ms en p.2) fun q => Q (.cst p.1 :: q.1, q.2) := by
  unfold mAc
  simp only [W_bind, W_map]
theorem W_mCst0 {d : PyData} {es : En} {Q : PyData × Dk → Prop} : W (mCst 0 (some (.cst d) :: es) T) Q ↔ Q (d, T) := W_some
theorem W_mCstS {i : Nat} {x : Option Sl} {es : En} {Q : PyData × Dk → Prop} : W (mCst (i + 1) (x :: es) T) Q ↔ W (mCst i es T) Q := by
  unfold mCst
  rw [List.getElem?_cons_succ]
theorem W_mRetV {i : Nat} {ds : List PyData} {Q : Res → Prop} (e : en[i]? = some (some (.own ds))) : W (mRetV i en T) Q ↔ Q (.rt (.list ds) T) := by
  unfold mRetV
  rw [e]
  exact W_some
end
/-- a statement that goes on, and what holds behind it -/
theorem W_cut {s1 s2 : MS} {en : En} {T : Dk} {Q : Res → Prop} (P : En → Dk → Prop) (h : W (s1 en T) fun r => ∃ en' T', r = .nx en' T' ∧ P en' T') (k : ∀ en' T', P en' T' → W (s2 en' T') Q) : W (mSeq s1 s2 en T) Q := by
  rw [W_mSeq]
  refine h.imp fun r hr => ?_
  obtain ⟨en', T', rfl, p⟩ := hr
  exact k en' T' p
/-! ### cuts -/
theorem mem_cutD {ds : List PyData} {lo hi : Option Int} {d : PyData} (h : d ∈ cutD ds lo hi) : d ∈ ds := by
  unfold cutD at h
  exact List.mem_of_mem_drop (List.mem_of_mem_take h)
theorem len_cutD (ds : List PyData) (lo hi : Option Int) : (cutD ds lo hi).length ≤ ds.length := by
  unfold cutD
  rw [List.length_take, List.length_drop]
  omega
theorem Tx.cut {n : Nat} {s : Str} (h : Tx n s) (lo hi : Option Int) : Tx n (cutS s lo hi) := by
  refine ⟨?_, fun c hc => ?_⟩
  · show ((s.cps.toList.drop _).take _).toArray.size ≤ n
    rw [List.size_toArray, List.length_take, List.length_drop, Array.length_toList]
    have := h.1
    unfold Str.length at this
    omega
  · exact h.2 c (List.mem_of_mem_drop (List.mem_of_mem_take (by simpa [cutS] using hc)))
theorem sl_str_cut {n : Nat} {s : Str} (h : Tx n s) (e : n ≤ 16777216) (lo hi : Option Int) : gSlS (.str s) lo hi = some (.str (cutS s lo hi)) := by
  show (if s.length ≤ 16777216 then _ else _) = _
  rw [if_pos (Nat.le_trans h.1 e)]
theorem glen_str {n : Nat} {s : Str} (h : Tx n s) (e : n ≤ 16777216) : gLen [.str s] = some (.int (s.length : Nat)) := by
  show (if s.length ≤ 16777216 then _ else _) = _
  rw [if_pos (Nat.le_trans h.1 e)]
theorem abc_ok : Tx 26 "abcdefghijklmnopqrstuvwxyz" := ⟨by decide +kernel, canLay_cps (by decide +kernel)⟩
theorem abc_len : (Str.ofString "abcdefghijklmnopqrstuvwxyz").length = 26 := by decide +kernel
/-- a letter of the alphabet by a number -/
theorem ix_abc {v : Int} (h0 : 0 ≤ v) (h1 : v < 26) : ∃ c, c < 0x110000 ∧ ixD (.str "abcdefghijklmnopqrstuvwxyz") (.int v) = some (.str ⟨#[c]⟩) := by
  obtain ⟨x, hx, e⟩ := atI_some (Str.ofString "abcdefghijklmnopqrstuvwxyz").cps.toList v h0 (by rw [show (Str.ofString "abcdefghijklmnopqrstuvwxyz").cps.toList.length = 26 by decide +kernel]; exact h1)
  refine ⟨x, abc_ok.2 x hx, ?_⟩
  show (if (Str.ofString "abcdefghijklmnopqrstuvwxyz").length ≤ 16777216 then (atI (Str.ofString "abcdefghijklmnopqrstuvwxyz").cps.toList v).map fun c => PyData.str ⟨#[c]⟩ else none) = _
  rw [if_pos (by rw [abc_len]; decide), e]
  rfl
theorem in_list_if {n : Nat} {x : Str} (h : Tx n x) (neg : Bool) : gIn neg (.str x) (.list [.str "if", .str "and"]) = some (.bool (neg ^^ (x == "if" || x == "and"))) := by
  unfold gIn
  show (if SeqAt.shaped (.str x) = true ∧ SeqAt.shaped (.list [.str "if", .str "and"]) = true then some (PyData.bool (neg ^^ [PyData.str "if", PyData.str "and"].any fun z => PyData.eqv z (.str x))) else none) = _
  rw [if_pos ⟨by rw [sh_str]; exact h.lay, by decide +kernel⟩]
  congr 3
  simp only [List.any_cons, List.any_nil, Bool.or_false, PyData.eqv]
  rw [Bool.eq_iff_iff]
  simp only [Bool.or_eq_true, beq_iff_eq]
  exact ⟨fun h => h.imp Eq.symm Eq.symm, fun h => h.imp Eq.symm Eq.symm⟩
/-! ### numbers -/
theorem add_ints (i j : Int) : gAdd (.int i) (.int j) = some (.int (i + j)) := rfl
theorem sub_ints (i j : Int) : gSub (.int i) (.int j) = some (.int (i - j)) := rfl
theorem lt_ints (i j : Int) : gLt (.int i) (.int j) = some (.bool (decide (i < j))) := rfl
theorem le_ints (i j : Int) : gLe (.int i) (.int j) = some (.bool (decide (i ≤ j))) := rfl
theorem gt_ints (i j : Int) : gGt (.int i) (.int j) = some (.bool (decide (j < i))) := rfl
theorem ge_ints (i j : Int) : gGe (.int i) (.int j) = some (.bool (decide (j ≤ i))) := rfl
theorem mod_ints {i j : Int} (h : 0 < j) : gMod (.int i) (.int j) = some (.int (i % j)) := by
  show (if decide (0 < j) = true then _ else _) = _
  rw [if_pos (decide_eq_true h)]
theorem mul_ints {i j : Int} (h : -1000 < i ∧ i < 1000) : gMul (.int i) (.int j) = some (.int (i * j)) := by
  show (if decide _ = true then _ else _) = _
  rw [if_pos (decide_eq_true (.inl ⟨by omega, by omega⟩))]
theorem glen_list (ds : List PyData) : gLen [.list ds] = some (.int (ds.length : Nat)) := rfl
theorem glen_tuple (ds : List PyData) : gLen [.tuple ds] = some (.int (ds.length : Nat)) := rfl
/-! ### an item that is drawn -/
theorem ix_list {ds : List PyData} {v : Int} (h0 : 0 ≤ v) (h1 : v < (ds.length : Nat)) : ∃ d ∈ ds, ixD (.list ds) (.int v) = some d := atI_some ds v h0 h1
theorem ix_tuple {ds : List PyData} {v : Int} (h0 : 0 ≤ v) (h1 : v < (ds.length : Nat)) : ∃ d ∈ ds, ixD (.tuple ds) (.int v) = some d := atI_some ds v h0 h1
end LQ

set_option Elab.async false
set_option linter.all false
set_option maxRecDepth 100000
set_option maxHeartbeats 4000000
/-! data that can be compared -/
namespace LQ
open PySem PySem.Spec PyProof.Rows L2
/-- it can be laid, and is at most n deep -/
def Sh (n : Nat) (d : PyData) : Prop := PyData.canLay0 d = true ∧ d.depth ≤ n
theorem Sh.up {n m : Nat} {d : PyData} (h : Sh n d) (e : n ≤ m) : Sh m d := ⟨h.1, Nat.le_trans h.2 e⟩
theorem Sh.shaped {n : Nat} {d : PyData} (h : Sh n d) (e : n ≤ 64) : SeqAt.shaped d = true := by
  unfold SeqAt.shaped
  rw [h.1, Bool.true_and]
  exact decide_eq_true (Nat.le_trans h.2 e)
theorem shAll {n : Nat} : ∀ {ds : List PyData}, (∀ d ∈ ds, Sh n d) → PyData.canLayAll0 ds = true ∧ PyData.depthAll ds ≤ n
  | [], _ => by simp [PyData.canLayAll0, PyData.depthAll]
  | d :: ds, h => by
    obtain ⟨h1, h2⟩ := h d List.mem_cons_self
    obtain ⟨h3, h4⟩ := shAll (n := n) (ds := ds) fun d hd => h d (List.mem_cons_of_mem _ hd)
    simp only [PyData.canLayAll0, PyData.depthAll, h1, h3, Bool.and_self, true_and]
    omega
theorem Sh.tuple {n : Nat} {ds : List PyData} (h : ∀ d ∈ ds, Sh n d) : Sh (n + 1) (.tuple ds) := by
  obtain ⟨h1, h2⟩ := shAll h
  exact ⟨by simpa [PyData.canLay0] using h1, by simp only [PyData.depth]; omega⟩
theorem Sh.list {n : Nat} {ds : List PyData} (h : ∀ d ∈ ds, Sh n d) : Sh (n + 1) (.list ds) := by
  obtain ⟨h1, h2⟩ := shAll h
  exact ⟨by simpa [PyData.canLay0] using h1, by simp only [PyData.depth]; omega⟩
theorem Sh.int (i : Int) : Sh 0 (.int i) := ⟨rfl, Nat.le_refl _⟩
theorem Sh.bool (b : Bool) : Sh 0 (.bool b) := ⟨rfl, Nat.le_refl _⟩
theorem Sh.none : Sh 0 .none := ⟨rfl, Nat.le_refl _⟩
theorem Sh.str {n : Nat} {s : Str} (h : Tx n s) : Sh 0 (.str s) := ⟨h.lay, Nat.le_refl _⟩
theorem eq_sh {n m : Nat} {a b : PyData} (ha : Sh n a) (hb : Sh m b) (e : n ≤ 64) (f : m ≤ 64) : gEq a b = some (.bool (PyData.eqv a b)) := by
  unfold gEq
  rw [if_pos ⟨ha.shaped e, hb.shaped f⟩]
theorem ne_sh {n m : Nat} {a b : PyData} (ha : Sh n a) (hb : Sh m b) (e : n ≤ 64) (f : m ≤ 64) : gNe a b = some (.bool (!PyData.eqv a b)) := by
  unfold gNe
  rw [if_pos ⟨ha.shaped e, hb.shaped f⟩]
theorem in_sh {n m : Nat} {a : PyData} {ds : List PyData} (neg : Bool) (ha : Sh n a) (hb : ∀ d ∈ ds, Sh m d) (e : n ≤ 64) (f : m ≤ 63) : gIn neg a (.list ds) = some (.bool (neg ^^ ds.any fun z => PyData.eqv z a)) := by
  unfold gIn
  show (if SeqAt.shaped a = true ∧ SeqAt.shaped (.list ds) = true then _ else _) = _
  rw [if_pos ⟨ha.shaped e, (Sh.list hb).shaped (by omega)⟩]
theorem inT_sh {n m : Nat} {a : PyData} {ds : List PyData} (neg : Bool) (ha : Sh n a) (hb : ∀ d ∈ ds, Sh m d) (e : n ≤ 64) (f : m ≤ 63) : gIn neg a (.tuple ds) = some (.bool (neg ^^ ds.any fun z => PyData.eqv z a)) := by
  unfold gIn
  show (if SeqAt.shaped a = true ∧ SeqAt.shaped (.tuple ds) = true then _ else _) = _
  rw [if_pos ⟨ha.shaped e, (Sh.tuple hb).shaped (by omega)⟩]
/-! ### names, turns, sorts, rules as they are drawn -/
def Nm (d : PyData) : Prop := ∃ s, d = .str s ∧ Tx 40 s
def Tn (d : PyData) : Prop := ∃ s i, d = .tuple [.str s, .int i] ∧ Tx 40 s ∧ (i = 0 ∨ i = 1)
def So (d : PyData) : Prop := Tn d ∨ ∃ s, d = .tuple [.str s] ∧ Tx 40 s
def Ru (d : PyData) : Prop := ∃ (w : Str) (a b : PyData), d = .tuple [.str w, a, b] ∧ (((w = "within" ∨ w = "apart") ∧ So a ∧ So b) ∨ ((w = "along" ∨ w = "away") ∧ Tn a ∧ Tn b))
theorem Nm.sh {d : PyData} (h : Nm d) : Sh 0 d := by
  obtain ⟨s, rfl, t⟩ := h
  exact .str t
theorem Tn.sh {d : PyData} (h : Tn d) : Sh 1 d := by
  obtain ⟨s, i, rfl, t, _⟩ := h
  refine Sh.tuple fun d hd => ?_
  simp only [List.mem_cons, List.not_mem_nil, or_false] at hd
  rcases hd with rfl | rfl
  · exact .str t
  · exact .int i
theorem So.sh {d : PyData} (h : So d) : Sh 1 d := by
  rcases h with h | ⟨s, rfl, t⟩
  · exact h.sh
  · refine Sh.tuple fun d hd => ?_
    rw [List.mem_singleton.mp hd]
    exact .str t
theorem word_tx {w : Str} (h : (w = "within" ∨ w = "apart") ∨ (w = "along" ∨ w = "away")) : Tx 10 w := by
  rcases h with (rfl | rfl) | (rfl | rfl) <;> exact ⟨by decide +kernel, canLay_cps (by decide +kernel)⟩
theorem Ru.sh {d : PyData} (h : Ru d) : Sh 2 d := by
  obtain ⟨w, a, b, rfl, h⟩ := h
  have hw : Tx 10 w := word_tx (h.imp (fun h => h.1) (fun h => h.1))
  have hab : Sh 1 a ∧ Sh 1 b := by
    rcases h with ⟨_, ha, hb⟩ | ⟨_, ha, hb⟩
    · exact ⟨ha.sh, hb.sh⟩
    · exact ⟨ha.sh, hb.sh⟩
  refine Sh.tuple fun d hd => ?_
  simp only [List.mem_cons, List.not_mem_nil, or_false] at hd
  rcases hd with rfl | rfl | rfl
  · exact (Sh.str hw).up (by decide)
  · exact hab.1
  · exact hab.2
end LQ

set_option Elab.async false
set_option linter.all false
set_option maxRecDepth 100000
set_option maxHeartbeats 4000000
/-! data whose text is short -/
namespace LQ
open PySem PySem.Spec PyProof.Rows L2
mutual
def szB : PyData → Nat
  | .list ds => szAll ds + 3
  | .tuple ds => szAll ds + 3
  | d => d.shown.length
def szAll : List PyData → Nat
  | [] => 0
  | d :: ds => szB d + 2 + szAll ds
end
mutual
theorem shown_le : ∀ d : PyData, d.shown.length ≤ szB d
  | .list ds => by
    rw [szB, PyData.shown]
    have h1 := listText_len_le (PyData.shownAll ds)
    have h2 := shownAll_le ds
    omega
  | .tuple ds => by
    rw [szB, PyData.shown]
    have h1 := tupleText_len_le (PyData.shownAll ds)
    have h2 := shownAll_le ds
    omega
  | .none => Nat.le_refl _
  | .bool _ => Nat.le_refl _
  | .int _ => Nat.le_refl _
  | .str _ => Nat.le_refl _
  | .dict _ => Nat.le_refl _
theorem shownAll_le : ∀ ds : List PyData, ((PyData.shownAll ds).map (·.length)).sum + 2 * (PyData.shownAll ds).length ≤ szAll ds
  | [] => by simp [PyData.shownAll, szAll]
  | d :: ds => by
    have h1 := shown_le d
    have h2 := shownAll_le ds
    simp only [PyData.shownAll, szAll, List.map_cons, List.sum_cons, List.length_cons]
    omega
end
theorem szAll_app : ∀ xs ys : List PyData, szAll (xs ++ ys) = szAll xs + szAll ys
  | [], ys => by simp [szAll]
  | x :: xs, ys => by
    simp only [List.cons_append, szAll, szAll_app xs ys]
    omega
/-- what repr may be asked of -/
structure Qd (n S : Nat) (d : PyData) : Prop where
  sh : d.showable = true
  dp : d.depth ≤ n
  nl : d.hasDict = true → noL d = true
  sz : szB d ≤ S
/-- the same, with neither a list nor a dict in it -/
structure Kd (n S : Nat) (d : PyData) : Prop where
  sh : d.showable = true
  dp : d.depth ≤ n
  hd : d.hasDict = false
  nl : noL d = true
  sz : szB d ≤ S
theorem Kd.q {n S : Nat} {d : PyData} (h : Kd n S d) : Qd n S d := ⟨h.sh, h.dp, fun _ => h.nl, h.sz⟩
theorem Qd.up {n m S R : Nat} {d : PyData} (h : Qd n S d) (e : n ≤ m) (f : S ≤ R) : Qd m R d := ⟨h.sh, Nat.le_trans h.dp e, h.nl, Nat.le_trans h.sz f⟩
theorem Kd.up {n m S R : Nat} {d : PyData} (h : Kd n S d) (e : n ≤ m) (f : S ≤ R) : Kd m R d := ⟨h.sh, Nat.le_trans h.dp e, h.hd, h.nl, Nat.le_trans h.sz f⟩
theorem Qd.repr {n S : Nat} {d : PyData} (h : Qd n S d) (e : n ≤ 60) (f : S ≤ 16777216) : gRepr [d] = some (.str d.shown) := by
  show (if _ then _ else _) = _
  rw [if_pos ⟨h.sh, h.nl, Nat.le_trans h.dp e, Nat.le_trans (Nat.le_trans (shown_le d) h.sz) f⟩]
structure KA (n S : Nat) (ds : List PyData) : Prop where
  sh : PyData.showableAll ds = true
  dp : PyData.depthAll ds ≤ n
  hd : PyData.hasDictAll ds = false
  nl : noLs ds = true
  sz : szAll ds ≤ ds.length * (S + 2)
theorem kall {n S : Nat} : ∀ {ds : List PyData}, (∀ d ∈ ds, Kd n S d) → KA n S ds
  | [], _ => ⟨by simp [PyData.showableAll], by simp [PyData.depthAll], by simp [PyData.hasDictAll], by simp [noLs], by simp [szAll]⟩
  | d :: ds, h => by
    have h1 := h d List.mem_cons_self
    have h2 := kall (n := n) (S := S) (ds := ds) fun d hd => h d (List.mem_cons_of_mem _ hd)
    refine ⟨by simp [PyData.showableAll, h1.sh, h2.sh], ?_, by simp [PyData.hasDictAll, h1.hd, h2.hd], by simp [noLs, h1.nl, h2.nl], ?_⟩
    · have := h1.dp
      have := h2.dp
      simp only [PyData.depthAll]
      omega
    · have := h1.sz
      have := h2.sz
      simp only [szAll, List.length_cons, Nat.add_mul, Nat.one_mul]
      omega
theorem KA.tuple {n S : Nat} {ds : List PyData} (h : KA n S ds) : Kd (n + 1) (ds.length * (S + 2) + 3) (.tuple ds) := by
  refine ⟨by simpa [PyData.showable] using h.sh, ?_, by simpa [PyData.hasDict] using h.hd, by simpa [noL] using h.nl, ?_⟩
  · have := h.dp
    simp only [PyData.depth]
    omega
  · have := h.sz
    rw [szB]
    omega
theorem KA.list {n S : Nat} {ds : List PyData} (h : KA n S ds) : Qd (n + 1) (ds.length * (S + 2) + 3) (.list ds) := by
  refine ⟨by simpa [PyData.showable] using h.sh, ?_, fun e => ?_, ?_⟩
  · have := h.dp
    simp only [PyData.depth]
    omega
  · have : PyData.hasDictAll ds = true := by simpa [PyData.hasDict] using e
    rw [h.hd] at this
    cases this
  · have := h.sz
    rw [szB]
    omega
theorem showAll_app : ∀ xs ys : List PyData, PyData.showableAll (xs ++ ys) = (PyData.showableAll xs && PyData.showableAll ys)
  | [], ys => by simp [PyData.showableAll]
  | x :: xs, ys => by simp [PyData.showableAll, showAll_app xs ys, Bool.and_assoc]
theorem hasAll_app : ∀ xs ys : List PyData, PyData.hasDictAll (xs ++ ys) = (PyData.hasDictAll xs || PyData.hasDictAll ys)
  | [], ys => by simp [PyData.hasDictAll]
  | x :: xs, ys => by simp [PyData.hasDictAll, hasAll_app xs ys, Bool.or_assoc]
theorem noLs_app : ∀ xs ys : List PyData, noLs (xs ++ ys) = (noLs xs && noLs ys)
  | [], ys => by simp [noLs]
  | x :: xs, ys => by simp [noLs, noLs_app xs ys, Bool.and_assoc]
theorem depthAll_app : ∀ xs ys : List PyData, PyData.depthAll (xs ++ ys) = max (PyData.depthAll xs) (PyData.depthAll ys)
  | [], ys => by simp [PyData.depthAll]
  | x :: xs, ys => by simp [PyData.depthAll, depthAll_app xs ys, Nat.max_assoc]
/-- one thing among clean ones -/
theorem mix {n S R : Nat} {xs ys : List PyData} {e : PyData} (h : KA n S xs) (g : KA n S ys) (he : Qd n R e) : Qd (n + 1) ((xs.length + ys.length) * (S + 2) + R + 5) (.tuple (xs ++ [e] ++ ys)) := by
  refine ⟨?_, ?_, fun hh => ?_, ?_⟩
  · simp [PyData.showable, showAll_app, PyData.showableAll, h.sh, g.sh, he.sh]
  · have h1 := h.dp
    have h2 := g.dp
    have h3 := he.dp
    simp only [PyData.depth, depthAll_app, PyData.depthAll]
    omega
  · have : e.hasDict = true := by simpa [PyData.hasDict, hasAll_app, PyData.hasDictAll, h.hd, g.hd] using hh
    simp [noL, noLs_app, noLs, h.nl, g.nl, he.nl this]
  · have h1 := h.sz
    have h2 := g.sz
    have h3 := he.sz
    rw [szB, szAll_app, szAll_app, Nat.add_mul]
    simp only [szAll]
    omega
/-! ### small numbers -/
theorem int_sz {i : Int} (h0 : -30 ≤ i) (h1 : i ≤ 30) : (PyData.int i).showable = true ∧ szB (.int i) ≤ 5 := by
  have key : ∀ n : Fin 61, (PyData.int (((n.val : Nat) : Int) - 30)).showable = true ∧ (PyData.int (((n.val : Nat) : Int) - 30)).shown.length ≤ 5 := by decide +kernel
  have e : i = (((i + 30).toNat : Nat) : Int) - 30 := by omega
  have := key ⟨(i + 30).toNat, by omega⟩
  simp only at this
  rw [← e] at this
  exact ⟨this.1, by rw [szB]; exact this.2; all_goals simp⟩
theorem str_sz {i : Int} (h0 : -30 ≤ i) (h1 : i ≤ 30) : szB (.str (toString i)) ≤ 9 ∧ i.natAbs.log2 < 1920 := by
  have key : ∀ n : Fin 61, (PyData.str (toString (((n.val : Nat) : Int) - 30))).shown.length ≤ 9 ∧ (((n.val : Nat) : Int) - 30).natAbs.log2 < 1920 := by decide +kernel
  have e : i = (((i + 30).toNat : Nat) : Int) - 30 := by omega
  have := key ⟨(i + 30).toNat, by omega⟩
  simp only at this
  rw [← e] at this
  exact ⟨by rw [szB]; exact this.1; all_goals simp, this.2⟩
theorem kd_int {i : Int} (h0 : -30 ≤ i) (h1 : i ≤ 30) : Kd 0 5 (.int i) := ⟨(int_sz h0 h1).1, by simp [PyData.depth], by simp [PyData.hasDict], by simp [noL], (int_sz h0 h1).2⟩
theorem cat_tup {xs ys : List PyData} (h : xs.length + ys.length ≤ 16777216) : gCatT (.tuple xs) (.tuple ys) = some (.tuple (xs ++ ys)) := by
  show (if xs.length + ys.length ≤ 16777216 then _ else _) = _
  rw [if_pos h]
end LQ

-- LQVA
set_option Elab.async false
set_option linter.all false
set_option maxRecDepth 100000
set_option maxHeartbeats 4000000
/-! mirrors step by step -/
namespace LQ
open PySem PySem.Spec PyProof.Rows L2
section
variable {en en' en1 : En} {T T' T1 : Dk} {X : Option Res}
theorem seq_nx {s1 s2 : MS} (h : s1 en T = some (.nx en' T')) (k : s2 en' T' = X) : mSeq s1 s2 en T = X := by
  unfold mSeq
  rw [h]
  exact k
theorem seq_rt {s1 s2 : MS} {d : PyData} (h : s1 en T = some (.rt d T')) : mSeq s1 s2 en T = some (.rt d T') := by
  unfold mSeq
  rw [h]
  rfl
theorem if_t {n : MT} {s1 s2 : MS} (h : n en T = some (true, T')) (k : s1 en T' = X) : mIf n s1 s2 en T = X := by
  unfold mIf
  rw [h]
  exact k
theorem if_f {n : MT} {s1 s2 : MS} (h : n en T = some (false, T')) (k : s2 en T' = X) : mIf n s1 s2 en T = X := by
  unfold mIf
  rw [h]
  exact k
theorem for_to {mi : MA} {mt : MG} {mb : MS} {ds : List PyData} (h : mi en T = some (ds, T')) (k : mFold mt mb ds en T' = X) : mFor mi mt mb en T = X := by
  unfold mFor
  rw [h]
  exact k
theorem fold_nx {mt : MG} {mb : MS} {d : PyData} {ds : List PyData} (h : mt d en = some en1) (g : mb en1 T = some (.nx en' T')) (k : mFold mt mb ds en' T' = X) : mFold mt mb (d :: ds) en T = X := by
  unfold mFold
  rw [h, Option.bind_some, g]
  exact k
theorem fold_rt {mt : MG} {mb : MS} {d e : PyData} {ds : List PyData} (h : mt d en = some en1) (g : mb en1 T = some (.rt e T')) : mFold mt mb (d :: ds) en T = some (.rt e T') := by
  unfold mFold
  rw [h, Option.bind_some, g]
  rfl
theorem wh_nx {n : MT} {mb : MS} {q : Nat} (h : n en T = some (true, T1)) (g : mb en T1 = some (.nx en' T')) (k : mWhile n mb q en' T' = X) : mWhile n mb (q + 1) en T = X := by
  unfold mWhile
  rw [h, Option.bind_some, if_pos rfl, g]
  exact k
theorem wh_end {n : MT} {mb : MS} {q : Nat} (h : n en T = some (false, T1)) : mWhile n mb (q + 1) en T = some (.nx en T1) := by
  unfold mWhile
  rw [h]
  rfl
theorem fun_rt {n : Nat} {mb : MS} {ss : List Sl} {d : PyData} (h : mb (ss.map some ++ List.replicate (n - ss.length) none) T = some (.rt d T')) : mFun n mb ss T = some (d, T') := by
  unfold mFun
  rw [h]
theorem cf_to {M : MF} {ms : MAs} {ss : List Sl} {r : Option (PyData × Dk)} (h : ms en T = some (ss, T')) (k : M ss T' = r) : mCf M ms en T = r := by
  unfold mCf
  rw [h]
  exact k
theorem rng1_to {m : ME} {n : Nat} (h : m en T = some (.int (n : Nat), T')) (hn : n < 1000000) : mRng1 m en T = some ((rng 0 n).map PyData.int, T') := by
  obtain ⟨r, e, q⟩ := (W_mRng1 (Q := fun r => r = ((rng 0 n).map PyData.int, T'))).mpr (W.of h ⟨_, rfl, ⟨by omega, by omega⟩, by rw [Int.toNat_natCast]⟩)
  rw [e, q]
theorem W_mIns {i : Nat} {m1 m : ME} {ds : List PyData} {Q : Res → Prop} (e : en[i]? = some (some (.own ds))) : W (mIns i m1 m en T) Q ↔ W (m1 en T) fun q => W (m en q.2) fun p => ∃ k, q.1 = .int k ∧ (0 ≤ k ∧ k < 2 ^ 63 ∧ ds.length < 16777216) ∧ Q (.nx (en.set i (some (.own (ds.take k.toNat ++ [p.1] ++ ds.drop k.toNat)))) p.2) := by
  unfold mIns
  rw [e]
  simp only [W_bind]
  refine W_congr fun q => W_congr fun p => ?_
  obtain ⟨d, T'⟩ := q
  cases d with
  | int k =>
    simp only [PyData.int.injEq, exists_eq_left']
    by_cases h : 0 ≤ k ∧ k < 2 ^ 63 ∧ ds.length < 16777216
    · rw [if_pos h, W_some]
      exact ⟨fun q => ⟨h, q⟩, fun q => q.2⟩
    · rw [if_neg h, W_none]
      exact ⟨False.elim, fun q => h q.1⟩
  | _ => simp [W_none]
end
theorem int_bool (b : Bool) : gInt [.bool b] = some (.int (if b = true then 1 else 0)) := by cases b <;> rfl
theorem pick2 (x y : PyData) (b : Bool) : ixD (.list [x, y]) (.int (if b = true then 1 else 0)) = some (if b = true then y else x) := by
  cases b
  · exact atI_nat (xs := [x, y]) (j := 0) (v := x) rfl
  · exact atI_nat (xs := [x, y]) (j := 1) (v := y) rfl
end LQ

set_option Elab.async false
set_option linter.all false
set_option maxRecDepth 100000
set_option maxHeartbeats 4000000
/-! sets whose items are objects of a kind of keys: the table, looking up, adding -/
namespace LQ
open PySem PySem.Spec PyProof.Rows L2
/-- a kind of keys whose hash is by value, of no class statement -/
structure SKd (P : Program) (w : World) (κ : Type) [DecidableEq κ] where
  kd : HeapKind P w κ
  st : kd.Stays
  byV : ∀ {A : Around} {E : Value → Shared → Prop} {s : Shared} {k : κ} {a : Addr} {Q : Bool → Shared → Prop}, kd.is s.heap k a → (∀ v, Q v s) → wpAny (model P w) A (hashByValue 8 (.ref a)) Q E s
  noC : ∀ {A : Around} {E : Value → Shared → Prop} {s : Shared} {k : κ} {a : Addr} {Q : Bool → Shared → Prop}, kd.is s.heap k a → Q false s → wpAny (model P w) A (ofAClassStatement 8 (.ref a)) Q E s
section
variable {P : Program} {w : World} {κ : Type} [DecidableEq κ] (D : SKd P w κ) {A : Around} {E : Value → Shared → Prop} {s : Shared}
/-- a search among such objects shows nothing -/
theorem seenN {k : κ} {b : Addr} {Q : Bool → Shared → Prop} (hk : D.kd.is s.heap k b) {ys : List Value} (hy : ∀ y ∈ ys, ∃ j c, y = Value.ref c ∧ D.kd.is s.heap j c) (q : Q false s) : wpAny (model P w) A (searchCouldBeSeen (.ref b) ys) Q E s := by
  unfold searchCouldBeSeen
  refine wpAny_bind (wpAny_forIn_list _ (fun left r s' => (r.1 = none ∧ s' = s) ∧ ∀ y ∈ left, ∃ j c, y = Value.ref c ∧ D.kd.is s.heap j c) _ ?_ ?_ _ _ ⟨⟨rfl, rfl⟩, hy⟩)
  · rintro v left r s1 ⟨⟨_, e1⟩, all⟩
    subst e1
    obtain ⟨j, c, rfl, hc⟩ := all v List.mem_cons_self
    have all' := fun u hu => all u (List.mem_cons_of_mem _ hu)
    dsimp only
    rcases Bool.eq_false_or_eq_true (b == c || (carriedByValue (.ref b) && carriedByValue (.ref c))) with hv | hv
    · exact wp_if_pos hv (wpAny_pure ⟨⟨rfl, rfl⟩, all'⟩)
    · refine wp_if_neg (by rw [hv]; decide) (wpAny_bind (D.kd.quiet hk ?_))
      simp only [Bool.not_true, Bool.false_eq_true, if_false]
      refine wpAny_bind (D.kd.quiet hc ?_)
      simp only [Bool.not_true, Bool.false_eq_true, if_false]
      refine wpAny_bind (D.noC hk ?_)
      simp only [Bool.false_eq_true, if_false]
      refine wpAny_bind (D.noC hc ?_)
      simp only [Bool.false_eq_true, if_false]
      exact wpAny_pure ⟨⟨rfl, rfl⟩, all'⟩
  · rintro ⟨r1, r2⟩ s1 ⟨⟨e0, e1⟩, _⟩
    subst e1
    cases e0
    exact wpAny_pure q
/-- the entries of the items -/
def ents (L : List (κ × Addr)) : List (Int × Value) := L.map fun p => (D.kd.hash p.1, Value.ref p.2)
def hsh (L : List (κ × Addr)) : List Int := L.map fun p => D.kd.hash p.1
theorem ents_len (L : List (κ × Addr)) : (ents D L).length = L.length := List.length_map ..
theorem hsh_len (L : List (κ × Addr)) : (hsh D L).length = L.length := List.length_map ..
/-- at a stands a set with these items -/
structure Sd (h : Heap) (a : Addr) (L : List (κ × Addr)) (es : Array (Int × Value)) (ep : Nat) (t : SetTable) : Prop where
  ob : ∃ o, h.get? a = some o ∧ o.ExactSet ∧ o.data = .set es ep t
  en : es.toList = ents D L
  tb : TabOk t (hsh D L)
  nd : (L.map (·.1)).Nodup
  ld : w.params.followText "set-order" = true ∨ t.led = true
  rm : L.length * 5 < t.mask * 3
  fw : L.length < 70
def Its (h : Heap) (L : List (κ × Addr)) : Prop := ∀ p ∈ L, D.kd.is h p.1 p.2
variable {a : Addr} {L : List (κ × Addr)} {es : Array (Int × Value)} {ep : Nat} {t : SetTable}
variable {D}
theorem Sd.size {h : Heap} (R : Sd D h a L es ep t) : es.size = L.length := by
  rw [← ents_len D L, ← R.en, Array.length_toList]
theorem fits_of (hd : t.dummies = #[]) (h1 : t.place.size = es.size) (h2 : es.size ≤ t.mask) : t.fits es.size = true := by
  unfold SetTable.fits SetTable.fill
  rw [hd, Bool.and_eq_true, beq_iff_eq, decide_eq_true_eq]
  exact ⟨h1, by rw [h1]; exact h2⟩
theorem Sd.fits {h : Heap} (R : Sd D h a L es ep t) : t.fits es.size = true := by
  have h1 := R.tb.sz
  rw [hsh_len] at h1
  have h2 := R.size
  have h3 := R.rm
  exact fits_of R.tb.dm (by omega) (by omega)
theorem ent_at (he : es.toList = ents D L) {i : Nat} {p : κ × Addr} (h : L[i]? = some p) : es[i]? = some (D.kd.hash p.1, Value.ref p.2) := by
  rw [← Array.getElem?_toList, he, ents, List.getElem?_map, h]
  rfl
theorem no_dummy (m : Nat) : ∀ (n : Nat) (p : SetTable.Probe), p.dummy = none → (nth m p n).dummy = none
  | 0, _, h => h
  | n + 1, p, h => no_dummy m n (adv m p) (by unfold adv; split <;> exact h)
/-- the c-th step of the way of a hash -/
abbrev pr (m : Nat) (h : Int) (c : Nat) : SetTable.Probe := nth m (runAt m (SetTable.bits h % (m + 1)) (SetTable.bits h)) c
/-- looking up for adding, from the c-th step on -/
theorem find_from (R : Sd D s.heap a L es ep t) (T : Its D s.heap L) {x : Addr} {k : κ} (hx : D.kd.is s.heap k x) (hu : D.kd.room A) {N : Nat} (n1 : N < 10 * SetTable.turns t.mask)
    (n2 : way t.mask (D.kd.hash k) N ∉ t.place.toList) (n3 : ∀ c, c < N → way t.mask (D.kd.hash k) c ∈ t.place.toList) {Q : SetFound → Shared → Prop}
    (yes : k ∈ L.map (·.1) → Q (.there none) s) (no : k ∉ L.map (·.1) → Q (.free (way t.mask (D.kd.hash k) N) false) s) :
    ∀ (f c : Nat) (o : Option SetTable.Probe), o.getD (t.probeStart (D.kd.hash k)) = pr t.mask (D.kd.hash k) c → c ≤ N → N - c < f →
      (∀ (i : Nat) (p : κ × Addr), L[i]? = some p → p.1 = k → ∃ e, c ≤ e ∧ e < N ∧ t.place.toList[i]? = some (way t.mask (D.kd.hash k) e)) →
      wpAny (model P w) A (setSearchFrom a (.ref x) (D.kd.hash k) true f o) Q E s := by
  intro f
  induction f with
  | zero => exact fun c o _ _ h => absurd h (Nat.not_lt_zero _)
  | succ f ih =>
    intro c o ho hc hf hw
    obtain ⟨ob, g1, g2, g3⟩ := R.ob
    have gv : ¬ t.gaveWay = true := by
      unfold SetTable.gaveWay
      rw [mask_odd R.tb.mok]
      decide
    have jn : ∀ q, (nth t.mask (pr t.mask (D.kd.hash k) c) q) = pr t.mask (D.kd.hash k) (c + q) := fun q => (nth_add t.mask c _ q).symm
    have jw : ∀ q, (nth t.mask (pr t.mask (D.kd.hash k) c) q).j = way t.mask (D.kd.hash k) (c + q) := fun q => congrArg SetTable.Probe.j (jn q)
    have hat : ∀ (i : Nat) (p : κ × Addr), L[i]? = some p → (es[i]?.map (·.1)).getD 0 = D.kd.hash p.1 := fun i p hp => by
      rw [ent_at R.en hp]
      rfl
    have go := go_spec t R.tb.ris R.tb.dm (fun i => (es[i]?.map (·.1)).getD 0) (D.kd.hash k) (10 * SetTable.turns t.mask) (N - c) (pr t.mask (D.kd.hash k) c) (no_dummy _ _ _ rfl) (by omega)
      (fun q hq => by rw [jw]; exact n3 _ (by omega)) (by rw [jw, Nat.add_sub_cancel' hc]; exact n2)
    rw [setSearchFrom_succ]
    refine wpAny_bind (wpAny_setState_of g1 g3 R.fits ?_)
    dsimp only
    refine wp_if_neg gv ?_
    try refine wpAny_bind (wpAny_pure ?_)
    rcases go with ⟨q, i, q1, q2, q3, q4, q5⟩ | ⟨q4, q5⟩
    · have q5' : t.probe (fun i => (es[i]?.map (·.1)).getD 0) (D.kd.hash k) (o.getD (t.probeStart (D.kd.hash k))) = some (.candidate (way t.mask (D.kd.hash k) (c + q)) i (pr t.mask (D.kd.hash k) (c + (q + 1)))) := by
        rw [ho, ← jw, ← jn]
        exact q5
      rw [q5']
      dsimp only
      rw [jw] at q2
      have il : i < L.length := by
        have e1 := (List.getElem?_eq_some_iff.mp q2).1
        have e2 := R.tb.sz
        rw [hsh_len] at e2
        rw [Array.length_toList, e2] at e1
        exact e1
      obtain ⟨p, hp⟩ : ∃ p, L[i]? = some p := ⟨_, List.getElem?_eq_getElem il⟩
      have pm := List.mem_of_getElem? hp
      have tail : wpAny (model P w) A (searchRest a (.ref x) (D.kd.hash k) true f es t (way t.mask (D.kd.hash k) (c + q)) i (pr t.mask (D.kd.hash k) (c + (q + 1)))) Q E s := by
        unfold searchRest
        rw [ent_at R.en hp]
        refine wpAny_bind (wpAny_holding (D.kd.eqBool hu (T p pm) hx ?_))
        refine wpAny_bind (wpAny_setState_of g1 g3 R.fits ?_)
        dsimp only
        rcases Decidable.em (p.1 = k) with ek | ek
        · exact wp_if_pos (by simp [ek]) (wpAny_pure (yes (List.mem_map.mpr ⟨p, pm, ek⟩)))
        · refine wp_if_neg (by simp [ek]) ?_
          try refine wpAny_bind (wpAny_pure ?_)
          have sl : t.slot (way t.mask (D.kd.hash k) (c + q)) = .live i := slot_live R.tb.ris q2
          rw [sameMem]
          simp only [if_true, sl, ent_at R.en hp]
          refine wpAny_bind (wpAny_isSame_ref_self (wpAny_bind (wpAny_pure ?_)))
          simp only [if_true]
          refine wp_if_neg (by simp [ek]) (ih (c + (q + 1)) _ rfl (by omega) (by omega) fun i0 p0 a0 b0 => ?_)
          obtain ⟨e, u1, u2, u3⟩ := hw i0 p0 a0 b0
          refine ⟨e, Nat.le_of_not_lt fun lt => ?_, u2, u3⟩
          have le : e = c + q := by
            refine Nat.le_antisymm (by omega) (Nat.le_of_not_lt fun lt2 => ?_)
            refine q4 (e - c) i0 (by omega) (by rw [jw, Nat.add_sub_cancel' u1]; exact u3) ?_
            exact (hat i0 p0 a0).trans (by rw [b0])
          rw [le] at u3
          have sl' := slot_live R.tb.ris u3
          rw [sl] at sl'
          cases sl'
          rw [hp] at a0
          cases a0
          exact ek b0
      cases hl : t.led
      · refine wp_if_pos (by simp) (wpAny_bind (seenN D hx (fun y hy => ?_) ?_))
        · obtain ⟨e, he, rfl⟩ := List.mem_map.mp hy
          have he : e ∈ es.toList := by
            have : e ∈ es ∧ e.1 = D.kd.hash k := by simpa using he
            simpa using this.1
          rw [R.en] at he
          obtain ⟨z, hz, rfl⟩ := List.mem_map.mp he
          exact ⟨z.1, z.2, rfl, T z hz⟩
        · refine wp_if_neg (by decide) ?_
          try refine wpAny_bind (wpAny_pure ?_)
          exact tail
      · refine wp_if_neg (by simp) ?_
        try refine wpAny_bind (wpAny_pure ?_)
        exact tail
    · have q5' : t.probe (fun i => (es[i]?.map (·.1)).getD 0) (D.kd.hash k) (o.getD (t.probeStart (D.kd.hash k))) = some (.empty (way t.mask (D.kd.hash k) N) none) := by
        rw [ho]
        exact q5.trans (by rw [jw, Nat.add_sub_cancel' hc])
      rw [q5']
      refine wpAny_pure (no fun hm => ?_)
      obtain ⟨p0, a0, b0⟩ := List.mem_map.mp hm
      obtain ⟨i0, a1⟩ := List.getElem?_of_mem a0
      obtain ⟨e, u1, u2, u3⟩ := hw i0 p0 a1 b0
      exact q4 (e - c) i0 (by omega) (by rw [jw, Nat.add_sub_cancel' u1]; exact u3) ((hat i0 p0 a1).trans (by rw [b0]))
theorem find_at (R : Sd D s.heap a L es ep t) (T : Its D s.heap L) {x : Addr} {k : κ} (hx : D.kd.is s.heap k x) (hu : D.kd.room A) {Q : SetFound → Shared → Prop} (yes : k ∈ L.map (·.1) → Q (.there none) s)
    (no : ∀ N, k ∉ L.map (·.1) → way t.mask (D.kd.hash k) N ∉ t.place.toList → (∀ c, c < N → way t.mask (D.kd.hash k) c ∈ t.place.toList) → Q (.free (way t.mask (D.kd.hash k) N) false) s) :
    wpAny (model P w) A (setSearch a (.ref x) (D.kd.hash k) true) Q E s := by
  have rm := R.rm
  obtain ⟨N, n1, n2, n3⟩ := R.tb.first (by rw [hsh_len]; omega) (D.kd.hash k)
  have tn : SetTable.turns t.mask ≤ 142 := by
    unfold SetTable.turns
    rcases R.tb.mok with e | e | e <;> omega
  unfold setSearch
  refine find_from R T hx hu n1 n2 n3 yes (fun z => no N z n2 n3) 100000 0 none rfl (Nat.zero_le _) (by omega) fun i p hp e => ?_
  have hi : (hsh D L)[i]? = some (D.kd.hash k) := by
    rw [hsh, List.getElem?_map, hp, ← e]
    rfl
  have il : i < t.place.toList.length := by
    rw [Array.length_toList, R.tb.sz, hsh_len]
    exact (List.getElem?_eq_some_iff.mp hp).1
  have hj := List.getElem?_eq_getElem il
  obtain ⟨c, c1, c2⟩ := R.tb.before n2 hi hj
  exact ⟨c, Nat.zero_le _, c1, by rw [hj, c2]⟩
end
end LQ

set_option Elab.async false
set_option linter.all false
set_option maxRecDepth 100000
set_option maxHeartbeats 4000000
/-! sets of such objects: laid anew, adding -/
namespace LQ
open PySem PySem.Spec PyProof.Rows L2
section
variable {P : Program} {w : World} {κ : Type} [DecidableEq κ] {D : SKd P w κ} {A : Around} {E : Value → Shared → Prop} {s : Shared}
/-- a key isn't the set -/
theorem is_but {h h' : Heap} {k : κ} {a b : Addr} {o : Obj} {es : Array (Int × Value)} {ep : Nat} {t : SetTable} (x : D.kd.is h k b) (ho : h.get? a = some o) (hd : o.data = .set es ep t) (same : Heap.SameBut a h h') : D.kd.is h' k b := by
  refine D.st.stays (fun c o' vs n h1 h2 => ?_) x
  refine (same.2 c fun e => ?_).trans h1
  rw [e, ho] at h1
  cases h1
  rw [hd] at h2
  cases h2
/-- the items in another order -/
theorem pick_rows {L : List (κ × Addr)} {es : Array (Int × Value)} (he : es.toList = ents D L) : ∀ (l : List Nat), (∀ i ∈ l, i < L.length) →
    l.filterMap (fun i => es[i]?) = ents D (l.filterMap fun i => L[i]?) ∧ hsh D (l.filterMap fun i => L[i]?) = l.map fun i => (es.map (·.1)).getD i 0
  | [], _ => ⟨rfl, rfl⟩
  | i :: l, hl => by
    have il := hl i List.mem_cons_self
    have hp := List.getElem?_eq_getElem il
    have hq := ent_at he hp
    obtain ⟨e1, e2⟩ := pick_rows he l fun j hj => hl j (List.mem_cons_of_mem _ hj)
    have e3 : (es.map (·.1)).getD i 0 = D.kd.hash (L[i]).1 := by
      have e4 : (es.map (·.1))[i]? = some (D.kd.hash (L[i]).1) := by
        rw [Array.getElem?_map, hq]
        rfl
      simp [Array.getD_eq_getD_getElem?, e4]
    rw [List.filterMap_cons_some hq, List.filterMap_cons_some hp, e1, List.map_cons, e3, ← e2]
    exact ⟨rfl, rfl⟩
theorem range_all {α : Type} (L : List α) : ∀ n, n ≤ L.length → (List.range n).filterMap (fun i => L[i]?) = L.take n
  | 0, _ => rfl
  | n + 1, hn => by
    have hp := List.getElem?_eq_getElem (show n < L.length by omega)
    rw [List.range_succ, List.filterMap_append, range_all L n (by omega), List.filterMap_cons_some hp, List.take_add_one, hp]
    rfl
variable {a : Addr} {L : List (κ × Addr)} {es : Array (Int × Value)} {ep : Nat} {t : SetTable}
theorem relayN {o : Obj} (ho : s.heap.get? a = some o) (hx : o.ExactSet) (hd : o.data = .set es ep t) (he : es.toList = ents D L) (h1 : t.place.size = es.size) (h2 : t.dummies = #[]) (h3 : es.size ≤ t.mask) (nd : (L.map (·.1)).Nodup)
    (ld : w.params.followText "set-order" = true ∨ t.led = true) (fw : L.length < 70) {m M : Nat} (hm : SetTable.sizeAbove m = M + 1) (hM : MaskOk M) (hL : L.length * 5 < M * 3) {Q : Unit → Shared → Prop}
    (q : ∀ h' L' es' ep' t', Heap.SameBut a s.heap h' → Sd D h' a L' es' ep' t' → L'.Perm L → Q () { s with heap := h' }) : wpAny (model P w) A (setRelay a m) Q E s := by
  have z0 : es.size = L.length := by rw [← ents_len D L, ← he, Array.length_toList]
  have zM : M ≤ 127 := by rcases hM with e | e | e <;> omega
  obtain ⟨t', ord, e, hp, T, em, el, epl, ed⟩ := relaid_ok t (hs := es.map (·.1)) (wanted := m) (M := M) (by omega) hM (by rw [Array.size_map]; omega)
  rw [Array.size_map, z0] at hp
  obtain ⟨r1, r2⟩ := pick_rows he ord.toList fun i hi => List.mem_range.mp (hp.mem_iff.mp hi)
  have r3 : (ord.toList.filterMap fun i => L[i]?).Perm L := by
    have := hp.filterMap (fun i => L[i]?)
    rw [range_all L _ (Nat.le_refl _), List.take_length] at this
    exact this
  rw [← r2] at T
  have r4 : (ord.filterMap (es[·]?)).toList = ents D (ord.toList.filterMap fun i => L[i]?) := by
    first
      | (rw [Array.toList_filterMap]; exact r1)
      | simpa using r1
  have z1 : (ord.filterMap (es[·]?)).size = es.size := by rw [← Array.length_toList, r4, ents_len, r3.length_eq, z0]
  generalize (ord.toList.filterMap fun i => L[i]?) = L' at r3 r4 T
  rw [setRelay_eq]
  refine wpAny_bind (wpAny_setState_of ho hd (fits_of h2 h1 h3) ?_)
  dsimp only
  refine wp_if_neg (by rw [sizeLine_eq]; omega) ?_
  try refine wpAny_bind (wpAny_pure ?_)
  rw [e]
  dsimp only
  refine wpAny_bind (wp_if_neg (by rw [z1]; simp) ?_)
  try refine wpAny_bind (wpAny_pure ?_)
  refine wpAny_pure (wpAny_storeSet_of ho hd ?_ (by rw [z1, z0, sizeLine_eq]; omega))
  exact q _ L' _ (ep + 1) t' (Heap.SameBut.update ..) ⟨⟨_, store_at ho hd, ⟨hx.1, hx.2.1, hx.2.2⟩, rfl⟩, r4, T, (r3.map (·.1)).nodup_iff.mpr nd, by rw [el]; exact ld, by rw [r3.length_eq, em]; exact hL, by rw [r3.length_eq]; exact fw⟩ r3
theorem ins_perm {α : Type} (L : List α) (p : Nat) (x : α) : (L.take p ++ x :: L.drop p).Perm (x :: L) := by
  have h := List.perm_middle (a := x) (l₁ := L.take p) (l₂ := L.drop p)
  rwa [List.take_append_drop] at h
theorem grow5 : SetTable.sizeAbove (SetTable.grown 5) = 31 + 1 := by decide +kernel
theorem grow19 : SetTable.sizeAbove (SetTable.grown 19) = 127 + 1 := by decide +kernel
/-- adding one -/
theorem addN (R : Sd D s.heap a L es ep t) (T : Its D s.heap L) {x : Addr} {k : κ} (hx : D.kd.is s.heap k x) (hu : D.kd.room A) (hf : L.length + 1 < 70) {Q : Bool → Shared → Prop}
    (q : ∀ b h' L' es' ep' t', Heap.SameBut a s.heap h' → Sd D h' a L' es' ep' t' → (k ∈ L.map (·.1) → L' = L) → (k ∉ L.map (·.1) → L'.Perm ((k, x) :: L)) → Q b { s with heap := h' }) :
    wpAny (model P w) A (setAddHashed a (.ref x) (D.kd.hash k)) Q E s := by
  obtain ⟨o, ho, hex, hd⟩ := R.ob
  have z0 := R.size
  have rm := R.rm
  unfold setAddHashed
  refine wpAny_holding ?_
  rw [show (100000 : Nat) = 99999 + 1 from rfl, setAddHashedIn_succ]
  refine wpAny_bind (wpAny_setState_of ho hd R.fits ?_)
  dsimp only
  refine wp_if_neg (by simp [byScan, Value.scannable]) ?_
  try refine wpAny_bind (wpAny_pure ?_)
  refine wpAny_bind (find_at R T hx hu (fun hm => wpAny_pure (q false s.heap L es ep t (Heap.SameBut.refl a s.heap) R (fun _ => rfl) fun z => absurd hm z)) fun N hm n2 n3 => ?_)
  refine wpAny_bind (wpAny_setState_of ho hd R.fits ?_)
  obtain ⟨p1, p2, p3, p4, p5, p6, p7, p8, p9⟩ := R.tb.put n2 n3
  rw [hsh_len] at p2 p9
  generalize hpt : t.put (way t.mask (D.kd.hash k) N) = pt at p1 p3 p4 p5 p6 p7 p8 p9 ⊢
  obtain ⟨t1, p⟩ := pt
  dsimp only at p1 p3 p4 p5 p6 p7 p8 p9 ⊢
  subst p1
  have td : w.params.followText "set-order" = true ∨ t1.led = true := by rw [p5]; exact R.ld
  generalize hpp : SetTable.below t.place (way t.mask (D.kd.hash k) N) = p at p2 p3 ⊢
  have pm := ins_perm L p (k, x)
  have e1 : (SetTable.insertAt es p (D.kd.hash k, Value.ref x)).toList = ents D (L.take p ++ (k, x) :: L.drop p) := by
    rw [SetTable.toList_insertAt, R.en]
    simp [ents]
  have e2 : (hsh D L).take p ++ D.kd.hash k :: (hsh D L).drop p = hsh D (L.take p ++ (k, x) :: L.drop p) := by simp [hsh]
  rw [e2] at p3
  have nd : ((L.take p ++ (k, x) :: L.drop p).map (·.1)).Nodup := (pm.map (·.1)).nodup_iff.mpr (by rw [List.map_cons]; exact List.nodup_cons.mpr ⟨hm, R.nd⟩)
  generalize SetTable.insertAt es p (D.kd.hash k, Value.ref x) = es1 at e1 ⊢
  generalize L.take p ++ (k, x) :: L.drop p = L1 at pm e1 p3 nd
  have l1 : L1.length = L.length + 1 := pm.length_eq
  have z1 : es1.size = L.length + 1 := by rw [← Array.length_toList, e1, ents_len, l1]
  have zp : t1.place.size = es1.size := by
    have := p3.sz
    rw [hsh_len, l1] at this
    omega
  have sz : es.size + 1 = L.length + 1 := by rw [z0]
  have rest : ∀ t2 : SetTable, t2.place = t1.place → t2.dummies = t1.dummies → t2.mask = t1.mask → t2.led = t1.led → wpAny (model P w) A (do
      storeSet a es1 t2
      if !false && t2.tooFull then setRelay a (SetTable.grown (es.size + 1))
      return true) Q E s := by
    intro t2 b1 b2 b3 b4
    have p3 : TabOk t2 (hsh D L1) := ⟨by rw [b1]; exact p3.ris, by rw [b2]; exact p3.dm, by rw [b1]; exact p3.sz, by rw [b3]; exact p3.mok, by rw [b1, b3]; exact p3.bd, by rw [b1, b3]; exact p3.reach⟩
    have td : w.params.followText "set-order" = true ∨ t2.led = true := by rw [b4]; exact td
    have ff : t2.fill = t1.fill := by
      unfold SetTable.fill
      rw [b1, b2]
    refine wpAny_bind (wpAny_storeSet_of ho hd ?_ (by rw [z1, sizeLine_eq]; omega))
    have sb : Heap.SameBut a s.heap (s.heap.update a (Obj.putSet es1 t2)) := Heap.SameBut.update ..
    have ho1 := store_at (es' := es1) (t' := t2) ho hd
    generalize s.heap.update a (Obj.putSet es1 t2) = h1 at sb ho1 ⊢
    cases hfl : t2.tooFull
    · first
        | refine wp_if_neg (by simp) ?_
        | (refine wpAny_bind (wp_if_neg (by simp) (wpAny_pure ?_)))
      have r5 : L1.length * 5 < t2.mask * 3 := by
        unfold SetTable.tooFull at hfl
        rw [decide_eq_false_iff_not, ff, p9] at hfl
        omega
      exact wpAny_pure (q true h1 L1 es1 (ep + 1) t2 sb ⟨⟨_, ho1, ⟨hex.1, hex.2.1, hex.2.2⟩, rfl⟩, e1, p3, nd, td, r5, by omega⟩ (fun z => absurd z hm) fun _ => pm)
    · have r5 : (L.length + 1) * 5 ≥ t.mask * 3 := by
        unfold SetTable.tooFull at hfl
        rw [decide_eq_true_eq, ff, p9, b3, p4] at hfl
        exact hfl
      have two : (t.mask = 7 ∧ L.length + 1 = 5) ∨ (t.mask = 31 ∧ L.length + 1 = 19) := by
        rcases R.tb.mok with e | e | e <;> omega
      have fin : ∀ M, SetTable.sizeAbove (SetTable.grown (es.size + 1)) = M + 1 → MaskOk M → (L.length + 1) * 5 < M * 3 → wpAny (model P w) A (setRelay a (SetTable.grown (es.size + 1))) (fun _ s' => wpAny (model P w) A (pure true) Q E s') E { s with heap := h1 } := fun M m1 m2 m3 =>
        relayN (s := { s with heap := h1 }) ho1 ⟨hex.1, hex.2.1, hex.2.2⟩ rfl e1 (by rw [b1]; exact zp) p3.dm (by rw [z1, b3, p4]; rcases two with ⟨u, v⟩ | ⟨u, v⟩ <;> omega) nd td (by omega) m1 m2 (by omega) fun h2 L2 es2 ep2 t2 sb2 R2 pm2 =>
          wpAny_pure (q true h2 L2 es2 ep2 t2 (sb.trans sb2) R2 (fun z => absurd z hm) fun _ => pm2.trans pm)
      first
        | (refine wp_if_pos (by simp) (wpAny_bind ?_))
        | (refine wpAny_bind (wp_if_pos (by simp) ?_))
      rcases two with ⟨_, v⟩ | ⟨_, v⟩
      · exact fin 31 (by rw [sz, v]; exact grow5) (.inr (.inl rfl)) (by omega)
      · exact fin 127 (by rw [sz, v]; exact grow19) (.inr (.inr rfl)) (by omega)
  cases tp : t1.plain
  · first
      | (refine wpAny_bind (wp_if_neg (by simp) (wpAny_pure ?_)))
      | refine wp_if_neg (by simp) (wpAny_bind (wpAny_pure ?_))
    simp only [if_true]
    exact rest t1 rfl rfl rfl rfl
  · first
      | (refine wpAny_bind (wp_if_pos rfl (D.byV hx fun v => ?_)))
      | refine wp_if_pos rfl (wpAny_bind (D.byV hx fun v => ?_))
    cases v
    · simp only [Bool.false_eq_true, if_false]
      exact rest _ rfl rfl rfl rfl
    · simp only [if_true]
      exact rest t1 rfl rfl rfl rfl
/-- a new set -/
theorem sd_new {h : Heap} (ho : h.get? a = some { cls := .type "set", dict := none, data := .set #[] 0 (.fresh 0 0 (!w.params.followText "set-order")) }) : Sd D h a [] #[] 0 (.fresh 0 0 (!w.params.followText "set-order")) := by
  refine ⟨⟨_, ho, ⟨rfl, rfl, rfl⟩, rfl⟩, rfl, ⟨.nil, rfl, rfl, .inl rfl, (fun x hx => nomatch hx), fun i h j hi => (by simp [hsh] at hi)⟩, .nil, ?_, (by show 0 * 5 < 7 * 3; decide), (by show 0 < 70; decide)⟩
  show _ ∨ (!w.params.followText "set-order") = true
  cases w.params.followText "set-order" <;> simp
theorem Sd.keep {h h' : Heap} (R : Sd D h a L es ep t) (ha : ∀ o, h.get? a = some o → h'.get? a = some o) : Sd D h' a L es ep t := by
  obtain ⟨o, ho, r⟩ := R.ob
  exact ⟨⟨o, ha o ho, r⟩, R.en, R.tb, R.nd, R.ld, R.rm, R.fw⟩
end
end LQ

set_option Elab.async false
set_option linter.all false
set_option maxRecDepth 100000
set_option maxHeartbeats 4000000
/-! set(xs) of a list, of a tuple: by what holds behind each item -/
namespace LQ
open PySem PySem.Spec PyProof.Rows L2
section
variable {P : Program} {w : World} {A : Around} {E : Value → Shared → Prop} {s : Shared}
abbrev setObj (w : World) : Obj := { cls := .type "set", dict := none, data := .set #[] 0 (.fresh 0 0 (!w.params.followText "set-order")) }
/-- what adding one item does -/
def AddsTo (P : Program) (w : World) (A : Around) (S : Addr) (J : Nat → Shared → Prop) (i : Nat) (v : Value) : Prop :=
  ∀ (s : Shared) (Q : Bool → Shared → Prop) (E : Value → Shared → Prop), J i s → (∀ b h' tk, s.toks ≤ tk → Heap.SameBut S s.heap h' → J (i + 1) { s with heap := h', toks := tk } → Q b { s with heap := h', toks := tk }) → wpAny (model P w) A (setAdd S v) Q E s
theorem set_loop_by {I : Addr} {fp wr : List Addr} {G : Array GenState → Array GenState → Prop} {n : Nat} {Pv : Nat → Value → Prop} {St : Nat → Shared → Prop} {R : Result → Shared → Prop} (W : WalksS P w A.in1 I fp wr G n Pv St) (S : Addr) (hS : S ∉ fp)
    (J : Nat → Shared → Prop) (jm : ∀ i s s', Moved wr G s s' → J i s → J i s') (st : ∀ i v, i < n → Pv i v → AddsTo P w A.in1 S J i v) :
    ∀ (k i : Nat) (s : Shared), n - i = k → i ≤ n → St i s → J i s → (∀ s', Moved (S :: wr) G s s' → J n s' → R (.ok (.ret .none)) s') →
      codeAny (model P w) A (.builtin "set.update.loop" ⟨[.ref S, .ref I], []⟩) R s := by
  have up : ∀ {s s'}, Moved wr G s s' → Moved (S :: wr) G s s' := fun m => m.mono fun _ h => List.mem_cons_of_mem _ h
  intro k
  induction k with
  | zero =>
    intro i s e hi a j r
    obtain rfl : i = n := by omega
    refine codeAny_builtin F.entry_set_update_loop ?_
    rw [Around.under_plainId F.plain_set_update_loop _]
    show wpAny _ A.in1 (pyNext (.ref I) >>= _) _ _ s
    exact wpAny_bind (W.done s _ _ a fun s' m => wpAny_pure (r s' (up m) (jm _ _ _ m j)))
  | succ k ih =>
    intro i s e hi a j r
    refine codeAny_builtin F.entry_set_update_loop ?_
    rw [Around.under_plainId F.plain_set_update_loop _]
    show wpAny _ A.in1 (pyNext (.ref I) >>= _) _ _ s
    refine wpAny_bind (W.item i s _ _ (by omega) a fun v s1 pv a1 m1 => ?_)
    show wpAny _ A.in1 (holding [v] (setAdd S v) >>= _) _ _ s1
    refine wpAny_bind (wpAny_holding (st i v (by omega) pv s1 _ _ (jm _ _ _ m1 j) fun b h' tk ht sb j1 => ?_))
    refine wpAny_pure ⟨plainId_quiet F.plain_set_update_loop _, ih (i + 1) _ (by omega) (by omega) (W.frame _ s1 _ _ a1 ht fun b hb o e => ?_) j1 fun s2 m2 j2 => r s2 (Moved.trans W.gtrans ((up m1).then_heap ht fun b o hb e => ?_) m2) j2⟩
    · rw [sb.2 b fun z => hS (z ▸ hb)]
      exact e
    · rw [sb.2 b fun z => hb (by rw [z]; exact List.mem_cons_self)]
      exact e
/-- what is new stands nowhere ahead -/
theorem none_at {h : Heap} {b : Addr} (hb : h.objs.size ≤ b) : h.get? b = none := by
  cases q : h.get? b with
  | none => rfl
  | some o => exact absurd (Heap.lt_size q) (Nat.not_lt.mpr hb)
theorem call_setL {l : Addr} {items : Array Value} {Q : Value → Shared → Prop} (hh : A.handled = none) (hl : s.heap.IsList l items) (J : Nat → Shared → Prop)
    (j0 : ∀ h, h.get? s.heap.objs.size = some (setObj w) → (∀ b o, s.heap.get? b = some o → h.get? b = some o) → J 0 { s with heap := h })
    (jm : ∀ i s1 s2, (∀ b o, b ≠ s.heap.objs.size + 1 → s1.heap.get? b = some o → s2.heap.get? b = some o) → J i s1 → J i s2)
    (st : ∀ i v, items[i]? = some v → AddsTo P w A.in1.in1.in1 s.heap.objs.size J i v)
    (q : ∀ h' tk, J items.size { s with heap := h', toks := tk } → Q (.ref s.heap.objs.size) { s with heap := h', toks := tk }) : wpAny (model P w) A (call (.type "set") [.ref l]) Q E s := by
  obtain ⟨c, tl, hmro⟩ := F.called_set.mro
  have hmade := F.called_set.made
  have hsub := F.called_set.sub
  refine wpAny_call (codeAny_of_tree (show wpAny _ _ (callAny (.type "set") _) _ _ _ from wpAny_pure ⟨Code.quiet_builtin _ (by decide +kernel), codeAny_builtin F.entry_type_call ?_⟩))
  rw [Around.under_plain (weight_type_call_type "set" [.ref l] []) rfl]
  have h1 := F.called_set.notType
  have h2 := F.called_set.canCreate
  have hct := F.typeCall_set_1 (.ref l)
  repeat (any_goals (first | assumption | wp_step))
  refine codeAny_mono (code_set_led1 (.ref l) (E := E) (Q₁ := fun ob s₁ => ob = .ref s.heap.objs.size ∧ s₁ = { s with heap := s.heap.push (setObj w) }) ⟨rfl, rfl⟩) fun r s₁ hr => ?_
  cases r with
  | error e => exact hr
  | ok fl =>
    cases fl with
    | ret ob =>
      obtain ⟨rfl, rfl⟩ := hr
      have hS : (s.heap.push (setObj w)).get? s.heap.objs.size = some (setObj w) := Heap.get?_push_size _ rfl
      have hT : Shared.TypeIs { s with heap := s.heap.push (setObj w) } (.ref s.heap.objs.size) "set" := ⟨_, hS, rfl⟩
      have hli := F.called_set.init.lookup
      have hbi := F.called_set.init.bind (.ref s.heap.objs.size)
      repeat (any_goals (first | assumption | wp_step))
      refine codeAny_mono (codeAny_call_builtin (R := wants (fun r s₂ => r = .none ∧ ∃ h' tk, s₂ = { s with heap := h', toks := tk } ∧ J items.size { s with heap := h', toks := tk }) E) F.called_set.init.plain F.entry_set_init (check_set_init_1 hT ?_)) fun r₂ s₂ hr₂ => ?_
      · obtain ⟨⟨ocls, odict, odata, oslots⟩, hol, hcl, nl, hdl⟩ := hl
        simp only at hcl hdl
        subst hcl
        subst hdl
        have hol' : (s.heap.push (setObj w)).get? l = some { cls := .type "list", dict := odict, data := .seq items nl, slots := oslots } := Heap.get?_push_of_some _ hol
        have hl1 : (s.heap.push (setObj w)).IsList l items := ⟨_, hol', rfl, nl, rfl⟩
        have hsls := F.sub_list_set
        have hslf := F.sub_list_frozenset
        have hne : (Value.type "list" == Value.type "dict") = false := by decide
        unfold Builtin.«set.__init__» noKeywords Builtin.Frozenset.updateFrom
        generalize hPI : pyIter = PI
        wp_walk
        subst hPI
        refine wpAny_pyIter_list hl1 (wpAny_bind (wpAny_runValue ?_))
        have hz : (s.heap.push (setObj w)).objs.size = s.heap.objs.size + 1 := Heap.size_push ..
        have hlS : l < s.heap.objs.size := Heap.lt_size hol
        refine set_loop_by ((Walks.list (show A.in1.in1.in1.handled = none by simp [hh]) _ l (by rw [hz]; exact Nat.ne_of_lt (Nat.lt_succ_of_lt hlS)) items).toS) s.heap.objs.size (by rw [hz]; simp only [List.mem_cons, List.not_mem_nil, or_false]; exact fun h => h.elim (Nat.ne_of_lt (Nat.lt_succ_self _)) (Nat.ne_of_gt hlS)) J (fun i s1 s2 m j => jm i s1 s2 (fun b o hb e => m.heap b o (by rw [hz]; simpa using hb) e) j)
          (fun i v _ hv => st i v hv) (items.size - 0) 0 _ (by omega) (Nat.zero_le _) ⟨⟨_, Heap.get?_push_size _ rfl, rfl, rfl⟩, hl1.push _⟩ (j0 _ (Heap.get?_push_of_some _ hS) fun b o e => Heap.get?_push_of_some _ (Heap.get?_push_of_some _ e)) fun s' m j => ?_
        obtain ⟨h', g', d', tk', os'⟩ := s'
        have eg : g' = s.gens := m.gens
        have ed : d' = s.drawn := m.drawn
        have eo : os' = s.os := m.os
        subst eg ed eo
        exact wpAny_pure (wpAny_pure ⟨rfl, h', tk', rfl, j⟩)
      · cases r₂ with
        | error e => exact hr₂
        | ok fl₂ =>
          cases fl₂ with
          | ret r =>
            obtain ⟨rfl, h', tk, rfl, j⟩ := hr₂
            repeat (any_goals (first | assumption | wp_step))
            exact q _ _ j
          | _ => exact hr₂.elim
    | _ => exact hr.elim
end
end LQ

set_option Elab.async false
set_option linter.all false
set_option maxRecDepth 100000
set_option maxHeartbeats 4000000
/-! nested tuples as such keys -/
namespace LQ
open PySem PySem.Spec PyProof.Rows L2
section
variable {P : Program} {w : World}
/-- hashByValue answers, and changes nothing -/
def Tells (P : Program) (w : World) (s : Shared) (t : Sem Bool) : Prop := ∀ (A : Around) (E : Value → Shared → Prop) (Q : Bool → Shared → Prop), (∀ b, Q b s) → wpAny (model P w) A t Q E s
def TellsF (P : Program) (w : World) (s : Shared) (t : Sem Bool) : Prop := ∀ (A : Around) (E : Value → Shared → Prop) (Q : Bool → Shared → Prop), Q false s → wpAny (model P w) A t Q E s
theorem byVal_tup {n : Nat} {s : Shared} {a : Addr} {o : Obj} {vs : Array Value} {m : Nat} (ho : s.heap.get? a = some o) (hc : o.cls = .type "tuple") (hd : o.data = .seq vs m) (hq : ∀ v ∈ vs.toList, Tells P w s (hashByValue n v)) : Tells P w s (hashByValue (n + 1) (.ref a)) := fun A E Q h => by
  have hT : s.TypeIs (.ref a) "tuple" := ⟨o, ho, hc⟩
  unfold hashByValue
  refine wpAny_bind (wpAny_specialOf hT F.slot_tuple_hash.lookup ?_)
  show wpAny _ _ (seqItems? (.ref a) >>= _) _ _ s
  refine wpAny_bind (wpAny_seqItems ho hd ?_)
  refine wpAny_bind ?_
  show wpAny _ _ (forIn vs _ _) _ _ s
  rw [← Array.forIn_toList]
  refine wpAny_forIn_list _ (fun left r s' => s' = s ∧ ∀ v ∈ left, Tells P w s (hashByValue n v)) _ ?_ ?_ _ _ ⟨rfl, hq⟩
  · rintro v left r s1 ⟨e1, all⟩
    subst e1
    refine wpAny_bind (all v List.mem_cons_self _ _ _ fun b => ?_)
    have all' := fun u hu => all u (List.mem_cons_of_mem _ hu)
    cases b
    · simp only [Bool.not_false, if_true]
      exact wpAny_pure (wpAny_pure (h false))
    · simp only [Bool.not_true, Bool.false_eq_true, if_false]
      exact wpAny_pure ⟨rfl, all'⟩
  · rintro ⟨r1, r2⟩ s1 ⟨e1, _⟩
    subst e1
    cases r1 with
    | none => exact wpAny_pure (h true)
    | some b => exact wpAny_pure (h b)
theorem noCl_tup {n : Nat} {s : Shared} {a : Addr} {o : Obj} {vs : Array Value} {m : Nat} (ho : s.heap.get? a = some o) (hc : o.cls = .type "tuple") (hd : o.data = .seq vs m) (hq : ∀ v ∈ vs.toList, TellsF P w s (ofAClassStatement n v)) : TellsF P w s (ofAClassStatement (n + 1) (.ref a)) := fun A E Q h => by
  have hT : s.TypeIs (.ref a) "tuple" := ⟨o, ho, hc⟩
  unfold ofAClassStatement
  refine wpAny_bind (wpAny_typeOf hT ?_)
  dsimp only
  have e : (("tuple" : String) == "tuple") = true := by decide
  simp only [e, if_true, Bool.not_true, Bool.false_eq_true, if_false]
  try refine wpAny_bind (wpAny_pure ?_)
  try simp only [Bool.not_true, Bool.false_eq_true, if_false]
  show wpAny _ _ (seqItems? (.ref a) >>= _) _ _ s
  refine wpAny_bind (wpAny_seqItems ho hd ?_)
  dsimp only
  refine wpAny_bind ?_
  show wpAny _ _ (forIn vs _ _) _ _ s
  rw [← Array.forIn_toList]
  refine wpAny_forIn_list _ (fun left r s' => (r.1 = none ∧ s' = s) ∧ ∀ v ∈ left, TellsF P w s (ofAClassStatement n v)) _ ?_ ?_ _ _ ⟨⟨rfl, rfl⟩, hq⟩
  · rintro v left r s1 ⟨⟨_, e1⟩, all⟩
    subst e1
    refine wpAny_bind (all v List.mem_cons_self _ _ _ ?_)
    simp only [Bool.false_eq_true, if_false]
    exact wpAny_pure ⟨⟨rfl, rfl⟩, fun u hu => all u (List.mem_cons_of_mem _ hu)⟩
  · rintro ⟨r1, r2⟩ s1 ⟨⟨e0, e1⟩, _⟩
    subst e1
    cases e0
    exact wpAny_pure h
mutual
theorem byVal_key : ∀ (k : NestedKey) (v : Value) (n : Nat) (s : Shared), NestedIs s.heap k v → Tells P w s (hashByValue n v)
  | .none, _, n, s, x => by cases x; cases n <;> exact fun A E Q h => wpAny_pure (h true)
  | .num i, _, n, s, x => by cases x <;> cases n <;> exact fun A E Q h => wpAny_pure (h true)
  | .text y, _, n, s, x => by cases x; cases n <;> exact fun A E Q h => wpAny_pure (h false)
  | .tup ks, _, n, s, x => by
    cases x with
    | tup hg hc hd hk =>
      cases n with
      | zero => exact fun A E Q h => wpAny_pure (h false)
      | succ n => exact byVal_tup hg hc hd (byVal_keys ks _ n s hk)
theorem byVal_keys : ∀ (ks : List NestedKey) (vs : List Value) (n : Nat) (s : Shared), NestedAll s.heap ks vs → ∀ v ∈ vs, Tells P w s (hashByValue n v)
  | [], _, n, s, x, v, hv => by cases x; cases hv
  | k :: ks, _, n, s, x, v, hv => by
    cases x with
    | cons x1 x2 =>
      rcases List.mem_cons.mp hv with e | hv
      · rw [e]; exact byVal_key k _ n s x1
      · exact byVal_keys ks _ n s x2 v hv
end
mutual
theorem noCl_key : ∀ (k : NestedKey) (v : Value) (n : Nat) (s : Shared), NestedIs s.heap k v → k.depth ≤ n → TellsF P w s (ofAClassStatement n v)
  | .none, _, n, s, x, _ => by cases x; cases n <;> exact fun A E Q h => wpAny_pure h
  | .num i, _, n, s, x, _ => by cases x <;> cases n <;> exact fun A E Q h => wpAny_pure h
  | .text y, _, n, s, x, _ => by cases x; cases n <;> exact fun A E Q h => wpAny_pure h
  | .tup ks, _, n, s, x, hn => by
    cases x with
    | tup hg hc hd hk =>
      simp only [NestedKey.depth] at hn
      cases n with
      | zero => omega
      | succ n => exact noCl_tup hg hc hd (noCl_keys ks _ n s hk (by omega))
theorem noCl_keys : ∀ (ks : List NestedKey) (vs : List Value) (n : Nat) (s : Shared), NestedAll s.heap ks vs → NestedKey.depthAll ks ≤ n → ∀ v ∈ vs, TellsF P w s (ofAClassStatement n v)
  | [], _, n, s, x, _, v, hv => by cases x; cases hv
  | k :: ks, _, n, s, x, hn, v, hv => by
    cases x with
    | cons x1 x2 =>
      simp only [NestedKey.depthAll] at hn
      rcases List.mem_cons.mp hv with e | hv
      · rw [e]; exact noCl_key k _ n s x1 (by omega)
      · exact noCl_keys ks _ n s x2 (by omega) v hv
end
def ND (P : Program) (w : World) : SKd P w NestedKey where
  kd := nestedKind P w
  st := nestedKind_stays
  byV := fun {A E s k a Q} hk h => byVal_key k _ 8 s hk.1 A E Q h
  noC := fun {A E s k a Q} hk h => noCl_key k _ 8 s hk.1 hk.2 A E Q h
end
end LQ

set_option Elab.async false
set_option linter.all false
set_option maxRecDepth 100000
set_option maxHeartbeats 4000000
/-! set(xs) of a list of nested tuples; sorted of such a set -/
namespace LQ
open PySem PySem.Spec PyProof.Rows L2
/-! ### data as keys -/
mutual
/-- data that can be a key: no truths, no lists -/
def nk : PyData → Option NestedKey
  | .none => some .none
  | .int i => some (.num i)
  | .str x => some (.text x)
  | .tuple ds => (nks ds).map .tup
  | _ => none
def nks : List PyData → Option (List NestedKey)
  | [] => some []
  | d :: ds => (nk d).bind fun k => (nks ds).map (k :: ·)
end
mutual
theorem nk_data : ∀ (d : PyData) (k : NestedKey), nk d = some k → k.data = d
  | .none, k, h => by cases h; rfl
  | .int i, k, h => by cases h; rfl
  | .str x, k, h => by cases h; rfl
  | .tuple ds, k, h => by
    simp only [nk] at h
    cases e : nks ds with
    | none => rw [e] at h; cases h
    | some ks =>
      rw [e] at h
      cases h
      simp only [NestedKey.data]
      rw [nks_data ds ks e]
  | .bool b, k, h => by simp [nk] at h
  | .list ds, k, h => by simp [nk] at h
  | .dict ds, k, h => by simp [nk] at h
theorem nks_data : ∀ (ds : List PyData) (ks : List NestedKey), nks ds = some ks → NestedKey.datas ks = ds
  | [], ks, h => by cases h; rfl
  | d :: ds, ks, h => by
    simp only [nks] at h
    cases e1 : nk d with
    | none => rw [e1] at h; cases h
    | some k =>
      cases e2 : nks ds with
      | none => rw [e1, e2] at h; cases h
      | some l =>
        rw [e1, e2] at h
        cases h
        simp only [NestedKey.datas]
        rw [nk_data d k e1, nks_data ds l e2]
end
section
variable {X : Cx} {pins : List (Addr × Obj)} {σ : L2.St} {H : Hp} {s : Shared}
mutual
theorem Rp.nest (I : Inv X pins σ H s) : ∀ (d : PyData) (k : NestedKey) (v : V) (u : Value), nk d = some k → Rp X.K H v d → RelV v u → NestedIs s.heap k u
  | .none, _, _, _, e, h, r => by cases e; cases h; cases r; exact .none
  | .int i, _, _, _, e, h, r => by
    cases e
    cases h
    obtain ⟨t, rfl⟩ := r
    exact .int i t
  | .str x, _, _, _, e, h, r => by
    cases e
    cases h
    obtain ⟨t, rfl⟩ := r
    exact .text x t
  | .tuple ds, _, _, _, e, h, r => by
    simp only [nk] at e
    cases e1 : nks ds with
    | none => rw [e1] at e; cases e
    | some ks =>
      rw [e1] at e
      cases e
      cases h with
      | tup hs ha =>
        cases r
        obtain ⟨its, rv, ⟨o, ho, hc, n, hd⟩, _⟩ := I.tuple (.inl (.inl hs))
        exact .tup ho hc hd (Rp.nests I ds ks _ its e1 ha rv)
  | .bool b, _, _, _, e, _, _ => by simp [nk] at e
  | .list ds, _, _, _, e, _, _ => by simp [nk] at e
  | .dict ds, _, _, _, e, _, _ => by simp [nk] at e
theorem Rp.nests (I : Inv X pins σ H s) : ∀ (ds : List PyData) (ks : List NestedKey) (vs : List V) (us : List Value), nks ds = some ks → RpAll X.K H vs ds → Vals vs us → NestedAll s.heap ks us
  | [], _, _, _, e, h, r => by cases e; cases h; cases r; exact .nil
  | d :: ds, _, _, _, e, h, r => by
    simp only [nks] at e
    cases e1 : nk d with
    | none => rw [e1] at e; cases e
    | some k =>
      cases e2 : nks ds with
      | none => rw [e1, e2] at e; cases e
      | some l =>
        rw [e1, e2] at e
        cases e
        cases h with
        | cons h1 h2 =>
          cases r with
          | cons r1 r2 => exact .cons (Rp.nest I d k _ _ e1 h1 r1) (Rp.nests I ds l _ _ e2 h2 r2)
end
mutual
theorem nk_noD : ∀ (d : PyData) (k : NestedKey), nk d = some k → d.hasDict = false
  | .none, k, h => rfl
  | .int i, k, h => rfl
  | .str x, k, h => rfl
  | .tuple ds, k, h => by
    simp only [nk] at h
    cases e : nks ds with
    | none => rw [e] at h; cases h
    | some ks => simpa [PyData.hasDict] using nks_noD ds ks e
  | .bool b, k, h => by simp [nk] at h
  | .list ds, k, h => by simp [nk] at h
  | .dict ds, k, h => by simp [nk] at h
theorem nks_noD : ∀ (ds : List PyData) (ks : List NestedKey), nks ds = some ks → PyData.hasDictAll ds = false
  | [], ks, h => by simp [PyData.hasDictAll]
  | d :: ds, ks, h => by
    simp only [nks] at h
    cases e1 : nk d with
    | none => rw [e1] at h; cases h
    | some k =>
      cases e2 : nks ds with
      | none => rw [e1, e2] at h; cases h
      | some l => simp [PyData.hasDictAll, nk_noD d k e1, nks_noD ds l e2]
end
/-! ### set(xs) -/
def SetNO (P : Program) (w : World) (a : Addr) (L : List (NestedKey × Addr)) : HO := .ext fun h => ∃ es ep t, Sd (ND P w) h a L es ep t
theorem setN_new {P : Program} {w : World} {H : Hp} {h : Heap} {a : Addr} {L : List (NestedKey × Addr)} {es : Array (Int × Value)} {ep : Nat} {t : SetTable} (R : Sd (ND P w) h a L es ep t) : ObjOk P w H h a (SetNO P w a L) := by
  obtain ⟨o, ho, r⟩ := id R.ob
  refine ⟨⟨es, ep, t, R⟩, ⟨o, ho⟩, fun h1 h2 p k => ?_⟩
  obtain ⟨es', ep', t', R'⟩ := (show ∃ es ep t, Sd (ND P w) h1 a L es ep t from p)
  exact ⟨es', ep', t', R'.keep k⟩
/-- what has been taken in -/
structure GotN (ps : List (NestedKey × Addr)) (i : Nat) (L : List (NestedKey × Addr)) : Prop where
  sub : ∀ p ∈ L, p ∈ ps
  all : ∀ p ∈ ps.take i, p.1 ∈ L.map (·.1)
  few : L.length ≤ i
theorem call_setNest {P : Program} {w : World} {A : Around} {E : Value → Shared → Prop} {s : Shared} {l : Addr} (ps : List (NestedKey × Addr)) {Q : Value → Shared → Prop} (hh : A.handled = none) (hl : s.heap.IsList l (ps.map fun p => Value.ref p.2).toArray)
    (hk : ∀ p ∈ ps, NestedIs s.heap p.1 (.ref p.2) ∧ p.1.depth ≤ 8) (hf : ps.length < 64) (hu : A.units + 64 < cLine)
    (q : ∀ h' tk L es ep t, (∀ b o, s.heap.get? b = some o → h'.get? b = some o) → Sd (ND P w) h' s.heap.objs.size L es ep t → GotN ps ps.length L → Q (.ref s.heap.objs.size) { s with heap := h', toks := tk }) :
    wpAny (model P w) A (call (.type "set") [.ref l]) Q E s := by
  refine call_setL hh hl (fun i s1 => (∀ b o, s.heap.get? b = some o → s1.heap.get? b = some o) ∧ ∃ L es ep t, Sd (ND P w) s1.heap s.heap.objs.size L es ep t ∧ GotN ps i L) ?_ ?_ ?_ ?_
  · exact fun h h1 h2 => ⟨h2, [], _, _, _, sd_new h1, ⟨fun p hp => (by cases hp), fun p hp => (by simp at hp), Nat.le_refl _⟩⟩
  · rintro i s1 s2 k ⟨k1, L, es, ep, t, R, G⟩
    refine ⟨fun b o e => k b o (Nat.ne_of_lt (Nat.lt_succ_of_lt (Heap.lt_size e))) (k1 b o e), L, es, ep, t, R.keep fun o e => k _ o (Nat.ne_of_lt (Nat.lt_succ_self _)) e, G⟩
  · intro i v hv s1 Q1 E1 j q1
    obtain ⟨k1, L, es, ep, t, R, G⟩ := j
    have hv' : (ps.map fun p => Value.ref p.2)[i]? = some v := by simpa using hv
    rw [List.getElem?_map] at hv'
    cases hp : ps[i]? with
    | none => rw [hp] at hv'; cases hv'
    | some p =>
      rw [hp] at hv'
      cases hv'
      have pm := List.mem_of_getElem? hp
      have keep : ∀ q ∈ ps, (ND P w).kd.is s1.heap q.1 q.2 := fun q hq => (ND P w).st.stays (fun b o vs n e _ => k1 b o e) (show (ND P w).kd.is s.heap q.1 q.2 from hk q hq)
      have il : i < ps.length := (List.getElem?_eq_some_iff.mp hp).1
      have tn : ps.take (i + 1) = ps.take i ++ [p] := by rw [List.take_add_one, hp]; rfl
      have ru : (ND P w).kd.room A.in1.in1.in1 := by
        show A.in1.in1.in1.units + 8 < cLine
        simp only [Around.units, Around.in1] at hu ⊢
        omega
      unfold setAdd
      refine wpAny_holding (wpAny_bind ((ND P w).kd.pyHash ru (keep p pm) ?_))
      refine addN (D := ND P w) (s := { s1 with toks := s1.toks + _ }) R (fun z hz => keep z (G.sub z hz)) (keep p pm) ru (by have := G.few; omega) fun b h' L' es' ep' t' sb R' y1 y2 => ?_
      refine q1 b h' _ (Nat.le_add_right _ _) sb ⟨fun c o e => ?_, L', es', ep', t', R', ?_⟩
      · exact (sb.2 c (Nat.ne_of_lt (Heap.lt_size e))).trans (k1 c o e)
      · by_cases hm : p.1 ∈ L.map (·.1)
        · rw [y1 hm]
          refine ⟨G.sub, fun z hz => ?_, by have := G.few; omega⟩
          rw [tn] at hz
          rcases List.mem_append.mp hz with hz | hz
          · exact G.all z hz
          · rw [List.mem_singleton.mp hz]; exact hm
        · have pr := y2 hm
          refine ⟨fun z hz => ?_, fun z hz => ?_, by rw [pr.length_eq]; have := G.few; simp; omega⟩
          · rcases List.mem_cons.mp (pr.mem_iff.mp hz) with e | e
            · rw [e]; exact pm
            · exact G.sub z e
          · rw [tn] at hz
            refine ((pr.map (·.1)).mem_iff).mpr ?_
            rcases List.mem_append.mp hz with hz | hz
            · exact List.mem_cons_of_mem _ (G.all z hz)
            · rw [List.mem_singleton.mp hz]; exact List.mem_cons_self
  · rintro h' tk ⟨k1, L, es, ep, t, R, G⟩
    refine q h' tk L es ep t k1 R ?_
    have e : (ps.map fun p => Value.ref p.2).toArray.size = ps.length := by simp
    rw [e] at G
    exact G
end
end LQ

set_option Elab.async false
set_option linter.all false
set_option maxRecDepth 100000
set_option maxHeartbeats 4000000
/-! sorted(set(xs)) -/
namespace LQ
open PySem PySem.Spec PyProof.Rows L2
open PySem.W (alike alikeAll keyToks keyToksAll AllAlike Sortable dataKind sortLe EachIs)
/-! ### the order of data -/
abbrev leD : PyData → PyData → Bool := PySem.W.sortLe (listOrd itemOrd) false keyToks
def sortD (ds : List PyData) : List PyData := ds.mergeSort leD
mutual
theorem toks_inj : ∀ (x y : PyData) (l m : List (Int ⊕ List Nat)), alike x y = true → keyToks x ++ l = keyToks y ++ m → x = y ∧ l = m
  | .none, y, l, m, h, e => by
    cases y with
    | none => exact ⟨rfl, by simpa [keyToks] using e⟩
    | _ => exact absurd h (by simp [alike])
  | .bool a, y, l, m, h, e => by
    cases y with
    | bool b =>
      simp only [keyToks, List.cons_append, List.nil_append, List.cons.injEq, Sum.inl.injEq] at e
      refine ⟨?_, e.2⟩
      cases a <;> cases b <;> simp_all
    | _ => exact absurd h (by simp [alike])
  | .int a, y, l, m, h, e => by
    cases y with
    | int b =>
      simp only [keyToks, List.cons_append, List.nil_append, List.cons.injEq, Sum.inl.injEq] at e
      exact ⟨by rw [e.1], e.2⟩
    | _ => exact absurd h (by simp [alike])
  | .str a, y, l, m, h, e => by
    cases y with
    | str b =>
      simp only [keyToks, List.cons_append, List.nil_append, List.cons.injEq, Sum.inr.injEq] at e
      exact ⟨by rw [PySem.W.str_of_cps e.1], e.2⟩
    | _ => exact absurd h (by simp [alike])
  | .list xs, y, l, m, h, e => by
    cases y with
    | list ys =>
      obtain ⟨e1, e2⟩ := toksAll_inj xs ys l m (by simpa [alike] using h) (by simpa [keyToks] using e)
      exact ⟨by rw [e1], e2⟩
    | _ => exact absurd h (by simp [alike])
  | .tuple xs, y, l, m, h, e => by
    cases y with
    | tuple ys =>
      obtain ⟨e1, e2⟩ := toksAll_inj xs ys l m (by simpa [alike] using h) (by simpa [keyToks] using e)
      exact ⟨by rw [e1], e2⟩
    | _ => exact absurd h (by simp [alike])
  | .dict _, y, l, m, h, e => absurd h (by cases y <;> simp [alike])
theorem toksAll_inj : ∀ (xs ys : List PyData) (l m : List (Int ⊕ List Nat)), alikeAll xs ys = true → keyToksAll xs ++ l = keyToksAll ys ++ m → xs = ys ∧ l = m
  | [], [], l, m, _, e => ⟨rfl, by simpa [keyToksAll] using e⟩
  | [], y :: ys, l, m, _, e => by simp [keyToksAll] at e
  | x :: xs, [], l, m, _, e => by simp [keyToksAll] at e
  | x :: xs, y :: ys, l, m, h, e => by
    simp only [keyToksAll, List.cons_append, List.append_assoc, List.cons.injEq, true_and] at e
    obtain ⟨h1, h2⟩ := PySem.W.alike_all_cons h
    obtain ⟨e1, e2⟩ := toks_inj x y _ _ h1 e
    obtain ⟨e3, e4⟩ := toksAll_inj xs ys l m h2 e2
    exact ⟨by rw [e1, e3], e4⟩
end
theorem leD_antisymm {x y : PyData} (h : alike x y = true) (h1 : leD x y = true) (h2 : leD y x = true) : x = y := by
  have a1 : (listOrd itemOrd).blt (keyToks y) (keyToks x) = false := by simpa [leD, PySem.W.sortLe] using h1
  have a2 : (listOrd itemOrd).blt (keyToks x) (keyToks y) = false := by simpa [leD, PySem.W.sortLe] using h2
  have e := (listOrd itemOrd).total _ _ a2 a1
  exact (toks_inj x y [] [] h (by rw [List.append_nil, List.append_nil]; exact e)).1
theorem sortD_perm {l m : List PyData} (h : AllAlike l) (p : l.Perm m) : sortD l = sortD m := by
  have t := PySem.W.sortLe_total (listOrd itemOrd) false keyToks
  have p1 := List.mergeSort_perm l leD
  have p2 := List.mergeSort_perm m leD
  refine List.Perm.eq_of_pairwise (le := fun a b => leD a b = true) (fun a b ha hb h1 h2 => ?_) (PySem.W.sort_pairwise t l) (PySem.W.sort_pairwise t m) (p1.trans (p.trans p2.symm))
  exact leD_antisymm (h a (p1.mem_iff.mp ha) b (p.mem_iff.mpr (p2.mem_iff.mp hb))) h1 h2
abbrev kdOf (q : NestedKey × Addr) : PyData := q.1.data
/-- the keys sorted, with where they stand -/
def sortL (L : List (NestedKey × Addr)) : List (NestedKey × Addr) := L.mergeSort (PySem.W.sortLe (listOrd itemOrd) false fun q => keyToks (kdOf q))
theorem sortL_data (L : List (NestedKey × Addr)) : (sortL L).map kdOf = sortD (L.map kdOf) := PySem.W.sort_maps kdOf fun _ _ _ _ => rfl
theorem each_refs : ∀ (L : List (NestedKey × Addr)), EachIs (fun v (q : NestedKey × Addr) => v = Value.ref q.2) (L.map fun q => Value.ref q.2) L
  | [] => .nil
  | q :: L => .cons rfl (each_refs L)
theorem each_back : ∀ {vs : List Value} {L : List (NestedKey × Addr)}, EachIs (fun v (q : NestedKey × Addr) => v = Value.ref q.2) vs L → vs = L.map fun q => Value.ref q.2
  | _, _, .nil => rfl
  | _, _, .cons h t => by rw [h, each_back t]; rfl
theorem each_of_mem {β : Type} {R : Value → β → Prop} {f : β → Value} : ∀ {L : List β}, (∀ q ∈ L, R (f q) q) → EachIs R (L.map f) L
  | [], _ => .nil
  | q :: L, h => .cons (h q List.mem_cons_self) (each_of_mem fun r hr => h r (List.mem_cons_of_mem _ hr))
theorem each_map {β γ : Type} {R : Value → γ → Prop} {g : β → γ} {f : β → Value} : ∀ {L : List β}, (∀ q ∈ L, R (f q) (g q)) → EachIs R (L.map f) (L.map g)
  | [], _ => .nil
  | q :: L, h => .cons (h q List.mem_cons_self) (each_map fun r hr => h r (List.mem_cons_of_mem _ hr))
theorem refs_perm : ∀ {vs : List Value} {L : List (NestedKey × Addr)}, vs.Perm (L.map fun q => Value.ref q.2) → ∃ L1 : List (NestedKey × Addr), L1.Perm L ∧ vs = L1.map fun q => Value.ref q.2
  | [], L, p => by
    have : L.map (fun q => Value.ref q.2) = [] := p.symm.eq_nil
    exact ⟨[], by rw [List.map_eq_nil_iff.mp this], rfl⟩
  | v :: vs, L, p => by
    obtain ⟨q, hq, rfl⟩ := List.mem_map.mp (p.mem_iff.mp List.mem_cons_self)
    obtain ⟨A, B, rfl⟩ := List.append_of_mem hq
    have p2 : vs.Perm ((A ++ B).map fun q => Value.ref q.2) := by
      have : ((A ++ q :: B).map fun q => Value.ref q.2).Perm (Value.ref q.2 :: (A ++ B).map fun q => Value.ref q.2) := by
        simpa using List.perm_middle (a := Value.ref q.2) (l₁ := A.map fun q => Value.ref q.2) (l₂ := B.map fun q => Value.ref q.2)
      exact (p.trans this).cons_inv
    obtain ⟨L1, p3, e⟩ := refs_perm p2
    exact ⟨q :: L1, (List.Perm.cons q p3).trans List.perm_middle.symm, by rw [e]; rfl⟩
section
variable {P : Program} {w : World} {A : Around} {E : Value → Shared → Prop} {s : Shared}
mutual
theorem reads_mono {h h' : Heap} (k : ∀ b o, h.get? b = some o → h'.get? b = some o) : ∀ (d : PyData) (v : Value) (as : List Addr), Reads h v d as → d.hasDict = false → Reads h' v d as
  | .none, _, _, r, _ => by cases r; exact .none
  | .bool b, _, _, r, _ => by cases r; exact .bool b
  | .int i, _, _, r, _ => by cases r; exact .int i _
  | .str x, _, _, r, _ => by cases r; exact .str x _
  | .list ds, _, _, r, n => by
    cases r with
    | list h1 h2 h3 h4 => exact .list (k _ _ h1) h2 h3 (readsAll_mono k ds _ _ h4 (by simpa [PyData.hasDict] using n))
  | .tuple ds, _, _, r, n => by
    cases r with
    | tuple h1 h2 h3 h4 => exact .tuple (k _ _ h1) h2 h3 (readsAll_mono k ds _ _ h4 (by simpa [PyData.hasDict] using n))
  | .dict ds, _, _, r, n => by simp [PyData.hasDict] at n
theorem readsAll_mono {h h' : Heap} (k : ∀ b o, h.get? b = some o → h'.get? b = some o) : ∀ (ds : List PyData) (vs : List Value) (as : List Addr), ReadsAll h vs ds as → PyData.hasDictAll ds = false → ReadsAll h' vs ds as
  | [], _, _, r, _ => by cases r; exact .nil
  | d :: ds, _, _, r, n => by
    cases r with
    | cons r1 r2 =>
      simp only [PyData.hasDictAll, Bool.or_eq_false_iff] at n
      exact .cons (reads_mono k d _ _ r1 n.1) (readsAll_mono k ds _ _ r2 n.2)
end
theorem sorted_colN {a : Addr} {L : List (NestedKey × Addr)} {Q : Value → Shared → Prop} (hfew : L.length ≤ 1000)
    (col : ∀ R : List Value → Shared → Prop, (∀ s1 vs, (∀ b o, s.heap.get? b = some o → s1.heap.get? b = some o) → s1.gens = s.gens → s1.os = s.os → vs.Perm (L.map fun q => Value.ref q.2) → R vs s1) → wpAny (model P w) A.in1 (collect (.ref a)) R E s)
    (hr : ∀ p ∈ L, (∃ as, Reads s.heap (.ref p.2) (kdOf p) as) ∧ (kdOf p).hasDict = false) (hal : AllAlike (L.map kdOf)) (hk : Sortable (L.map kdOf)) (hdp : ∀ p ∈ L, (kdOf p).depth ≤ 20) (hu : A.units + 64 < cLine)
    (hQ : ∀ (s1 s' : Shared) p (out : Array Value) (c : Nat) (L' : List (NestedKey × Addr)), (∀ b o, s.heap.get? b = some o → s1.heap.get? b = some o) → s1.gens = s.gens → s1.os = s.os → (∀ b o, s1.heap.get? b = some o → s'.heap.get? b = some o) → s'.gens = s1.gens → s'.os = s1.os → s1.heap.objs.size ≤ p →
      s'.heap.get? p = some (seqObj "list" out c) → out.toList = L'.map (fun q => Value.ref q.2) → L'.Perm L → L'.map kdOf = sortD (L.map kdOf) → Q (.ref p) s') :
    wpAny (model P w) A (call (.builtin "sorted") [.ref a]) Q E s := by
  refine Calls.call_function_entry kind_sorted plain_sorted entry_sorted (args_sorted1 _) ?_
  unfold Builtin.«sorted»
  refine wpAny_bind (m := checkCount "sorted" 1 1 _) (wpAny_pure ?_)
  refine wpAny_bind (col _ fun s1 vs k1 g1 o1 pm => ?_)
  obtain ⟨L1, p1, rfl⟩ := refs_perm pm
  have hvl : (L1.map fun q => Value.ref q.2).length ≤ 1000 := by rw [List.length_map, p1.length_eq]; exact hfew
  refine wpAny_bind (wpAny_newList ?_ (by rw [sizeLine_eq]; omega))
  have hoL : (s1.heap.push (seqObj "list" (L1.map fun q => Value.ref q.2).toArray 0)).get? s1.heap.objs.size = some (seqObj "list" (L1.map fun q => Value.ref q.2).toArray 0) := Heap.get?_push_size _ rfl
  generalize hh2 : s1.heap.push (seqObj "list" (L1.map fun q => Value.ref q.2).toArray 0) = h2 at hoL
  have kk : ∀ b u, s.heap.get? b = some u → h2.get? b = some u := fun b u e => by rw [← hh2]; exact Heap.get?_push_of_some _ (k1 b u e)
  have bne : ∀ b u, s.heap.get? b = some u → b ≠ s1.heap.objs.size := fun b u e => Nat.ne_of_lt (Heap.lt_size (k1 b u e))
  have k6 : ∀ b u, s.heap.get? b = some u → (PySem.W.sortingHeap h2 s1.heap.objs.size (L1.map fun q => Value.ref q.2)).get? b = some u := fun b u e => PySem.W.sortingHeap_old (bne b u e) (kk b u e)
  have mL : ∀ q ∈ L1, q ∈ L := fun q hq => p1.mem_iff.mp hq
  have al1 : AllAlike (L1.map kdOf) := fun d hd d' hd' => hal d ((p1.map kdOf).mem_iff.mp hd) d' ((p1.map kdOf).mem_iff.mp hd')
  have S : PySem.W.SortsAt P w A.in1.in1 { s1 with heap := PySem.W.sortingHeap h2 s1.heap.objs.size (L1.map fun q => Value.ref q.2) } (dataKind (PySem.W.sortingHeap h2 s1.heap.objs.size (L1.map fun q => Value.ref q.2)) (L1.map kdOf)) (L1.map fun q => Value.ref q.2) := by
    refine PySem.W.SortsAt.data (each_map fun q hq => ?_) al1 ?_ fun d hd => ?_
    · obtain ⟨⟨as, r⟩, n⟩ := hr q (mL q hq)
      exact ⟨as, reads_mono k6 _ _ _ r n⟩
    · rcases hk with h | h
      · exact .inl fun d hd => h d ((p1.map kdOf).mem_iff.mp hd)
      · exact .inr fun d hd => h d ((p1.map kdOf).mem_iff.mp hd)
    · obtain ⟨q, hq, rfl⟩ := List.mem_map.mp hd
      have := hdp q (mL q hq)
      simp only [Around.units, Around.in1] at hu ⊢
      omega
  have ev := PySem.W.sortVals_each (κ := dataKind (PySem.W.sortingHeap h2 s1.heap.objs.size (L1.map fun q => Value.ref q.2)) (L1.map kdOf)) (rev := false) (R := fun v (q : NestedKey × Addr) => v = Value.ref q.2) (ks := L1.map fun q => Value.ref q.2) (vs := L1.map fun q => Value.ref q.2) (bs := L1) (fun q => keyToks (kdOf q)) (each_refs L1) (each_of_mem fun q hq => by
    obtain ⟨⟨as, r⟩, n⟩ := hr q (mL q hq)
    exact PySem.W.dataKind_some al1 (List.mem_map.mpr ⟨q, hq, rfl⟩) (reads_mono k6 _ _ _ r n))
  have eb := each_back ev
  have e2 : L1.mergeSort (PySem.W.sortLe (dataKind (PySem.W.sortingHeap h2 s1.heap.objs.size (L1.map fun q => Value.ref q.2)) (L1.map kdOf)).toKeyOrd false fun q => keyToks (kdOf q)) = sortL L1 := rfl
  rw [e2] at eb
  refine wpAny_bind (wpAny_holding (wpAny_call_entry slot_list_sort ⟨_, hoL, rfl⟩ entry_list_sort (PySem.W.list_sort_vals (s := { s1 with heap := h2 }) hoL S (by rw [sizeLine_eq]; omega) ?_) (args_list_sort _)))
  refine ⟨_, rfl, ?_⟩
  rw [eb]
  obtain ⟨c, hc⟩ := sortedHeap_at (vs := L1.map fun q => Value.ref q.2) (out := ((sortL L1).map fun q => Value.ref q.2).toArray) hoL
  refine wpAny_pure ⟨_, rfl, hQ s1 _ s1.heap.objs.size _ c (sortL L1) k1 g1 o1 (fun b u e => ?_) rfl rfl (Nat.le_refl _) hc (by simp) ((List.mergeSort_perm L1 _).trans p1) ?_⟩
  · show (sortedHeap h2 s1.heap.objs.size _ _).get? b = some u
    have e2 : h2.get? b = some u := by rw [← hh2]; exact Heap.get?_push_of_some _ e
    rw [sortedHeap_old (Nat.ne_of_lt (Heap.lt_size e)) (Heap.lt_size e2)]
    exact e2
  · rw [sortL_data]
    exact sortD_perm al1 (p1.map kdOf)
theorem sorted_setN {a : Addr} {L : List (NestedKey × Addr)} {es : Array (Int × Value)} {ep : Nat} {t : SetTable} {Q : Value → Shared → Prop} (R : Sd (ND P w) s.heap a L es ep t) (hh : A.handled = none)
    (hr : ∀ p ∈ L, (∃ as, Reads s.heap (.ref p.2) (kdOf p) as) ∧ (kdOf p).hasDict = false) (hal : AllAlike (L.map kdOf)) (hk : Sortable (L.map kdOf)) (hdp : ∀ p ∈ L, (kdOf p).depth ≤ 20) (hu : A.units + 64 < cLine)
    (hQ : ∀ (s1 s' : Shared) p (out : Array Value) (c : Nat) (L' : List (NestedKey × Addr)), (∀ b o, s.heap.get? b = some o → s1.heap.get? b = some o) → s1.gens = s.gens → s1.os = s.os → (∀ b o, s1.heap.get? b = some o → s'.heap.get? b = some o) → s'.gens = s1.gens → s'.os = s1.os → s1.heap.objs.size ≤ p →
      s'.heap.get? p = some (seqObj "list" out c) → out.toList = L'.map (fun q => Value.ref q.2) → L'.Perm L → L'.map kdOf = sortD (L.map kdOf) → Q (.ref p) s') :
    wpAny (model P w) A (call (.builtin "sorted") [.ref a]) Q E s := by
  obtain ⟨o, ho, hex, hd⟩ := R.ob
  have hsz := R.size
  have hfew := R.fw
  refine sorted_colN (by omega) (fun R0 hR => collect_set (A := A.in1) hh ⟨o, ho, hex.1, hd⟩ R.fits (by unfold scanBound; omega) R.tb.ris R.ld fun s1 vs k1 hz g1 o1 pm => hR s1 vs k1 g1 o1 ?_) hr hal hk hdp hu hQ
  have hes : es.toList.map (·.2) = L.map fun q => Value.ref q.2 := by
    rw [R.en]
    unfold ents
    rw [List.map_map]
    rfl
  rw [hes] at pm
  exact pm
end
end LQ

set_option Elab.async false
set_option linter.all false
set_option maxRecDepth 100000
set_option maxHeartbeats 4000000
/-! sorted(set(xs)) as a rule of the layer -/
namespace LQ
open PySem PySem.Spec PyProof.Rows L2
open PySem.W (alike AllAlike Sortable)
/-- the pair: a key, and where it stands -/
def KAt (K : PySem.W.Frag) (H : Hp) (p : NestedKey × Addr) : Prop := nk (kdOf p) = some p.1 ∧ p.1.depth ≤ 8 ∧ Rp K H (.ref p.2) (kdOf p)
section
variable {X : Cx} {z : Cz} {a : Expr} {m : ME} {pos : Pos}
def rSetN (K : PySem.W.Frag) (P : Program) (w : World) : List V → Hp → VK → Prop := fun xs H Q => ∃ (l : Addr) (ps : List (NestedKey × Addr)), xs = [V.ref l] ∧ SqL K H l (ps.map fun p => V.ref p.2) ∧ (∀ p ∈ ps, KAt K H p) ∧ ps.length < 64 ∧
  ∀ b L, H b = none → GotN ps ps.length L → (L.map (·.1)).Nodup → Q (.ref b) (upd H b (SetNO P w b L))
theorem refs_valsN : ∀ {ps : List (NestedKey × Addr)} {us : List Value}, Vals (ps.map fun p => V.ref p.2) us → us = ps.map fun p => Value.ref p.2
  | [], _, .nil => rfl
  | p :: ps, _, .cons r t => by
    cases r
    rw [refs_valsN t]
    rfl
theorem vals_refsN : ∀ (ps : List (NestedKey × Addr)), Vals (ps.map fun p => V.ref p.2) (ps.map fun p => Value.ref p.2)
  | [] => .nil
  | p :: ps => .cons rfl (vals_refsN ps)
theorem cr_setN (hc : X.calm = true) (hu : X.A.units + 64 < cLine) : CallR X (.type "set") (rSetN X.K X.prog X.w) := by
  intro pins s σ H xs us Q I r h
  obtain ⟨l, ps, rfl, hl, hk, hf, q⟩ := h
  rw [Vals.ref1 r]
  obtain ⟨its, rv, pl, hz⟩ := I.list hl
  have hn : H s.heap.objs.size = none := I.hok.fresh (Nat.le_refl _)
  have e := refs_valsN rv
  subst e
  refine call_setNest (P := X.prog) (w := X.w) ps (I.ok.hd hc) pl.isList (fun p hp => ⟨Rp.nest I _ _ _ _ (hk p hp).1 (hk p hp).2.2 rfl, (hk p hp).2.1⟩) hf hu fun h' tk L es ep t k R g => ?_
  exact ⟨.ref s.heap.objs.size, upd H s.heap.objs.size (SetNO X.prog X.w s.heap.objs.size L), I.laid (t' := tk) k (Nat.le_refl _) (setN_new R), rfl, q _ L hn g R.nd⟩
def rSortedN (K : PySem.W.Frag) (P : Program) (w : World) : List V → Hp → VK → Prop := fun vs H Q => ∃ (b : Addr) (L : List (NestedKey × Addr)), vs = [V.ref b] ∧ H b = some (SetNO P w b L) ∧ (∀ p ∈ L, KAt K H p) ∧ AllAlike (L.map kdOf) ∧ Sortable (L.map kdOf) ∧ (∀ p ∈ L, (kdOf p).depth ≤ 20) ∧
  ∀ (L' : List (NestedKey × Addr)) (p : Addr), L'.Perm L → L'.map kdOf = sortD (L.map kdOf) → H p = none → Q (.ref p) (upd H p (.lst (L'.map fun q => V.ref q.2)))
theorem col_end {pins : List (Addr × Obj)} {σ : L2.St} {H : Hp} {s s1 s' : Shared} {p : Addr} {out : Array Value} {c : Nat} {L' : List (NestedKey × Addr)} {Q : VK} (I : Inv X pins σ H s) (k0 : ∀ b o, s.heap.get? b = some o → s1.heap.get? b = some o) (g0 : s1.gens = s.gens) (o0 : s1.os = s.os)
    (k : ∀ b o, s1.heap.get? b = some o → s'.heap.get? b = some o) (g : s'.gens = s1.gens) (o : s'.os = s1.os) (hp : s1.heap.objs.size ≤ p) (hg : s'.heap.get? p = some (seqObj "list" out c)) (hout : out.toList = L'.map fun q => Value.ref q.2) (hfew : L'.length ≤ 1000)
    (q : H p = none → Q (.ref p) (upd H p (.lst (L'.map fun q => V.ref q.2)))) : EP X pins σ Q (.ref p) s' := by
  have I1 : Inv X pins σ H s1 := by
    have J : Inv X pins σ H { s with heap := s1.heap, gens := s1.gens, drawn := s1.drawn, toks := s1.toks } := I.call (ch := []) (Un.kept k0) (I.hok.kept k0) (by rw [g0]; exact I.bare) (fun _ z => nomatch z)
    have e : s1 = { s with heap := s1.heap, gens := s1.gens, drawn := s1.drawn, toks := s1.toks } := by
      cases s1
      cases s
      cases o0
      rfl
    rw [e]
    exact J
  have hlen : (L'.map fun q => V.ref q.2).length ≤ sizeLine := by rw [List.length_map, sizeLine_eq]; omega
  have hn : H p = none := I1.hok.fresh hp
  have hv : Vals (L'.map fun q => V.ref q.2) out.toList := by rw [hout]; exact vals_refsN L'
  have J : Inv X pins σ (upd H p (.lst (L'.map fun q => V.ref q.2))) { s1 with heap := s'.heap, gens := s'.gens, drawn := s'.drawn, toks := s'.toks } :=
    I1.call (ch := []) (Un.laid k hp hn) (I1.hok.laid k hp ⟨hlen, out.toList, c, hv, hg⟩) (by rw [g]; exact I1.bare) (fun _ z => nomatch z)
  have e : s' = { s1 with heap := s'.heap, gens := s'.gens, drawn := s'.drawn, toks := s'.toks } := by
    cases s'
    cases s1
    cases o
    rfl
  rw [e]
  exact ⟨.ref p, _, J, rfl, q hn⟩
theorem cr_sortedN (hc : X.calm = true) (hu : X.A.units + 64 < cLine) : CallR X (.builtin "sorted") (rSortedN X.K X.prog X.w) := by
  intro pins s σ H vs us Q I r h
  obtain ⟨b, L, rfl, hb, hk, hal, hso, hdp, q⟩ := h
  obtain ⟨es, ep, t, R⟩ := (show ∃ es ep t, Sd (ND X.prog X.w) s.heap b L es ep t from (I.hok b _ hb).1)
  rw [Vals.ref1 r]
  refine sorted_setN R (I.ok.hd hc) (fun p hp => ?_) hal hso hdp hu fun s1 s' p out c L' k0 g0 o0 k g o hp hg hout pm pd => ?_
  · have nd := nk_noD _ _ (hk p hp).1
    obtain ⟨as, r, _⟩ := Rp.reads I (kdOf p) _ _ (fun h => by rw [nd] at h; cases h) (hk p hp).2.2 (rfl : RelV (.ref p.2) (.ref p.2))
    exact ⟨⟨as, r⟩, nd⟩
  · have hf := R.fw
    exact col_end I k0 g0 o0 k g o hp hg hout (by rw [pm.length_eq]; omega) fun hn => q L' p pm pd hn
/-! ### the mirror -/
def ddK : List NestedKey → List NestedKey
  | [] => []
  | k :: ks => if k ∈ ks then ddK ks else k :: ddK ks
theorem mem_ddK {x : NestedKey} : ∀ {ks : List NestedKey}, x ∈ ddK ks ↔ x ∈ ks
  | [] => Iff.rfl
  | k :: ks => by
    unfold ddK
    have ih := mem_ddK (x := x) (ks := ks)
    by_cases h : k ∈ ks
    · rw [if_pos h, ih, List.mem_cons]
      exact ⟨.inr, fun e => e.elim (fun e => by rw [e]; exact h) id⟩
    · rw [if_neg h, List.mem_cons, List.mem_cons, ih]
theorem nd_ddK : ∀ {ks : List NestedKey}, (ddK ks).Nodup
  | [] => .nil
  | k :: ks => by
    unfold ddK
    by_cases h : k ∈ ks
    · rw [if_pos h]; exact nd_ddK
    · rw [if_neg h]; exact List.nodup_cons.mpr ⟨fun e => h (mem_ddK.mp e), nd_ddK⟩
def tupNE : PyData → Bool
  | .tuple (_ :: _) => true
  | _ => false
/-- these data can be put into a set and sorted -/
def canSort (ds : List PyData) : Bool := decide (ds.length < 64) && ds.all tupNE && (ds.all fun d => ds.all fun e => alike d e) && ds.all fun d => decide (d.depth ≤ 20)
def gSortSet (ds : List PyData) : Option (List PyData) := match nks ds with
  | some ks => if canSort ds = true ∧ (ks.all fun k => decide (k.depth ≤ 8)) = true then some (sortD ((ddK ks).map NestedKey.data)) else none
  | none => none
def mSortSet (m : ME) : MA := fun en T => (m en T).bind fun p => match p.1 with
  | .list ds => (gSortSet ds).map fun es => (es, p.2)
  | _ => none
theorem keys_of {K : PySem.W.Frag} {F : Hp} : ∀ {ds : List PyData} {ks : List NestedKey} {xs : List V}, RpAll K F xs ds → nks ds = some ks → ds.all tupNE = true → (ks.all fun k => decide (k.depth ≤ 8)) = true → ∃ ps : List (NestedKey × Addr), xs = ps.map (fun p => V.ref p.2) ∧ ps.map (·.1) = ks ∧ ∀ p ∈ ps, KAt K F p
  | [], ks, _, h, e, _, _ => by
    cases h
    cases e
    exact ⟨[], rfl, rfl, fun p hp => (by cases hp)⟩
  | d :: ds, ks, _, h, e, c, dp => by
    simp only [nks] at e
    cases e1 : nk d with
    | none => rw [e1] at e; cases e
    | some k =>
      cases e2 : nks ds with
      | none => rw [e1, e2] at e; cases e
      | some l =>
        rw [e1, e2] at e
        cases e
        cases h with
        | cons h1 h2 =>
          simp only [List.all_cons, Bool.and_eq_true, decide_eq_true_eq] at c dp
          obtain ⟨ps, q1, q2, q3⟩ := keys_of h2 e2 c.2 (by simpa using dp.2)
          have ed := nk_data d k e1
          cases h1 with
          | tup hs ha =>
            rename_i b xs' ds'
            refine ⟨(k, b) :: ps, by rw [q1]; rfl, by rw [List.map_cons, q2], fun p hp => ?_⟩
            rcases List.mem_cons.mp hp with rfl | hp
            · refine ⟨by show nk k.data = some k; rw [ed]; exact e1, dp.1, ?_⟩
              show Rp K F (.ref b) k.data
              rw [ed]
              exact .tup hs ha
            · exact q3 p hp
          | _ => simp [tupNE] at c
theorem datas_mem : ∀ (ps : List (NestedKey × Addr)) (p : NestedKey × Addr), p ∈ ps → kdOf p ∈ NestedKey.datas (ps.map (·.1))
  | [], p, h => by cases h
  | q :: ps, p, h => by
    simp only [List.map_cons, NestedKey.datas]
    rcases List.mem_cons.mp h with rfl | h
    · exact List.mem_cons_self
    · exact List.mem_cons_of_mem _ (datas_mem ps p h)
theorem kat_mono {K : PySem.W.Frag} {F F' : Hp} (s : Same F F') {p : NestedKey × Addr} (h : KAt K F p) : KAt K F' p := ⟨h.1, h.2.1, dp_mono s _ _ h.2.2⟩
theorem rp_of_kat {K : PySem.W.Frag} {F : Hp} : ∀ {L : List (NestedKey × Addr)}, (∀ p ∈ L, KAt K F p) → RpAll K F (L.map fun q => V.ref q.2) (L.map kdOf)
  | [], _ => .nil
  | p :: L, h => .cons (h p List.mem_cons_self).2.2 (rp_of_kat fun q hq => h q (List.mem_cons_of_mem _ hq))
theorem f_sortSet {p1 p2 p3 p4 : Pos} (hc : X.calm = true) (hu : X.A.units + 64 < cLine) (gs : Gl X "sorted") (ms : X.mg "sorted" = none) (gt : Gl X "set") (mt : X.mg "set" = none) (ha : PE X a (tE z X.K m))
    (e1 : starEach [a] X.env = (false, eval a X.env) :: starEach [] X.env := by rfl)
    (e2 : starEach [Expr.Call (.Name "set" p2) [a] [] p3] X.env = (false, eval (.Call (.Name "set" p2) [a] [] p3) X.env) :: starEach [] X.env := by rfl) :
    PE X (.Call (.Name "sorted" p1) [.Call (.Name "set" p2) [a] [] p3] [] p4) (tF z X.K (mSortSet m)) :=
  pe_to (pe_callB (cr_sortedN hc hu) gs ms (by decide +kernel) (pa_cons (pe_callTy (cr_setN hc hu) gt mt (by decide +kernel) (pa_cons ha pa_nil e1) (by decide) (by decide) e1 rfl) pa_nil e2) (by decide) (by decide) e2 rfl) fun σ H Q h => by
    obtain ⟨F, en, T, ds0, T', ok, e, k⟩ := h
    unfold mSortSet at e
    cases h1 : m en T with
    | none => rw [h1] at e; cases e
    | some r =>
      obtain ⟨d1, T1⟩ := r
      rw [h1] at e
      simp only [Option.bind_some] at e
      refine ⟨F, en, T, d1, T1, ok, h1, fun F1 H1 v B1 n1 q1 => ?_⟩
      split at e
      · rename_i ds
        unfold gSortSet at e
        cases h2 : nks ds with
        | none => rw [h2] at e; cases e
        | some ks =>
          rw [h2] at e
          simp only at e
          split at e
          · rename_i cs
            cases e
            obtain ⟨cs, cd⟩ := cs
            simp only [canSort, Bool.and_eq_true, decide_eq_true_eq] at cs
            obtain ⟨⟨⟨c1, c2⟩, c3⟩, c4⟩ := cs
            obtain ⟨b, xs, rfl, hs, hx⟩ := q1
            obtain ⟨ps, rfl, rfl, hp⟩ := keys_of hx h2 c2 cd
            have dd : ∀ p ∈ ps, kdOf p ∈ ds := fun p hp => by
              have := datas_mem ps p hp
              rwa [nks_data _ _ h2] at this
            have len : ps.length < 64 := by
              have := dpAll_len hx
              rw [List.length_map] at this
              omega
            refine ⟨b, ps, rfl, (cut_same z H1).seq hs, fun p h => kat_mono B1.fh (hp p h), len, fun s L hsn g nd => ?_⟩
            obtain ⟨B2, n2, f2, z2⟩ := B1.put (o := SetNO X.prog X.w s L) hsn
            have hL : ∀ p ∈ L, KAt X.K F1 p := fun p h => hp p (g.sub p h)
            have inD : ∀ d ∈ L.map kdOf, d ∈ ds := fun d hd => by
              obtain ⟨p, h, rfl⟩ := List.mem_map.mp hd
              exact dd p (g.sub p h)
            have al : AllAlike (L.map kdOf) := fun d hd d' hd' => by
              have := List.all_eq_true.mp c3 d (inD d hd)
              exact List.all_eq_true.mp this d' (inD d' hd')
            refine ⟨s, L, rfl, upd_same, fun p h => kat_mono B2.fh (hL p h), al, .inl fun d hd => ?_, fun p h => ?_, fun L' p pm pd hpn => ?_⟩
            · have := List.all_eq_true.mp c2 d (inD d hd)
              match d, this with
              | .tuple (x :: r), _ => exact ⟨x, r, rfl⟩
            · have := List.all_eq_true.mp c4 (kdOf p) (dd p (g.sub p h))
              simpa using this
            · obtain ⟨B3, n3, f3, z3⟩ := B2.put (o := .lst (L'.map fun q => V.ref q.2)) hpn
              have N : Nxt z F H F1 _ := n1.trans (n2.trans n3 B3) B3
              have hpH : H p = none := by
                cases q : H p with
                | none => rfl
                | some o =>
                  have nd : z.isDk p = false := by
                    cases hd : z.isDk p with
                    | true => exact absurd z3 (ok.b.dkin p hd)
                    | false => rfl
                  have := (n1.trans n2 B2).st p o q nd
                  rw [hpn] at this
                  cases this
              have e3 : sortD ((ddK (ps.map (·.1))).map NestedKey.data) = L'.map kdOf := by
                rw [pd]
                have pk : (L.map (·.1)).Perm (ddK (ps.map (·.1))) := (List.perm_ext_iff_of_nodup nd nd_ddK).mpr fun k => by
                  rw [mem_ddK]
                  refine ⟨fun h => ?_, fun h => ?_⟩
                  · obtain ⟨q, hq, rfl⟩ := List.mem_map.mp h
                    exact List.mem_map.mpr ⟨q, g.sub q hq, rfl⟩
                  · obtain ⟨q, hq, rfl⟩ := List.mem_map.mp h
                    exact g.all q (by rw [List.take_length]; exact hq)
                have pk2 := pk.map NestedKey.data
                rw [List.map_map] at pk2
                exact (sortD_perm al pk2).symm
              rw [e3] at k
              exact k F1 _ p _ B3 N hpH upd_same f3 z3 (rp_of_kat fun q hq => hL q (pm.mem_iff.mp hq))
          · cases e
      · cases e
end
end LQ

set_option Elab.async false
set_option linter.all false
set_option maxRecDepth 100000
set_option maxHeartbeats 4000000
/-! defs that return a new list, which the caller owns -/
namespace LQ
open PySem PySem.Spec PyProof.Rows L2
abbrev MFF := List Sl → Dk → Option (List PyData × Dk)
def tSF (z : Cz) (K : PySem.W.Frag) (m : MA) : TS := fun D σ H => ∃ F en T ds T', Ok z K F H σ en T ∧ m en T = some (ds, T') ∧ ∀ F' H' a xs, Bs z F' H' T' → H' a = some (.lst xs) → F' a = none → z.H0 a = none → RpAll K F' xs ds → D.rt (.ref a) H'
def mSeqF (s : MS) (m : MA) : MA := fun en T => match s en T with
  | some (.nx en' T') => m en' T'
  | _ => none
def mRetF (i : Nat) : MA := fun en T => match en[i]? with
  | some (some (.own ds)) => some (ds, T)
  | _ => none
def spF (K : PySem.W.Frag) (n : Nat) (m : MFF) : Sp := fun vs H Q _ => ∃ F dk ss T ds T', vs.length = n ∧ Bs ⟨F, H, dk⟩ F H T ∧ SlAs dk K F vs ss ∧ m ss T = some (ds, T') ∧ ∀ F' H' a xs, Bs ⟨F, H, dk⟩ F' H' T' → H' a = some (.lst xs) → F' a = none → H a = none → RpAll K F' xs ds → Q (.ref a) H'
def mFunF (n : Nat) (mb : MA) : MFF := fun ss T => mb (ss.map some ++ List.replicate (n - ss.length) none) T
def mCfF (M : MFF) (ms : MAs) : MA := fun en T => (ms en T).bind fun p => M p.1 p.2
section
variable {X : Cx} {z : Cz} {s1 : MS} {m : MA} {pos : Pos}
theorem ss_consF {st : Stmt} {rest : List Stmt} (h1 : PS X st (tS z X.K s1)) (h2 : PSs X rest (tSF z X.K m)) : PSs X (st :: rest) (tSF z X.K (mSeqF s1 m)) := pss_to (pss_cons h1 h2) fun D σ H q => by
  obtain ⟨F, en, T, ds, T', ok, e, k⟩ := q
  unfold mSeqF at e
  split at e
  · rename_i en' T1 e1
    exact ⟨F, en, T, _, ok, e1, fun F' H' σ' ok' s => ⟨F', en', T1, ds, T', ok', e, k⟩⟩
  · cases e
theorem ss_retF (i : Nat) {x : Str} {pos' : Pos} (hN : X.N[i]? = some x := by rfl) (hv : Vis X.env.scope x := by first | exact Or.inl rfl | exact Or.inr (Or.inl rfl) | exact Or.inr (Or.inr rfl)) (hd : (x == ("__debug__" : Str)) = false := by decide)
    (hcd : (x == ("__classdict__" : Str)) = false := by decide) : PSs X [.Return (some (.Name x pos')) pos] (tSF z X.K (mRetF i)) := pss_to (pss_one (ps_ret (pe_var (i := i) hN hv hd hcd))) fun D σ H q => by
  obtain ⟨F, en, T, ds, T', ok, e, k⟩ := q
  unfold mRetF at e
  split at e
  · rename_i ds' e'
    cases e
    obtain ⟨v, hv, a, xs, ex, h1, h2, h3, p⟩ := ok.sl i _ e'
    subst ex
    exact ⟨.ref a, hv, k F H a xs ok.b h1 h2 h3 p⟩
  · cases e
end
def CalF (P : Program) (w : World) (K : PySem.W.Frag) (mg : Str → Option Value) (base : Heap) (k : Nat) (x : Str) (ps : List Str) (M : MFF) : Prop :=
  ∃ f fd, FnG P w K mg base CX0 k f fd ps (spF K ps.length M) ∧ mg x = some (.ref f) ∧ PySem.W.keepIn K (.ref f) = true ∧ Binds K fd ps []
section
variable {P : Program} {w : World} {K : PySem.W.Frag} {mg : Str → Option Value} {base : Heap}
theorem CalF.up {j k : Nat} {x : Str} {ps : List Str} {M : MFF} (C : CalF P w K mg base j x ps M) (h : j ≤ k) : CalF P w K mg base k x ps M := by
  obtain ⟨f, fd, G, r⟩ := C
  exact ⟨f, fd, G.up h, r⟩
theorem calF {x : Str} {st : Stmt} {N ps : List Str} {k : Nat} {mb : MA} (D : Def K mg x st ps) (S : FnScope N ps (defScope st))
    (hbody : ∀ (f : Addr) (cdv : Value) (A : Around) (outer : List Env) (s : Shared) (H : Hp) (E : XK) (z : Cz), Room k (A.deeper (envOfC x (defScope st) s.heap.objs.size f cdv)) → A.guards = some [] →
      PSs (cxOf CX0 P w K mg base N x (defScope st) f cdv A outer s H E).nox (defBody st) (tSF z K mb)) : CalF P w K mg base (k + 1) x ps (mFunF N.length mb) := by
  obtain ⟨f, fd, Fn, hm, hb⟩ := D
  refine ⟨f, fd, fnG Fn S (fun vs H Q E h => ?_) (fun cdv A outer s H vs Q E hr hg h => ?_), hm, Fn.kp, hb⟩
  · obtain ⟨F, dk, ss, T, d, T', hl, _⟩ := h
    exact hl
  · obtain ⟨F, dk, ss, T, d, T', hl, B, a, e, q⟩ := h
    refine ⟨_, (hbody f cdv A outer s H E ⟨F, H, dk⟩ hr hg).nox, ?_⟩
    unfold mFunF at e
    have ok := ok_start (N := N) B a
    exact ⟨F, _, T, _, _, ok, e, fun F' H' b xs B' h1 h2 h3 p => q F' H' b xs B' h1 h2 h3 p⟩
end
section
variable {X : Cx} {z : Cz} {a : Expr} {es : List Expr} {ms : MAs} {pos : Pos}
theorem f_cal {k : Nat} {ps : List Str} {x : Str} {p : Pos} {M : MFF} (C : CalF X.prog X.w X.K X.mg X.base k x ps M) (hr : Room k X.A) (gu : X.A.guards = some []) (hg : Gl X x)
    (ha : PA X (a :: es) (tAs z X.K ms)) (hn : ∀ en T ss T', ms en T = some (ss, T') → ss.length = ps.length) (hdb : (x == ("__debug__" : Str)) = false := by decide) (he : starEach (a :: es) X.env = (false, eval a X.env) :: starEach es X.env := by rfl) (hpl : (backTo pos (starEach es X.env)).any (·.1) = false := by rfl) :
    PE X (.Call (.Name x p) (a :: es) [] pos) (tF z X.K (mCfF M ms)) := by
  obtain ⟨f, fd, G, hm, hk, hb⟩ := C
  refine pe_to (pe_callG (E := E0) G hr gu hg hm hk hb pass0 ha hdb he hpl) fun σ H Q q => ?_
  obtain ⟨F, en, T, d, T', ok, e, k⟩ := q
  unfold mCfF at e
  cases h1 : ms en T with
  | none => rw [h1] at e; cases e
  | some p =>
    obtain ⟨ss, T1⟩ := p
    rw [h1] at e
    simp only [Option.bind_some] at e
    refine ⟨F, en, T, ss, T1, ok, h1, fun F1 H1 vs B1 n1 a1 => ?_⟩
    refine ⟨F1, z.dk, ss, T1, d, T', ?_, B1.enter, by rw [List.append_nil]; exact a1, e, fun F' H' b xs B' g1 g2 g3 p => ?_⟩
    · rw [List.append_nil, a1.len]
      exact hn en T ss T1 h1
    · obtain ⟨B2, n2⟩ := B1.leave B'
      have nd : z.isDk b = false := by
        cases hd : z.isDk b with
        | true => exact absurd g3 (dk_in B1 b hd)
        | false => rfl
      have hb : H b = none := by
        cases q : H b with
        | none => rfl
        | some o => rw [n1.st b o q nd] at g3; cases g3
      have h0 : z.H0 b = none := by
        cases q : z.H0 b with
        | none => rfl
        | some o => rw [ok.b.out b o q nd] at hb; cases hb
      exact k F' H' b xs B2 (n1.trans n2 B2) hb g1 g2 h0 p
end
end LQ

set_option Elab.async false
set_option linter.all false
set_option maxRecDepth 100000
set_option maxHeartbeats 4000000
/-! the keys of a dict: list(d), sorted(d); sorted(xs) -/
namespace LQ
open PySem PySem.Spec PyProof.Rows L2
open PySem.W (alike AllAlike Sortable dataKind EachIs keyToks)
/-! ### tuples that stand in the heap are frozen -/
section
variable {z : Cz} {F H : Hp} {T : Dk}
theorem nodk_tup {b : Addr} {xs : List V} (B : Bs z F H T) (h : H b = some (.tup xs)) : z.isDk b = false := by
  cases hd : z.isDk b with
  | false => rfl
  | true =>
    have hk := B.dk
    unfold DkOk at hk
    unfold Cz.isDk dkAt at hd
    cases e : z.dk with
    | none => rw [e] at hd; cases hd
    | some t =>
      obtain ⟨p1, c1, g1⟩ := t
      rw [e] at hd hk
      obtain ⟨k1, k2, k3, _⟩ := hk
      simp only [Bool.or_eq_true, beq_iff_eq] at hd
      rcases hd with rfl | rfl
      · rw [k1] at h; cases h
      · rw [k3] at h; cases h
theorem Bs.frzT {b : Addr} {xs : List V} (B : Bs z F H T) (h : H b = some (.tup xs)) : ∃ F', Bs z F' H T ∧ Nxt z F H F' H ∧ F' b = some (.tup xs) := by
  cases hf : F b with
  | some o =>
    have := B.fh b o hf
    rw [h] at this
    cases this
    exact ⟨F, B, Nxt.refl, hf⟩
  | none =>
    have nd := nodk_tup B h
    have sm : Same F (upd F b (.tup xs)) := fun c o e => by rw [upd_ne (ne_of_none e hf)]; exact e
    have nt : NT (z.H0 b) := by
      cases e : z.H0 b with
      | none => exact .inl rfl
      | some o =>
        have := B.out b o e nd
        rw [h] at this
        cases this
        exact .inr ⟨xs, rfl⟩
    refine ⟨upd F b (.tup xs), ⟨fun c o e => ?_, B.ff.trans sm, fun c e => ?_, B.out, fun c hd => ?_, B.dkin, ?_⟩, ⟨sm, fun _ _ e _ => e, fun c e => ?_⟩, upd_same⟩
    · by_cases hc : c = b
      · subst hc; rw [upd_same] at e; rw [h]; exact e
      · rw [upd_ne hc] at e; exact B.fh c o e
    · by_cases hc : c = b
      · subst hc; exact .inr nt
      · rw [upd_ne hc] at e; exact B.vis c e
    · have hc : c ≠ b := fun e => by subst e; rw [hd] at nd; cases nd
      rw [upd_ne hc]; exact B.nodk c hd
    · have hk := B.dk
      unfold DkOk at hk ⊢
      cases e : z.dk with
      | none => trivial
      | some t =>
        obtain ⟨p1, c1, g1⟩ := t
        rw [e] at hk
        obtain ⟨k1, k2, k3, k4⟩ := hk
        exact ⟨k1, sm _ _ k2, k3, k4⟩
    · by_cases hc : c = b
      · subst hc; exact .inr (.inr ⟨xs, h⟩)
      · rw [upd_ne hc] at e; exact .inl e
theorem rp_flat {K : PySem.W.Frag} {F : Hp} : ∀ ks : List Key, RpAll K F (ks.map kV) (ks.map keyD)
  | [] => .nil
  | .inl i :: ks => .cons (.int i) (rp_flat ks)
  | .inr x :: ks => .cons (.str x) (rp_flat ks)
/-- the keys of a dict, frozen -/
theorem Bs.keys {K : PySem.W.Frag} : ∀ {vs : List (List Key × V)} {kvs : List (PyData × PyData)} {bs : List Addr} {F F0 : Hp}, Bs z F H T → KvOk K F0 vs kvs → IsKeys H vs bs → ∃ F', Bs z F' H T ∧ Nxt z F H F' H ∧ RpAll K F' (bs.map V.ref) (kvs.map (·.1))
  | _, _, _, F, F0, B, .nil, .nil => ⟨F, B, Nxt.refl, .nil⟩
  | _, _, _, F, F0, B, .cons (ks := ks) _ r, .cons h t => by
    obtain ⟨F1, B1, n1, e1⟩ := B.frzT h
    obtain ⟨F2, B2, n2, p2⟩ := Bs.keys (K := K) B1 r t
    exact ⟨F2, B2, n1.trans n2 B2, .cons (.tup (n2.s _ _ e1) (rp_flat ks)) p2⟩
end
/-! ### list(d) -/
def mKeysOf (m : ME) : MA := fun en T => (m en T).bind fun p => match p.1 with
  | .dict (x :: kvs) => some ((x :: kvs).map (·.1), p.2)
  | _ => none
section
variable {X : Cx} {z : Cz} {a : Expr} {m : ME} {pos : Pos}
theorem f_listD {p : Pos} (hc : X.calm = true) (hg : Gl X "list") (hm : X.mg "list" = none) (ha : PE X a (tD z X.K m)) (he : starEach [a] X.env = (false, eval a X.env) :: starEach [] X.env := by rfl) : PE X (.Call (.Name "list" p) [a] [] pos) (tF z X.K (mKeysOf m)) :=
  pe_to (pe_callTy (call_list_dT hc) hg hm (by decide +kernel) (pa_cons ha pa_nil he) (by decide) (by decide) he rfl) fun σ H Q h => by
    obtain ⟨F, en, T, ds, T', ok, e, k⟩ := h
    unfold mKeysOf at e
    cases h1 : m en T with
    | none => rw [h1] at e; cases e
    | some r =>
      obtain ⟨d1, T1⟩ := r
      rw [h1] at e
      simp only [Option.bind_some] at e
      refine ⟨F, en, T, d1, T1, ok, h1, fun F1 H1 v B1 n1 p1 => ?_⟩
      split at e
      · cases e
        cases p1 with
        | dcT hd hk =>
          rename_i c vs
          refine ⟨c, vs, rfl, .inl (B1.fh _ _ hd), fun p bs hp ik => ?_⟩
          obtain ⟨F2, B2, n2, r2⟩ := B1.keys hk ik
          obtain ⟨B3, n3, f3, z3⟩ := B2.put (o := .lst (bs.map V.ref)) hp
          have N := n1.trans (n2.trans n3 B3) B3
          have hpH : H p = none := by
            cases q : H p with
            | none => rfl
            | some o =>
              have := (n1.trans n2 B2).st p o q (B2.h0 hp).1
              rw [hp] at this
              cases this
          exact k F2 _ p _ B3 N hpH upd_same f3 z3 r2
      · cases e
end
end LQ

set_option Elab.async false
set_option linter.all false
set_option maxRecDepth 100000
set_option maxHeartbeats 4000000
/-! sorted(xs), sorted(d) -/
namespace LQ
open PySem PySem.Spec PyProof.Rows L2
open PySem.W (alike AllAlike Sortable)
def rSortedK (K : PySem.W.Frag) : List V → Hp → VK → Prop := fun vs H Q => ∃ (b : Addr) (L : List (NestedKey × Addr)), vs = [V.ref b] ∧ SqL K H b (L.map fun q => V.ref q.2) ∧ (∀ p ∈ L, KAt K H p) ∧ AllAlike (L.map kdOf) ∧ Sortable (L.map kdOf) ∧ (∀ p ∈ L, (kdOf p).depth ≤ 20) ∧ L.length ≤ 1000 ∧
  ∀ (L' : List (NestedKey × Addr)) (p : Addr), L'.Perm L → L'.map kdOf = sortD (L.map kdOf) → H p = none → Q (.ref p) (upd H p (.lst (L'.map fun q => V.ref q.2)))
section
variable {X : Cx} {z : Cz} {a : Expr} {m : ME} {pos : Pos}
theorem kat_reads {pins : List (Addr × Obj)} {σ : L2.St} {H : Hp} {s : Shared} {p : NestedKey × Addr} (I : Inv X pins σ H s) (h : KAt X.K H p) : (∃ as, Reads s.heap (.ref p.2) (kdOf p) as) ∧ (kdOf p).hasDict = false := by
  have nd := nk_noD _ _ h.1
  obtain ⟨as, r, _⟩ := Rp.reads I (kdOf p) _ _ (fun h => by rw [nd] at h; cases h) h.2.2 (rfl : RelV (.ref p.2) (.ref p.2))
  exact ⟨⟨as, r⟩, nd⟩
theorem cr_sortedK (hu : X.A.units + 64 < cLine) : CallR X (.builtin "sorted") (rSortedK X.K) := by
  intro pins s σ H vs us Q I r h
  obtain ⟨b, L, rfl, hb, hk, hal, hso, hdp, hfew, q⟩ := h
  rw [Vals.ref1 r]
  obtain ⟨its, rv, pl, hz⟩ := I.list hb
  have e := refs_valsN rv
  subst e
  refine sorted_colN hfew (fun R0 hR => collect_list pl.isList ?_ (by rw [List.length_map, sizeLine_eq]; omega)) (fun p hp => kat_reads I (hk p hp)) hal hso hdp hu fun s1 s' p out c L' k0 g0 o0 k g o hp hg hout pm pd => ?_
  · refine hR _ _ (fun c o e => ?_) rfl rfl (List.Perm.refl _)
    show ((s.heap.push _).update s.heap.objs.size _).get? c = some o
    rw [Heap.get?_update_ne _ _ _ _ (Nat.ne_of_lt (Heap.lt_size e))]
    exact Heap.get?_push_of_some _ e
  · exact col_end I k0 g0 o0 k g o hp hg hout (by rw [pm.length_eq]; exact hfew) fun hn => q L' p pm pd hn
/-! ### keys of a dict -/
def toNK : Key → NestedKey
  | .inl i => .num i
  | .inr x => .text x
theorem nks_flat : ∀ ks : List Key, nks (ks.map keyD) = some (ks.map toNK)
  | [] => rfl
  | .inl i :: ks => by simp only [List.map_cons, keyD, toNK, nks, nk, nks_flat ks, Option.bind_some, Option.map_some]
  | .inr x :: ks => by simp only [List.map_cons, keyD, toNK, nks, nk, nks_flat ks, Option.bind_some, Option.map_some]
theorem depth_flat : ∀ ks : List Key, NestedKey.depthAll (ks.map toNK) = 0
  | [] => by simp [NestedKey.depthAll]
  | .inl i :: ks => by simp [toNK, NestedKey.depthAll, NestedKey.depth, depth_flat ks]
  | .inr x :: ks => by simp [toNK, NestedKey.depthAll, NestedKey.depth, depth_flat ks]
def keyNK (ks : List Key) : NestedKey := .tup (ks.map toNK)
theorem keyNK_data (ks : List Key) : (keyNK ks).data = .tuple (ks.map keyD) := nk_data _ _ (by unfold keyNK; simp only [nk, nks_flat, Option.map_some])
theorem kat_key {K : PySem.W.Frag} {H : Hp} {ks : List Key} {b : Addr} (h : H b = some (.tup (ks.map kV))) : KAt K H (keyNK ks, b) := by
  have e := keyNK_data ks
  refine ⟨?_, ?_, ?_⟩
  · show nk (keyNK ks).data = some (keyNK ks)
    rw [e]
    unfold keyNK
    simp only [nk, nks_flat, Option.map_some]
  · show (keyNK ks).depth ≤ 8
    unfold keyNK
    simp only [NestedKey.depth, depth_flat]
    decide
  · show Rp K H (.ref b) (keyNK ks).data
    rw [e]
    exact .tup h (rp_flat ks)
def zipK : List (List Key × V) → List Addr → List (NestedKey × Addr)
  | p :: kvs, b :: bs => (keyNK p.1, b) :: zipK kvs bs
  | _, _ => []
theorem zipK_refs {H : Hp} : ∀ {kvs : List (List Key × V)} {bs : List Addr}, IsKeys H kvs bs → (zipK kvs bs).map (fun q => Value.ref q.2) = bs.map Value.ref ∧ (zipK kvs bs).map kdOf = kvs.map (fun p => PyData.tuple (p.1.map keyD)) ∧ (zipK kvs bs).length = kvs.length
  | _, _, .nil => ⟨rfl, rfl, rfl⟩
  | _, _, .cons h t => by
    obtain ⟨e1, e2, e3⟩ := zipK_refs t
    refine ⟨by simp only [zipK, List.map_cons, e1], ?_, by simp only [zipK, List.length_cons, e3]⟩
    simp only [zipK, List.map_cons, e2, kdOf, keyNK_data]
theorem zipK_at {K : PySem.W.Frag} {H : Hp} : ∀ {kvs : List (List Key × V)} {bs : List Addr}, IsKeys H kvs bs → ∀ p ∈ zipK kvs bs, KAt K H p
  | _, _, .nil, p, hp => by cases hp
  | _, _, .cons h t, p, hp => by
    rcases List.mem_cons.mp hp with rfl | hp
    · exact kat_key h
    · exact zipK_at t p hp
def rSortedDT (K : PySem.W.Frag) : List V → Hp → VK → Prop := fun vs H Q => ∃ (d : Addr) (kvs : List (List Key × V)), vs = [V.ref d] ∧ Rd H d (.dT kvs) ∧ AllAlike (kvs.map fun p => PyData.tuple (p.1.map keyD)) ∧ Sortable (kvs.map fun p => PyData.tuple (p.1.map keyD)) ∧ (∀ p ∈ kvs, (PyData.tuple (p.1.map keyD)).depth ≤ 20) ∧ kvs.length ≤ 1000 ∧
  ∀ (bs : List Addr) (L' : List (NestedKey × Addr)) (p : Addr), IsKeys H kvs bs → L'.Perm (zipK kvs bs) → L'.map kdOf = sortD (kvs.map fun p => PyData.tuple (p.1.map keyD)) → H p = none → Q (.ref p) (upd H p (.lst (L'.map fun q => V.ref q.2)))
theorem cr_sortedDT (hc : X.calm = true) (hu : X.A.units + 64 < cLine) : CallR X (.builtin "sorted") (rSortedDT X.K) := by
  intro pins s σ H vs us Q I r h
  obtain ⟨d, kvs, rfl, hd, hal, hso, hdp, hfew, q⟩ := h
  rw [Vals.ref1 r]
  obtain ⟨zz, hs, ks, pr, o, es, ep, ho, hx, hdt, he, hn⟩ := (show ObjOk X.prog X.w H s.heap d (.dT kvs) from hd.ok I.hok)
  have l1 : es.size = ks.length := size_of_entries he
  have l2 : kvs.length = ks.length := Paired.length pr
  have ik := isKeys_of pr
  obtain ⟨e1, e2, e3⟩ := zipK_refs ik
  have hdp' : ∀ p ∈ zipK kvs (ks.map fun x => x.2.1), (kdOf p).depth ≤ 20 := fun p hp => by
    have hm : kdOf p ∈ (zipK kvs (ks.map fun x => x.2.1)).map kdOf := List.mem_map.mpr ⟨p, hp, rfl⟩
    rw [e2] at hm
    obtain ⟨x, hx1, hx2⟩ := List.mem_map.mp hm
    rw [← hx2]
    exact hdp x hx1
  refine sorted_colN (L := zipK kvs (ks.map fun x => x.2.1)) (by rw [e3]; exact hfew) (fun R0 hR => PySem.W.kdu_collect (A := X.A.in1) (kdl_raw hs hx hdt) (I.ok.hd hc) ho (by rw [sizeLine_eq]; omega) fun h' tk acc kp it => hR _ _ kp rfl rfl ?_) (fun p hp => kat_reads I (zipK_at ik p hp)) (by rw [e2]; exact hal) (by rw [e2]; exact hso) hdp' hu fun s1 s' p out c L' k0 g0 o0 k g o hp hg hout pm pd => ?_
  · have ea : acc.toList = ks.map fun x => Value.ref x.2.1 := by
      have hl : acc.toList.length = ks.length := by rw [Array.length_toList, it.1]; exact l1
      apply List.ext_getElem?
      intro j
      rw [List.getElem?_map]
      cases hj : acc.toList[j]? with
      | none =>
        have h1 := List.getElem?_eq_none_iff.mp hj
        rw [List.getElem?_eq_none (by omega)]
        rfl
      | some v =>
        obtain ⟨en, hen, hv⟩ := it.2 j v (by rw [← Array.getElem?_toList]; exact hj)
        have qe := entry_at he j
        rw [hen] at qe
        cases hb : ks[j]? with
        | none =>
          rw [hb] at qe
          exact nomatch (show some en = none from qe)
        | some b =>
          rw [hb] at qe
          have e2 : en = entryOfKey (tupleKind (mixKind X.prog X.w)) b := Option.some.inj qe
          rw [hv, e2]
          rfl
    rw [ea, e1, List.map_map]
    exact List.Perm.refl _
  · exact col_end I k0 g0 o0 k g o hp hg hout (by rw [pm.length_eq, e3]; exact hfew) fun hn => q _ L' p ik pm (by rw [pd, e2]) hn
end
end LQ

set_option Elab.async false
set_option linter.all false
set_option maxRecDepth 100000
set_option maxHeartbeats 4000000
/-! sorted(xs), sorted(d) as rules of the layer; a def called by keywords alone -/
namespace LQ
open PySem PySem.Spec PyProof.Rows L2
open PySem.W (alike AllAlike Sortable)
def canSrt (ds : List PyData) : Bool := decide (ds.length ≤ 1000) && ds.all tupNE && (ds.all fun d => ds.all fun e => alike d e) && ds.all fun d => decide (d.depth ≤ 20)
theorem canSrt_parts {ds : List PyData} (h : canSrt ds = true) : ds.length ≤ 1000 ∧ ds.all tupNE = true ∧ AllAlike ds ∧ Sortable ds ∧ ∀ d ∈ ds, d.depth ≤ 20 := by
  simp only [canSrt, Bool.and_eq_true, decide_eq_true_eq] at h
  obtain ⟨⟨⟨c1, c2⟩, c3⟩, c4⟩ := h
  refine ⟨c1, c2, fun d hd e he => List.all_eq_true.mp (List.all_eq_true.mp c3 d hd) e he, .inl fun d hd => ?_, fun d hd => by simpa using List.all_eq_true.mp c4 d hd⟩
  have := List.all_eq_true.mp c2 d hd
  match d, this with
  | .tuple (x :: r), _ => exact ⟨x, r, rfl⟩
def gSortL (ds : List PyData) : Option (List PyData) := match nks ds with
  | some ks => if canSrt ds = true ∧ (ks.all fun k => decide (k.depth ≤ 8)) = true then some (sortD ds) else none
  | none => none
def mSortL (m : ME) : MA := fun en T => (m en T).bind fun p => match p.1 with
  | .list ds => (gSortL ds).map fun es => (es, p.2)
  | _ => none
def mSortKv (m : ME) : MA := fun en T => (m en T).bind fun p => match p.1 with
  | .dict (x :: kvs) => if canSrt ((x :: kvs).map (·.1)) = true then some (sortD ((x :: kvs).map (·.1)), p.2) else none
  | _ => none
theorem data_all : ∀ (L : List (NestedKey × Addr)), L.map kdOf = NestedKey.datas (L.map (·.1))
  | [] => rfl
  | q :: L => by
    simp only [List.map_cons, NestedKey.datas, data_all L]
theorem kv_keys {K : PySem.W.Frag} {F : Hp} : ∀ {vs : List (List Key × V)} {kvs : List (PyData × PyData)}, KvOk K F vs kvs → vs.map (fun p => PyData.tuple (p.1.map keyD)) = kvs.map (·.1)
  | _, _, .nil => rfl
  | _, _, .cons _ r => by simp only [List.map_cons, kv_keys r]
section
variable {z : Cz} {H : Hp} {T : Dk}
theorem Bs.keysZ {K : PySem.W.Frag} : ∀ {vs : List (List Key × V)} {bs : List Addr} {F : Hp}, Bs z F H T → IsKeys H vs bs → ∃ F', Bs z F' H T ∧ Nxt z F H F' H ∧ ∀ p ∈ zipK vs bs, KAt K F' p
  | _, _, F, B, .nil => ⟨F, B, Nxt.refl, fun p hp => (by cases hp)⟩
  | _, _, F, B, .cons h t => by
    obtain ⟨F1, B1, n1, e1⟩ := B.frzT h
    obtain ⟨F2, B2, n2, p2⟩ := Bs.keysZ (K := K) B1 t
    refine ⟨F2, B2, n1.trans n2 B2, fun p hp => ?_⟩
    rcases List.mem_cons.mp hp with rfl | hp
    · exact kat_key (n2.s _ _ e1)
    · exact p2 p hp
end
section
variable {X : Cx} {z : Cz} {a : Expr} {m : ME} {pos : Pos}
theorem f_sortL {p1 : Pos} (hu : X.A.units + 64 < cLine) (gs : Gl X "sorted") (ms : X.mg "sorted" = none) (ha : PE X a (tE z X.K m)) (e1 : starEach [a] X.env = (false, eval a X.env) :: starEach [] X.env := by rfl) :
    PE X (.Call (.Name "sorted" p1) [a] [] pos) (tF z X.K (mSortL m)) :=
  pe_to (pe_callB (cr_sortedK hu) gs ms (by decide +kernel) (pa_cons ha pa_nil e1) (by decide) (by decide) e1 rfl) fun σ H Q h => by
    obtain ⟨F, en, T, ds0, T', ok, e, k⟩ := h
    unfold mSortL at e
    cases h1 : m en T with
    | none => rw [h1] at e; cases e
    | some r =>
      obtain ⟨d1, T1⟩ := r
      rw [h1] at e
      simp only [Option.bind_some] at e
      refine ⟨F, en, T, d1, T1, ok, h1, fun F1 H1 v B1 n1 q1 => ?_⟩
      split at e
      · rename_i ds
        unfold gSortL at e
        cases h2 : nks ds with
        | none => rw [h2] at e; cases e
        | some ks =>
          rw [h2] at e
          simp only at e
          split at e
          · rename_i cs
            cases e
            obtain ⟨cs, cd⟩ := cs
            obtain ⟨c1, c2, c3, c4, c5⟩ := canSrt_parts cs
            obtain ⟨b, xs, rfl, hs, hx⟩ := q1
            obtain ⟨ps, rfl, rfl, hp⟩ := keys_of hx h2 c2 cd
            have dd : ps.map kdOf = ds := (data_all ps).trans (nks_data _ _ h2)
            subst dd
            refine ⟨b, ps, rfl, (cut_same z H1).seq hs, fun p h => kat_mono B1.fh (hp p h), c3, c4, fun p h => c5 _ (List.mem_map.mpr ⟨p, h, rfl⟩), by simpa using c1, fun L' p pm pd hpn => ?_⟩
            obtain ⟨B3, n3, f3, z3⟩ := B1.put (o := .lst (L'.map fun q => V.ref q.2)) hpn
            have hpH : H p = none := by
              cases q : H p with
              | none => rfl
              | some o =>
                have := n1.st p o q (B1.h0 hpn).1
                rw [hpn] at this
                cases this
            rw [← pd] at k
            exact k F1 _ p _ B3 (n1.trans n3 B3) hpH upd_same f3 z3 (rp_of_kat fun q hq => hp q (pm.mem_iff.mp hq))
          · cases e
      · cases e
theorem f_sortKv {p1 : Pos} (hc : X.calm = true) (hu : X.A.units + 64 < cLine) (gs : Gl X "sorted") (ms : X.mg "sorted" = none) (ha : PE X a (tD z X.K m)) (e1 : starEach [a] X.env = (false, eval a X.env) :: starEach [] X.env := by rfl) :
    PE X (.Call (.Name "sorted" p1) [a] [] pos) (tF z X.K (mSortKv m)) :=
  pe_to (pe_callB (cr_sortedDT hc hu) gs ms (by decide +kernel) (pa_cons ha pa_nil e1) (by decide) (by decide) e1 rfl) fun σ H Q h => by
    obtain ⟨F, en, T, ds0, T', ok, e, k⟩ := h
    unfold mSortKv at e
    cases h1 : m en T with
    | none => rw [h1] at e; cases e
    | some r =>
      obtain ⟨d1, T1⟩ := r
      rw [h1] at e
      simp only [Option.bind_some] at e
      refine ⟨F, en, T, d1, T1, ok, h1, fun F1 H1 v B1 n1 q1 => ?_⟩
      split at e
      · split at e
        · rename_i cs
          cases e
          obtain ⟨c1, c2, c3, c4, c5⟩ := canSrt_parts cs
          cases q1 with
          | dcT hd hk =>
            rename_i c vs
            have ek := kv_keys hk
            rw [← ek] at c1 c3 c4 c5 k
            refine ⟨c, vs, rfl, .inl (B1.fh _ _ hd), c3, c4, fun p hp => c5 _ (List.mem_map.mpr ⟨p, hp, rfl⟩), by simpa using c1, fun bs L' p ik pm pd hpn => ?_⟩
            obtain ⟨F2, B2, n2, r2⟩ := B1.keysZ (K := X.K) ik
            obtain ⟨B3, n3, f3, z3⟩ := B2.put (o := .lst (L'.map fun q => V.ref q.2)) hpn
            have hpH : H p = none := by
              cases q : H p with
              | none => rfl
              | some o =>
                have := (n1.trans n2 B2).st p o q (B2.h0 hpn).1
                rw [hpn] at this
                cases this
            rw [← pd] at k
            exact k F2 _ p _ B3 (n1.trans (n2.trans n3 B3) B3) hpH upd_same f3 z3 (rp_of_kat fun q hq => r2 q (pm.mem_iff.mp hq))
        · cases e
      · cases e
end
end LQ

set_option Elab.async false
set_option linter.all false
set_option maxRecDepth 100000
set_option maxHeartbeats 4000000
/-! a def called by keywords alone -/
namespace LQ
open PySem PySem.Spec PyProof.Rows L2
theorem rel_getD : ∀ {zs : List V} {ws : List Value} (i : Nat), Vals zs ws → RelV (zs.getD i .non) (ws.getD i .none)
  | _, _, i, .nil => by simp; rfl
  | _, _, 0, .cons h _ => h
  | _, _, i + 1, .cons _ t => rel_getD i t
theorem vals_pick {zs : List V} {ws : List Value} (h : Vals zs ws) : ∀ pi : List Nat, Vals (pi.map fun i => zs.getD i .non) (pi.map fun i => ws.getD i .none)
  | [] => .nil
  | i :: pi => .cons (rel_getD i h) (vals_pick h pi)
def KwTo (fd : FuncData) (ps ks : List Str) (pi : List Nat) : Prop := ∀ (s : Shared) (ws : List Value), ws.length = ks.length → BindsTo s fd ⟨[], ks.zip ws⟩ (ps.zip (pi.map fun i => ws.getD i .none))
def tKw (n : Nat) (pi : List Nat) (sp : Sp) (E : XK) (tk : TA) : TE := fun σ H Q => tk σ H fun zs H2 => zs.length = n ∧ sp (pi.map fun i => zs.getD i .non) H2 Q E
section
variable {X : Cx} {CX : CXT} {k : Nat} {f : Addr} {fd : FuncData} {ps ks : List Str} {pi : List Nat} {sp : Sp} {E : XK} {x : Str} {p pos : Pos} {kws : List Keyword} {tk : TA}
theorem pe_callGK (G : FnG X.prog X.w X.K X.mg X.base CX k f fd ps sp) (room : Room k X.A) (gu : X.A.guards = some []) (hg : Gl X x) (hm : X.mg x = some (.ref f)) (hk : PySem.W.keepIn X.K (.ref f) = true) (hb : KwTo fd ps ks pi) (hx : Passes CX X E) (hkw : PK X kws tk)
    (hall : (backToKw pos (keywordEach kws X.env)).all (·.1.isSome) = true := by rfl) (hks : (backToKw pos (keywordEach kws X.env)).filterMap (·.1) = ks := by rfl) (hdb : (x == ("__debug__" : Str)) = false := by decide)
    (hpl : ((backTo pos (starEach [] X.env)).any (·.1) || (backToKw pos (keywordEach kws X.env)).any (·.1.isNone)) = false := by rfl) : PE X (.Call (.Name x p) [] kws pos) (tKw ks.length pi sp E tk) := by
  refine ⟨fun pins s σ H Q I h => ?_⟩
  refine wpAny_Call_Name_kw (ld_glob I hg hm ?_ hdb)
  refine PySem.W.callWith_KW0 (h₀ := X.base) I.ok.mod.kin hk hall ?_ hpl
  refine thn (hkw.run pos pins s σ H _ I h) fun ws s2 ⟨zs, H2, I2, rz, l, q2⟩ => ⟨I2.kIn, ?_⟩
  rw [hks]
  refine wpAny_call (codeAny_mono (G.go X.A X.stack s2 H2 ⟨[], ks.zip ws⟩ (pi.map fun i => ws.getD i .none) (pi.map fun i => zs.getD i .non) Q E room gu I2.env0 (hb s2 ws (by rw [← rz.length]; exact l)) (vals_pick rz pi) q2) ?_)
  intro r s3 h2
  match r, h2 with
  | .error v, h2 => exact hx pins σ H2 s2 v s3 I2 h2
  | .ok (.ret u), h2 => exact I2.after h2
  | .ok .next, h2 => exact h2.elim
  | .ok .brk, h2 => exact h2.elim
  | .ok .cont, h2 => exact h2.elim
end
def DefK (K : PySem.W.Frag) (mg : Str → Option Value) (x : Str) (st : Stmt) (ps ks : List Str) (pi : List Nat) : Prop := ∃ f fd, Fun K x x st f fd ∧ mg x = some (.ref f) ∧ KwTo fd ps ks pi
def CalKw (P : Program) (w : World) (K : PySem.W.Frag) (mg : Str → Option Value) (base : Heap) (k : Nat) (x : Str) (ps ks : List Str) (pi : List Nat) (M : MF) : Prop :=
  ∃ f fd, FnG P w K mg base CX0 k f fd ps (spD K ps.length M) ∧ mg x = some (.ref f) ∧ PySem.W.keepIn K (.ref f) = true ∧ KwTo fd ps ks pi
section
variable {P : Program} {w : World} {K : PySem.W.Frag} {mg : Str → Option Value} {base : Heap}
theorem calKw {x : Str} {st : Stmt} {N ps ks : List Str} {pi : List Nat} {k : Nat} {mb : MS} (D : DefK K mg x st ps ks pi) (S : FnScope N ps (defScope st))
    (hbody : ∀ (f : Addr) (cdv : Value) (A : Around) (outer : List Env) (s : Shared) (H : Hp) (E : XK) (z : Cz), Room k (A.deeper (envOfC x (defScope st) s.heap.objs.size f cdv)) → A.guards = some [] →
      PSs (cxOf CX0 P w K mg base N x (defScope st) f cdv A outer s H E).nox (defBody st) (tS z K mb)) : CalKw P w K mg base (k + 1) x ps ks pi (mFun N.length mb) := by
  obtain ⟨f, fd, Fn, hm, hb⟩ := D
  exact ⟨f, fd, fnDG Fn S (hbody f), hm, Fn.kp, hb⟩
end
def mCfK (M : MF) (pi : List Nat) (ms : MAs) : ME := fun en T => (ms en T).bind fun p => M (pi.map fun i => p.1.getD i (.dat .none)) p.2
theorem slAs_get {dk : Option (Addr × Addr × Addr)} {K : PySem.W.Frag} {F : Hp} : ∀ {zs : List V} {ss : List Sl} (i : Nat), SlAs dk K F zs ss → i < ss.length → SlAs dk K F [zs.getD i .non] [ss.getD i (.dat .none)]
  | _, _, i, .nil, h => by simp at h
  | _, _, 0, .cons h _, _ => .cons h .nil
  | _, _, i + 1, .cons _ t, h => slAs_get i t (by simpa using h)
theorem slAs_pick {dk : Option (Addr × Addr × Addr)} {K : PySem.W.Frag} {F : Hp} {zs : List V} {ss : List Sl} (a : SlAs dk K F zs ss) : ∀ pi : List Nat, (∀ i ∈ pi, i < ss.length) → SlAs dk K F (pi.map fun i => zs.getD i .non) (pi.map fun i => ss.getD i (.dat .none))
  | [], _ => .nil
  | i :: pi, h => by
    have h1 := slAs_get i a (h i List.mem_cons_self)
    cases h1 with
    | cons h1 _ => exact .cons h1 (slAs_pick a pi fun j hj => h j (List.mem_cons_of_mem _ hj))
section
variable {X : Cx} {z : Cz} {a : Expr} {m : ME} {ms : MAs} {pos : Pos}
theorem pk_to {kws : List Keyword} {t t' : TA} (h : PK X kws t) (w : ∀ σ H Q, t' σ H Q → t σ H Q) : PK X kws t' := ⟨fun pos pins s σ H Q I q => h.run pos pins s σ H Q I (w σ H Q q)⟩
theorem w_nil : PK X [] (tAs z X.K mN0) := pk_to pk_nil fun σ H Q q => by
  obtain ⟨F, en, T, ds, T', ok, e, k⟩ := q
  cases e
  exact k F H [] ok.b Nxt.refl .nil
theorem w_d {nm : Option Str} {kpos : Pos} {kws : List Keyword} (ha : PE X a (tD z X.K m)) (hr : PK X kws (tAs z X.K ms)) : PK X (⟨nm, a, kpos⟩ :: kws) (tAs z X.K (mAd m ms)) := pk_to (pk_cons ha hr) fun σ H Q q => by
  obtain ⟨F, en, T, ds, T', ok, e, k⟩ := q
  unfold mAd at e
  cases h1 : m en T with
  | none => rw [h1] at e; cases e
  | some p =>
    obtain ⟨d, T1⟩ := p
    rw [h1] at e
    simp only [Option.bind_some] at e
    cases h2 : ms en T1 with
    | none => rw [h2] at e; cases e
    | some q =>
      obtain ⟨r, T2⟩ := q
      rw [h2] at e
      cases e
      exact ⟨F, en, T, d, T1, ok, h1, fun F1 H1 v B1 n1 p1 => ⟨F1, en, T1, r, _, ok.nxt n1 B1, h2, fun F2 H2 vs B2 n2 p2 => k F2 H2 _ B2 (n1.trans n2 B2) (.cons (s := .dat d) (dp_mono n2.s _ _ p1) p2)⟩⟩
theorem d_calKw {k : Nat} {ps ks : List Str} {pi : List Nat} {x : Str} {p : Pos} {M : MF} {kws : List Keyword} (C : CalKw X.prog X.w X.K X.mg X.base k x ps ks pi M) (hr : Room k X.A) (gu : X.A.guards = some []) (hg : Gl X x) (hkw : PK X kws (tAs z X.K ms))
    (hn : ∀ en T ss T', ms en T = some (ss, T') → ss.length = ks.length) (hpi : pi.length = ps.length ∧ ∀ i ∈ pi, i < ks.length) (hall : (backToKw pos (keywordEach kws X.env)).all (·.1.isSome) = true := by rfl) (hks : (backToKw pos (keywordEach kws X.env)).filterMap (·.1) = ks := by rfl) (hdb : (x == ("__debug__" : Str)) = false := by decide)
    (hpl : ((backTo pos (starEach [] X.env)).any (·.1) || (backToKw pos (keywordEach kws X.env)).any (·.1.isNone)) = false := by rfl) : PE X (.Call (.Name x p) [] kws pos) (tD z X.K (mCfK M pi ms)) := by
  obtain ⟨f, fd, G, hm, hk, hb⟩ := C
  refine pe_to (pe_callGK (E := E0) G hr gu hg hm hk hb pass0 hkw hall hks hdb hpl) fun σ H Q q => ?_
  obtain ⟨F, en, T, d, T', ok, e, k⟩ := q
  unfold mCfK at e
  cases h1 : ms en T with
  | none => rw [h1] at e; cases e
  | some p =>
    obtain ⟨ss, T1⟩ := p
    rw [h1] at e
    simp only [Option.bind_some] at e
    refine ⟨F, en, T, ss, T1, ok, h1, fun F1 H1 vs B1 n1 a1 => ?_⟩
    have hl := hn en T ss T1 h1
    refine ⟨by rw [a1.len]; exact hl, F1, z.dk, pi.map (fun i => ss.getD i (.dat .none)), T1, d, T', ?_, B1.enter, slAs_pick a1 pi (by rw [hl]; exact hpi.2), e, fun F' H' v B' p => ?_⟩
    · rw [List.length_map]
      exact hpi.1
    · obtain ⟨B2, n2⟩ := B1.leave B'
      exact k F' H' v B2 (n1.trans n2 B2) p
end
section
variable {K : PySem.W.Frag} {mg : Str → Option Value} {h : Heap}
theorem defK_mk {x : Str} {st : Stmt} {ps ks : List Str} {pi : List Nat} {f : Addr} {oc kV dc pm cd ct : Value} {od an : Option Addr} {sl : Array (Option Value)} (X : K.In h) (G : h.Ns mainGlobals mg) (a : PySem.W.nsIn K mainGlobals x = some (some (.ref f)))
    (l : K.lookup f = some ⟨oc, od, .func (PySem.W.fnOf x x (defArgs st) (defBody st) (defScope st) .none kV dc pm an cd ct), sl⟩) (c : PySem.W.codeIn K cd x = true) (k : PySem.W.keepIn K (.ref f) = true)
    (hb : ∀ (kV doc pm : Value) (an : Option Addr) (cdv ct : Value) (ws : List Value), ws.length = ks.length → bindArgs (PySem.W.fnOf x x (defArgs st) (defBody st) (defScope st) .none kV doc pm an cdv ct) ⟨[], ks.zip ws⟩ = pure (ps.zip (pi.map fun i => ws.getD i .none))) : DefK K mg x st ps ks pi :=
  ⟨f, _, fun_mk l c k, PySem.W.mg_of X G a, fun s ws hl => .of_eq (hb _ _ _ _ _ _ ws hl)⟩
end
end LQ

set_option Elab.async false
set_option linter.all false
set_option maxRecDepth 100000
set_option maxHeartbeats 4000000
/-! set(xs) of a tuple -/
namespace LQ
open PySem PySem.Spec PyProof.Rows L2
section
variable {P : Program} {w : World} {A : Around} {E : Value → Shared → Prop} {s : Shared}
theorem call_setT {l : Addr} {items : Array Value} {Q : Value → Shared → Prop} (hh : A.handled = none) (hl : s.heap.IsTuple l items) (J : Nat → Shared → Prop)
    (j0 : ∀ h, h.get? s.heap.objs.size = some (setObj w) → (∀ b o, s.heap.get? b = some o → h.get? b = some o) → J 0 { s with heap := h })
    (jm : ∀ i s1 s2, (∀ b o, b ≠ s.heap.objs.size + 1 → s1.heap.get? b = some o → s2.heap.get? b = some o) → J i s1 → J i s2)
    (st : ∀ i v, items[i]? = some v → AddsTo P w A.in1.in1.in1 s.heap.objs.size J i v)
    (q : ∀ h' tk, J items.size { s with heap := h', toks := tk } → Q (.ref s.heap.objs.size) { s with heap := h', toks := tk }) : wpAny (model P w) A (call (.type "set") [.ref l]) Q E s := by
  obtain ⟨c, tl, hmro⟩ := F.called_set.mro
  have hmade := F.called_set.made
  have hsub := F.called_set.sub
  refine wpAny_call (codeAny_of_tree (show wpAny _ _ (callAny (.type "set") _) _ _ _ from wpAny_pure ⟨Code.quiet_builtin _ (by decide +kernel), codeAny_builtin F.entry_type_call ?_⟩))
  rw [Around.under_plain (weight_type_call_type "set" [.ref l] []) rfl]
  have h1 := F.called_set.notType
  have h2 := F.called_set.canCreate
  have hct := F.typeCall_set_1 (.ref l)
  repeat (any_goals (first | assumption | wp_step))
  refine codeAny_mono (code_set_led1 (.ref l) (E := E) (Q₁ := fun ob s₁ => ob = .ref s.heap.objs.size ∧ s₁ = { s with heap := s.heap.push (setObj w) }) ⟨rfl, rfl⟩) fun r s₁ hr => ?_
  cases r with
  | error e => exact hr
  | ok fl =>
    cases fl with
    | ret ob =>
      obtain ⟨rfl, rfl⟩ := hr
      have hS : (s.heap.push (setObj w)).get? s.heap.objs.size = some (setObj w) := Heap.get?_push_size _ rfl
      have hT : Shared.TypeIs { s with heap := s.heap.push (setObj w) } (.ref s.heap.objs.size) "set" := ⟨_, hS, rfl⟩
      have hli := F.called_set.init.lookup
      have hbi := F.called_set.init.bind (.ref s.heap.objs.size)
      repeat (any_goals (first | assumption | wp_step))
      refine codeAny_mono (codeAny_call_builtin (R := wants (fun r s₂ => r = .none ∧ ∃ h' tk, s₂ = { s with heap := h', toks := tk } ∧ J items.size { s with heap := h', toks := tk }) E) F.called_set.init.plain F.entry_set_init (check_set_init_1 hT ?_)) fun r₂ s₂ hr₂ => ?_
      · obtain ⟨⟨ocls, odict, odata, oslots⟩, hol, hcl, nl, hdl⟩ := hl
        simp only at hcl hdl
        subst hcl
        subst hdl
        have hol' : (s.heap.push (setObj w)).get? l = some { cls := .type "tuple", dict := odict, data := .seq items nl, slots := oslots } := Heap.get?_push_of_some _ hol
        have hl1 : (s.heap.push (setObj w)).IsTuple l items := ⟨_, hol', rfl, nl, rfl⟩
        have hsls := F.sub_tuple_set
        have hslf := F.sub_tuple_frozenset
        have hne : (Value.type "tuple" == Value.type "dict") = false := by decide
        unfold Builtin.«set.__init__» noKeywords Builtin.Frozenset.updateFrom
        generalize hPI : pyIter = PI
        wp_walk
        subst hPI
        refine wpAny_pyIter_tuple hl1 (wpAny_bind (wpAny_runValue ?_))
        have hz : (s.heap.push (setObj w)).objs.size = s.heap.objs.size + 1 := Heap.size_push ..
        have hlS : l < s.heap.objs.size := Heap.lt_size hol
        refine set_loop_by ((Walks.tuple (show A.in1.in1.in1.handled = none by simp [hh]) _ l (by rw [hz]; exact Nat.ne_of_lt (Nat.lt_succ_of_lt hlS)) items).toS) s.heap.objs.size (by rw [hz]; simp only [List.mem_cons, List.not_mem_nil, or_false]; exact fun h => h.elim (Nat.ne_of_lt (Nat.lt_succ_self _)) (Nat.ne_of_gt hlS)) J (fun i s1 s2 m j => jm i s1 s2 (fun b o hb e => m.heap b o (by rw [hz]; simpa using hb) e) j)
          (fun i v _ hv => st i v hv) (items.size - 0) 0 _ (by omega) (Nat.zero_le _) ⟨⟨_, Heap.get?_push_size _ rfl, rfl, rfl⟩, hl1.push _⟩ (j0 _ (Heap.get?_push_of_some _ hS) fun b o e => Heap.get?_push_of_some _ (Heap.get?_push_of_some _ e)) fun s' m j => ?_
        obtain ⟨h', g', d', tk', os'⟩ := s'
        have eg : g' = s.gens := m.gens
        have ed : d' = s.drawn := m.drawn
        have eo : os' = s.os := m.os
        subst eg ed eo
        exact wpAny_pure (wpAny_pure ⟨rfl, h', tk', rfl, j⟩)
      · cases r₂ with
        | error e => exact hr₂
        | ok fl₂ =>
          cases fl₂ with
          | ret r =>
            obtain ⟨rfl, h', tk, rfl, j⟩ := hr₂
            repeat (any_goals (first | assumption | wp_step))
            exact q _ _ j
          | _ => exact hr₂.elim
    | _ => exact hr.elim
end
end LQ

set_option Elab.async false
set_option linter.all false
set_option maxRecDepth 100000
set_option maxHeartbeats 4000000
/-! len(set(t)) of a tuple of nested tuples; a list of data + a new one; a text times a number -/
namespace LQ
open PySem PySem.Spec PyProof.Rows L2
section
theorem call_setNestT {P : Program} {w : World} {A : Around} {E : Value → Shared → Prop} {s : Shared} {l : Addr} (ps : List (NestedKey × Addr)) {Q : Value → Shared → Prop} (hh : A.handled = none) (hl : s.heap.IsTuple l (ps.map fun p => Value.ref p.2).toArray)
    (hk : ∀ p ∈ ps, NestedIs s.heap p.1 (.ref p.2) ∧ p.1.depth ≤ 8) (hf : ps.length < 64) (hu : A.units + 64 < cLine)
    (q : ∀ h' tk L es ep t, (∀ b o, s.heap.get? b = some o → h'.get? b = some o) → Sd (ND P w) h' s.heap.objs.size L es ep t → GotN ps ps.length L → Q (.ref s.heap.objs.size) { s with heap := h', toks := tk }) :
    wpAny (model P w) A (call (.type "set") [.ref l]) Q E s := by
  refine call_setT hh hl (fun i s1 => (∀ b o, s.heap.get? b = some o → s1.heap.get? b = some o) ∧ ∃ L es ep t, Sd (ND P w) s1.heap s.heap.objs.size L es ep t ∧ GotN ps i L) ?_ ?_ ?_ ?_
  · exact fun h h1 h2 => ⟨h2, [], _, _, _, sd_new h1, ⟨fun p hp => (by cases hp), fun p hp => (by simp at hp), Nat.le_refl _⟩⟩
  · rintro i s1 s2 k ⟨k1, L, es, ep, t, R, G⟩
    refine ⟨fun b o e => k b o (Nat.ne_of_lt (Nat.lt_succ_of_lt (Heap.lt_size e))) (k1 b o e), L, es, ep, t, R.keep fun o e => k _ o (Nat.ne_of_lt (Nat.lt_succ_self _)) e, G⟩
  · intro i v hv s1 Q1 E1 j q1
    obtain ⟨k1, L, es, ep, t, R, G⟩ := j
    have hv' : (ps.map fun p => Value.ref p.2)[i]? = some v := by simpa using hv
    rw [List.getElem?_map] at hv'
    cases hp : ps[i]? with
    | none => rw [hp] at hv'; cases hv'
    | some p =>
      rw [hp] at hv'
      cases hv'
      have pm := List.mem_of_getElem? hp
      have keep : ∀ q ∈ ps, (ND P w).kd.is s1.heap q.1 q.2 := fun q hq => (ND P w).st.stays (fun b o vs n e _ => k1 b o e) (show (ND P w).kd.is s.heap q.1 q.2 from hk q hq)
      have il : i < ps.length := (List.getElem?_eq_some_iff.mp hp).1
      have tn : ps.take (i + 1) = ps.take i ++ [p] := by rw [List.take_add_one, hp]; rfl
      have ru : (ND P w).kd.room A.in1.in1.in1 := by
        show A.in1.in1.in1.units + 8 < cLine
        simp only [Around.units, Around.in1] at hu ⊢
        omega
      unfold setAdd
      refine wpAny_holding (wpAny_bind ((ND P w).kd.pyHash ru (keep p pm) ?_))
      refine addN (D := ND P w) (s := { s1 with toks := s1.toks + _ }) R (fun z hz => keep z (G.sub z hz)) (keep p pm) ru (by have := G.few; omega) fun b h' L' es' ep' t' sb R' y1 y2 => ?_
      refine q1 b h' _ (Nat.le_add_right _ _) sb ⟨fun c o e => ?_, L', es', ep', t', R', ?_⟩
      · exact (sb.2 c (Nat.ne_of_lt (Heap.lt_size e))).trans (k1 c o e)
      · by_cases hm : p.1 ∈ L.map (·.1)
        · rw [y1 hm]
          refine ⟨G.sub, fun z hz => ?_, by have := G.few; omega⟩
          rw [tn] at hz
          rcases List.mem_append.mp hz with hz | hz
          · exact G.all z hz
          · rw [List.mem_singleton.mp hz]; exact hm
        · have pr := y2 hm
          refine ⟨fun z hz => ?_, fun z hz => ?_, by rw [pr.length_eq]; have := G.few; simp; omega⟩
          · rcases List.mem_cons.mp (pr.mem_iff.mp hz) with e | e
            · rw [e]; exact pm
            · exact G.sub z e
          · rw [tn] at hz
            refine ((pr.map (·.1)).mem_iff).mpr ?_
            rcases List.mem_append.mp hz with hz | hz
            · exact List.mem_cons_of_mem _ (G.all z hz)
            · rw [List.mem_singleton.mp hz]; exact List.mem_cons_self
  · rintro h' tk ⟨k1, L, es, ep, t, R, G⟩
    refine q h' tk L es ep t k1 R ?_
    have e : (ps.map fun p => Value.ref p.2).toArray.size = ps.length := by simp
    rw [e] at G
    exact G
end
section
variable {X : Cx} {z : Cz} {a b : Expr} {m : ME} {pos : Pos}
def rSetNT (K : PySem.W.Frag) (P : Program) (w : World) : List V → Hp → VK → Prop := fun xs H Q => ∃ (l : Addr) (ps : List (NestedKey × Addr)), xs = [V.ref l] ∧ SqT K H l (ps.map fun p => V.ref p.2) ∧ (∀ p ∈ ps, KAt K H p) ∧ ps.length < 64 ∧
  ∀ b L, H b = none → GotN ps ps.length L → (L.map (·.1)).Nodup → Q (.ref b) (upd H b (SetNO P w b L))
theorem cr_setNT (hc : X.calm = true) (hu : X.A.units + 64 < cLine) : CallR X (.type "set") (rSetNT X.K X.prog X.w) := by
  intro pins s σ H xs us Q I r h
  obtain ⟨l, ps, rfl, hl, hk, hf, q⟩ := h
  rw [Vals.ref1 r]
  obtain ⟨its, rv, pl, hz⟩ := I.tuple hl
  have hn : H s.heap.objs.size = none := I.hok.fresh (Nat.le_refl _)
  have e := refs_valsN rv
  subst e
  refine call_setNestT (P := X.prog) (w := X.w) ps (I.ok.hd hc) pl (fun p hp => ⟨Rp.nest I _ _ _ _ (hk p hp).1 (hk p hp).2.2 rfl, (hk p hp).2.1⟩) hf hu fun h' tk L es ep t k R g => ?_
  exact ⟨.ref s.heap.objs.size, upd H s.heap.objs.size (SetNO X.prog X.w s.heap.objs.size L), I.laid (t' := tk) k (Nat.le_refl _) (setN_new R), rfl, q _ L hn g R.nd⟩
def rLenN (P : Program) (w : World) : List V → Hp → VK → Prop := fun vs H Q => ∃ (b : Addr) (L : List (NestedKey × Addr)), vs = [V.ref b] ∧ H b = some (SetNO P w b L) ∧ Q (.int (L.length : Nat)) H
theorem cr_lenN : CallR X (.builtin "len") (rLenN X.prog X.w) := by
  intro pins s σ H vs us Q I r h
  obtain ⟨b, L, rfl, hb, q⟩ := h
  obtain ⟨es, ep, t, R⟩ := (show ∃ es ep t, Sd (ND X.prog X.w) s.heap b L es ep t from (I.hok b _ hb).1)
  rw [Vals.ref1 r]
  obtain ⟨o, ho, hx, hd⟩ := R.ob
  have hf := R.fw
  have hz := R.size
  refine call_len_set ho hx hd R.fits (by omega) ⟨.int (L.length : Nat), H, I.tok _, ⟨_, by rw [hz]⟩, q⟩
def gLenSet (ds : List PyData) : Option PyData := match nks ds with
  | some ks => if ds.length < 64 ∧ ds.all tupNE = true ∧ (ks.all fun k => decide (k.depth ≤ 8)) = true then some (.int ((ddK ks).length : Nat)) else none
  | none => none
def mLenSetT (m : ME) : ME := fun en T => (m en T).bind fun p => match p.1 with
  | .tuple ds => (gLenSet ds).map fun d => (d, p.2)
  | _ => none
theorem d_lenSetT {p1 p2 p3 p4 : Pos} (hc : X.calm = true) (hu : X.A.units + 64 < cLine) (gs : Gl X "len") (ms : X.mg "len" = none) (gt : Gl X "set") (mt : X.mg "set" = none) (ha : PE X a (tD z X.K m))
    (e1 : starEach [a] X.env = (false, eval a X.env) :: starEach [] X.env := by rfl)
    (e2 : starEach [Expr.Call (.Name "set" p2) [a] [] p3] X.env = (false, eval (.Call (.Name "set" p2) [a] [] p3) X.env) :: starEach [] X.env := by rfl) :
    PE X (.Call (.Name "len" p1) [.Call (.Name "set" p2) [a] [] p3] [] p4) (tD z X.K (mLenSetT m)) :=
  pe_to (pe_callB cr_lenN gs ms (by decide +kernel) (pa_cons (pe_callTy (cr_setNT hc hu) gt mt (by decide +kernel) (pa_cons ha pa_nil e1) (by decide) (by decide) e1 rfl) pa_nil e2) (by decide) (by decide) e2 rfl) fun σ H Q h => by
    obtain ⟨F, en, T, ds0, T', ok, e, k⟩ := h
    unfold mLenSetT at e
    cases h1 : m en T with
    | none => rw [h1] at e; cases e
    | some r =>
      obtain ⟨d1, T1⟩ := r
      rw [h1] at e
      simp only [Option.bind_some] at e
      refine ⟨F, en, T, d1, T1, ok, h1, fun F1 H1 v B1 n1 q1 => ?_⟩
      split at e
      · rename_i ds
        unfold gLenSet at e
        cases h2 : nks ds with
        | none => rw [h2] at e; cases e
        | some ks =>
          rw [h2] at e
          simp only at e
          split at e
          · rename_i cs
            cases e
            obtain ⟨c1, c2, cd⟩ := cs
            cases q1 with
            | tup hs hx =>
              rename_i b xs
              obtain ⟨ps, rfl, rfl, hp⟩ := keys_of hx h2 c2 cd
              have len : ps.length < 64 := by
                have := dpAll_len hx
                rw [List.length_map] at this
                omega
              refine ⟨b, ps, rfl, .inl (.inl (B1.fh _ _ hs)), fun p h => kat_mono B1.fh (hp p h), len, fun s L hsn g nd => ?_⟩
              obtain ⟨B2, n2, f2, z2⟩ := B1.put (o := SetNO X.prog X.w s L) hsn
              refine ⟨s, L, rfl, upd_same, ?_⟩
              have pk : (L.map (·.1)).Perm (ddK (ps.map (·.1))) := (List.perm_ext_iff_of_nodup nd nd_ddK).mpr fun k => by
                rw [mem_ddK]
                refine ⟨fun h => ?_, fun h => ?_⟩
                · obtain ⟨q, hq, rfl⟩ := List.mem_map.mp h
                  exact List.mem_map.mpr ⟨q, g.sub q hq, rfl⟩
                · obtain ⟨q, hq, rfl⟩ := List.mem_map.mp h
                  exact g.all q (by rw [List.take_length]; exact hq)
              have pl := pk.length_eq
              rw [List.length_map] at pl
              rw [pl]
              exact k F1 _ _ B2 (n1.trans n2 B2) (.int _)
          · cases e
      · cases e
/-! ### a list of data + a new one -/
def rCatS (K : PySem.W.Frag) : R2 := fun x y H Q => ∃ l b xs zs, x = .ref l ∧ y = .ref b ∧ SqL K H l xs ∧ SqL K H b zs ∧ xs.length + zs.length ≤ sizeLine ∧ ∀ p, H p = none → Q (.ref p) (upd H p (.lst (xs ++ zs)))
theorem op_catS : OpR X (binaryOp .Add) (rCatS X.K) := by
  intro pins s σ H x y v u Q I rx ry h
  obtain ⟨l, b, xs, zs, rfl, rfl, hH, hB, hz, q⟩ := h
  cases rx
  cases ry
  obtain ⟨its, r, ⟨⟨c1, d1, dt1, sl1⟩, n, e, a1, a2, a3⟩, hl⟩ := I.list hH
  obtain ⟨its2, r2, ⟨⟨c2, d2, dt2, sl2⟩, n2, e2, b1, b2, b3⟩, hl2⟩ := I.list hB
  simp only at a1 a3 b1 b3
  subst a1 a3 b1 b3
  have l1 := r.length
  have l2 := r2.length
  refine concat_meets ⟨_, e, rfl⟩ ⟨_, e2, rfl⟩ noFill_list_add seq_list_add PySem.F.slot_list_add PySem.F.entry_list_add (PySem.F.args_list_add_2 _ _) (list_addW l b its.toArray its2.toArray n n2 d1 d2 sl1 sl2 (by rw [List.size_toArray, List.size_toArray]; omega)) ⟨e, e2, ?_⟩
  have ea : its.toArray ++ its2.toArray = (its ++ its2).toArray := by simp
  rw [ea]
  exact ⟨.ref _, _, I.lnew (t' := s.toks) (r.append r2) (by rw [List.length_append]; omega), rfl, q _ I.fresh⟩
def mCatE (m1 : ME) (m2 : MA) : MA := fun en T => (m1 en T).bind fun p => match p.1 with
  | .list ds => (m2 en p.2).bind fun q => if ds.length + q.1.length ≤ 16777216 then some (ds ++ q.1, q.2) else none
  | _ => none
theorem f_catE {m2 : MA} (ha : PE X a (tD z X.K m)) (hb : PE X b (tF z X.K m2)) : PE X (.BinOp a .Add b pos) (tF z X.K (mCatE m m2)) := pe_to (pe_op op_catS ha hb) fun σ H Q q => by
  obtain ⟨F, en, T, d, T', ok, e, k⟩ := q
  unfold mCatE at e
  cases h1 : m en T with
  | none => rw [h1] at e; cases e
  | some p =>
    obtain ⟨d1, T1⟩ := p
    rw [h1] at e
    simp only [Option.bind_some] at e
    split at e
    · rename_i ds
      cases h2 : m2 en T1 with
      | none => rw [h2] at e; cases e
      | some p =>
        obtain ⟨d2, T2⟩ := p
        rw [h2] at e
        simp only [Option.bind_some] at e
        split at e
        · rename_i hl
          cases e
          refine ⟨F, en, T, .list ds, T1, ok, h1, fun F1 H1 v B1 n1 q1 => ⟨F1, en, T1, d2, _, ok.nxt n1 B1, h2, fun F2 H2 a2 x2 B2 n2 i2 j2 l2 o2 p2 => ?_⟩⟩
          cases q1 with
          | lst hs hx =>
            rename_i a1 x1
            have nd : ∀ c, z.H0 c = none → z.isDk c = false := fun c hc => by
              cases hd : z.isDk c with
              | true => exact absurd hc (B1.dkin c hd)
              | false => rfl
            have hz := sizeLine_eq
            refine ⟨a1, a2, x1, x2, rfl, rfl, (n2.s.trans B2.fh).seq hs, .inl (.inl j2), by have := dpAll_len hx; have := dpAll_len p2; omega, fun q hq => ?_⟩
            obtain ⟨B3, n3, f3, h3⟩ := B2.put (o := .lst (x1 ++ x2)) hq
            refine k _ _ _ _ B3 (n1.trans (n2.trans n3 B3) B3) ?_ upd_same f3 h3 (dpAll_app (dpAll_mono n2.s _ _ hx) p2)
            cases e0 : H q with
            | none => rfl
            | some o => rw [(n1.trans n2 B2).st q o e0 (nd q h3)] at hq; cases hq
        · cases e
    · cases e
/-! ### a text times a number -/
def gMulS : G2
  | .str x, .int n => if 0 ≤ n ∧ n ≤ 1000 ∧ x.length ≤ 1000 then some (.str (Txt.mul x n)) else none
  | _, _ => none
theorem mulOk {x : Str} {n : Int} (h0 : 0 ≤ n) (h1 : n ≤ 1000) (hx : x.length ≤ 1000) : MulOk x n := by
  refine ⟨?_, fun h2 _ => ?_, fun h2 _ => ?_⟩
  · simp only [Bool.or_eq_false_iff, decide_eq_false_iff_not]
    omega
  · have : (9223372036854775807 : Int) / 1000 ≤ 9223372036854775807 / n := by
      refine Int.le_ediv_of_mul_le (by omega) ?_
      have : (9223372036854775807 : Int) / 1000 * n ≤ 9223372036854775807 / 1000 * 1000 := Int.mul_le_mul_of_nonneg_left h1 (by decide)
      omega
    have e : ((2 : Int) ^ 63 - 1) = 9223372036854775807 := by decide
    rw [e]
    omega
  · have h3 : x.length * n.toNat ≤ 1000 * 1000 := Nat.mul_le_mul hx (by omega)
    unfold Builtin.Str.tooLong
    simp only [decide_eq_false_iff_not]
    have := sizeLine_eq
    omega
theorem op_mulS : OpR X (binaryOp .Mult) (fun x y H Q => ∃ i n, x = .str i ∧ y = .int n ∧ MulOk i n ∧ Q (.str (Txt.mul i n)) H) := by
  intro pins s σ H x y v u Q I rx ry h
  obtain ⟨i, n, rfl, rfl, ok, q⟩ := h
  obtain ⟨t, rfl⟩ := rx
  obtain ⟨t2, rfl⟩ := ry
  exact SB.mul ok fun t' k => ⟨.str (Txt.mul i n), H, I.tok _, ⟨_, rfl⟩, q⟩
theorem l_mulS {K : PySem.W.Frag} : Lift2 K (fun x y H Q => ∃ i n, x = .str i ∧ y = .int n ∧ MulOk i n ∧ Q (.str (Txt.mul i n)) H) gMulS := by
  intro H x y d e b Q h1 h2 eq k
  unfold gMulS at eq
  split at eq
  · split at eq
    · rename_i hq
      cases h1
      cases h2
      cases eq
      exact ⟨_, _, rfl, rfl, mulOk hq.1 hq.2.1 hq.2.2, k _ fun _ => .str _⟩
    · cases eq
  · cases eq
end
end LQ

set_option Elab.async false
set_option linter.all false
set_option maxRecDepth 100000
set_option maxHeartbeats 4000000
/-! comprehensions of any kind, clause by clause -/
namespace LQ
open PySem PySem.Spec PyProof.Rows L2
abbrev noX : Value → Shared → Prop := fun _ _ => False
/-- one turn of a clause, by what is done with what passes its tests -/
def turnOf (p : Pos) (tg : Expr) (ifs : List Expr) (it : Value) (env : Env) (body : Sem Unit) (code : Code) : Sem Fin := do
  standAt p
  match ← pyNext it with
  | none => pure (.done .next)
  | some v =>
    letOwnedTupleGo tg it v
    assign tg env v
    let ok ← (forIn ifs true fun q r => if r = true then do let y ← isTrue q env (eval q env); pure (ForInStep.yield y) else pure (ForInStep.yield r))
    if ok = true then
      body
      again code
    else again code
section
variable {prog : Program} {w : World} {A : Around} {R : Result → Shared → Prop} {s : Shared} {env : Env} {e : Expr} {k : Nat} {it acc : Value} {p : Pos} {tg : Expr} {ifs : List Expr} {body : Sem Unit}
/-- the code of a clause is its turn -/
structure CodeOk (prog : Program) (w : World) (A : Around) (e : Expr) (k : Nat) (it acc : Value) (env : Env) : Prop where
  ul : A.under (.compLoop e k it acc env) = A
  dl : (model prog w).den (.compLoop e k it acc env) = (compTurn e k it acc env).onRaise (fun x => do noteFrame x env; theTreesLotGoes x)
  us : A.under (.compStart e k it acc env) = A
  ds : (model prog w).den (.compStart e k it acc env) = (compStart e k it acc env).onRaise (fun x => do noteFrame x env; standAt theWindowsPlace)
theorem codeOk_set {elt : Expr} {gens : List Comprehension} {scope : Scope} {pos : Pos} : CodeOk prog w A (.SetComp elt gens scope pos) k it acc env := ⟨rfl, rfl, rfl, rfl⟩
theorem codeOk_list {elt : Expr} {gens : List Comprehension} {scope : Scope} {pos : Pos} : CodeOk prog w A (.ListComp elt gens scope pos) k it acc env := ⟨rfl, rfl, rfl, rfl⟩
theorem codeOk_dict {ke ve : Expr} {gens : List Comprehension} {scope : Scope} {pos : Pos} : CodeOk prog w A (.DictComp ke ve gens scope pos) k it acc env := ⟨rfl, rfl, rfl, rfl⟩
theorem loopG (ck : CodeOk prog w A e k it acc env) (eq : compTurn e k it acc env = turnOf p tg ifs it env body (.compLoop e k it acc env)) (I : Nat → Shared → Prop)
    (turn : ∀ n s, I n s → wpAny (model prog w) A (pyNext it) (fun r s1 => match r with
      | none => R (.ok .next) s1
      | some v => wpAny (model prog w) A (letOwnedTupleGo tg it v) (fun _ s2 => wpAny (model prog w) A (assign tg env v) (fun _ s3 =>
          wpAny (model prog w) A (forIn ifs true fun q r => if r = true then do let y ← isTrue q env (eval q env); pure (ForInStep.yield y) else pure (ForInStep.yield r)) (fun ok s4 =>
            if ok = true then wpAny (model prog w) A body (fun _ s5 => ∃ m, m < n ∧ I m s5) noX s4 else ∃ m, m < n ∧ I m s4) noX s3) noX s2) noX s1) noX s)
    (n : Nat) (h : I n s) : codeAny (model prog w) A (.compLoop e k it acc env) R s := by
  refine codeAny_loop rfl I (fun n s hI => ?_) n h
  rw [ck.ul, ck.dl]
  refine wpAny_noted ?_
  rw [eq]
  unfold turnOf
  refine wpAny_bind (wpAny_standAt (wpAny_bind (wpAny_mono (turn n s hI) (fun r s1 h1 => ?_) fun _ _ z => z.elim)))
  cases r with
  | none => exact wpAny_pure h1
  | some v =>
    refine wpAny_bind (wpAny_mono h1 (fun _ s2 h2 => wpAny_bind (wpAny_mono h2 (fun _ s3 h3 => wpAny_bind (wpAny_mono h3 (fun ok s4 h4 => ?_) fun _ _ z => z.elim)) fun _ _ z => z.elim)) fun _ _ z => z.elim)
    cases ok with
    | false => exact wpAny_pure ⟨rfl, h4⟩
    | true => exact wpAny_bind (wpAny_mono h4 (fun _ s5 h5 => wpAny_pure ⟨rfl, h5⟩) fun _ _ z => z.elim)
theorem startG {iter : Expr} (ck : CodeOk prog w A e k it acc env) (hcl : (clausesOf e)[k]? = some ⟨tg, iter, ifs, 0⟩) (h0 : codeAny (model prog w) A (.compLoop e k it acc env) R s)
    (h : wpAny (model prog w) A (pyIter it) (fun it' s' => codeAny (model prog w) A (.compLoop e k it' acc env) R s') noX s) : codeAny (model prog w) A (.compStart e k it acc env) R s := by
  refine codeAny_of_tree ?_
  rw [ck.us, ck.ds]
  refine wpAny_notedAt ?_
  have h' : wpAny (model prog w) A (pyIter it) (fun it' s' => codeAny (model prog w) A (.compLoop e k it' acc env) R s') (notedBy (model prog w) A env fun x s' => R (.error x) s') s := wpAny_mono h (fun _ _ q => q) fun _ _ z => z.elim
  unfold compStart
  rw [hcl]
  show wpAny _ A (ask >>= _) _ _ s
  refine wpAny_bind (wpAny_askSetting (wpAny_ite ?_))
  split
  · first
      | exact wpAny_bind (wpAny_pure (wpAny_pure ⟨rfl, h0⟩))
      | exact wpAny_pure ⟨rfl, h0⟩
  · first
      | exact wpAny_bind (wpAny_rule (wpAny_bind (wpAny_standAt (wpAny_bind (wpAny_mono h' (fun it' s' q => wpAny_pure ⟨rfl, q⟩) fun _ _ x => x)))))
      | (refine wpAny_bind (wpAny_rule ?_)
         show wpAny _ A (standAt iter.pos >>= _) _ _ s
         exact wpAny_bind (wpAny_standAt (wpAny_bind (wpAny_mono h' (fun it' s' q => wpAny_pure ⟨rfl, q⟩) fun _ _ x => x))))
/-- the clause behind the one that is gone through -/
def innerOf (e : Expr) (k : Nat) (it1 : Expr) (acc : Value) (env : Env) : Sem Unit := do
  let x ← eval it1 env
  standAt it1.pos
  let y ← foldedSetIterable it1 env x
  let _ ← runOwn (.compStart e k (← holding [y] (pyIter y)) acc env) env
theorem innerG {it1 : Expr} {Q : Shared → Prop} (hs : ∀ x, foldedSetIterable it1 env x = pure x)
    (h : wpAny (model prog w) A (eval it1 env) (fun x s1 => wpAny (model prog w) A (pyIter x) (fun i1 s2 => codeAny (model prog w) A (.compStart e k i1 acc env) (fun r s' => match r with
      | .ok _ => Q s'
      | .error _ => False) s2) noX s1) noX s) : wpAny (model prog w) A (innerOf e k it1 acc env) (fun _ s' => Q s') noX s := by
  unfold innerOf
  refine wpAny_bind (wpAny_mono h (fun x s1 h1 => ?_) fun _ _ z => z)
  refine wpAny_bind (wpAny_standAt (wpAny_bind (wpAny_of_eq (hs x) (wpAny_bind (wpAny_holding (wpAny_mono h1 (fun i1 s2 h2 => ?_) fun _ _ z => z))))))
  refine wpAny_bind (wpAny_runOwn ?_)
  rw [Around.mark_none]
  refine codeAny_mono h2 fun r s' hr => ?_
  cases r with
  | ok f => exact wpAny_pure hr
  | error e => exact hr.elim
end
end LQ

set_option Elab.async false
set_option linter.all false
set_option maxRecDepth 100000
set_option maxHeartbeats 4000000
/-! comprehensions of any kind, by what is known of the heap -/
namespace LQ
open PySem PySem.Spec PyProof.Rows L2
abbrev BT := L2.St → Hp → (Hp → Prop) → Prop
/-- the slots behind a turn still know what was known but for the block's names -/
def Fits (vs : List Nat) (σ σ' : L2.St) : Prop := (L2.wipe σ vs).length = σ'.length ∧ ∀ (j : Nat) (v : V), (L2.wipe σ vs)[j]? = some (some v) → σ'[j]? = some (some v)
theorem fits_self (vs : List Nat) (σ : L2.St) : Fits vs σ σ := ⟨L2.wipe_length _ _, fun j v e => (L2.wipe_some e).1⟩
def BodyOk (Y : Cx) (vs : List Nat) (body : Sem Unit) (bt : BT) : Prop := ∀ (pins : List (Addr × Obj)) (s : Shared) (σ : L2.St) (H : Hp) (Nx : Hp → Prop), Inv Y pins σ H s → bt σ H Nx →
  wpAny (model Y.prog Y.w) Y.A body (fun _ s' => ∃ σ' H', Inv Y pins σ' H' s' ∧ Fits vs σ σ' ∧ Nx H') noX s
/-- one clause gone through, by a rank -/
def Goes1 (J : L2.It) (g : TG) (tt : TT) (bt : BT) (vs : List Nat) (σ : L2.St) (End : Hp → Prop) (H0 : Hp) : Prop := ∃ W : Nat → Nat → Hp → Prop, (∃ m, W 0 m H0) ∧ ∀ i m H, W i m H →
  (J.stop i H ∧ End H) ∨ (J.go i H ∧ ∃ Nx : Hp → Prop, (∀ H', Nx H' → ∃ m', m' < m ∧ W (i + 1) m' H') ∧ ∀ x H', J.yld i H x H' → g x (L2.wipe σ vs) H' fun σ2 H2 => L2.wipe σ2 vs = L2.wipe σ vs ∧ tt σ2 H2 fun b H3 => if b = true then bt σ2 H3 Nx else Nx H3)
section
variable {Y : Cx} {e : Expr} {k : Nat} {acc : Value} {p : Pos} {tg : Expr} {ifs : List Expr} {it : Addr} {fp : List Addr} {tn : Nat → Heap → Prop} {J : L2.It} {g : TG} {tt : TT} {bt : BT} {vs : List Nat} {body : Sem Unit} {pins : List (Addr × Obj)} {σ : L2.St} {R : Result → Shared → Prop}
theorem levelG (hc : Y.calm = true) (hx : Y.xe = noX) (T : Turn Y.prog Y.w Y.K tg J fp it tn) (pg : PG Y tg g) (pt : PTs Y ifs tt) (hb : BodyOk Y vs body bt) (ck : CodeOk Y.prog Y.w Y.A e k (.ref it) acc Y.env)
    (eq : compTurn e k (.ref it) acc Y.env = turnOf p tg ifs (.ref it) Y.env body (.compLoop e k (.ref it) acc Y.env)) (sp : ∀ b ∈ fp, ∀ H' : Hp, H' b = none → FpOk Y pins H' b)
    {s : Shared} {H : Hp} {End : Hp → Prop} (I : Inv Y pins (L2.wipe σ vs) H s) (st : tn 0 s.heap) (nf : ∀ b ∈ fp, H b = none) (wk : Goes1 J g tt bt vs σ End H) (fin : ∀ s' H', Inv Y pins (L2.wipe σ vs) H' s' → End H' → R (.ok .next) s') :
    codeAny (model Y.prog Y.w) Y.A (.compLoop e k (.ref it) acc Y.env) R s := by
  obtain ⟨W, ⟨m0, w0⟩, step⟩ := wk
  refine loopG ck eq (fun n s' => ∃ i H', Inv Y pins (L2.wipe σ vs) H' s' ∧ tn i s'.heap ∧ (∀ b ∈ fp, H' b = none) ∧ W i n H') ?_ m0 ⟨0, H, I, st, nf, w0⟩
  rintro n s1 ⟨i, H1, I1, st1, nf1, w1⟩
  have fo : ∀ b ∈ fp, FpOk Y pins H1 b := fun b hb => sp b hb H1 (nf1 b hb)
  rcases step i n H1 w1 with ⟨stop, en⟩ | ⟨go, Nx, nx, turn⟩
  · refine wpAny_mono (T.done Y rfl rfl rfl hc i pins s1 _ H1 noX I1 fo st1 stop) (fun r s2 hr => ?_) fun _ _ z => z
    obtain ⟨rfl, I2⟩ := hr
    exact fin s2 H1 I2 en
  · refine wpAny_mono (T.item Y rfl rfl rfl hc i pins s1 _ H1 noX I1 fo st1 go) (fun r s2 hr => ?_) fun _ _ z => z
    obtain ⟨u, rfl, h2⟩ := hr
    refine wpAny_mono h2 (fun _ s3 h3 => ?_) fun _ _ z => z
    obtain ⟨x, H3, I3, r3, y3, st3, nf3⟩ := h3
    have I3' := I3.pinned (fun b hb => sp b hb H3 (nf3 b hb)) (T.obj _ _ st3)
    have q4 := pg.run _ s3 _ H3 x u _ I3' r3 (turn x H3 y3)
    rw [hx] at q4
    refine wpAny_mono q4 (fun _ s4 h4 => ?_) fun _ _ z => z
    obtain ⟨σ4, H4, I4, w4, t4⟩ := h4
    have q5 := pt.run _ s4 σ4 H4 _ I4 t4
    rw [hx] at q5
    refine wpAny_mono q5 (fun ok s5 h5 => ?_) fun _ _ z => z
    obtain ⟨H5, I5, t5⟩ := h5
    have back : ∀ (s' : Shared) (σ' : L2.St) (H' : Hp), Inv Y (pins ++ pinsAt fp s3.heap) σ' H' s' → Fits vs σ4 σ' → Nx H' → ∃ m, m < n ∧ ∃ i H', Inv Y pins (L2.wipe σ vs) H' s' ∧ tn i s'.heap ∧ (∀ b ∈ fp, H' b = none) ∧ W i m H' := fun s' σ' H' J' ft nx' => by
      obtain ⟨m', lt, w'⟩ := nx H' nx'
      have at_ : ∀ b ∈ fp, ∀ o, s3.heap.get? b = some o → s'.heap.get? b = some o ∧ H' b = none := fun b hb o eo => by
        have := J'.pin (b, o) (List.mem_append_right _ (List.mem_append_right _ (mem_pinsAt hb eo)))
        exact ⟨this.1, this.2.1⟩
      have ft' : Fits vs σ σ' := by
        unfold Fits
        rw [← w4]
        exact ft
      refine ⟨m', lt, i + 1, H', J'.unpinned.weak ft'.1 ft'.2, T.keep _ _ _ st3 fun b hb o eo => (at_ b hb o eo).1, fun b hb => ?_, w'⟩
      obtain ⟨o, eo, _⟩ := T.obj _ _ st3 b hb
      exact (at_ b hb o eo).2
    cases ok with
    | false => exact back s5 σ4 H5 I5 (fits_self vs σ4) t5
    | true =>
      refine wpAny_mono (hb _ s5 σ4 H5 Nx I5 t5) (fun _ s6 h6 => ?_) fun _ _ z => z
      obtain ⟨σ6, H6, I6, f6, n6⟩ := h6
      exact back s6 σ6 H6 I6 f6 n6
/-- a clause behind another one -/
def btIn (wi : TI) (g : TG) (tt : TT) (bt : BT) (vs : List Nat) : BT := fun σ H Nx => wi σ H fun J H1 => Goes1 J g tt bt vs σ Nx H1
theorem bodyIn {it1 : Expr} {wi : TI} {us : List Nat} (hc : Y.calm = true) (hx : Y.xe = noX) (pi : PI Y tg it1 wi) (pg : PG Y tg g) (pt : PTs Y ifs tt) (hb : BodyOk Y vs body bt) (ck : ∀ it : Value, CodeOk Y.prog Y.w Y.A e k it acc Y.env) (hv : ∀ i ∈ vs, i ∈ us)
    (hcl : (clausesOf e)[k]? = some ⟨tg, it1, ifs, 0⟩) (eq : ∀ it : Value, compTurn e k it acc Y.env = turnOf p tg ifs it Y.env body (.compLoop e k it acc Y.env)) (hs : ∀ x, foldedSetIterable it1 Y.env x = pure x) : BodyOk Y us (innerOf e k it1 acc Y.env) (btIn wi g tt bt vs) := by
  intro pins s σ H Nx I h
  refine innerG hs ?_
  have q := pi.run pins s σ H _ I h
  rw [hx] at q
  refine wpAny_mono q (fun v s1 h1 => wpAny_mono h1 (fun iv s2 h2 => ?_) fun _ _ z => z) fun _ _ z => z
  obtain ⟨a, fp, tn, J, H2, rfl, I2, T, st2, f2, wk⟩ := h2
  have loop : codeAny (model Y.prog Y.w) Y.A (.compLoop e k (.ref a) acc Y.env) (fun r s' => match r with
      | .ok _ => ∃ σ' H', Inv Y pins σ' H' s' ∧ Fits us σ σ' ∧ Nx H'
      | .error _ => False) s2 := by
    refine levelG hc hx T pg pt hb (ck _) (eq _) (fun b hb H' hn => ⟨hn, (f2 b hb).2⟩) (I2.weak (L2.wipe_length _ _) fun j v e => (L2.wipe_some e).1) st2 (fun b hb => (f2 b hb).1) wk fun s' H' I' nx => ?_
    refine ⟨L2.wipe σ vs, H', I', ⟨by rw [L2.wipe_length, L2.wipe_length], fun j v e => ?_⟩, nx⟩
    obtain ⟨e1, e2⟩ := L2.wipe_some e
    rw [L2.wipe_out fun z => e2 (hv j z)]
    exact e1
  exact startG (ck _) hcl loop (T.self Y.A 0 _ _ _ st2 loop)
end
end LQ

set_option Elab.async false
set_option linter.all false
set_option maxRecDepth 100000
set_option maxHeartbeats 4000000
/-! a comprehension as a value -/
namespace LQ
open PySem PySem.Spec PyProof.Rows L2
def tComp (o0 : Addr → HO) (wi : TI) (g : TG) (tt : TT) (bt : Addr → BT) (vs : List Nat) : TE := fun σ H Q => wi σ H fun J H1 => ∀ D, H1 D = none → Goes1 J g tt (bt D) vs σ (Q (.ref D)) (upd H1 D (o0 D))
section
variable {X : Cx} {e tg it : Expr} {ifs : List Expr} {rest : List Comprehension} {scope : Scope} {own : List (Str × Nat)} {pos' : Pos} {wi : TI} {g : TG} {tt : TT} {bt : Addr → BT} {newAcc : Sem Value} {ob : Obj} {o0 : Addr → HO}
theorem pe_comp (hc : X.calm = true) (hN : X.N.Nodup) (hi : PI X tg it wi) (ok : BlkOk X.N X.env.scope scope own) (hev : eval e X.env = comprehension e scope X.env pos' newAcc false (eval it X.env) none) (hcl : clausesOf e = ⟨tg, it, ifs, 0⟩ :: rest)
    (hnew : ∀ (s : Shared) (Q : Value → Shared → Prop) (E : Value → Shared → Prop), Q (.ref s.heap.objs.size) { s with heap := s.heap.push ob } → wpAny (model X.prog X.w) X.A newAcc Q E s) (hob : ∀ (H : Hp) (h : Heap), ObjOk X.prog X.w H (h.push ob) h.objs.size (o0 h.objs.size))
    (hg : ∀ (s : Shared) (H : Hp) (C : Addr) (cl : List (Str × Addr)) (fp : List Addr), PG (X.blk s H scope (compEnvC scope cl C X.env) fp) tg g) (ht : ∀ (s : Shared) (H : Hp) (C : Addr) (cl : List (Str × Addr)) (fp : List Addr), PTs (X.blk s H scope (compEnvC scope cl C X.env) fp) ifs tt)
    (hb : ∀ (s : Shared) (H : Hp) (C : Addr) (cl : List (Str × Addr)) (fp : List Addr) (D : Addr), ∃ body p, BodyOk (X.blk s H scope (compEnvC scope cl C X.env) fp) (own.map (·.2)) body (bt D) ∧ ∀ i : Value, compTurn e 0 i (.ref D) (compEnvC scope cl C X.env) = turnOf p tg ifs i (compEnvC scope cl C X.env) body (.compLoop e 0 i (.ref D) (compEnvC scope cl C X.env)))
    (ck : ∀ (i acc : Value) (env : Env), CodeOk X.prog X.w X.A e 0 i acc env) (hs : ∀ x, foldedSetIterable it X.env x = pure x) : PE X e (tComp o0 wi g tt bt (own.map (·.2))) := by
  constructor
  intro pins s σ H Q inv h
  rw [hev]
  have cells : ∀ y ∈ scope.names, y.2 = .free → ∃ c, X.env.cells.lookup y.1 = some c := fun y hy fr => by
    rcases ok.free y hy fr with q | q
    · exact inv.ok.has _ (Or.inl q)
    · exact inv.ok.has _ (Or.inr q)
  refine wpAny_comprehension_free (use := none) hcl hs (closure_ok cells) ok.kind (fun y hy lo => by rw [ok.uniq y hy, lo]) ?_
  refine thn (hi.run pins s σ H _ inv h) fun xv s1 hx => thn hx fun iv s2 h2 => ?_
  obtain ⟨ad, fp, tn, J, H2, rfl, i2, tu, st2, f2, want⟩ := h2
  refine hnew s2 _ _ (newEnv_comp ?_)
  have free : H2 s2.heap.objs.size = none := i2.hok.fresh (Nat.le_refl _)
  have wk := want _ free
  have i3 := i2.laid (t' := s2.toks) (fun b o eo => Heap.get?_push_of_some _ eo) (Nat.le_refl _) (hob (upd H2 s2.heap.objs.size (o0 s2.heap.objs.size)) s2.heap)
  generalize new : ({ s2 with heap := s2.heap.push ob } : Shared) = s3
  have i3 : Inv X pins σ (upd H2 s2.heap.objs.size (o0 s2.heap.objs.size)) s3 := by
    subst new
    exact i3
  have up : ∀ b o, s2.heap.get? b = some o → s3.heap.get? b = some o := by
    subst new
    exact fun b o eo => Heap.get?_push_of_some _ eo
  have big : s2.heap.objs.size < s3.heap.objs.size := by
    subst new
    show _ < (s2.heap.push _).objs.size
    rw [Heap.size_push]
    omega
  have few : ∀ b ∈ fp, b < s2.heap.objs.size := fun b hb => by
    obtain ⟨o, eo, _⟩ := tu.obj _ _ st2 b hb
    exact Heap.lt_size eo
  generalize hH : upd H2 s2.heap.objs.size (o0 s2.heap.objs.size) = H3 at i3 wk
  have f3 : ∀ b ∈ fp, FpOk X pins H3 b ∧ b < s3.heap.objs.size := fun b hb => by
    have lt := few b hb
    refine ⟨⟨?_, (f2 b hb).2⟩, Nat.lt_trans lt big⟩
    subst hH
    rw [upd_ne (Nat.ne_of_lt lt)]
    exact (f2 b hb).1
  have st3 : tn 0 s3.heap := tu.keep _ _ _ st2 fun b _ o eo => up b o eo
  have i4 := block_start i3 ok hN f3
  obtain ⟨body, p, hbody, heq⟩ := hb s3 H3 s3.heap.objs.size (cellsFrom (s3.heap.objs.size + 1) scope.names (cloFrom X.env.cells scope.names [])) fp s2.heap.objs.size
  have pg := hg s3 H3 s3.heap.objs.size (cellsFrom (s3.heap.objs.size + 1) scope.names (cloFrom X.env.cells scope.names [])) fp
  have pt := ht s3 H3 s3.heap.objs.size (cellsFrom (s3.heap.objs.size + 1) scope.names (cloFrom X.env.cells scope.names [])) fp
  show codeAny _ _ (.compStart e 0 (.ref ad) (.ref s2.heap.objs.size) (compEnvC scope (cellsFrom (s3.heap.objs.size + 1) scope.names (cloFrom X.env.cells scope.names [])) s3.heap.objs.size X.env)) _ { s3 with heap := pushCells (s3.heap.push { cls := .type "dict", data := .dict #[] }) scope.names }
  generalize hs4 : ({ s3 with heap := pushCells (s3.heap.push { cls := .type "dict", data := .dict #[] }) scope.names } : Shared) = s4 at i4 ⊢
  have st4 : tn 0 s4.heap := tu.keep _ _ _ st3 fun b _ o eo => by
    subst hs4
    exact pushCells_keeps _ _ _ _ (Heap.get?_push_of_some _ eo)
  generalize hce : compEnvC scope (cellsFrom (s3.heap.objs.size + 1) scope.names (cloFrom X.env.cells scope.names [])) s3.heap.objs.size X.env = ce at i4 pg pt hbody heq ⊢
  have loc : ce.locals = s3.heap.objs.size := by subst hce; rfl
  have sp : ∀ b ∈ fp, ∀ H' : Hp, H' b = none → FpOk (X.blk s3 H3 scope ce fp) [] H' b := fun b hb H' hn =>
    ⟨hn, (i4.ok.exf b hb).1, i4.ok.exfs b hb, .inl hb, fun x c eo => (i4.ok.exf b hb).2 x c eo, fun p hp => nomatch (show p ∈ ([] : List (Addr × Obj)) from hp)⟩
  have loop : codeAny (model X.prog X.w) X.A (.compLoop e 0 (.ref ad) (.ref s2.heap.objs.size) ce) (compPost (model X.prog X.w) X.A X.xe none (EP X pins σ Q) (.ref s2.heap.objs.size) s3.heap.objs.size) s4 := by
    refine levelG (Y := X.blk s3 H3 scope ce fp) (σ := σ) hc rfl tu pg pt hbody (ck _ _ _) (heq _) sp i4 st4 (fun b hb => (f3 b hb).1.1) wk fun s5 H5 i5 qq => ?_
    have i6 : Inv X pins σ H5 s5 := i3.call' (ch := fp) i5.os i5.base i5.hok i5.bare fun b hb =>
      ⟨(f3 b hb).1.2.2.2.1, (f3 b hb).1.2.1, (f3 b hb).1.2.2.2.2.1, (f3 b hb).1.2.2.2.2.2⟩
    have nC : H5 s3.heap.objs.size = none := by
      have q : H5 ce.locals = none := i5.free
      rwa [loc] at q
    obtain ⟨m, hn, _⟩ := i5.loc
    have hn : s5.heap.Ns ce.locals m := hn
    rw [loc] at hn
    obtain ⟨g0, g1, g2, g3, g4, g5⟩ := i3.fpOk (Nat.le_refl _) nC
    refine ⟨m, hn, fun h'' sb => ?_⟩
    exact ⟨.ref _, H5, i6.turned (t' := s5.toks) (fun b o hb eo => (sb.2 b hb).trans eo) g0 g1 g3 g4 g5, rfl, qq⟩
  exact startG (ck _ _ _) (by rw [hcl]; rfl) loop (tu.self X.A 0 _ _ _ st4 loop)
end
end LQ

set_option Elab.async false
set_option linter.all false
set_option maxRecDepth 100000
set_option maxHeartbeats 4000000
/-! sets of texts, sorted -/
namespace LQ
open PySem PySem.Spec PyProof.Rows L2
open PySem.W (alike AllAlike Sortable dataKind)
open PySem.Froz (SD sObj addTx tailTx TxOk is_str)
open PySem.W (alike alikeAll keyToks keyToksAll AllAlike Sortable dataKind sortLe EachIs)
/-- the data sorted, with their values -/
def sortV (L : List (PyData × Value)) : List (PyData × Value) := L.mergeSort (PySem.W.sortLe (listOrd itemOrd) false fun q => keyToks q.1)
theorem sortV_data (L : List (PyData × Value)) : (sortV L).map Prod.fst = sortD (L.map Prod.fst) := PySem.W.sort_maps Prod.fst fun _ _ _ _ => rfl
theorem each_valsV : ∀ (L : List (PyData × Value)), EachIs (fun v (q : PyData × Value) => v = q.2) (L.map fun q => q.2) L
  | [] => .nil
  | q :: L => .cons rfl (each_valsV L)
theorem each_backV : ∀ {vs : List Value} {L : List (PyData × Value)}, EachIs (fun v (q : PyData × Value) => v = q.2) vs L → vs = L.map fun q => q.2
  | _, _, .nil => rfl
  | _, _, .cons h t => by rw [h, each_backV t]; rfl
theorem vals_perm : ∀ {vs : List Value} {L : List (PyData × Value)}, vs.Perm (L.map fun q => q.2) → ∃ L1 : List (PyData × Value), L1.Perm L ∧ vs = L1.map fun q => q.2
  | [], L, p => by
    have : L.map (fun q => q.2) = [] := p.symm.eq_nil
    exact ⟨[], by rw [List.map_eq_nil_iff.mp this], rfl⟩
  | v :: vs, L, p => by
    obtain ⟨q, hq, rfl⟩ := List.mem_map.mp (p.mem_iff.mp List.mem_cons_self)
    obtain ⟨A, B, rfl⟩ := List.append_of_mem hq
    have p2 : vs.Perm ((A ++ B).map fun q => q.2) := by
      have : ((A ++ q :: B).map fun q => q.2).Perm (q.2 :: (A ++ B).map fun q => q.2) := by
        simpa using List.perm_middle (a := q.2) (l₁ := A.map fun q => q.2) (l₂ := B.map fun q => q.2)
      exact (p.trans this).cons_inv
    obtain ⟨L1, p3, e⟩ := vals_perm p2
    exact ⟨q :: L1, (List.Perm.cons q p3).trans List.perm_middle.symm, by rw [e]; rfl⟩
section
variable {P : Program} {w : World} {A : Around} {E : Value → Shared → Prop} {s : Shared}
theorem sorted_colV {a : Addr} {L : List (PyData × Value)} {Q : Value → Shared → Prop} (hfew : L.length ≤ 1000)
    (col : ∀ R : List Value → Shared → Prop, (∀ s1 vs, (∀ b o, s.heap.get? b = some o → s1.heap.get? b = some o) → s1.gens = s.gens → s1.os = s.os → vs.Perm (L.map fun q => q.2) → R vs s1) → wpAny (model P w) A.in1 (collect (.ref a)) R E s)
    (hr : ∀ p ∈ L, (∃ as, Reads s.heap p.2 p.1 as) ∧ p.1.hasDict = false) (hal : AllAlike (L.map Prod.fst)) (hk : Sortable (L.map Prod.fst)) (hdp : ∀ p ∈ L, p.1.depth ≤ 20) (hu : A.units + 64 < cLine)
    (hQ : ∀ (s1 s' : Shared) p (out : Array Value) (c : Nat) (L' : List (PyData × Value)), (∀ b o, s.heap.get? b = some o → s1.heap.get? b = some o) → s1.gens = s.gens → s1.os = s.os → (∀ b o, s1.heap.get? b = some o → s'.heap.get? b = some o) → s'.gens = s1.gens → s'.os = s1.os → s1.heap.objs.size ≤ p →
      s'.heap.get? p = some (seqObj "list" out c) → out.toList = L'.map (fun q => q.2) → L'.Perm L → L'.map Prod.fst = sortD (L.map Prod.fst) → Q (.ref p) s') :
    wpAny (model P w) A (call (.builtin "sorted") [.ref a]) Q E s := by
  refine Calls.call_function_entry kind_sorted plain_sorted entry_sorted (args_sorted1 _) ?_
  unfold Builtin.«sorted»
  refine wpAny_bind (m := checkCount "sorted" 1 1 _) (wpAny_pure ?_)
  refine wpAny_bind (col _ fun s1 vs k1 g1 o1 pm => ?_)
  obtain ⟨L1, p1, rfl⟩ := vals_perm pm
  have hvl : (L1.map fun q => q.2).length ≤ 1000 := by rw [List.length_map, p1.length_eq]; exact hfew
  refine wpAny_bind (wpAny_newList ?_ (by rw [sizeLine_eq]; omega))
  have hoL : (s1.heap.push (seqObj "list" (L1.map fun q => q.2).toArray 0)).get? s1.heap.objs.size = some (seqObj "list" (L1.map fun q => q.2).toArray 0) := Heap.get?_push_size _ rfl
  generalize hh2 : s1.heap.push (seqObj "list" (L1.map fun q => q.2).toArray 0) = h2 at hoL
  have kk : ∀ b u, s.heap.get? b = some u → h2.get? b = some u := fun b u e => by rw [← hh2]; exact Heap.get?_push_of_some _ (k1 b u e)
  have bne : ∀ b u, s.heap.get? b = some u → b ≠ s1.heap.objs.size := fun b u e => Nat.ne_of_lt (Heap.lt_size (k1 b u e))
  have k6 : ∀ b u, s.heap.get? b = some u → (PySem.W.sortingHeap h2 s1.heap.objs.size (L1.map fun q => q.2)).get? b = some u := fun b u e => PySem.W.sortingHeap_old (bne b u e) (kk b u e)
  have mL : ∀ q ∈ L1, q ∈ L := fun q hq => p1.mem_iff.mp hq
  have al1 : AllAlike (L1.map Prod.fst) := fun d hd d' hd' => hal d ((p1.map Prod.fst).mem_iff.mp hd) d' ((p1.map Prod.fst).mem_iff.mp hd')
  have S : PySem.W.SortsAt P w A.in1.in1 { s1 with heap := PySem.W.sortingHeap h2 s1.heap.objs.size (L1.map fun q => q.2) } (dataKind (PySem.W.sortingHeap h2 s1.heap.objs.size (L1.map fun q => q.2)) (L1.map Prod.fst)) (L1.map fun q => q.2) := by
    refine PySem.W.SortsAt.data (each_map fun q hq => ?_) al1 ?_ fun d hd => ?_
    · obtain ⟨⟨as, r⟩, n⟩ := hr q (mL q hq)
      exact ⟨as, reads_mono k6 _ _ _ r n⟩
    · rcases hk with h | h
      · exact .inl fun d hd => h d ((p1.map Prod.fst).mem_iff.mp hd)
      · exact .inr fun d hd => h d ((p1.map Prod.fst).mem_iff.mp hd)
    · obtain ⟨q, hq, rfl⟩ := List.mem_map.mp hd
      have := hdp q (mL q hq)
      simp only [Around.units, Around.in1] at hu ⊢
      omega
  have ev := PySem.W.sortVals_each (κ := dataKind (PySem.W.sortingHeap h2 s1.heap.objs.size (L1.map fun q => q.2)) (L1.map Prod.fst)) (rev := false) (R := fun v (q : PyData × Value) => v = q.2) (ks := L1.map fun q => q.2) (vs := L1.map fun q => q.2) (bs := L1) (fun q => keyToks q.1) (each_valsV L1) (each_of_mem fun q hq => by
    obtain ⟨⟨as, r⟩, n⟩ := hr q (mL q hq)
    exact PySem.W.dataKind_some al1 (List.mem_map.mpr ⟨q, hq, rfl⟩) (reads_mono k6 _ _ _ r n))
  have eb := each_backV ev
  have e2 : L1.mergeSort (PySem.W.sortLe (dataKind (PySem.W.sortingHeap h2 s1.heap.objs.size (L1.map fun q => q.2)) (L1.map Prod.fst)).toKeyOrd false fun q => keyToks q.1) = sortV L1 := rfl
  rw [e2] at eb
  refine wpAny_bind (wpAny_holding (wpAny_call_entry slot_list_sort ⟨_, hoL, rfl⟩ entry_list_sort (PySem.W.list_sort_vals (s := { s1 with heap := h2 }) hoL S (by rw [sizeLine_eq]; omega) ?_) (args_list_sort _)))
  refine ⟨_, rfl, ?_⟩
  rw [eb]
  obtain ⟨c, hc⟩ := sortedHeap_at (vs := L1.map fun q => q.2) (out := ((sortV L1).map fun q => q.2).toArray) hoL
  refine wpAny_pure ⟨_, rfl, hQ s1 _ s1.heap.objs.size _ c (sortV L1) k1 g1 o1 (fun b u e => ?_) rfl rfl (Nat.le_refl _) hc (by simp) ((List.mergeSort_perm L1 _).trans p1) ?_⟩
  · show (sortedHeap h2 s1.heap.objs.size _ _).get? b = some u
    have e2 : h2.get? b = some u := by rw [← hh2]; exact Heap.get?_push_of_some _ e
    rw [sortedHeap_old (Nat.ne_of_lt (Heap.lt_size e)) (Heap.lt_size e2)]
    exact e2
  · rw [sortV_data]
    exact sortD_perm al1 (p1.map Prod.fst)
end
/-! ### the set -/
structure Tt (P : Program) (w : World) (h : Heap) (a : Addr) (l : List Str) (D : SD) : Prop where
  ob : h.get? a = some (sObj "set" D)
  ok : TxOk P w D l
  ri : Ris D.2.2.place.toList
  ld : w.params.followText "set-order" = true ∨ D.2.2.led = true
  en : ∃ ts : List Tok, ts.length = l.length ∧ D.1.toList.Perm ((l.zip ts).map fun q => (hashStr w q.1, Value.str q.1 q.2))
  fw : l.length < 100
theorem tail_parts (ep : Nat) (es : Array (Int × Value)) (t : SetTable) (wd : Bool) : (Ris t.place.toList → Ris (tailTx ep es t wd).2.2.place.toList) ∧ (tailTx ep es t wd).2.2.led = t.led ∧ (tailTx ep es t wd).1.toList.Perm es.toList := by
  unfold tailTx
  split
  · exact ⟨fun _ => relayAll_ris _ _ _, relayAll_led _ _ _, relayAll_perm _ _ _⟩
  · exact ⟨fun h => h, rfl, .refl _⟩
theorem add_parts (D : SD) (x : Int) (v : Value) : (Ris D.2.2.place.toList → Ris (addTx x v D).2.2.place.toList) ∧ (addTx x v D).2.2.led = D.2.2.led ∧ (addTx x v D).1.toList.Perm ((x, v) :: D.1.toList) := by
  obtain ⟨es, ep, t⟩ := D
  obtain ⟨a1, a2, a3⟩ := tail_parts ep (layNew t es x v).1 (if (layNew t es x v).2.1.plain = true then { (layNew t es x v).2.1 with plain := false } else (layNew t es x v).2.1) (layNew t es x v).2.2.1
  refine ⟨fun h => a1 ?_, a2.trans ?_, a3.trans ?_⟩
  · have := layNew_ris t es x v h
    split <;> exact this
  · have := layNew_led t es x v
    split <;> exact this
  · have := layNew_perm t es x v
    rw [Array.toList_push] at this
    exact this.trans (List.perm_append_singleton _ _)
section
variable {P : Program} {w : World} {A : Around} {E : Value → Shared → Prop} {s : Shared} {a : Addr} {l : List Str} {D : SD}
theorem tt_new {h : Heap} (ho : h.get? a = some (setObj w)) : Tt P w h a [] (#[], 0, .fresh 0 0 (!w.params.followText "set-order")) :=
  ⟨ho, .nil rfl, List.Pairwise.nil, by
    show _ ∨ (!w.params.followText "set-order") = true
    cases w.params.followText "set-order"
    · exact .inr rfl
    · exact .inl rfl, ⟨[], rfl, .refl _⟩, by decide⟩
theorem Tt.keep {h h' : Heap} (R : Tt P w h a l D) (k : ∀ o, h.get? a = some o → h'.get? a = some o) : Tt P w h' a l D := ⟨k _ R.ob, R.ok, R.ri, R.ld, R.en, R.fw⟩
theorem addT (R : Tt P w s.heap a l D) {k : Str} {u : Tok} (hf : l.length + 1 < 100) {Q : Bool → Shared → Prop}
    (q : ∀ b h' l' D', Heap.SameBut a s.heap h' → Tt P w h' a l' D' → l' = (if k ∈ l then l else k :: l) → Q b { s with heap := h' }) : wpAny (model P w) A (setAddHashed a (.str k u) (hashStr w k)) Q E s := by
  have hz : l.length + 1 < scanBound := by unfold scanBound; omega
  by_cases hk : k ∈ l
  · obtain ⟨es, ep, t⟩ := D
    have hd : (sObj "set" (es, ep, t)).data = .set es ep t := rfl
    have hfi : t.fits es.size = true := R.ok.fit
    have hel : ElemsOf (strKind P w) es.toList := R.ok.el
    have hsz : es.size = l.length := R.ok.sz
    unfold setAddHashed setAddHashedIn
    refine wpAny_holding (wpAny_bind (wpAny_setState_of R.ob hd hfi ?_))
    dsimp only
    rw [byScan_of (x := .str k u) rfl (by omega : es.size < scanBound) hel]
    simp only [↓reduceIte]
    unfold setAddByScan
    refine wpAny_bind (wpAny_bind (wpAny_rule (wpAny_bind (wpAny_setScan_of (knd := strKind P w) (k := k) (is_str k u) R.ob hd hfi hel ?_))))
    cases hq : List.findIdx? (fun e => (strKind P w).is k e.2) es.toList with
    | some j => exact wpAny_pure (wpAny_pure (q _ s.heap l _ (Heap.SameBut.refl a s.heap) R (by rw [if_pos hk])))
    | none =>
      obtain ⟨e, he, hi⟩ := (R.ok.mem k).mp hk
      have := List.findIdx?_eq_none_iff.mp hq e he
      rw [hi] at this
      cases this
  · obtain ⟨a1, a2, a3⟩ := add_parts D (hashStr w k) (.str k u)
    obtain ⟨ts, t1, t2⟩ := R.en
    refine PySem.Froz.add_x R.ob R.ok hk hz (q true _ (k :: l) _ (Heap.SameBut.update s.heap a _) ⟨?_, PySem.Froz.add_ok u R.ok, a1 R.ri, by rw [a2]; exact R.ld, ⟨u :: ts, by simp [t1], ?_⟩, by simpa using hf⟩ (by rw [if_neg hk]))
    · exact PySem.Froz.get_upd _ R.ob rfl
    · exact a3.trans (List.Perm.cons _ t2)
theorem setAddT (R : Tt P w s.heap a l D) {k : Str} {u : Tok} (hf : l.length + 1 < 100) {Q : Bool → Shared → Prop}
    (q : ∀ b h' l' D', Heap.SameBut a s.heap h' → Tt P w h' a l' D' → l' = (if k ∈ l then l else k :: l) → Q b { s with heap := h', toks := s.toks + 1 }) : wpAny (model P w) A (setAdd a (.str k u)) Q E s := by
  unfold setAdd
  refine wpAny_holding (wpAny_bind ((strKind P w).pyHash (is_str k u) ?_))
  exact addT (s := { s with toks := s.toks + 1 }) R hf q
theorem call_sadd {v : Value} {Q : Value → Shared → Prop} (hT : s.TypeIs (.ref a) "set") (h : wpAny (model P w) A.in1 (setAdd a v) (fun _ s' => Q .none s') E s) : wpAny (model P w) A (call (.builtin "set.add") [.ref a, v]) Q E s := by
  refine wpAny_call_entry F.slot_set_add hT F.entry_set_add ?_ (F.args_set_add_2 _ _)
  unfold Builtin.«set.add» Builtin.Frozenset.oneOther
  simp only [List.isEmpty_nil, bind_assoc]
  unfold Builtin.Frozenset.addrOf
  refine wpAny_bind (wpAny_pure ?_)
  try dsimp only
  refine wpAny_bind (wpAny_pure ?_)
  try dsimp only
  refine wpAny_bind (wpAny_mono h (fun _ s' hq => ?_) fun _ _ z => z)
  show wpAny _ _ (ret Value.none) _ _ _
  exact wpAny_pure ⟨_, rfl, hq⟩
theorem sorted_setT {Q : Value → Shared → Prop} (R : Tt P w s.heap a l D) (hh : A.handled = none) (hu : A.units + 64 < cLine)
    (hQ : ∀ (s1 s' : Shared) p (out : Array Value) (c : Nat) (ys : List Str), (∀ b o, s.heap.get? b = some o → s1.heap.get? b = some o) → s1.gens = s.gens → s1.os = s.os → (∀ b o, s1.heap.get? b = some o → s'.heap.get? b = some o) → s'.gens = s1.gens → s'.os = s1.os → s1.heap.objs.size ≤ p →
      s'.heap.get? p = some (seqObj "list" out c) → Vals (ys.map V.str) out.toList → ys.map PyData.str = sortD (l.map PyData.str) → Q (.ref p) s') : wpAny (model P w) A (call (.builtin "sorted") [.ref a]) Q E s := by
  obtain ⟨ts, t1, t2⟩ := R.en
  have hz := R.ok.sz
  have hfw := R.fw
  obtain ⟨L, hL⟩ : ∃ L : List (PyData × Value), L = (l.zip ts).map fun q => (PyData.str q.1, Value.str q.1 q.2) := ⟨_, rfl⟩
  have hm : ∀ p ∈ L, ∃ k t, p = (PyData.str k, Value.str k t) := fun p hp => by
    rw [hL] at hp
    obtain ⟨q, _, rfl⟩ := List.mem_map.mp hp
    exact ⟨_, _, rfl⟩
  have hfst : L.map Prod.fst = l.map PyData.str := by
    rw [hL, List.map_map]
    have : (l.zip ts).map Prod.fst = l := List.map_fst_zip (by omega)
    conv => rhs; rw [← this, List.map_map]
    rfl
  have hlen : L.length ≤ 1000 := by
    have := congrArg List.length hfst
    rw [List.length_map, List.length_map] at this
    omega
  refine sorted_colV (L := L) hlen (fun R0 hR => collect_set (A := A.in1) hh ⟨_, R.ob, rfl, rfl⟩ R.ok.fit (by rw [hz]; unfold scanBound; omega) R.ri R.ld fun s1 vs k1 _ g1 o1 pm => hR s1 vs k1 g1 o1 ?_) (fun p hp => ?_) ?_ ?_ (fun p hp => ?_) hu fun s1 s' p out c L' k1 g1 o1 k2 g2 o2 hp hg ho pm pd => ?_
  · have e : ((l.zip ts).map fun q => (hashStr w q.1, Value.str q.1 q.2)).map (·.2) = L.map fun q => q.2 := by
      rw [hL, List.map_map, List.map_map]
      rfl
    exact pm.trans (by rw [← e]; exact t2.map _)
  · obtain ⟨k, t, rfl⟩ := hm p hp
    exact ⟨⟨[], .str k t⟩, by simp [PyData.hasDict]⟩
  · rw [hfst]
    intro d hd d' hd'
    obtain ⟨k, _, rfl⟩ := List.mem_map.mp hd
    obtain ⟨k', _, rfl⟩ := List.mem_map.mp hd'
    simp [alike]
  · rw [hfst]
    refine .inr fun d hd => ?_
    obtain ⟨k, _, rfl⟩ := List.mem_map.mp hd
    exact ⟨(fun e => by cases e), (fun _ e => by cases e)⟩
  · obtain ⟨k, t, rfl⟩ := hm p hp
    simp [PyData.depth]
  · have hm' : ∀ p ∈ L', ∃ k t, p = (PyData.str k, Value.str k t) := fun p hp => hm p (pm.mem_iff.mp hp)
    have key : ∀ M : List (PyData × Value), (∀ p ∈ M, ∃ k t, p = (PyData.str k, Value.str k t)) → ∃ ys : List Str, Vals (ys.map V.str) (M.map fun q => q.2) ∧ ys.map PyData.str = M.map Prod.fst := fun M => by
      induction M with
      | nil => exact fun _ => ⟨[], .nil, rfl⟩
      | cons p M ih =>
        intro h
        obtain ⟨ys, y1, y2⟩ := ih fun q hq => h q (List.mem_cons_of_mem _ hq)
        obtain ⟨k, t, rfl⟩ := h p List.mem_cons_self
        exact ⟨k :: ys, .cons ⟨t, rfl⟩ y1, by simp [y2]⟩
    obtain ⟨ys, y1, y2⟩ := key L' hm'
    exact hQ s1 s' p out c ys k1 g1 o1 k2 g2 o2 hp hg (by rw [ho]; exact y1) (by rw [y2, pd, hfst])
end
end LQ

set_option Elab.async false
set_option linter.all false
set_option maxRecDepth 100000
set_option maxHeartbeats 4000000
/-! what a comprehension takes in, by mirrors -/
namespace LQ
open PySem PySem.Spec PyProof.Rows L2
/-- where the items go -/
structure Sk (α : Type) (K : PySem.W.Frag) where
  ob : Addr → α → HO
  AR : Hp → α → List PyData → Prop
  add : Addr → V → Hp → (Hp → Prop) → Prop
  ok : List PyData → PyData → Prop
  mono : ∀ {F F' : Hp} {a : α} {ds : List PyData}, Same F F' → AR F a ds → AR F' a ds
  put : ∀ {D : Addr} {H F : Hp} {a : α} {ds : List PyData} {y : V} {d : PyData} {Nx : Hp → Prop}, H D = some (ob D a) → Same F H → AR F a ds → Rp K F y d → ok ds d → (∀ a', AR F a' (ds ++ [d]) → Nx (upd H D (ob D a'))) → add D y H Nx
  nt : ∀ (D : Addr) (a : α), ¬ NT (some (ob D a))
  nl : ∀ (D : Addr) (a : α) (xs : List V), ob D a ≠ .lst xs
  nT : ∀ (D : Addr) (a : α) (kvs : List (List Key × V)), ob D a ≠ .dT kvs
def del (D : Addr) (H : Hp) : Hp := fun a => if a = D then none else H a
theorem del_at (D : Addr) (H : Hp) : del D H D = none := if_pos rfl
theorem del_of {D a : Addr} {H : Hp} (h : a ≠ D) : del D H a = H a := if_neg h
theorem del_some {D a : Addr} {H : Hp} {o : HO} (h : del D H a = some o) : H a = some o := by
  unfold del at h
  split at h
  · cases h
  · exact h
section
variable {z : Cz} {K : PySem.W.Frag} {F F' H H' : Hp} {D : Addr} {T : Dk} {σ : L2.St} {en : En}
theorem nxt_del : Nxt z F (del D H) F H := ⟨Same.refl _, fun a o h _ => del_some h, fun a h => .inl h⟩
theorem Nxt.own (n : Nxt z F H F' H') (hD : H D = none) (o : HO) : Nxt z F H F' (upd H' D o) := ⟨n.s, fun a q h hd => by rw [upd_ne (ne_of_none h hD)]; exact n.st a q h hd, n.nw⟩
theorem Bs.del (B : Bs z F H T) (hf : F D = none) (h0 : z.H0 D = none) : Bs z F (del D H) T := by
  have nd : z.isDk D = false := by
    cases hd : z.isDk D with
    | true => exact absurd h0 (B.dkin D hd)
    | false => rfl
  refine ⟨fun a o h => ?_, B.ff, B.vis, fun a o h hd => ?_, B.nodk, B.dkin, ?_⟩
  · rw [del_of (ne_of_none h hf)]; exact B.fh a o h
  · rw [del_of (ne_of_none h h0)]; exact B.out a o h hd
  · have hk := B.dk
    unfold DkOk at hk ⊢
    unfold Cz.isDk dkAt at nd
    cases e : z.dk with
    | none => trivial
    | some t =>
      obtain ⟨p1, c1, g1⟩ := t
      rw [e] at hk nd
      simp only [Bool.or_eq_false_iff, beq_eq_false_iff_ne, ne_eq] at nd
      obtain ⟨q1, q3⟩ := nd
      obtain ⟨k1, k2, k3, k4⟩ := hk
      refine ⟨?_, k2, ?_, k4⟩
      · rw [del_of (fun e => q1 e.symm)]; exact k1
      · rw [del_of (fun e => q3 e.symm)]; exact k3
theorem Ok.del (k : Ok z K F H σ en T) (hf : F D = none) (h0 : z.H0 D = none) (hl : ∀ xs, H D ≠ some (.lst xs)) (hT : ∀ kvs, H D ≠ some (.dT kvs)) : Ok z K F (del D H) σ en T := by
  refine ⟨k.b.del hf h0, k.len, fun i s e => ?_, k.ne, k.nd⟩
  obtain ⟨v, hv, q⟩ := k.sl i s e
  refine ⟨v, hv, ?_⟩
  cases s with
  | own ds =>
    obtain ⟨a, xs, r1, r2, r3⟩ := q
    exact ⟨a, xs, r1, by rw [del_of (fun e => by rw [e] at r2; exact hl xs r2)]; exact r2, r3⟩
  | ownD kvs =>
    obtain ⟨a, xs, r1, r2, r3⟩ := q
    exact ⟨a, xs, r1, by rw [del_of (fun e => by rw [e] at r2; exact hT xs r2)]; exact r2, r3⟩
  | _ => exact q
end
section
variable {α : Type} {z : Cz} {K : PySem.W.Frag} {S : Sk α K} {D : Addr} {vs : List Nat} {mt : MG} {mq : MT} {me : ME}
/-- the state between two items -/
structure Iw (S : Sk α K) (z : Cz) (D : Addr) (F : Hp) (T : Dk) (H : Hp) (acc : List PyData) : Prop where
  b : Bs z F H T
  fr : F D = none
  at_ : ∃ a, H D = some (S.ob D a) ∧ S.AR F a acc
theorem Iw.nxt {F F' H H' : Hp} {T T' : Dk} {acc : List PyData} (I : Iw S z D F T H acc) (h0 : z.H0 D = none) (n : Nxt z F H F' H') (B : Bs z F' H' T') : Iw S z D F' T' H' acc := by
  obtain ⟨a, e, r⟩ := I.at_
  have nd : z.isDk D = false := by
    cases hd : z.isDk D with
    | true => exact absurd h0 (B.dkin D hd)
    | false => rfl
  refine ⟨B, ?_, a, n.st D _ e nd, S.mono n.s r⟩
  cases q : F' D with
  | none => rfl
  | some o =>
    rcases n.nw D (by rw [q]; simp) with h | h
    · exact absurd I.fr h
    · rw [e] at h; exact absurd h (S.nt D a)
def btE (S : Sk α K) (z : Cz) (me : ME) (D : Addr) : BT := fun σ H Nx => tD z K me σ H fun y H4 => S.add D y H4 Nx
theorem wipe_twice (σ : L2.St) (vs : List Nat) : L2.wipe (L2.wipe σ vs) vs = L2.wipe σ vs := by
  refine List.ext_getElem? fun j => ?_
  by_cases hj : j ∈ vs
  · by_cases hl : j < σ.length
    · rw [wipe_in hj hl, wipe_in hj (by rw [wipe_length]; exact hl)]
    · rw [List.getElem?_eq_none (by rw [wipe_length, wipe_length]; omega), List.getElem?_eq_none (by rw [wipe_length]; omega)]
  · rw [wipe_out hj]
theorem goesIn {σ : L2.St} {en : En} {F2 Hb H2 G : Hp} {T2 Te : Dk} {J : L2.It} {ds acc0 fin : List PyData} {End : Hp → Prop} (h0 : z.H0 D = none) (hb : Hb D = none) (ok : Ok z K F2 Hb σ en T2) (n0 : Nxt z F2 Hb F2 H2) (I0 : Iw S z D F2 T2 H2 acc0) (sG : ∀ F' H' T', Nxt z F2 Hb F' H' → Bs z F' H' T' → Same G H') (wk : Wk z K F2 G J ds)
    (el : mLoop mt mq me (wipeE en vs) ds T2 = some (fin, Te)) (okA : ∀ pre d post, pre ++ d :: post = fin → S.ok (acc0 ++ pre) d) (hE : ∀ F' H', Iw S z D F' Te H' (acc0 ++ fin) → Nxt z F2 Hb F' H' → End H') :
    Goes1 J (tG z K vs mt) (tQ z K mq) (btE S z me D) vs σ End H2 := by
  refine ⟨fun i q H' => ∃ F' T' acc rest, Iw S z D F' T' H' (acc0 ++ acc) ∧ Nxt z F2 Hb F' H' ∧ acc ++ rest = fin ∧ i + q = ds.length ∧ mLoop mt mq me (wipeE en vs) (ds.drop i) T' = some (rest, Te),
    ⟨ds.length, F2, T2, [], fin, by simpa using I0, n0, rfl, by omega, el⟩, fun i q H' hW => ?_⟩
  obtain ⟨F', T', acc, rest, I', n', ea, hq, el'⟩ := hW
  obtain ⟨w1, w2, w3⟩ := wk F' H' T' I'.b n'.s (sG F' H' T' n' I'.b) i
  by_cases hi : i < ds.length
  · right
    have hdr : ds.drop i = ds[i] :: ds.drop (i + 1) := List.drop_eq_getElem_cons hi
    rw [hdr] at el'
    unfold mLoop at el'
    cases e2 : mt ds[i] (wipeE en vs) with
    | none => rw [e2] at el'; cases el'
    | some en2 =>
      rw [e2] at el'
      simp only [Option.bind_some] at el'
      cases e3 : mq en2 T' with
      | none => rw [e3] at el'; cases el'
      | some pb =>
        obtain ⟨b, T3⟩ := pb
        rw [e3] at el'
        simp only [Option.bind_some] at el'
        refine ⟨w1 hi, fun H2' => ∃ F' T' acc rest, Iw S z D F' T' H2' (acc0 ++ acc) ∧ Nxt z F2 Hb F' H2' ∧ acc ++ rest = fin ∧ mLoop mt mq me (wipeE en vs) (ds.drop (i + 1)) T' = some (rest, Te), fun H3 hN => ?_, fun x H3 hy => ?_⟩
        · obtain ⟨F3, T4, acc3, rest3, a1, a2, a3, a4⟩ := hN
          exact ⟨q - 1, by omega, F3, T4, acc3, rest3, a1, a2, a3, by omega, a4⟩
        · obtain ⟨Fy, By, ny, py⟩ := w2 _ (List.getElem?_eq_getElem hi) x H3 hy
          have Iy := I'.nxt h0 ny By
          have ny' := n'.trans ny By
          have okw := (ok.nxt ny' By).wipe vs
          refine ⟨Fy, _, T', ds[i], en2, okw, py, e2, fun σ2 ok2 out => ⟨by rw [out.wipe, wipe_twice], Fy, en2, T', b, T3, ok2, e3, fun F4 H4 B4 n4 => ?_⟩⟩
          have I4 := Iy.nxt h0 n4 B4
          have n4' := ny'.trans n4 B4
          cases b with
          | false =>
            simp only [Bool.false_eq_true, if_false] at el'
            exact ⟨F4, T3, acc, rest, I4, n4', ea, el'⟩
          | true =>
            simp only [if_true] at el'
            cases e4 : me en2 T3 with
            | none => rw [e4] at el'; cases el'
            | some pe =>
              obtain ⟨y, T5⟩ := pe
              rw [e4] at el'
              simp only [Option.bind_some] at el'
              cases e5 : mLoop mt mq me (wipeE en vs) (ds.drop (i + 1)) T5 with
              | none => rw [e5] at el'; cases el'
              | some pr =>
                obtain ⟨rest', T6⟩ := pr
                rw [e5] at el'
                simp only [Option.map_some, Option.some.injEq, Prod.mk.injEq] at el'
                obtain ⟨rfl, rfl⟩ := el'
                refine ⟨F4, en2, T3, y, T5, ok2.nxt n4 B4, e4, fun F5 H5 v B5 n5 pv => ?_⟩
                have I5 := I4.nxt h0 n5 B5
                have n5' := n4'.trans n5 B5
                obtain ⟨a, ha, hr⟩ := I5.at_
                exact S.put ha B5.fh hr pv (okA acc y rest' (by rw [ea])) fun a' hr' => ⟨F5, T5, acc ++ [y], rest', ⟨B5.own I5.fr h0, I5.fr, a', upd_same, by rw [← List.append_assoc]; exact hr'⟩, n5'.own hb _, by rw [← ea]; simp, e5⟩
  · left
    rw [List.drop_eq_nil_of_le (by omega)] at el'
    cases el'
    refine ⟨w3 (by omega), hE F' H' (by simpa [← ea] using I') n'⟩
/-! ### two fors -/
def mLoop2 (mt : MG) (mq : MT) (vs1 : List Nat) (mi1 : MA) (mt1 : MG) (mq1 : MT) (me : ME) (en : En) : List PyData → Dk → Option (List PyData × Dk)
  | [], T => some ([], T)
  | d :: ds, T => (mt d en).bind fun en2 => (mq en2 T).bind fun b => if b.1 = true then (mi1 en2 b.2).bind fun p => (mLoop mt1 mq1 me (wipeE en2 vs1) p.1 p.2).bind fun r => (mLoop2 mt mq vs1 mi1 mt1 mq1 me en ds r.2).map fun r2 => (r.1 ++ r2.1, r2.2) else mLoop2 mt mq vs1 mi1 mt1 mq1 me en ds b.2
theorem goesOut {vs1 : List Nat} {mi1 : MA} {mt1 : MG} {mq1 : MT} {σ : L2.St} {en : En} {F2 Hb H2 G : Hp} {T2 Te : Dk} {J : L2.It} {ds fin : List PyData} {End : Hp → Prop} (h0 : z.H0 D = none) (hb : Hb D = none) (ok : Ok z K F2 Hb σ en T2) (n0 : Nxt z F2 Hb F2 H2) (I0 : Iw S z D F2 T2 H2 []) (sG : ∀ F' H' T', Nxt z F2 Hb F' H' → Bs z F' H' T' → Same G H') (wk : Wk z K F2 G J ds)
    (el : mLoop2 mt mq vs1 mi1 mt1 mq1 me (wipeE en vs) ds T2 = some (fin, Te)) (okA : ∀ pre d post, pre ++ d :: post = fin → S.ok pre d) (hE : ∀ F' H', Iw S z D F' Te H' fin → Nxt z F2 Hb F' H' → End H') :
    Goes1 J (tG z K vs mt) (tQ z K mq) (btIn (iD z K mi1) (tG z K vs1 mt1) (tQ z K mq1) (btE S z me D) vs1) vs σ End H2 := by
  refine ⟨fun i q H' => ∃ F' T' acc rest, Iw S z D F' T' H' acc ∧ Nxt z F2 Hb F' H' ∧ acc ++ rest = fin ∧ i + q = ds.length ∧ mLoop2 mt mq vs1 mi1 mt1 mq1 me (wipeE en vs) (ds.drop i) T' = some (rest, Te),
    ⟨ds.length, F2, T2, [], fin, I0, n0, rfl, by omega, el⟩, fun i q H' hW => ?_⟩
  obtain ⟨F', T', acc, rest, I', n', ea, hq, el'⟩ := hW
  obtain ⟨w1, w2, w3⟩ := wk F' H' T' I'.b n'.s (sG F' H' T' n' I'.b) i
  by_cases hi : i < ds.length
  · right
    have hdr : ds.drop i = ds[i] :: ds.drop (i + 1) := List.drop_eq_getElem_cons hi
    rw [hdr] at el'
    unfold mLoop2 at el'
    cases e2 : mt ds[i] (wipeE en vs) with
    | none => rw [e2] at el'; cases el'
    | some en2 =>
      rw [e2] at el'
      simp only [Option.bind_some] at el'
      cases e3 : mq en2 T' with
      | none => rw [e3] at el'; cases el'
      | some pb =>
        obtain ⟨b, T3⟩ := pb
        rw [e3] at el'
        simp only [Option.bind_some] at el'
        refine ⟨w1 hi, fun H2' => ∃ F' T' acc rest, Iw S z D F' T' H2' acc ∧ Nxt z F2 Hb F' H2' ∧ acc ++ rest = fin ∧ mLoop2 mt mq vs1 mi1 mt1 mq1 me (wipeE en vs) (ds.drop (i + 1)) T' = some (rest, Te), fun H3 hN => ?_, fun x H3 hy => ?_⟩
        · obtain ⟨F3, T4, acc3, rest3, a1, a2, a3, a4⟩ := hN
          exact ⟨q - 1, by omega, F3, T4, acc3, rest3, a1, a2, a3, by omega, a4⟩
        · obtain ⟨Fy, By, ny, py⟩ := w2 _ (List.getElem?_eq_getElem hi) x H3 hy
          have Iy := I'.nxt h0 ny By
          have ny' := n'.trans ny By
          have okw := (ok.nxt ny' By).wipe vs
          refine ⟨Fy, _, T', ds[i], en2, okw, py, e2, fun σ2 ok2 out => ⟨by rw [out.wipe, wipe_twice], Fy, en2, T', b, T3, ok2, e3, fun F4 H4 B4 n4 => ?_⟩⟩
          have I4 := Iy.nxt h0 n4 B4
          have n4' := ny'.trans n4 B4
          cases b with
          | false =>
            simp only [Bool.false_eq_true, if_false] at el'
            exact ⟨F4, T3, acc, rest, I4, n4', ea, el'⟩
          | true =>
            simp only [if_true] at el'
            cases e4 : mi1 en2 T3 with
            | none => rw [e4] at el'; cases el'
            | some pi =>
              obtain ⟨es, T5⟩ := pi
              rw [e4] at el'
              simp only [Option.bind_some] at el'
              cases e5 : mLoop mt1 mq1 me (wipeE en2 vs1) es T5 with
              | none => rw [e5] at el'; cases el'
              | some pr =>
                obtain ⟨got, T6⟩ := pr
                rw [e5] at el'
                simp only [Option.bind_some] at el'
                cases e6 : mLoop2 mt mq vs1 mi1 mt1 mq1 me (wipeE en vs) (ds.drop (i + 1)) T6 with
                | none => rw [e6] at el'; cases el'
                | some pq =>
                  obtain ⟨rest', T7⟩ := pq
                  rw [e6] at el'
                  simp only [Option.map_some, Option.some.injEq, Prod.mk.injEq] at el'
                  obtain ⟨rfl, rfl⟩ := el'
                  have ok4 := ok2.nxt n4 B4
                  refine ⟨F4, en2, T3, es, T5, ok4, e4, fun F5 H5 J1 B5 n5 wk5 => ?_⟩
                  have I5 := I4.nxt h0 n5 B5
                  have n5' := n4'.trans n5 B5
                  obtain ⟨a, ha, _⟩ := I5.at_
                  have ok5 := (ok4.nxt n5 B5).del I5.fr h0 (fun xs e => by rw [ha] at e; exact S.nl D a xs (Option.some.inj e)) (fun kv e => by rw [ha] at e; exact S.nT D a kv (Option.some.inj e))
                  refine goesIn (Hb := del D H5) h0 (del_at D H5) ok5 nxt_del I5 (fun F' H' T' n B => n.s.trans B.fh) wk5 e5 (fun pre d post e => okA (acc ++ pre) d (post ++ rest') (by rw [← ea, ← e]; simp)) fun F6 H6 I6 n6 => ?_
                  refine ⟨F6, T6, acc ++ got, rest', I6, ?_, by rw [← ea]; simp, e6⟩
                  refine ⟨n5'.s.trans n6.s, fun b o hbo hd => ?_, fun b hb6 => ?_⟩
                  · have hbD : b ≠ D := ne_of_none hbo hb
                    exact n6.st b o (by rw [del_of hbD]; exact n5'.st b o hbo hd) hd
                  · rcases n6.nw b hb6 with h | h
                    · exact n5'.nw b h
                    · by_cases hbD : b = D
                      · exact absurd (hbD ▸ I6.fr) hb6
                      · rw [del_of hbD] at h
                        refine .inr ?_
                        cases q : Hb b with
                        | none => exact .inl rfl
                        | some o =>
                          cases hd : z.isDk b with
                          | true => exact absurd (I6.b.nodk b hd) hb6
                          | false =>
                            have := n5'.st b o q hd
                            rw [this] at h
                            exact h
  · left
    rw [List.drop_eq_nil_of_le (by omega)] at el'
    cases el'
    refine ⟨w3 (by omega), hE F' H' (by simpa [← ea] using I') n'⟩
end
end LQ

set_option Elab.async false
set_option linter.all false
set_option maxRecDepth 100000
set_option maxHeartbeats 4000000
/-! set comprehensions -/
namespace LQ
open PySem PySem.Spec PyProof.Rows L2
open PySem.Froz (SD sObj)
def StO (P : Program) (w : World) (a : Addr) (l : List Str) : HO := .ext fun h => ∃ D : SD, Tt P w h a l D
theorem stO_new {P : Program} {w : World} {H : Hp} {h : Heap} {a : Addr} {l : List Str} {D : SD} (R : Tt P w h a l D) : ObjOk P w H h a (StO P w a l) := by
  refine ⟨⟨D, R⟩, ⟨_, R.ob⟩, fun h1 h2 p k => ?_⟩
  obtain ⟨D', R'⟩ := (show ∃ D, Tt P w h1 a l D from p)
  exact ⟨D', R'.keep k⟩
/-- texts -/
def skT (P : Program) (w : World) (K : PySem.W.Frag) : Sk (List Str) K where
  ob := StO P w
  AR := fun _ l ds => ∃ ys : List Str, ds = ys.map PyData.str ∧ l.Nodup ∧ (∀ k, k ∈ l ↔ k ∈ ys) ∧ l.length ≤ ys.length
  add := fun D y H Nx => ∃ l k, H D = some (StO P w D l) ∧ y = V.str k ∧ l.length + 1 < 100 ∧ Nx (upd H D (StO P w D (if k ∈ l then l else k :: l)))
  ok := fun ds d => ds.length < 64 ∧ ∃ k, d = .str k
  mono := fun _ h => h
  put := fun {D H F a ds y d Nx} hD _ hr hp ho q => by
    obtain ⟨ys, rfl, nd, hm, hl⟩ := hr
    obtain ⟨h1, k, rfl⟩ := ho
    cases hp
    simp only [List.length_map] at h1
    refine ⟨a, k, hD, rfl, by omega, q _ ⟨ys ++ [k], by simp, ?_, fun j => ?_, ?_⟩⟩
    · split
      · exact nd
      · rename_i h
        exact List.nodup_cons.mpr ⟨h, nd⟩
    · split
      · rename_i h
        rw [List.mem_append, List.mem_singleton, hm j]
        exact ⟨.inl, fun e => e.elim id fun e => by rw [e]; exact (hm k).mp h⟩
      · rw [List.mem_append, List.mem_singleton, List.mem_cons, hm j]
        exact Or.comm
    · split
      · simp; omega
      · simp; omega
  nt := fun D a h => by rcases h with h | ⟨xs, h⟩ <;> cases h
  nl := fun D a xs h => by cases h
  nT := fun D a xs h => by cases h
def arN (K : PySem.W.Frag) (F : Hp) (L : List (NestedKey × Addr)) (ds : List PyData) : Prop := (∀ p ∈ L, KAt K F p) ∧ (L.map (·.1)).Nodup ∧ L.length ≤ ds.length ∧ ∃ ks, nks ds = some ks ∧ ∀ k, k ∈ L.map (·.1) ↔ k ∈ ks
/-- tuples -/
def skN (P : Program) (w : World) (K : PySem.W.Frag) : Sk (List (NestedKey × Addr)) K where
  ob := SetNO P w
  AR := arN K
  add := fun D y H Nx => ∃ (L : List (NestedKey × Addr)) (p : NestedKey × Addr), H D = some (SetNO P w D L) ∧ y = V.ref p.2 ∧ KAt K H p ∧ (∀ q ∈ L, KAt K H q) ∧ L.length + 1 < 70 ∧
    ∀ L', (p.1 ∈ L.map (·.1) → L' = L) → (p.1 ∉ L.map (·.1) → L'.Perm (p :: L)) → (L'.map (·.1)).Nodup → Nx (upd H D (SetNO P w D L'))
  ok := fun ds d => ds.length < 64 ∧ tupNE d = true ∧ ∃ k, nk d = some k ∧ k.depth ≤ 8
  mono := fun s h => ⟨fun p hp => kat_mono s (h.1 p hp), h.2⟩
  put := fun {D H F a ds y d Nx} hD hF hr hp ho q => by
    obtain ⟨k1, nd, hl, ks, e1, hm⟩ := hr
    obtain ⟨h1, h2, k, e2, h3⟩ := ho
    have ed := nk_data d k e2
    cases hp with
    | tup hs ha =>
      rename_i b xs ds'
      have kb : KAt K F (k, b) := ⟨by show nk k.data = some k; rw [ed]; exact e2, h3, by show Rp K F (.ref b) k.data; rw [ed]; exact .tup hs ha⟩
      refine ⟨a, (k, b), hD, rfl, kat_mono hF kb, fun p hp => kat_mono hF (k1 p hp), by omega, fun L' y1 y2 nd' => q L' ⟨fun p hp => ?_, nd', ?_, ks ++ [k], ?_, fun j => ?_⟩⟩
      · by_cases hk : k ∈ a.map (·.1)
        · rw [y1 hk] at hp; exact k1 p hp
        · rcases List.mem_cons.mp ((y2 hk).mem_iff.mp hp) with rfl | h
          · exact kb
          · exact k1 p h
      · by_cases hk : k ∈ a.map (·.1)
        · rw [y1 hk]; simp; omega
        · rw [(y2 hk).length_eq]; simp; omega
      · have : ∀ (xs : List PyData) (ls : List NestedKey), nks xs = some ls → nks (xs ++ [.tuple ds']) = some (ls ++ [k]) := fun xs => by
          induction xs with
          | nil => intro ls e; cases e; simp [nks, e2]
          | cons x xs ih =>
            intro ls e
            simp only [nks] at e
            cases e3 : nk x with
            | none => rw [e3] at e; cases e
            | some q =>
              cases e4 : nks xs with
              | none => rw [e3, e4] at e; cases e
              | some l =>
                rw [e3, e4] at e
                cases e
                simp only [List.cons_append, nks, e3, ih l e4, Option.bind_some, Option.map_some]
        exact this ds ks e1
      · by_cases hk : k ∈ a.map (·.1)
        · rw [y1 hk, List.mem_append, List.mem_singleton, hm j]
          exact ⟨.inl, fun e => e.elim id fun e => by rw [e]; exact (hm k).mp hk⟩
        · rw [((y2 hk).map (·.1)).mem_iff, List.map_cons, List.mem_cons, List.mem_append, List.mem_singleton, hm j]
          exact Or.comm
    | _ => simp [tupNE] at h2
  nt := fun D a h => by rcases h with h | ⟨xs, h⟩ <;> cases h
  nl := fun D a xs h => by cases h
  nT := fun D a xs h => by cases h
/-! ### adding -/
def emitS (elt : Expr) (acc : Value) (env : Env) : Sem Unit := do
  let v ← eval elt env
  standAt elt.pos
  let _ ← call (.builtin "set.add") [acc, v]
section
variable {Y : Cx} {z : Cz} {vs : List Nat} {elt : Expr} {me : ME} {D : Addr}
theorem emitT (hx : Y.xe = noX) (he : PE Y elt (tD z Y.K me)) : BodyOk Y vs (emitS elt (.ref D) Y.env) (btE (skT Y.prog Y.w Y.K) z me D) := by
  intro pins s σ H Nx I h
  have q := he.run pins s σ H _ I h
  rw [hx] at q
  refine wpAny_bind (wpAny_mono q (fun v s1 h1 => wpAny_bind (wpAny_standAt (wpAny_bind ?_))) fun _ _ z => z)
  obtain ⟨y, H1, I1, r1, l, k, hD, rfl, hl, nx⟩ := h1
  obtain ⟨t, rfl⟩ := r1
  obtain ⟨D', R⟩ := (show ∃ D', Tt Y.prog Y.w s1.heap D l D' from (I1.hok D _ hD).1)
  refine call_sadd ⟨_, R.ob, rfl⟩ (setAddT R hl fun b h' l' D2 sb R' e => ?_)
  subst e
  exact wpAny_pure ⟨σ, _, I1.write (e := D) (t' := s1.toks + 1) (by rw [hD]; trivial) (.inl rfl) (fun b u hb hu => (sb.2 b hb).trans hu) ⟨_, R'.ob⟩ (stO_new R'), fits_self vs σ, nx⟩
theorem emitN (hx : Y.xe = noX) (hu : Y.A.units + 64 < cLine) (he : PE Y elt (tD z Y.K me)) : BodyOk Y vs (emitS elt (.ref D) Y.env) (btE (skN Y.prog Y.w Y.K) z me D) := by
  intro pins s σ H Nx I h
  have q := he.run pins s σ H _ I h
  rw [hx] at q
  refine wpAny_bind (wpAny_mono q (fun v s1 h1 => wpAny_bind (wpAny_standAt (wpAny_bind ?_))) fun _ _ z => z)
  obtain ⟨y, H1, I1, r1, L, p, hD, rfl, kp, kl, hl, nx⟩ := h1
  cases r1
  obtain ⟨es, ep, t, R⟩ := (show ∃ es ep t, Sd (ND Y.prog Y.w) s1.heap D L es ep t from (I1.hok D _ hD).1)
  obtain ⟨o, ho, hex, hd⟩ := R.ob
  have is : ∀ q : NestedKey × Addr, KAt Y.K H1 q → (ND Y.prog Y.w).kd.is s1.heap q.1 q.2 := fun q hq => ⟨Rp.nest I1 _ _ _ _ hq.1 hq.2.2 rfl, hq.2.1⟩
  have ru : (ND Y.prog Y.w).kd.room Y.A.in1 := by
    show Y.A.in1.units + 8 < cLine
    simp only [Around.units, Around.in1] at hu ⊢
    omega
  refine call_sadd ⟨o, ho, hex.1⟩ ?_
  unfold setAdd
  refine wpAny_holding (wpAny_bind ((ND Y.prog Y.w).kd.pyHash ru (is p kp) ?_))
  refine addN (D := ND Y.prog Y.w) (s := { s1 with toks := s1.toks + _ }) R (fun z hz => is z (kl z hz)) (is p kp) ru hl fun b h' L' es' ep' t' sb R' y1 y2 => ?_
  obtain ⟨o', ho', _⟩ := id R'.ob
  exact wpAny_pure ⟨σ, _, I1.write (e := D) (by rw [hD]; trivial) (.inl rfl) (fun b u hb hu => (sb.2 b hb).trans hu) ⟨o', ho'⟩ (setN_new R'), fits_self vs σ, nx L' y1 y2 R'.nd⟩
end
end LQ

set_option Elab.async false
set_option linter.all false
set_option maxRecDepth 100000
set_option maxHeartbeats 4000000
/-! sorted({.. for .. for ..}), sorted(set(texts)) -/
namespace LQ
open PySem PySem.Spec PyProof.Rows L2
open PySem.W (alike AllAlike Sortable)
open PySem.Froz (SD)
theorem sortD_length (ds : List PyData) : (sortD ds).length = ds.length := (List.mergeSort_perm ds leD).length_eq
section
variable {X : Cx} {z : Cz} {a : Expr} {m : ME} {pos : Pos}
theorem col_endV {pins : List (Addr × Obj)} {σ : L2.St} {H : Hp} {s s1 s' : Shared} {p : Addr} {out : Array Value} {c : Nat} {xs : List V} {Q : VK} (I : Inv X pins σ H s) (k0 : ∀ b o, s.heap.get? b = some o → s1.heap.get? b = some o) (g0 : s1.gens = s.gens) (o0 : s1.os = s.os)
    (k : ∀ b o, s1.heap.get? b = some o → s'.heap.get? b = some o) (g : s'.gens = s1.gens) (o : s'.os = s1.os) (hp : s1.heap.objs.size ≤ p) (hg : s'.heap.get? p = some (seqObj "list" out c)) (hv : Vals xs out.toList) (hfew : xs.length ≤ 1000)
    (q : H p = none → Q (.ref p) (upd H p (.lst xs))) : EP X pins σ Q (.ref p) s' := by
  have I1 : Inv X pins σ H s1 := by
    have J : Inv X pins σ H { s with heap := s1.heap, gens := s1.gens, drawn := s1.drawn, toks := s1.toks } := I.call (ch := []) (Un.kept k0) (I.hok.kept k0) (by rw [g0]; exact I.bare) (fun _ z => nomatch z)
    have e : s1 = { s with heap := s1.heap, gens := s1.gens, drawn := s1.drawn, toks := s1.toks } := by
      cases s1
      cases s
      cases o0
      rfl
    rw [e]
    exact J
  have hlen : xs.length ≤ sizeLine := by rw [sizeLine_eq]; omega
  have hn : H p = none := I1.hok.fresh hp
  have J : Inv X pins σ (upd H p (.lst xs)) { s1 with heap := s'.heap, gens := s'.gens, drawn := s'.drawn, toks := s'.toks } :=
    I1.call (ch := []) (Un.laid k hp hn) (I1.hok.laid k hp ⟨hlen, out.toList, c, hv, hg⟩) (by rw [g]; exact I1.bare) (fun _ z => nomatch z)
  have e : s' = { s1 with heap := s'.heap, gens := s'.gens, drawn := s'.drawn, toks := s'.toks } := by
    cases s'
    cases s1
    cases o
    rfl
  rw [e]
  exact ⟨.ref p, _, J, rfl, q hn⟩
def rSortedT (P : Program) (w : World) : List V → Hp → VK → Prop := fun vs H Q => ∃ (b : Addr) (l : List Str), vs = [V.ref b] ∧ H b = some (StO P w b l) ∧ ∀ (ys : List Str) (p : Addr), ys.map PyData.str = sortD (l.map PyData.str) → H p = none → Q (.ref p) (upd H p (.lst (ys.map V.str)))
theorem cr_sortedT (hc : X.calm = true) (hu : X.A.units + 64 < cLine) : CallR X (.builtin "sorted") (rSortedT X.prog X.w) := by
  intro pins s σ H vs us Q I r h
  obtain ⟨b, l, rfl, hb, q⟩ := h
  obtain ⟨D, R⟩ := (show ∃ D, Tt X.prog X.w s.heap b l D from (I.hok b _ hb).1)
  rw [Vals.ref1 r]
  refine sorted_setT R (I.ok.hd hc) hu fun s1 s' p out c ys k0 g0 o0 k g o hp hg hv pd => ?_
  have hl := R.fw
  have : (ys.map V.str).length ≤ 1000 := by
    have := congrArg List.length pd
    rw [List.length_map, sortD_length, List.length_map] at this
    rw [List.length_map]
    omega
  exact col_endV I k0 g0 o0 k g o hp hg hv this fun hn => q ys p pd hn
end
theorem turn_set2 {elt tg it tg1 it1 : Expr} {ifs ifs1 : List Expr} {scope : Scope} {pos : Pos} {env : Env} {i acc : Value} : compTurn (.SetComp elt [⟨tg, it, ifs, 0⟩, ⟨tg1, it1, ifs1, 0⟩] scope pos) 0 i acc env =
    turnOf it.pos tg ifs i env (innerOf (.SetComp elt [⟨tg, it, ifs, 0⟩, ⟨tg1, it1, ifs1, 0⟩] scope pos) 1 it1 acc env) (.compLoop (.SetComp elt [⟨tg, it, ifs, 0⟩, ⟨tg1, it1, ifs1, 0⟩] scope pos) 0 i acc env) := by
  unfold turnOf innerOf
  simp only [bind_assoc, pure_bind]
  rfl
section
variable {X : Cx} {z : Cz} {pos : Pos} {α : Type} {S : Sk α X.K} {elt tg it tg1 it1 : Expr} {ifs ifs1 : List Expr} {scope : Scope} {own : List (Str × Nat)} {vs vs1 : List Nat} {mi mi1 : MA} {mt mt1 : MG} {mq mq1 : MT} {me : ME}
theorem pe_sc2 (a0 : α) (hob : ∀ (H : Hp) (h : Heap), ObjOk X.prog X.w H (h.push (setObj X.w)) h.objs.size (S.ob h.objs.size a0)) (hc : X.calm = true) (hN : X.N.Nodup) (hi : PI X tg it (iE z X.K mi)) (ok : BlkOk X.N X.env.scope scope own)
    (hg : ∀ (s : Shared) (H : Hp) (C : Addr) (cl : List (Str × Addr)) (fp : List Addr), PG (X.blk s H scope (compEnvC scope cl C X.env) fp) tg (tG z X.K vs mt)) (ht : ∀ (s : Shared) (H : Hp) (C : Addr) (cl : List (Str × Addr)) (fp : List Addr), PTs (X.blk s H scope (compEnvC scope cl C X.env) fp) ifs (tQ z X.K mq))
    (hi1 : ∀ (s : Shared) (H : Hp) (C : Addr) (cl : List (Str × Addr)) (fp : List Addr), PI (X.blk s H scope (compEnvC scope cl C X.env) fp) tg1 it1 (iD z X.K mi1))
    (hg1 : ∀ (s : Shared) (H : Hp) (C : Addr) (cl : List (Str × Addr)) (fp : List Addr), PG (X.blk s H scope (compEnvC scope cl C X.env) fp) tg1 (tG z X.K vs1 mt1)) (ht1 : ∀ (s : Shared) (H : Hp) (C : Addr) (cl : List (Str × Addr)) (fp : List Addr), PTs (X.blk s H scope (compEnvC scope cl C X.env) fp) ifs1 (tQ z X.K mq1))
    (he : ∀ (s : Shared) (H : Hp) (C : Addr) (cl : List (Str × Addr)) (fp : List Addr) (D : Addr), BodyOk (X.blk s H scope (compEnvC scope cl C X.env) fp) vs1 (emitS elt (.ref D) (compEnvC scope cl C X.env)) (btE S z me D))
    (ho : own.map (·.2) = vs) (hv : ∀ i ∈ vs1, i ∈ vs) (hs : ∀ x, foldedSetIterable it X.env x = pure x) (hs1 : ∀ env x, foldedSetIterable it1 env x = pure x) :
    PE X (.SetComp elt [⟨tg, it, ifs, 0⟩, ⟨tg1, it1, ifs1, 0⟩] scope pos) (tComp (fun D => S.ob D a0) (iE z X.K mi) (tG z X.K vs mt) (tQ z X.K mq) (fun D => btIn (iD z X.K mi1) (tG z X.K vs1 mt1) (tQ z X.K mq1) (btE S z me D) vs1) vs) := by
  subst ho
  refine pe_comp (ob := setObj X.w) (newAcc := newSet (.type "set")) hc hN hi ok (PpSet.eval_SetComp _ _ _ _) rfl (fun s Q E h => PpSet.newSet_ok h) hob hg ht (fun s H C cl fp D => ?_) (fun _ _ _ => codeOk_set) hs
  refine ⟨innerOf (.SetComp elt [⟨tg, it, ifs, 0⟩, ⟨tg1, it1, ifs1, 0⟩] scope pos) 1 it1 (.ref D) (compEnvC scope cl C X.env), it.pos, ?_, fun i => ?_⟩
  · exact bodyIn (Y := X.blk s H scope (compEnvC scope cl C X.env) fp) (p := it1.pos) hc rfl (hi1 s H C cl fp) (hg1 s H C cl fp) (ht1 s H C cl fp) (he s H C cl fp D) (fun _ => codeOk_set) hv rfl (fun _ => by rfl) (hs1 _)
  · exact turn_set2
/-! ### the mirrors -/
def mLc2 (vs : List Nat) (mi : MA) (mt : MG) (mq : MT) (vs1 : List Nat) (mi1 : MA) (mt1 : MG) (mq1 : MT) (me : ME) : MA := fun en T => (mi en T).bind fun p => mLoop2 mt mq vs1 mi1 mt1 mq1 me (wipeE en vs) p.1 p.2
def ddS : List Str → List Str
  | [] => []
  | k :: ks => if k ∈ ks then ddS ks else k :: ddS ks
theorem mem_ddS {x : Str} : ∀ {ks : List Str}, x ∈ ddS ks ↔ x ∈ ks
  | [] => by simp [ddS]
  | k :: ks => by
    unfold ddS
    split
    · rename_i h
      rw [mem_ddS, List.mem_cons]
      exact ⟨.inr, fun e => e.elim (fun e => by rw [e]; exact h) id⟩
    · rw [List.mem_cons, List.mem_cons, mem_ddS]
theorem nd_ddS : ∀ {ks : List Str}, (ddS ks).Nodup
  | [] => List.nodup_nil
  | k :: ks => by
    unfold ddS
    split
    · exact nd_ddS
    · rename_i h
      exact List.nodup_cons.mpr ⟨fun q => h (mem_ddS.mp q), nd_ddS⟩
def gSortTx (ds : List PyData) : Option (List PyData) := match strsOf ds with
  | some ys => if ds.length < 64 then some (sortD ((ddS ys).map PyData.str)) else none
  | none => none
def mSrtT (m : MA) : MA := fun en T => (m en T).bind fun p => (gSortTx p.1).map fun es => (es, p.2)
def mSrtN (m : MA) : MA := fun en T => (m en T).bind fun p => (gSortSet p.1).map fun es => (es, p.2)
theorem strs_map : ∀ {ds : List PyData} {ys : List Str}, strsOf ds = some ys → ds = ys.map PyData.str
  | [], _, e => by cases e; rfl
  | .str b :: r, ys, e => by
    simp only [strsOf] at e
    cases q : strsOf r with
    | none => rw [q] at e; cases e
    | some l => rw [q] at e; cases e; rw [List.map_cons, strs_map q]
  | .none :: r, _, e => by cases e
  | .bool _ :: r, _, e => by cases e
  | .int _ :: r, _, e => by cases e
  | .list _ :: r, _, e => by cases e
  | .tuple _ :: r, _, e => by cases e
  | .dict _ :: r, _, e => by cases e
theorem rp_strs {K : PySem.W.Frag} {F : Hp} : ∀ ys : List Str, RpAll K F (ys.map V.str) (ys.map PyData.str)
  | [] => .nil
  | y :: ys => .cons (.str y) (rp_strs ys)
theorem str_alike (ys : List Str) : AllAlike (ys.map PyData.str) := fun d hd e he => by
  obtain ⟨k, _, rfl⟩ := List.mem_map.mp hd
  obtain ⟨k', _, rfl⟩ := List.mem_map.mp he
  simp [alike]
/-- what is laid last is new at the start too -/
theorem none_back {z : Cz} {F H F1 H1 : Hp} {T : Dk} {p : Addr} (n : Nxt z F H F1 H1) (B : Bs z F1 H1 T) (h : H1 p = none) : H p = none := by
  cases q : H p with
  | none => rfl
  | some o =>
    have := n.st p o q (B.h0 h).1
    rw [h] at this
    cases this
theorem f_sc2T {p1 p4 : Pos} (hu : X.A.units + 64 < cLine) (gs : Gl X "sorted") (ms : X.mg "sorted" = none) (hc : X.calm = true) (hN : X.N.Nodup) (hi : PI X tg it (iE z X.K mi)) (ok : BlkOk X.N X.env.scope scope own)
    (hg : ∀ (s : Shared) (H : Hp) (C : Addr) (cl : List (Str × Addr)) (fp : List Addr), PG (X.blk s H scope (compEnvC scope cl C X.env) fp) tg (tG z X.K vs mt)) (ht : ∀ (s : Shared) (H : Hp) (C : Addr) (cl : List (Str × Addr)) (fp : List Addr), PTs (X.blk s H scope (compEnvC scope cl C X.env) fp) ifs (tQ z X.K mq))
    (hi1 : ∀ (s : Shared) (H : Hp) (C : Addr) (cl : List (Str × Addr)) (fp : List Addr), PI (X.blk s H scope (compEnvC scope cl C X.env) fp) tg1 it1 (iD z X.K mi1))
    (hg1 : ∀ (s : Shared) (H : Hp) (C : Addr) (cl : List (Str × Addr)) (fp : List Addr), PG (X.blk s H scope (compEnvC scope cl C X.env) fp) tg1 (tG z X.K vs1 mt1)) (ht1 : ∀ (s : Shared) (H : Hp) (C : Addr) (cl : List (Str × Addr)) (fp : List Addr), PTs (X.blk s H scope (compEnvC scope cl C X.env) fp) ifs1 (tQ z X.K mq1))
    (he : ∀ (s : Shared) (H : Hp) (C : Addr) (cl : List (Str × Addr)) (fp : List Addr), PE (X.blk s H scope (compEnvC scope cl C X.env) fp) elt (tD z X.K me))
    (ho : own.map (·.2) = vs := by rfl) (hv : ∀ i ∈ vs1, i ∈ vs := by decide) (hs : ∀ x, foldedSetIterable it X.env x = pure x := by intro _; rfl) (hs1 : ∀ env x, foldedSetIterable it1 env x = pure x := by intro _ _; rfl)
    (e1 : starEach [Expr.SetComp elt [⟨tg, it, ifs, 0⟩, ⟨tg1, it1, ifs1, 0⟩] scope pos] X.env = (false, eval (.SetComp elt [⟨tg, it, ifs, 0⟩, ⟨tg1, it1, ifs1, 0⟩] scope pos) X.env) :: starEach [] X.env := by rfl) :
    PE X (.Call (.Name "sorted" p1) [.SetComp elt [⟨tg, it, ifs, 0⟩, ⟨tg1, it1, ifs1, 0⟩] scope pos] [] p4) (tF z X.K (mSrtT (mLc2 vs mi mt mq vs1 mi1 mt1 mq1 me))) :=
  pe_to (pe_callB (cr_sortedT hc hu) gs ms (by decide +kernel) (pa_cons (pe_sc2 (S := skT X.prog X.w X.K) [] (fun H h => stO_new (tt_new (Heap.get?_push_size _ rfl))) hc hN hi ok hg ht hi1 hg1 ht1 (fun s H C cl fp D => emitT rfl (he s H C cl fp)) ho hv hs hs1) pa_nil e1) (by decide) (by decide) e1 rfl) fun σ H Q h => by
    obtain ⟨F, en, T, ds0, T', ok, e, k⟩ := h
    unfold mSrtT mLc2 at e
    cases h1 : mi en T with
    | none => rw [h1] at e; cases e
    | some r =>
      obtain ⟨ds, T1⟩ := r
      rw [h1] at e
      simp only [Option.bind_some] at e
      cases h2 : mLoop2 mt mq vs1 mi1 mt1 mq1 me (wipeE en vs) ds T1 with
      | none => rw [h2] at e; cases e
      | some r2 =>
        obtain ⟨fin, Te⟩ := r2
        rw [h2] at e
        simp only [Option.bind_some] at e
        unfold gSortTx at e
        cases h3 : strsOf fin with
        | none => rw [h3] at e; cases e
        | some ys =>
          rw [h3] at e
          simp only at e
          split at e
          · rename_i hl
            cases e
            have ef := strs_map h3
            refine ⟨F, en, T, ds, T1, ok, h1, fun F1 H1 J B1 n1 wk => fun D hD => ?_⟩
            obtain ⟨BD, nD, fD, h0D⟩ := B1.put (o := StO X.prog X.w D []) hD
            refine goesOut (S := skT X.prog X.w X.K) (Hb := H1) h0D hD (ok.nxt n1 B1) nD ⟨BD, fD, [], upd_same, ⟨[], rfl, List.nodup_nil, by simp, Nat.le_refl _⟩⟩ (fun F' H' T' n B => n.st.cut.trans (cut_same z H')) wk h2 (fun pre d post e => ?_) fun F2 H2 I2 n2 => ?_
            · refine ⟨?_, ?_⟩
              · rw [← e, List.length_append] at hl; omega
              · have : d ∈ fin := by rw [← e]; simp
                rw [ef] at this
                obtain ⟨k, _, rfl⟩ := List.mem_map.mp this
                exact ⟨k, rfl⟩
            · obtain ⟨l, hl2, ys', e', nd, hm, _⟩ := I2.at_
              have ey : ys' = ys := by
                rw [ef] at e'
                have inj : ∀ a b : List Str, a.map PyData.str = b.map PyData.str → a = b := fun a => by
                  induction a with
                  | nil => intro b h; cases b with | nil => rfl | cons _ _ => cases h
                  | cons x a ih =>
                    intro b h
                    cases b with
                    | nil => cases h
                    | cons y b =>
                      simp only [List.map_cons, List.cons.injEq, PyData.str.injEq] at h
                      rw [h.1, ih b h.2]
                exact inj _ _ e'.symm
              subst ey
              refine ⟨D, l, rfl, hl2, fun zs p pz hp => ?_⟩
              obtain ⟨B3, n3, f3, z3⟩ := I2.b.put (o := .lst (zs.map V.str)) hp
              have pk : (l.map PyData.str).Perm ((ddS ys').map PyData.str) := ((List.perm_ext_iff_of_nodup nd nd_ddS).mpr fun k => by rw [mem_ddS]; exact hm k).map _
              have e3 : sortD ((ddS ys').map PyData.str) = zs.map PyData.str := by rw [pz]; exact (sortD_perm (str_alike l) pk).symm
              rw [e3] at k
              exact k F2 _ p _ B3 (n1.trans (n2.trans n3 B3) B3) (none_back (n1.trans n2 I2.b) I2.b hp) upd_same f3 z3 (rp_strs zs)
          · cases e
end
end LQ

set_option Elab.async false
set_option linter.all false
set_option maxRecDepth 100000
set_option maxHeartbeats 4000000
/-! sorted({.. for .. for ..}) of tuples; sorted(set(texts)); xs[::-1] -/
namespace LQ
open PySem PySem.Spec PyProof.Rows L2
open PySem.W (alike AllAlike Sortable)
open PySem.Froz (SD)
theorem nks_mem : ∀ {ds : List PyData} {ks : List NestedKey}, nks ds = some ks → ∀ d ∈ ds, ∃ k ∈ ks, nk d = some k
  | [], _, _, d, hd => by cases hd
  | x :: ds, ks, e, d, hd => by
    simp only [nks] at e
    cases e1 : nk x with
    | none => rw [e1] at e; cases e
    | some q =>
      cases e2 : nks ds with
      | none => rw [e1, e2] at e; cases e
      | some l =>
        rw [e1, e2] at e
        cases e
        rcases List.mem_cons.mp hd with rfl | hd
        · exact ⟨q, List.mem_cons_self, e1⟩
        · obtain ⟨k, hk, e3⟩ := nks_mem e2 d hd
          exact ⟨k, List.mem_cons_of_mem _ hk, e3⟩
theorem nks_back : ∀ {ds : List PyData} {ks : List NestedKey}, nks ds = some ks → ∀ k ∈ ks, k.data ∈ ds
  | [], _, e, k, hk => by cases e; cases hk
  | x :: ds, ks, e, k, hk => by
    simp only [nks] at e
    cases e1 : nk x with
    | none => rw [e1] at e; cases e
    | some q =>
      cases e2 : nks ds with
      | none => rw [e1, e2] at e; cases e
      | some l =>
        rw [e1, e2] at e
        cases e
        rcases List.mem_cons.mp hk with rfl | hk
        · rw [nk_data _ _ e1]; exact List.mem_cons_self
        · exact List.mem_cons_of_mem _ (nks_back e2 k hk)
section
variable {X : Cx} {z : Cz} {pos : Pos} {elt tg it tg1 it1 : Expr} {ifs ifs1 : List Expr} {scope : Scope} {own : List (Str × Nat)} {vs vs1 : List Nat} {mi mi1 : MA} {mt mt1 : MG} {mq mq1 : MT} {me : ME}
theorem f_sc2N {p1 p4 : Pos} (hu : X.A.units + 64 < cLine) (gs : Gl X "sorted") (ms : X.mg "sorted" = none) (hc : X.calm = true) (hN : X.N.Nodup) (hi : PI X tg it (iE z X.K mi)) (ok : BlkOk X.N X.env.scope scope own)
    (hg : ∀ (s : Shared) (H : Hp) (C : Addr) (cl : List (Str × Addr)) (fp : List Addr), PG (X.blk s H scope (compEnvC scope cl C X.env) fp) tg (tG z X.K vs mt)) (ht : ∀ (s : Shared) (H : Hp) (C : Addr) (cl : List (Str × Addr)) (fp : List Addr), PTs (X.blk s H scope (compEnvC scope cl C X.env) fp) ifs (tQ z X.K mq))
    (hi1 : ∀ (s : Shared) (H : Hp) (C : Addr) (cl : List (Str × Addr)) (fp : List Addr), PI (X.blk s H scope (compEnvC scope cl C X.env) fp) tg1 it1 (iD z X.K mi1))
    (hg1 : ∀ (s : Shared) (H : Hp) (C : Addr) (cl : List (Str × Addr)) (fp : List Addr), PG (X.blk s H scope (compEnvC scope cl C X.env) fp) tg1 (tG z X.K vs1 mt1)) (ht1 : ∀ (s : Shared) (H : Hp) (C : Addr) (cl : List (Str × Addr)) (fp : List Addr), PTs (X.blk s H scope (compEnvC scope cl C X.env) fp) ifs1 (tQ z X.K mq1))
    (he : ∀ (s : Shared) (H : Hp) (C : Addr) (cl : List (Str × Addr)) (fp : List Addr), PE (X.blk s H scope (compEnvC scope cl C X.env) fp) elt (tD z X.K me))
    (ho : own.map (·.2) = vs := by rfl) (hv : ∀ i ∈ vs1, i ∈ vs := by decide) (hs : ∀ x, foldedSetIterable it X.env x = pure x := by intro _; rfl) (hs1 : ∀ env x, foldedSetIterable it1 env x = pure x := by intro _ _; rfl)
    (e1 : starEach [Expr.SetComp elt [⟨tg, it, ifs, 0⟩, ⟨tg1, it1, ifs1, 0⟩] scope pos] X.env = (false, eval (.SetComp elt [⟨tg, it, ifs, 0⟩, ⟨tg1, it1, ifs1, 0⟩] scope pos) X.env) :: starEach [] X.env := by rfl) :
    PE X (.Call (.Name "sorted" p1) [.SetComp elt [⟨tg, it, ifs, 0⟩, ⟨tg1, it1, ifs1, 0⟩] scope pos] [] p4) (tF z X.K (mSrtN (mLc2 vs mi mt mq vs1 mi1 mt1 mq1 me))) :=
  pe_to (pe_callB (cr_sortedN hc hu) gs ms (by decide +kernel) (pa_cons (pe_sc2 (S := skN X.prog X.w X.K) [] (fun H h => setN_new (sd_new (Heap.get?_push_size _ rfl))) hc hN hi ok hg ht hi1 hg1 ht1 (fun s H C cl fp D => emitN rfl hu (he s H C cl fp)) ho hv hs hs1) pa_nil e1) (by decide) (by decide) e1 rfl) fun σ H Q h => by
    obtain ⟨F, en, T, ds0, T', ok, e, k⟩ := h
    unfold mSrtN mLc2 at e
    cases h1 : mi en T with
    | none => rw [h1] at e; cases e
    | some r =>
      obtain ⟨ds, T1⟩ := r
      rw [h1] at e
      simp only [Option.bind_some] at e
      cases h2 : mLoop2 mt mq vs1 mi1 mt1 mq1 me (wipeE en vs) ds T1 with
      | none => rw [h2] at e; cases e
      | some r2 =>
        obtain ⟨fin, Te⟩ := r2
        rw [h2] at e
        simp only [Option.bind_some] at e
        unfold gSortSet at e
        cases h3 : nks fin with
        | none => rw [h3] at e; cases e
        | some ks =>
          rw [h3] at e
          simp only at e
          split at e
          · rename_i cs
            cases e
            obtain ⟨cs, cd⟩ := cs
            simp only [canSort, Bool.and_eq_true, decide_eq_true_eq] at cs
            obtain ⟨⟨⟨c1, c2⟩, c3⟩, c4⟩ := cs
            refine ⟨F, en, T, ds, T1, ok, h1, fun F1 H1 J B1 n1 wk => fun D hD => ?_⟩
            obtain ⟨BD, nD, fD, h0D⟩ := B1.put (o := SetNO X.prog X.w D []) hD
            refine goesOut (S := skN X.prog X.w X.K) (Hb := H1) h0D hD (ok.nxt n1 B1) nD ⟨BD, fD, [], upd_same, ⟨(fun p hp => by cases hp), List.nodup_nil, Nat.le_refl _, [], rfl, by simp⟩⟩ (fun F' H' T' n B => n.st.cut.trans (cut_same z H')) wk h2 (fun pre d post e => ?_) fun F2 H2 I2 n2 => ?_
            · have hm : d ∈ fin := by rw [← e]; simp
              obtain ⟨q, hq, e4⟩ := nks_mem h3 d hm
              refine ⟨?_, List.all_eq_true.mp c2 d hm, q, e4, by simpa using List.all_eq_true.mp cd q hq⟩
              rw [← e, List.length_append] at c1; omega
            · obtain ⟨L, hL, kl, nd, hlen, ks', e', hm⟩ := I2.at_
              rw [h3] at e'
              cases e'
              have inD : ∀ d ∈ L.map kdOf, d ∈ fin := fun d hd => by
                obtain ⟨p, hp, rfl⟩ := List.mem_map.mp hd
                exact nks_back h3 p.1 ((hm p.1).mp (List.mem_map.mpr ⟨p, hp, rfl⟩))
              have al : AllAlike (L.map kdOf) := fun d hd d' hd' => List.all_eq_true.mp (List.all_eq_true.mp c3 d (inD d hd)) d' (inD d' hd')
              refine ⟨D, L, rfl, hL, fun p h => kat_mono I2.b.fh (kl p h), al, .inl fun d hd => ?_, fun p h => ?_, fun L' p pm pd hp => ?_⟩
              · have := List.all_eq_true.mp c2 d (inD d hd)
                match d, this with
                | .tuple (x :: r), _ => exact ⟨x, r, rfl⟩
              · have := List.all_eq_true.mp c4 (kdOf p) (inD _ (List.mem_map.mpr ⟨p, h, rfl⟩))
                simpa using this
              · obtain ⟨B3, n3, f3, z3⟩ := I2.b.put (o := .lst (L'.map fun q => V.ref q.2)) hp
                have e3 : sortD ((ddK ks).map NestedKey.data) = L'.map kdOf := by
                  rw [pd]
                  have pk : (L.map (·.1)).Perm (ddK ks) := (List.perm_ext_iff_of_nodup nd nd_ddK).mpr fun k => by rw [mem_ddK]; exact hm k
                  have pk2 := pk.map NestedKey.data
                  rw [List.map_map] at pk2
                  exact (sortD_perm al pk2).symm
                rw [e3] at k
                exact k F2 _ p _ B3 (n1.trans (n2.trans n3 B3) B3) (none_back (n1.trans n2 I2.b) I2.b hp) upd_same f3 z3 (rp_of_kat fun q hq => kl q (pm.mem_iff.mp hq))
          · cases e
end
/-! ### sorted(set(texts)) -/
structure GotT (ys : List Str) (i : Nat) (l : List Str) : Prop where
  nd : l.Nodup
  mem : ∀ k, k ∈ l ↔ k ∈ ys.take i
  few : l.length ≤ i
theorem call_setTx {P : Program} {w : World} {A : Around} {E : Value → Shared → Prop} {s : Shared} {b : Addr} (ys : List Str) {its : List Value} {Q : Value → Shared → Prop} (hh : A.handled = none) (hl : s.heap.IsList b its.toArray) (hv : Vals (ys.map V.str) its) (hf : ys.length < 64)
    (q : ∀ h' tk l D, (∀ b o, s.heap.get? b = some o → h'.get? b = some o) → Tt P w h' s.heap.objs.size l D → GotT ys ys.length l → Q (.ref s.heap.objs.size) { s with heap := h', toks := tk }) :
    wpAny (model P w) A (call (.type "set") [.ref b]) Q E s := by
  have hlen : its.length = ys.length := by
    have := hv.length
    rw [List.length_map] at this
    exact this.symm
  refine call_setL hh hl (fun i s1 => (∀ b o, s.heap.get? b = some o → s1.heap.get? b = some o) ∧ ∃ l D, Tt P w s1.heap s.heap.objs.size l D ∧ GotT ys i l) ?_ ?_ ?_ ?_
  · exact fun h h1 h2 => ⟨h2, [], _, tt_new h1, ⟨List.nodup_nil, fun k => by simp, Nat.le_refl _⟩⟩
  · rintro i s1 s2 k ⟨k1, l, D, R, G⟩
    exact ⟨fun b o e => k b o (Nat.ne_of_lt (Nat.lt_succ_of_lt (Heap.lt_size e))) (k1 b o e), l, D, R.keep fun o e => k _ o (Nat.ne_of_lt (Nat.lt_succ_self _)) e, G⟩
  · intro i v hv' s1 Q1 E1 j q1
    obtain ⟨k1, l, D, R, G⟩ := j
    have hi' : its[i]? = some v := by simpa using hv'
    have il : i < ys.length := by
      have := (List.getElem?_eq_some_iff.mp hi').1
      omega
    have hvs : ∀ (us : List Value) (zs : List Str) (i : Nat) (v : Value), Vals (zs.map V.str) us → us[i]? = some v → ∃ k t, zs[i]? = some k ∧ v = .str k t := fun us zs => by
      induction zs generalizing us with
      | nil => intro i v h e; cases h; simp at e
      | cons y zs ih =>
        intro i v h e
        cases h with
        | cons h1 h2 =>
          cases i with
          | zero =>
            obtain ⟨t, rfl⟩ := h1
            simp at e
            exact ⟨y, t, rfl, e.symm⟩
          | succ i => exact ih _ i v h2 (by simpa using e)
    obtain ⟨k, t, hk, rfl⟩ := hvs its ys i v hv hi'
    have tn : ys.take (i + 1) = ys.take i ++ [k] := by rw [List.take_add_one, hk]; rfl
    refine setAddT R (by have := G.few; omega) fun b h' l' D' sb R' e => ?_
    refine q1 b h' _ (Nat.le_succ _) sb ⟨fun c o eo => (sb.2 c (Nat.ne_of_lt (Heap.lt_size eo))).trans (k1 c o eo), l', D', R', ?_⟩
    subst e
    by_cases hm : k ∈ l
    · rw [if_pos hm]
      refine ⟨G.nd, fun j => ?_, by have := G.few; omega⟩
      rw [tn, List.mem_append, List.mem_singleton, ← G.mem j]
      exact ⟨.inl, fun e => e.elim id fun e => by rw [e]; exact hm⟩
    · rw [if_neg hm]
      refine ⟨List.nodup_cons.mpr ⟨hm, G.nd⟩, fun j => ?_, by have := G.few; simp; omega⟩
      rw [tn, List.mem_append, List.mem_singleton, ← G.mem j, List.mem_cons]
      exact Or.comm
  · rintro h' tk ⟨k1, l, D, R, G⟩
    refine q h' tk l D k1 R ?_
    have e : its.toArray.size = ys.length := by rw [List.size_toArray]; exact hlen
    rw [e] at G
    exact G
section
variable {X : Cx} {z : Cz} {a : Expr} {m : ME} {pos : Pos}
def rSetTx (K : PySem.W.Frag) (P : Program) (w : World) : List V → Hp → VK → Prop := fun xs H Q => ∃ (b : Addr) (ys : List Str), xs = [V.ref b] ∧ SqL K H b (ys.map V.str) ∧ ys.length < 64 ∧ ∀ c l, H c = none → GotT ys ys.length l → Q (.ref c) (upd H c (StO P w c l))
theorem cr_setTx (hc : X.calm = true) : CallR X (.type "set") (rSetTx X.K X.prog X.w) := by
  intro pins s σ H xs us Q I r h
  obtain ⟨b, ys, rfl, hl, hf, q⟩ := h
  rw [Vals.ref1 r]
  obtain ⟨its, rv, pl, hz⟩ := I.list hl
  have hn : H s.heap.objs.size = none := I.hok.fresh (Nat.le_refl _)
  refine call_setTx (P := X.prog) (w := X.w) ys (I.ok.hd hc) pl.isList rv hf fun h' tk l D k R g => ?_
  exact ⟨.ref s.heap.objs.size, upd H s.heap.objs.size (StO X.prog X.w s.heap.objs.size l), I.laid (t' := tk) k (Nat.le_refl _) (stO_new R), rfl, q _ l hn g⟩
def mSortTx (m : ME) : MA := fun en T => (m en T).bind fun p => match p.1 with
  | .list ds => (gSortTx ds).map fun es => (es, p.2)
  | _ => none
theorem f_sortTx {p1 p2 p3 p4 : Pos} (hc : X.calm = true) (hu : X.A.units + 64 < cLine) (gs : Gl X "sorted") (ms : X.mg "sorted" = none) (gt : Gl X "set") (mt : X.mg "set" = none) (ha : PE X a (tE z X.K m))
    (e1 : starEach [a] X.env = (false, eval a X.env) :: starEach [] X.env := by rfl)
    (e2 : starEach [Expr.Call (.Name "set" p2) [a] [] p3] X.env = (false, eval (.Call (.Name "set" p2) [a] [] p3) X.env) :: starEach [] X.env := by rfl) :
    PE X (.Call (.Name "sorted" p1) [.Call (.Name "set" p2) [a] [] p3] [] p4) (tF z X.K (mSortTx m)) :=
  pe_to (pe_callB (cr_sortedT hc hu) gs ms (by decide +kernel) (pa_cons (pe_callTy (cr_setTx hc) gt mt (by decide +kernel) (pa_cons ha pa_nil e1) (by decide) (by decide) e1 rfl) pa_nil e2) (by decide) (by decide) e2 rfl) fun σ H Q h => by
    obtain ⟨F, en, T, ds0, T', ok, e, k⟩ := h
    unfold mSortTx at e
    cases h1 : m en T with
    | none => rw [h1] at e; cases e
    | some r =>
      obtain ⟨d1, T1⟩ := r
      rw [h1] at e
      simp only [Option.bind_some] at e
      refine ⟨F, en, T, d1, T1, ok, h1, fun F1 H1 v B1 n1 q1 => ?_⟩
      split at e
      · rename_i ds
        unfold gSortTx at e
        cases h2 : strsOf ds with
        | none => rw [h2] at e; cases e
        | some ys =>
          rw [h2] at e
          simp only at e
          split at e
          · rename_i hl
            cases e
            obtain ⟨b, xs, rfl, hs, hx⟩ := q1
            have ex := strsOf_dp hx h2
            subst ex
            have ef := strs_map h2
            refine ⟨b, ys, rfl, (cut_same z H1).seq hs, by rw [ef, List.length_map] at hl; exact hl, fun c l hc g => ?_⟩
            obtain ⟨B2, n2, f2, z2⟩ := B1.put (o := StO X.prog X.w c l) hc
            refine ⟨c, l, rfl, upd_same, fun zs p pz hp => ?_⟩
            obtain ⟨B3, n3, f3, z3⟩ := B2.put (o := .lst (zs.map V.str)) hp
            have pk : (l.map PyData.str).Perm ((ddS ys).map PyData.str) := ((List.perm_ext_iff_of_nodup g.nd nd_ddS).mpr fun k => by rw [mem_ddS, g.mem k, List.take_length]).map _
            have e3 : sortD ((ddS ys).map PyData.str) = zs.map PyData.str := by rw [pz]; exact (sortD_perm (str_alike l) pk).symm
            rw [e3] at k
            exact k F1 _ p _ B3 (n1.trans (n2.trans n3 B3) B3) (none_back (n1.trans n2 B2) B2 hp) upd_same f3 z3 (rp_strs zs)
          · cases e
      · cases e
end
end LQ

set_option Elab.async false
set_option linter.all false
set_option maxRecDepth 100000
set_option maxHeartbeats 4000000
/-! xs[::-1] of a list; a target among more names -/
namespace LQ
open PySem PySem.Spec PyProof.Rows L2
section
variable {X : Cx} {z : Cz} {a tg : Expr} {m : ME} {pos : Pos}
theorem g_up {us vs : List Nat} {g : MG} (h : PG X tg (tG z X.K us g)) (hs : ∀ i ∈ us, i ∈ vs := by decide) : PG X tg (tG z X.K vs g) := pg_to h fun v σ H Q q => by
  obtain ⟨F, en, T, d, en', ok, p, e, k⟩ := q
  exact ⟨F, en, T, d, en', ok, p, e, fun σ' ok' out => k σ' ok' ⟨out.1, fun j hj => out.2 j fun q => hj (hs j q)⟩⟩
def mRevL (m : ME) : MA := fun en T => (m en T).bind fun p => match p.1 with
  | .list ds => some (ds.reverse, p.2)
  | _ => none
theorem f_revL {k : Nat} {p1 p2 p3 : Pos} (ha : PE X a (tE z X.K m)) : PE X (.Subscript a (.Slice none none (some (.UnaryOp .USub (.Constant (.int 1) k p1) p2)) p3) pos) (tF z X.K (mRevL m)) := pe_to (pe_revL ha) fun σ H Q q => by
  obtain ⟨F, en, T, d, T', ok, e, k⟩ := q
  unfold mRevL at e
  cases h1 : m en T with
  | none => rw [h1] at e; cases e
  | some p =>
    obtain ⟨ds, T1⟩ := p
    rw [h1] at e
    simp only [Option.bind_some] at e
    split at e
    · cases e
      refine ⟨F, en, T, _, _, ok, h1, fun F1 H1 v B1 n1 p1 => ?_⟩
      obtain ⟨b, xs, rfl, hs, hx⟩ := p1
      refine ⟨b, xs, rfl, (cut_same z H1).seq hs, fun q hq => ?_⟩
      obtain ⟨B2, n2, f2, z2⟩ := B1.put (o := .lst xs.reverse) hq
      exact k F1 _ q _ B2 (n1.trans n2 B2) (none_back n1 B1 hq) upd_same f2 z2 (dpAll_rev hx)
    · cases e
end
end LQ

set_option Elab.async false
set_option linter.all false
set_option maxRecDepth 100000
set_option maxHeartbeats 4000000
/-! the mirrors of what many laws have alike: ways, rules drawn -/
namespace LQ
open PySem PySem.Spec PyProof.Rows L2
def VB_other_way : MS := (mRet (mTup (mCons (mBin ixD (mVar 0) (mC (PyData.int (0)))) (mCons (mBin gSub (mC (PyData.int (1))) (mBin ixD (mVar 0) (mC (PyData.int (1))))) mNil))))
def V_other_way : MF := mFun 1 VB_other_way
def VB_landing : MS := (mSeq (mAsg (mVar 0) (gtTup 3 (gtCons (gtName 4) (gtCons (gtName 5) (gtCons (gtName 6) gtNil)))))
  (mSeq (mIf (mQ (mBin (gIn true) (mVar 4) (mCst 1))) (mRet (mC .none)) mNext)
  (mSeq (mIf (mQ (mBin gEq (mVar 2) (mC (PyData.int (1))))) (mSeq (mIf (mQ (mBin gEq (mVar 4) (mC (PyData.str "within")))) (mRet (mC .none)) mNext)
  (mPar 5 6 (mCons (mCf V_other_way (mAd (mVar 5) mN0)) (mCons (mCf V_other_way (mAd (mVar 6) mN0)) mNil)))) mNext)
  (mRet (mIfx (mQ (mBin gEq (mVar 5) (mVar 3))) (mVar 6) (mC .none))))))
def V_landing : MF := mFun 7 VB_landing
def VB_steps_at : MS := (mSeq (mSetF 3 (mLst mNil))
  (mSeq (mFor (mEnT (mVar 0)) (gtTup 2 (gtCons (gtName 4) (gtCons (gtName 5) gtNil))) (mFor (mIt (mTup (mCons (mC (PyData.int (0))) (mCons (mC (PyData.int (1))) mNil)))) (gtName 6) (mSeq (mSet 7 (mCf V_landing (mAd (mVar 5) (mAc (mCst 1) (mAd (mVar 6) (mAd (mVar 2) mN0))))))
  (mIf (mQ (mBin (gIsN true) (mVar 7) (mC .none))) (mApp 3 (mTup (mCons (mTup (mCons (mVar 4) (mCons (mVar 6) mNil))) (mCons (mVar 7) mNil)))) mNext))))
  (mRetV 3)))
def V_steps_at : MF := mFun 8 VB_steps_at
def VB_fewest : MS := (mSeq (mNewD1 3 (mVar 2) (mTup mNil))
  (mSeq (mSetF 4 (mLst (mCons (mVar 2) mNil)))
  (mSeq (fun en T => mWhile (mTru (mVarB 4)) (mSeq (mPop 4 (mC (PyData.int (0))) (gtName 5))
  (mFor (mIt (mCf V_steps_at (mAd (mVar 0) (mAc (mCst 1) (mAd (mVar 5) mN0))))) (gtTup 2 (gtCons (gtName 6) (gtCons (gtName 7) gtNil))) (mIf (mQ (mInD true 3 (mVar 7))) (mSeq (mPutD 3 (mVar 7) (mBin gCatT (mGetD 3 (mVar 5)) (mTup (mCons (mVar 6) mNil))))
  (mApp 4 (mVar 7))) mNext))) ((fun en T => 100) en T) en T)
  (mRetD 3))))
def V_fewest : MF := mFun 8 VB_fewest
def VB_ways_from : MS := (mRet (mCf V_fewest (mAd (mVar 0) (mAc (mC (PyData.tuple [(PyData.str "within"), (PyData.str "along")])) (mAd (mVar 1) mN0)))))
def V_ways_from : MF := mFun 2 VB_ways_from
def VB_turn_ways_from : MS := (mRet (mCf V_fewest (mAd (mVar 0) (mAc (mC (PyData.tuple [(PyData.str "along")])) (mAd (mVar 1) mN0)))))
def V_turn_ways_from : MF := mFun 2 VB_turn_ways_from
def VB__law_names : MS := (mSeq (mSet 2 (mC (PyData.str "abcdefghijklmnopqrstuvwxyz")))
  (mSeq (mSet 3 (mCf X__law_take (mAk 0 (mAd (mC (PyData.int (26))) mN0))))
  (mSeq (mSet 4 (mBin ixD (mL (mLst (mCons (mC (PyData.int (1))) (mCons (mC (PyData.int (3))) (mCons (mC (PyData.int (5))) (mCons (mC (PyData.int (7))) mNil)))))) (mCf X__law_take (mAk 0 (mAd (mC (PyData.int (4))) mN0)))))
  (mSeq (mSet 5 (mBin gEq (mCf X__law_take (mAk 0 (mAd (mC (PyData.int (2))) mN0))) (mC (PyData.int (0)))))
  (mSeq (mSet 6 (mJoin (mC (PyData.str "")) (mL (mLc [9] (mRng1 (mCf X__law_take (mAk 0 (mAd (mC (PyData.int (8))) mN0)))) (gtName 9) mYes (mBin ixD (mVar 2) (mCf X__law_take (mAk 0 (mAd (mC (PyData.int (26))) mN0))))))))
  (mSeq (mSet 7 (mCf X__law_take (mAk 0 (mAd (mBin gAdd (mCall gLen (mCons (mVar 6) mNil)) (mC (PyData.int (1)))) mN0))))
  (mSeq (mSetF 8 (mLst mNil))
  (mSeq (mFor (mRng1 (mVar 1)) (gtName 9) (mSeq (mSet 10 (mBin ixD (mVar 2) (mBin gMod (mBin gAdd (mVar 3) (mBin gMul (mVar 4) (mVar 9))) (mC (PyData.int (26))))))
  (mSeq (mSet 11 (mBin gAddS (mBin gAddS (mSl gSlS (mVar 6) mP0 (mP (mVar 7))) (mVar 10)) (mSl gSlS (mVar 6) (mP (mVar 7)) mP0)))
  (mSeq (mIf (mNot (mQ (mVar 5))) (mSet 11 (mBin gAddS (mVar 10) (mSl gSlS (mVar 6) mP0 (mP (mCf X__law_take (mAk 0 (mAd (mBin gAdd (mCall gLen (mCons (mVar 6) mNil)) (mC (PyData.int (1)))) mN0))))))) mNext)
  (mSeq (mIf (mQ (mBin (gIn false) (mVar 11) (mL (mLst (mCons (mC (PyData.str "if")) (mCons (mC (PyData.str "and")) mNil)))))) (mSet 11 (mBin gAddS (mVar 11) (mC (PyData.str "x")))) mNext)
  (mApp 8 (mVar 11)))))))
  (mRetV 8)))))))))
def V__law_names : MF := mFun 12 VB__law_names
def VB__law_turn : MS := (mRet (mTup (mCons (mBin ixD (mVar 1) (mCf X__law_take (mAk 0 (mAd (mCall gLen (mCons (mVar 1) mNil)) mN0)))) (mCons (mCf X__law_take (mAk 0 (mAd (mC (PyData.int (2))) mN0))) mNil))))
def V__law_turn : MF := mFun 2 VB__law_turn
def VB__law_sort : MS := (mSeq (mIf (mQ (mBin gEq (mCf X__law_take (mAk 0 (mAd (mC (PyData.int (2))) mN0))) (mC (PyData.int (0))))) (mRet (mTup (mCons (mBin ixD (mVar 1) (mCf X__law_take (mAk 0 (mAd (mCall gLen (mCons (mVar 1) mNil)) mN0)))) mNil))) mNext)
  (mRet (mCf V__law_turn (mAk 0 (mAd (mVar 2) mN0)))))
def V__law_sort : MF := mFun 3 VB__law_sort
def VB__law_rule : MS := (mSeq (mSet 3 (mCf X__law_take (mAk 0 (mAd (mC (PyData.int (7))) mN0))))
  (mSeq (mIf (mQ (mBin gLt (mVar 3) (mC (PyData.int (3))))) (mRet (mTup (mCons (mC (PyData.str "within")) (mCons (mCf V__law_sort (mAk 0 (mAd (mVar 1) (mAd (mVar 2) mN0)))) (mCons (mCf V__law_sort (mAk 0 (mAd (mVar 1) (mAd (mVar 2) mN0)))) mNil))))) mNext)
  (mSeq (mIf (mQ (mBin gLt (mVar 3) (mC (PyData.int (5))))) (mRet (mTup (mCons (mC (PyData.str "along")) (mCons (mCf V__law_turn (mAk 0 (mAd (mVar 2) mN0))) (mCons (mCf V__law_turn (mAk 0 (mAd (mVar 2) mN0))) mNil))))) mNext)
  (mSeq (mIf (mQ (mBin gEq (mVar 3) (mC (PyData.int (5))))) (mRet (mTup (mCons (mC (PyData.str "apart")) (mCons (mCf V__law_sort (mAk 0 (mAd (mVar 1) (mAd (mVar 2) mN0)))) (mCons (mCf V__law_sort (mAk 0 (mAd (mVar 1) (mAd (mVar 2) mN0)))) mNil))))) mNext)
  (mRet (mTup (mCons (mC (PyData.str "away")) (mCons (mCf V__law_turn (mAk 0 (mAd (mVar 2) mN0))) (mCons (mCf V__law_turn (mAk 0 (mAd (mVar 2) mN0))) mNil)))))))))
def V__law_rule : MF := mFun 4 VB__law_rule
def VB__law_rules : MS := (mSeq (mSetF 4 (mLst mNil))
  (mSeq (mFor (mRng1 (mVar 3)) (gtName 5) (mSeq (mSet 6 (mCf V__law_rule (mAk 0 (mAd (mVar 1) (mAd (mL (mSlF (mVar 2) mP0 (mP (mC (PyData.int (2)))))) mN0)))))
  (mIf (mQ (mBin (gIn true) (mVar 6) (mVarB 4))) (mApp 4 (mVar 6)) mNext)))
  (mRetV 4)))
def V__law_rules : MF := mFun 7 VB__law_rules
def VB__law_round : MS := (mRet (mTup (mCons (mBin ixD (mVar 0) (mC (PyData.int (0)))) (mCons (mBin gSub (mC (PyData.int (1))) (mBin ixD (mVar 0) (mC (PyData.int (1))))) mNil))))
def V__law_round : MF := mFun 1 VB__law_round
def VB__law_spine : MA := (mSeqF (mSetF 4 (mLst mNil))
  (mSeqF (mSet 5 (mCf V__law_sort (mAk 0 (mAd (mVar 1) (mAd (mVar 2) mN0)))))
  (mSeqF (mFor (mRng1 (mVar 3)) (gtName 6) (mSeq (mSet 7 (mCf X__law_take (mAk 0 (mAd (mC (PyData.int (3))) mN0))))
  (mSeq (mIf (mAnd (mQ (mBin gEq (mVar 7) (mC (PyData.int (0))))) (mQ (mBin gEq (mCall gLen (mCons (mVar 5) mNil)) (mC (PyData.int (2)))))) (mSeq (mSet 8 (mCf V__law_turn (mAk 0 (mAd (mVar 2) mN0))))
  (mSeq (mSet 9 (mTup (mCons (mC (PyData.str "along")) (mCons (mVar 5) (mCons (mVar 8) mNil)))))
  (mIf (mQ (mBin gEq (mCf X__law_take (mAk 0 (mAd (mC (PyData.int (2))) mN0))) (mC (PyData.int (0))))) (mSet 9 (mTup (mCons (mC (PyData.str "along")) (mCons (mCf V__law_round (mAd (mVar 5) mN0)) (mCons (mCf V__law_round (mAd (mVar 8) mN0)) mNil))))) mNext))) (mSeq (mSet 8 (mCf V__law_sort (mAk 0 (mAd (mVar 1) (mAd (mVar 2) mN0)))))
  (mSet 9 (mTup (mCons (mC (PyData.str "within")) (mCons (mVar 5) (mCons (mVar 8) mNil)))))))
  (mSeq (mIf (mQ (mBin (gIn true) (mVar 9) (mVarB 4))) (mApp 4 (mVar 9)) mNext)
  (mSet 5 (mVar 8))))))
  (mRetF 4))))
def V__law_spine : MFF := mFunF 10 VB__law_spine
def VB__law_next : MS := (mSeq (mAsg (mBin ixD (mVar 0) (mVar 2)) (gtTup 3 (gtCons (gtName 4) (gtCons (gtName 5) (gtCons (gtName 6) gtNil)))))
  (mSeq (mIf (mAnd (mQ (mBin gEq (mVar 4) (mC (PyData.str "within")))) (mAnd (mQ (mBin gEq (mVar 3) (mC (PyData.int (0))))) (mQ (mBin gEq (mVar 1) (mVar 5))))) (mRet (mVar 6)) mNext)
  (mSeq (mIf (mAnd (mQ (mBin gEq (mVar 4) (mC (PyData.str "along")))) (mAnd (mQ (mBin gEq (mVar 3) (mC (PyData.int (0))))) (mQ (mBin gEq (mVar 1) (mVar 5))))) (mRet (mVar 6)) mNext)
  (mSeq (mIf (mAnd (mQ (mBin gEq (mVar 4) (mC (PyData.str "along")))) (mAnd (mQ (mBin gEq (mVar 3) (mC (PyData.int (1))))) (mQ (mBin gEq (mVar 1) (mCf V__law_round (mAd (mVar 5) mN0)))))) (mRet (mCf V__law_round (mAd (mVar 6) mN0))) mNext)
  (mRet (mC .none))))))
def V__law_next : MF := mFun 7 VB__law_next
def VB__law_end_of : MS := (mSeq (mIf (mNot (mQ (mIsi "tuple" (mVar 2)))) (mRet (mC .none)) mNext)
  (mSeq (mFor (mIt (mVar 2)) (gtName 4) (mSeq (mIf (mOr (mNot (mQ (mIsi "tuple" (mVar 4)))) (mQ (mBin gNe (mCall gLen (mCons (mVar 4) mNil)) (mC (PyData.int (2)))))) (mRet (mC .none)) mNext)
  (mSeq (mIf (mOr (mNot (mQ (mCf V_is_whole (mAd (mBin ixD (mVar 4) (mC (PyData.int (0)))) mN0)))) (mOr (mNot (mQ (mCf V_is_whole (mAd (mBin ixD (mVar 4) (mC (PyData.int (1)))) mN0)))) (mOr (mQ (mBin gLt (mBin ixD (mVar 4) (mC (PyData.int (0)))) (mC (PyData.int (0))))) (mQ (mBin gGe (mBin ixD (mVar 4) (mC (PyData.int (0)))) (mCall gLen (mCons (mVar 0) mNil))))))) (mRet (mC .none)) mNext)
  (mSeq (mIf (mAnd (mQ (mVar 3)) (mQ (mBin gNe (mBin ixD (mBin ixD (mVar 0) (mBin ixD (mVar 4) (mC (PyData.int (0))))) (mC (PyData.int (0)))) (mC (PyData.str "along"))))) (mRet (mC .none)) mNext)
  (mSeq (mSet 1 (mCf V__law_next (mAd (mVar 0) (mAd (mVar 1) (mAd (mBin ixD (mVar 4) (mC (PyData.int (0)))) (mAd (mBin ixD (mVar 4) (mC (PyData.int (1)))) mN0))))))
  (mIf (mQ (mBin (gIsN false) (mVar 1) (mC .none))) (mRet (mC .none)) mNext))))))
  (mRet (mVar 1))))
def V__law_end_of : MF := mFun 5 VB__law_end_of
def VB__law_reached : MS := (mSeq (mNewD1 3 (mVar 1) (mC (PyData.int (0))))
  (mSeq (mSetF 4 (mLst (mCons (mVar 1) mNil)))
  (mSeq (fun en T => mWhile (mQ (mBin gNe (mVarB 4) (mL (mLst mNil)))) (mSeq (mSet 5 (mBin ixD (mVarB 4) (mC (PyData.int (0)))))
  (mSeq (mSetF 4 (mSlF (mVarB 4) (mP (mC (PyData.int (1)))) mP0))
  (mFor (mRng1 (mCall gLen (mCons (mVar 0) mNil))) (gtName 6) (mFor (mIt (mTup (mCons (mC (PyData.int (0))) (mCons (mC (PyData.int (1))) mNil)))) (gtName 7) (mSeq (mSet 8 (mCf V__law_next (mAd (mVar 0) (mAd (mVar 5) (mAd (mVar 6) (mAd (mVar 7) mN0))))))
  (mSeq (mIf (mAnd (mQ (mVar 2)) (mQ (mBin gNe (mBin ixD (mBin ixD (mVar 0) (mVar 6)) (mC (PyData.int (0)))) (mC (PyData.str "along"))))) (mSet 8 (mC .none)) mNext)
  (mIf (mAnd (mQ (mBin (gIsN true) (mVar 8) (mC .none))) (mQ (mInD true 3 (mVar 8)))) (mSeq (mPutD 3 (mVar 8) (mBin gAdd (mGetD 3 (mVar 5)) (mC (PyData.int (1)))))
  (mApp 4 (mVar 8))) mNext))))))) ((fun en T => 100) en T) en T)
  (mRetD 3))))
def V__law_reached : MF := mFun 9 VB__law_reached
def VB__law_named : MS := (mSeq (mSetF 2 (mListOf (mVar 1)))
  (mSeq (mFor (mIt (mVar 0)) (gtTup 3 (gtCons (gtName 3) (gtCons (gtName 4) (gtCons (gtName 5) gtNil)))) (mFor (mIt (mTup (mCons (mVar 4) (mCons (mVar 5) mNil)))) (gtName 6) (mSeq (mApp 2 (mVar 6))
  (mIf (mQ (mBin gEq (mCall gLen (mCons (mVar 6) mNil)) (mC (PyData.int (2))))) (mApp 2 (mCf V__law_round (mAd (mVar 6) mN0))) mNext))))
  (mRet (mL (mSortSet (mVarB 2))))))
def V__law_named : MF := mFun 7 VB__law_named
end LQ

-- OLDOR LQVA
set_option Elab.async false
set_option linter.all false
set_option maxRecDepth 100000
set_option maxHeartbeats 2000000
namespace LQ
open PySem PySem.Spec PyProof.Rows L2

theorem names_W {k m : Nat} {T : Dk} {Q : PyData × Dk → Prop} (g : GB k T) (hk : k + 60 < 1000000000) (hm : m ≤ 20) (q : ∀ (ds : List PyData) (T' : Dk), ds.length = m → (∀ d ∈ ds, Nm d) → GB (k + 40) T' → Q (.list ds, T')) : W (V__law_names [.deck, .dat (.int (m : Nat))] T) Q := by
  refine W_mFun ?_
  unfold VB__law_names
  simp only [W_mSeq, W_mSet, W_mSetF, W_mIf, W_mRet, W_mCf, W_mAk0, W_mAk1, W_mAd, W_mN0, W_mC, W_mBin, W_mVar0, W_mVarS, W_mVarBd, W_mVarBo, W_mVarBS, W_mQ, W_mNot, W_mAnd, W_mOr, W_mL, W_mLst, W_mCons, W_mNil, W_mTup, W_mIt, W_mLc, W_mRng1, W_mCall, W_mNext, W_mAsg, W_mFor, W_mYes, W_mSl, W_mP0, W_mP, W_mSlF, W_mNeg, W_mRevT, W_mTupOf, W_mListT, W_mIfx, W_mAk2, W_mAc, W_mCst0, W_mCstS, W_mAndV, W_mOrV, W_mNotV, W_some, W_map, W_bind, seqQ_nx, seqQ_rt, List.set_cons_succ, List.set_cons_zero, List.map_cons, List.map_nil, List.length_cons, List.length_nil, List.nil_append, List.cons_append, List.replicate, wipeE, PyData.bool.injEq, PyData.int.injEq, exists_eq_left', exists_eq_left, and_true, true_and, eq_ints, ↓reduceIte, Option.bind_some, Option.map_some, Nat.reduceAdd, Nat.reduceLeDiff, PyData.list.injEq, PyData.tuple.injEq, add_ints, sub_ints, lt_ints, le_ints, gt_ints, ge_ints, glen_list, glen_tuple]
  refine takeB_W g (by decide) (by decide) (by omega) fun start T1 a0 a1 g1 => ?_
  simp only [W_mSeq, W_mSet, W_mSetF, W_mIf, W_mRet, W_mCf, W_mAk0, W_mAk1, W_mAd, W_mN0, W_mC, W_mBin, W_mVar0, W_mVarS, W_mVarBd, W_mVarBo, W_mVarBS, W_mQ, W_mNot, W_mAnd, W_mOr, W_mL, W_mLst, W_mCons, W_mNil, W_mTup, W_mIt, W_mLc, W_mRng1, W_mCall, W_mNext, W_mAsg, W_mFor, W_mYes, W_mSl, W_mP0, W_mP, W_mSlF, W_mNeg, W_mRevT, W_mTupOf, W_mListT, W_mIfx, W_mAk2, W_mAc, W_mCst0, W_mCstS, W_mAndV, W_mOrV, W_mNotV, W_some, W_map, W_bind, seqQ_nx, seqQ_rt, List.set_cons_succ, List.set_cons_zero, List.map_cons, List.map_nil, List.length_cons, List.length_nil, List.nil_append, List.cons_append, List.replicate, wipeE, PyData.bool.injEq, PyData.int.injEq, exists_eq_left', exists_eq_left, and_true, true_and, eq_ints, ↓reduceIte, Option.bind_some, Option.map_some, Nat.reduceAdd, Nat.reduceLeDiff, PyData.list.injEq, PyData.tuple.injEq, add_ints, sub_ints, lt_ints, le_ints, gt_ints, ge_ints, glen_list, glen_tuple]
  refine takeB_W g1 (by decide) (by decide) (by omega) fun st T2 b0 b1 g2 => ?_
  obtain ⟨d4, hd4, e4⟩ := ix_list (ds := [.int 1, .int 3, .int 5, .int 7]) b0 (by exact b1)
  have : ∃ stp : Int, d4 = .int stp ∧ 1 ≤ stp ∧ stp ≤ 7 := by
    simp only [List.mem_cons, List.not_mem_nil, or_false] at hd4
    rcases hd4 with rfl | rfl | rfl | rfl <;> exact ⟨_, rfl, by decide, by decide⟩
  obtain ⟨stp, rfl, s0, s1⟩ := this
  simp only [e4, W_mSeq, W_mSet, W_mSetF, W_mIf, W_mRet, W_mCf, W_mAk0, W_mAk1, W_mAd, W_mN0, W_mC, W_mBin, W_mVar0, W_mVarS, W_mVarBd, W_mVarBo, W_mVarBS, W_mQ, W_mNot, W_mAnd, W_mOr, W_mL, W_mLst, W_mCons, W_mNil, W_mTup, W_mIt, W_mLc, W_mRng1, W_mCall, W_mNext, W_mAsg, W_mFor, W_mYes, W_mSl, W_mP0, W_mP, W_mSlF, W_mNeg, W_mRevT, W_mTupOf, W_mListT, W_mIfx, W_mAk2, W_mAc, W_mCst0, W_mCstS, W_mAndV, W_mOrV, W_mNotV, W_some, W_map, W_bind, seqQ_nx, seqQ_rt, List.set_cons_succ, List.set_cons_zero, List.map_cons, List.map_nil, List.length_cons, List.length_nil, List.nil_append, List.cons_append, List.replicate, wipeE, PyData.bool.injEq, PyData.int.injEq, exists_eq_left', exists_eq_left, and_true, true_and, eq_ints, ↓reduceIte, Option.bind_some, Option.map_some, Nat.reduceAdd, Nat.reduceLeDiff, PyData.list.injEq, PyData.tuple.injEq, add_ints, sub_ints, lt_ints, le_ints, gt_ints, ge_ints, glen_list, glen_tuple]
  refine takeB_W g2 (by decide) (by decide) (by omega) fun os T3 c0 c1 g3 => ?_
  simp only [W_mSeq, W_mSet, W_mSetF, W_mIf, W_mRet, W_mCf, W_mAk0, W_mAk1, W_mAd, W_mN0, W_mC, W_mBin, W_mVar0, W_mVarS, W_mVarBd, W_mVarBo, W_mVarBS, W_mQ, W_mNot, W_mAnd, W_mOr, W_mL, W_mLst, W_mCons, W_mNil, W_mTup, W_mIt, W_mLc, W_mRng1, W_mCall, W_mNext, W_mAsg, W_mFor, W_mYes, W_mSl, W_mP0, W_mP, W_mSlF, W_mNeg, W_mRevT, W_mTupOf, W_mListT, W_mIfx, W_mAk2, W_mAc, W_mCst0, W_mCstS, W_mAndV, W_mOrV, W_mNotV, W_some, W_map, W_bind, seqQ_nx, seqQ_rt, List.set_cons_succ, List.set_cons_zero, List.map_cons, List.map_nil, List.length_cons, List.length_nil, List.nil_append, List.cons_append, List.replicate, wipeE, PyData.bool.injEq, PyData.int.injEq, exists_eq_left', exists_eq_left, and_true, true_and, eq_ints, ↓reduceIte, Option.bind_some, Option.map_some, Nat.reduceAdd, Nat.reduceLeDiff, PyData.list.injEq, PyData.tuple.injEq, add_ints, sub_ints, lt_ints, le_ints, gt_ints, ge_ints, glen_list, glen_tuple]
  obtain ⟨ob, hob⟩ : ∃ ob : Bool, (os == 0) = ob := ⟨_, rfl⟩
  rw [hob]
  -- the stem
  have stem : ∀ Q' : PyData × Dk → Prop, (∀ (s : Str) (T' : Dk), Tx 8 s → GB (k + 12) T' → Q' (.str s, T')) → W (mJoin (mC (PyData.str "")) (mL (mLc [9] (mRng1 (mCf X__law_take (mAk 0 (mAd (mC (PyData.int (8))) mN0)))) (gtName 9) mYes (mBin ixD (mVar 2) (mCf X__law_take (mAk 0 (mAd (mC (PyData.int (26))) mN0)))))) [some Sl.deck, some (Sl.dat (PyData.int (m : Nat))), some (Sl.dat (PyData.str "abcdefghijklmnopqrstuvwxyz")), some (Sl.dat (PyData.int start)), some (Sl.dat (PyData.int stp)), some (Sl.dat (PyData.bool ob)), none, none, none, none, none, none] T3) Q' := by
    intro Q' q'
    have : W ((mL (mLc [9] (mRng1 (mCf X__law_take (mAk 0 (mAd (mC (PyData.int (8))) mN0)))) (gtName 9) mYes (mBin ixD (mVar 2) (mCf X__law_take (mAk 0 (mAd (mC (PyData.int (26))) mN0)))))) [some Sl.deck, some (Sl.dat (PyData.int (m : Nat))), some (Sl.dat (PyData.str "abcdefghijklmnopqrstuvwxyz")), some (Sl.dat (PyData.int start)), some (Sl.dat (PyData.int stp)), some (Sl.dat (PyData.bool ob)), none, none, none, none, none, none] T3) fun p => ∃ ds, p.1 = .list ds ∧ (∀ d ∈ ds, Sgn d) ∧ ds.length ≤ 8 ∧ GB (k + 12) p.2 := by
      simp only [W_mSeq, W_mSet, W_mSetF, W_mIf, W_mRet, W_mCf, W_mAk0, W_mAk1, W_mAd, W_mN0, W_mC, W_mBin, W_mVar0, W_mVarS, W_mVarBd, W_mVarBo, W_mVarBS, W_mQ, W_mNot, W_mAnd, W_mOr, W_mL, W_mLst, W_mCons, W_mNil, W_mTup, W_mIt, W_mLc, W_mRng1, W_mCall, W_mNext, W_mAsg, W_mFor, W_mYes, W_mSl, W_mP0, W_mP, W_mSlF, W_mNeg, W_mRevT, W_mTupOf, W_mListT, W_mIfx, W_mAk2, W_mAc, W_mCst0, W_mCstS, W_mAndV, W_mOrV, W_mNotV, W_some, W_map, W_bind, seqQ_nx, seqQ_rt, List.set_cons_succ, List.set_cons_zero, List.map_cons, List.map_nil, List.length_cons, List.length_nil, List.nil_append, List.cons_append, List.replicate, wipeE, PyData.bool.injEq, PyData.int.injEq, exists_eq_left', exists_eq_left, and_true, true_and, eq_ints, ↓reduceIte, Option.bind_some, Option.map_some, Nat.reduceAdd, Nat.reduceLeDiff, PyData.list.injEq, PyData.tuple.injEq, add_ints, sub_ints, lt_ints, le_ints, gt_ints, ge_ints, glen_list, glen_tuple]
      refine takeB_W g3 (by decide) (by decide) (by omega) fun n T4 n0 n1 g4 => ?_
      simp only [W_mSeq, W_mSet, W_mSetF, W_mIf, W_mRet, W_mCf, W_mAk0, W_mAk1, W_mAd, W_mN0, W_mC, W_mBin, W_mVar0, W_mVarS, W_mVarBd, W_mVarBo, W_mVarBS, W_mQ, W_mNot, W_mAnd, W_mOr, W_mL, W_mLst, W_mCons, W_mNil, W_mTup, W_mIt, W_mLc, W_mRng1, W_mCall, W_mNext, W_mAsg, W_mFor, W_mYes, W_mSl, W_mP0, W_mP, W_mSlF, W_mNeg, W_mRevT, W_mTupOf, W_mListT, W_mIfx, W_mAk2, W_mAc, W_mCst0, W_mCstS, W_mAndV, W_mOrV, W_mNotV, W_some, W_map, W_bind, seqQ_nx, seqQ_rt, List.set_cons_succ, List.set_cons_zero, List.map_cons, List.map_nil, List.length_cons, List.length_nil, List.nil_append, List.cons_append, List.replicate, wipeE, PyData.bool.injEq, PyData.int.injEq, exists_eq_left', exists_eq_left, and_true, true_and, eq_ints, ↓reduceIte, Option.bind_some, Option.map_some, Nat.reduceAdd, Nat.reduceLeDiff, PyData.list.injEq, PyData.tuple.injEq, add_ints, sub_ints, lt_ints, le_ints, gt_ints, ge_ints, glen_list, glen_tuple]
      refine ⟨by omega, by rw [List.length_map, rng_len]; omega, ?_⟩
      refine W_loop (fun ds es T' => (∀ e ∈ es, Sgn e) ∧ es.length + ds.length = n.toNat ∧ GB (k + 4 + es.length) T') (fun d ds es T5 hI => ?_) _ [] T4 ⟨(fun _ h => by cases h), by simp [rng_len], g4⟩ fun es T5 hI => ?_
      · obtain ⟨i1, i2, i3⟩ := hI
        rw [List.length_cons] at i2
        simp only [gtName, W_mSeq, W_mSet, W_mSetF, W_mIf, W_mRet, W_mCf, W_mAk0, W_mAk1, W_mAd, W_mN0, W_mC, W_mBin, W_mVar0, W_mVarS, W_mVarBd, W_mVarBo, W_mVarBS, W_mQ, W_mNot, W_mAnd, W_mOr, W_mL, W_mLst, W_mCons, W_mNil, W_mTup, W_mIt, W_mLc, W_mRng1, W_mCall, W_mNext, W_mAsg, W_mFor, W_mYes, W_mSl, W_mP0, W_mP, W_mSlF, W_mNeg, W_mRevT, W_mTupOf, W_mListT, W_mIfx, W_mAk2, W_mAc, W_mCst0, W_mCstS, W_mAndV, W_mOrV, W_mNotV, W_some, W_map, W_bind, seqQ_nx, seqQ_rt, List.set_cons_succ, List.set_cons_zero, List.map_cons, List.map_nil, List.length_cons, List.length_nil, List.nil_append, List.cons_append, List.replicate, wipeE, PyData.bool.injEq, PyData.int.injEq, exists_eq_left', exists_eq_left, and_true, true_and, eq_ints, ↓reduceIte, Option.bind_some, Option.map_some, Nat.reduceAdd, Nat.reduceLeDiff, PyData.list.injEq, PyData.tuple.injEq, add_ints, sub_ints, lt_ints, le_ints, gt_ints, ge_ints, glen_list, glen_tuple]
        refine takeB_W i3 (by decide) (by decide) (by omega) fun v T6 v0 v1 g6 => ?_
        obtain ⟨c, hc, ec⟩ := ix_abc v0 v1
        simp only [ec, W_mSeq, W_mSet, W_mSetF, W_mIf, W_mRet, W_mCf, W_mAk0, W_mAk1, W_mAd, W_mN0, W_mC, W_mBin, W_mVar0, W_mVarS, W_mVarBd, W_mVarBo, W_mVarBS, W_mQ, W_mNot, W_mAnd, W_mOr, W_mL, W_mLst, W_mCons, W_mNil, W_mTup, W_mIt, W_mLc, W_mRng1, W_mCall, W_mNext, W_mAsg, W_mFor, W_mYes, W_mSl, W_mP0, W_mP, W_mSlF, W_mNeg, W_mRevT, W_mTupOf, W_mListT, W_mIfx, W_mAk2, W_mAc, W_mCst0, W_mCstS, W_mAndV, W_mOrV, W_mNotV, W_some, W_map, W_bind, seqQ_nx, seqQ_rt, List.set_cons_succ, List.set_cons_zero, List.map_cons, List.map_nil, List.length_cons, List.length_nil, List.nil_append, List.cons_append, List.replicate, wipeE, PyData.bool.injEq, PyData.int.injEq, exists_eq_left', exists_eq_left, and_true, true_and, eq_ints, ↓reduceIte, Option.bind_some, Option.map_some, Nat.reduceAdd, Nat.reduceLeDiff, PyData.list.injEq, PyData.tuple.injEq, add_ints, sub_ints, lt_ints, le_ints, gt_ints, ge_ints, glen_list, glen_tuple]
        refine ⟨fun e he => ?_, by rw [List.length_append]; simp only [List.length_cons, List.length_nil]; omega, ?_⟩
        · rcases List.mem_append.mp he with h | h
          · exact i1 e h
          · rw [List.mem_singleton.mp h]
            exact ⟨c, hc, rfl⟩
        · rw [List.length_append]
          exact g6
      · obtain ⟨i1, i2, i3⟩ := hI
        simp only [List.nil_append, List.length_nil, Nat.add_zero] at i1 i2 i3
        exact ⟨i1, by show es.length ≤ 8; omega, i3.up (by omega)⟩
    obtain ⟨⟨d, T5⟩, e, ds, rfl, h1, h2, h3⟩ := this
    obtain ⟨s, es, ts⟩ := join_signsT h1 (by omega) e
    exact W.of es (q' s T5 (ts.up h2) h3)
  refine stem _ fun sm T4 hs g4 => ?_
  have hl := glen_str hs (by decide)
  have hsl := hs.1
  simp only [W_mSeq, W_mSet, W_mSetF, W_mIf, W_mRet, W_mCf, W_mAk0, W_mAk1, W_mAd, W_mN0, W_mC, W_mBin, W_mVar0, W_mVarS, W_mVarBd, W_mVarBo, W_mVarBS, W_mQ, W_mNot, W_mAnd, W_mOr, W_mL, W_mLst, W_mCons, W_mNil, W_mTup, W_mIt, W_mLc, W_mRng1, W_mCall, W_mNext, W_mAsg, W_mFor, W_mYes, W_mSl, W_mP0, W_mP, W_mSlF, W_mNeg, W_mRevT, W_mTupOf, W_mListT, W_mIfx, W_mAk2, W_mAc, W_mCst0, W_mCstS, W_mAndV, W_mOrV, W_mNotV, W_some, W_map, W_bind, seqQ_nx, seqQ_rt, List.set_cons_succ, List.set_cons_zero, List.map_cons, List.map_nil, List.length_cons, List.length_nil, List.nil_append, List.cons_append, List.replicate, wipeE, PyData.bool.injEq, PyData.int.injEq, exists_eq_left', exists_eq_left, and_true, true_and, eq_ints, ↓reduceIte, Option.bind_some, Option.map_some, Nat.reduceAdd, Nat.reduceLeDiff, PyData.list.injEq, PyData.tuple.injEq, add_ints, sub_ints, lt_ints, le_ints, gt_ints, ge_ints, glen_list, glen_tuple, hl]
  refine takeB_W g4 (by omega) (by omega) (by omega) fun wh T5 w0 w1 g5 => ?_
  simp only [W_mSeq, W_mSet, W_mSetF, W_mIf, W_mRet, W_mCf, W_mAk0, W_mAk1, W_mAd, W_mN0, W_mC, W_mBin, W_mVar0, W_mVarS, W_mVarBd, W_mVarBo, W_mVarBS, W_mQ, W_mNot, W_mAnd, W_mOr, W_mL, W_mLst, W_mCons, W_mNil, W_mTup, W_mIt, W_mLc, W_mRng1, W_mCall, W_mNext, W_mAsg, W_mFor, W_mYes, W_mSl, W_mP0, W_mP, W_mSlF, W_mNeg, W_mRevT, W_mTupOf, W_mListT, W_mIfx, W_mAk2, W_mAc, W_mCst0, W_mCstS, W_mAndV, W_mOrV, W_mNotV, W_some, W_map, W_bind, seqQ_nx, seqQ_rt, List.set_cons_succ, List.set_cons_zero, List.map_cons, List.map_nil, List.length_cons, List.length_nil, List.nil_append, List.cons_append, List.replicate, wipeE, PyData.bool.injEq, PyData.int.injEq, exists_eq_left', exists_eq_left, and_true, true_and, eq_ints, ↓reduceIte, Option.bind_some, Option.map_some, Nat.reduceAdd, Nat.reduceLeDiff, PyData.list.injEq, PyData.tuple.injEq, add_ints, sub_ints, lt_ints, le_ints, gt_ints, ge_ints, glen_list, glen_tuple]
  refine ⟨by omega, ?_⟩
  refine W_fold (fun ds en T' => ∃ (a9 a10 a11 : Option Sl) (fs : List PyData), en = [some Sl.deck, some (Sl.dat (PyData.int (m : Nat))), some (Sl.dat (PyData.str "abcdefghijklmnopqrstuvwxyz")), some (Sl.dat (PyData.int start)), some (Sl.dat (PyData.int stp)), some (Sl.dat (PyData.bool ob)), some (Sl.dat (PyData.str sm)), some (Sl.dat (PyData.int wh)), some (Sl.own fs), a9, a10, a11] ∧ (∀ d ∈ fs, Nm d) ∧ fs.length + ds.length = m ∧ GB (k + 13 + fs.length) T' ∧ ∀ d ∈ ds, ∃ i, d = .int i) (fun d ds en T' hI => ?_) _ _ T5 ⟨none, none, none, [], rfl, (fun _ h => by cases h), by simp [rng_len], g5, fun d hd => ?_⟩ fun en' T' hI => ?_
  · obtain ⟨a9, a10, a11, fs, rfl, f1, f2, f3, f4⟩ := hI
    obtain ⟨i, rfl⟩ := f4 d List.mem_cons_self
    rw [List.length_cons] at f2
    have hmod0 : 0 ≤ (start + stp * i) % 26 := Int.emod_nonneg _ (by decide)
    have hmod1 : (start + stp * i) % 26 < 26 := Int.emod_lt_of_pos _ (by decide)
    obtain ⟨c, hc, ec⟩ := ix_abc hmod0 hmod1
    have hcut := fun lo hi => sl_str_cut hs (by decide) lo hi
    have t1 : Tx 9 (cutS sm none (some wh) ++ ⟨#[c]⟩) := (hs.cut _ _).app (Tx.sgn hc)
    have t2 : Tx 17 (cutS sm none (some wh) ++ ⟨#[c]⟩ ++ cutS sm (some wh) none) := t1.app (hs.cut _ _)
    refine W_some.mpr ?_
    refine W_cut (fun en' T'' => T' = T'' ∧ en' = [some Sl.deck, some (Sl.dat (PyData.int (m : Nat))), some (Sl.dat (PyData.str "abcdefghijklmnopqrstuvwxyz")), some (Sl.dat (PyData.int start)), some (Sl.dat (PyData.int stp)), some (Sl.dat (PyData.bool ob)), some (Sl.dat (PyData.str sm)), some (Sl.dat (PyData.int wh)), some (Sl.own fs), some (Sl.dat (PyData.int i)), some (Sl.dat (PyData.str ⟨#[c]⟩)), a11]) ?_ ?_
    · simp only [W_mSet, W_mSetF, W_mIf, W_mRet, W_mCf, W_mAk0, W_mAk1, W_mAd, W_mN0, W_mC, W_mBin, W_mVar0, W_mVarS, W_mVarBd, W_mVarBo, W_mVarBS, W_mQ, W_mNot, W_mAnd, W_mOr, W_mL, W_mLst, W_mCons, W_mNil, W_mTup, W_mIt, W_mLc, W_mRng1, W_mCall, W_mNext, W_mAsg, W_mYes, W_mSl, W_mP0, W_mP, W_mSlF, W_mNeg, W_mRevT, W_mTupOf, W_mListT, W_mIfx, W_mAk2, W_mAc, W_mCst0, W_mCstS, W_mAndV, W_mOrV, W_mNotV, W_some, W_map, W_bind, seqQ_nx, seqQ_rt, List.set_cons_succ, List.set_cons_zero, List.map_cons, List.map_nil, List.length_cons, List.length_nil, List.nil_append, List.cons_append, List.replicate, wipeE, PyData.bool.injEq, PyData.int.injEq, exists_eq_left', exists_eq_left, and_true, true_and, eq_ints, ↓reduceIte, Option.bind_some, Option.map_some, Nat.reduceAdd, Nat.reduceLeDiff, PyData.list.injEq, PyData.tuple.injEq, add_ints, sub_ints, lt_ints, le_ints, gt_ints, ge_ints, glen_list, glen_tuple, mul_ints (show -1000 < stp ∧ stp < 1000 by omega), mod_ints (show (0 : Int) < 26 by decide), ec]
      exact ⟨_, _, rfl, rfl, rfl⟩
    rintro en1 _ ⟨rfl, rfl⟩
    refine W_cut (fun en' T'' => T' = T'' ∧ en' = [some Sl.deck, some (Sl.dat (PyData.int (m : Nat))), some (Sl.dat (PyData.str "abcdefghijklmnopqrstuvwxyz")), some (Sl.dat (PyData.int start)), some (Sl.dat (PyData.int stp)), some (Sl.dat (PyData.bool ob)), some (Sl.dat (PyData.str sm)), some (Sl.dat (PyData.int wh)), some (Sl.own fs), some (Sl.dat (PyData.int i)), some (Sl.dat (PyData.str ⟨#[c]⟩)), some (.dat (.str (cutS sm none (some wh) ++ ⟨#[c]⟩ ++ cutS sm (some wh) none)))]) ?_ ?_
    · simp only [W_mSet, W_mSetF, W_mIf, W_mRet, W_mCf, W_mAk0, W_mAk1, W_mAd, W_mN0, W_mC, W_mBin, W_mVar0, W_mVarS, W_mVarBd, W_mVarBo, W_mVarBS, W_mQ, W_mNot, W_mAnd, W_mOr, W_mL, W_mLst, W_mCons, W_mNil, W_mTup, W_mIt, W_mLc, W_mRng1, W_mCall, W_mNext, W_mAsg, W_mYes, W_mSl, W_mP0, W_mP, W_mSlF, W_mNeg, W_mRevT, W_mTupOf, W_mListT, W_mIfx, W_mAk2, W_mAc, W_mCst0, W_mCstS, W_mAndV, W_mOrV, W_mNotV, W_some, W_map, W_bind, seqQ_nx, seqQ_rt, List.set_cons_succ, List.set_cons_zero, List.map_cons, List.map_nil, List.length_cons, List.length_nil, List.nil_append, List.cons_append, List.replicate, wipeE, PyData.bool.injEq, PyData.int.injEq, exists_eq_left', exists_eq_left, and_true, true_and, eq_ints, ↓reduceIte, Option.bind_some, Option.map_some, Nat.reduceAdd, Nat.reduceLeDiff, PyData.list.injEq, PyData.tuple.injEq, add_ints, sub_ints, lt_ints, le_ints, gt_ints, ge_ints, glen_list, glen_tuple, hcut, add_str (hs.cut none (some wh)) (Tx.sgn hc) (by decide), add_str t1 (hs.cut (some wh) none) (by decide)]
      exact ⟨_, _, rfl, rfl, rfl⟩
    rintro en1 _ ⟨rfl, rfl⟩
    refine W_cut (fun en' T'' => GB (k + 13 + fs.length + 1) T'' ∧ ∃ x, Tx 30 x ∧ en' = [some Sl.deck, some (Sl.dat (PyData.int (m : Nat))), some (Sl.dat (PyData.str "abcdefghijklmnopqrstuvwxyz")), some (Sl.dat (PyData.int start)), some (Sl.dat (PyData.int stp)), some (Sl.dat (PyData.bool ob)), some (Sl.dat (PyData.str sm)), some (Sl.dat (PyData.int wh)), some (Sl.own fs), some (Sl.dat (PyData.int i)), some (Sl.dat (PyData.str ⟨#[c]⟩)), some (.dat (.str x))]) ?_ ?_
    · simp only [W_mSet, W_mSetF, W_mIf, W_mRet, W_mCf, W_mAk0, W_mAk1, W_mAd, W_mN0, W_mC, W_mBin, W_mVar0, W_mVarS, W_mVarBd, W_mVarBo, W_mVarBS, W_mQ, W_mNot, W_mAnd, W_mOr, W_mL, W_mLst, W_mCons, W_mNil, W_mTup, W_mIt, W_mLc, W_mRng1, W_mCall, W_mNext, W_mAsg, W_mYes, W_mSl, W_mP0, W_mP, W_mSlF, W_mNeg, W_mRevT, W_mTupOf, W_mListT, W_mIfx, W_mAk2, W_mAc, W_mCst0, W_mCstS, W_mAndV, W_mOrV, W_mNotV, W_some, W_map, W_bind, seqQ_nx, seqQ_rt, List.set_cons_succ, List.set_cons_zero, List.map_cons, List.map_nil, List.length_cons, List.length_nil, List.nil_append, List.cons_append, List.replicate, wipeE, PyData.bool.injEq, PyData.int.injEq, exists_eq_left', exists_eq_left, and_true, true_and, eq_ints, ↓reduceIte, Option.bind_some, Option.map_some, Nat.reduceAdd, Nat.reduceLeDiff, PyData.list.injEq, PyData.tuple.injEq, add_ints, sub_ints, lt_ints, le_ints, gt_ints, ge_ints, glen_list, glen_tuple, hl]
      cases ob with
      | false =>
        simp only [Bool.not_false, if_true]
        refine takeB_W f3 (by omega) (by omega) (by omega) fun v T6 v0 v1 g6 => ?_
        simp only [W_mSet, W_mSetF, W_mIf, W_mRet, W_mCf, W_mAk0, W_mAk1, W_mAd, W_mN0, W_mC, W_mBin, W_mVar0, W_mVarS, W_mVarBd, W_mVarBo, W_mVarBS, W_mQ, W_mNot, W_mAnd, W_mOr, W_mL, W_mLst, W_mCons, W_mNil, W_mTup, W_mIt, W_mLc, W_mRng1, W_mCall, W_mNext, W_mAsg, W_mYes, W_mSl, W_mP0, W_mP, W_mSlF, W_mNeg, W_mRevT, W_mTupOf, W_mListT, W_mIfx, W_mAk2, W_mAc, W_mCst0, W_mCstS, W_mAndV, W_mOrV, W_mNotV, W_some, W_map, W_bind, seqQ_nx, seqQ_rt, List.set_cons_succ, List.set_cons_zero, List.map_cons, List.map_nil, List.length_cons, List.length_nil, List.nil_append, List.cons_append, List.replicate, wipeE, PyData.bool.injEq, PyData.int.injEq, exists_eq_left', exists_eq_left, and_true, true_and, eq_ints, ↓reduceIte, Option.bind_some, Option.map_some, Nat.reduceAdd, Nat.reduceLeDiff, PyData.list.injEq, PyData.tuple.injEq, add_ints, sub_ints, lt_ints, le_ints, gt_ints, ge_ints, glen_list, glen_tuple, hcut, add_str (Tx.sgn hc) (hs.cut none (some v)) (by decide)]
        exact ⟨_, _, rfl, g6, _, ((Tx.sgn hc).app (hs.cut _ _)).up (by decide), rfl⟩
      | true =>
        simp only [Bool.not_true, Bool.false_eq_true, if_false]
        exact ⟨_, _, rfl, f3.up (Nat.le_succ _), _, t2.up (by decide), rfl⟩
    rintro en1 T6 ⟨g6, x, hx, rfl⟩
    have hxx : Tx 1 "x" := ⟨by decide +kernel, canLay_cps (by decide +kernel)⟩
    refine W_cut (fun en' T'' => GB (k + 13 + fs.length + 1) T'' ∧ ∃ x, Tx 40 x ∧ en' = [some Sl.deck, some (Sl.dat (PyData.int (m : Nat))), some (Sl.dat (PyData.str "abcdefghijklmnopqrstuvwxyz")), some (Sl.dat (PyData.int start)), some (Sl.dat (PyData.int stp)), some (Sl.dat (PyData.bool ob)), some (Sl.dat (PyData.str sm)), some (Sl.dat (PyData.int wh)), some (Sl.own fs), some (Sl.dat (PyData.int i)), some (Sl.dat (PyData.str ⟨#[c]⟩)), some (.dat (.str x))]) ?_ ?_
    · simp only [W_mSet, W_mSetF, W_mIf, W_mRet, W_mCf, W_mAk0, W_mAk1, W_mAd, W_mN0, W_mC, W_mBin, W_mVar0, W_mVarS, W_mVarBd, W_mVarBo, W_mVarBS, W_mQ, W_mNot, W_mAnd, W_mOr, W_mL, W_mLst, W_mCons, W_mNil, W_mTup, W_mIt, W_mLc, W_mRng1, W_mCall, W_mNext, W_mAsg, W_mYes, W_mSl, W_mP0, W_mP, W_mSlF, W_mNeg, W_mRevT, W_mTupOf, W_mListT, W_mIfx, W_mAk2, W_mAc, W_mCst0, W_mCstS, W_mAndV, W_mOrV, W_mNotV, W_some, W_map, W_bind, seqQ_nx, seqQ_rt, List.set_cons_succ, List.set_cons_zero, List.map_cons, List.map_nil, List.length_cons, List.length_nil, List.nil_append, List.cons_append, List.replicate, wipeE, PyData.bool.injEq, PyData.int.injEq, exists_eq_left', exists_eq_left, and_true, true_and, eq_ints, ↓reduceIte, Option.bind_some, Option.map_some, Nat.reduceAdd, Nat.reduceLeDiff, PyData.list.injEq, PyData.tuple.injEq, add_ints, sub_ints, lt_ints, le_ints, gt_ints, ge_ints, glen_list, glen_tuple, in_list_if hx false]
      split
      · simp only [W_mSet, W_mSetF, W_mIf, W_mRet, W_mCf, W_mAk0, W_mAk1, W_mAd, W_mN0, W_mC, W_mBin, W_mVar0, W_mVarS, W_mVarBd, W_mVarBo, W_mVarBS, W_mQ, W_mNot, W_mAnd, W_mOr, W_mL, W_mLst, W_mCons, W_mNil, W_mTup, W_mIt, W_mLc, W_mRng1, W_mCall, W_mNext, W_mAsg, W_mYes, W_mSl, W_mP0, W_mP, W_mSlF, W_mNeg, W_mRevT, W_mTupOf, W_mListT, W_mIfx, W_mAk2, W_mAc, W_mCst0, W_mCstS, W_mAndV, W_mOrV, W_mNotV, W_some, W_map, W_bind, seqQ_nx, seqQ_rt, List.set_cons_succ, List.set_cons_zero, List.map_cons, List.map_nil, List.length_cons, List.length_nil, List.nil_append, List.cons_append, List.replicate, wipeE, PyData.bool.injEq, PyData.int.injEq, exists_eq_left', exists_eq_left, and_true, true_and, eq_ints, ↓reduceIte, Option.bind_some, Option.map_some, Nat.reduceAdd, Nat.reduceLeDiff, PyData.list.injEq, PyData.tuple.injEq, add_ints, sub_ints, lt_ints, le_ints, gt_ints, ge_ints, glen_list, glen_tuple, add_str hx hxx (by decide)]
        exact ⟨_, _, rfl, g6, _, (hx.app hxx).up (by decide), rfl⟩
      · exact ⟨_, _, rfl, g6, x, hx.up (by decide), rfl⟩
    rintro en1 T7 ⟨g7, y, hy, rfl⟩
    rw [W_mApp (ds := fs) rfl]
    simp only [W_mSet, W_mSetF, W_mIf, W_mRet, W_mCf, W_mAk0, W_mAk1, W_mAd, W_mN0, W_mC, W_mBin, W_mVar0, W_mVarS, W_mVarBd, W_mVarBo, W_mVarBS, W_mQ, W_mNot, W_mAnd, W_mOr, W_mL, W_mLst, W_mCons, W_mNil, W_mTup, W_mIt, W_mLc, W_mRng1, W_mCall, W_mNext, W_mAsg, W_mYes, W_mSl, W_mP0, W_mP, W_mSlF, W_mNeg, W_mRevT, W_mTupOf, W_mListT, W_mIfx, W_mAk2, W_mAc, W_mCst0, W_mCstS, W_mAndV, W_mOrV, W_mNotV, W_some, W_map, W_bind, seqQ_nx, seqQ_rt, List.set_cons_succ, List.set_cons_zero, List.map_cons, List.map_nil, List.length_cons, List.length_nil, List.nil_append, List.cons_append, List.replicate, wipeE, PyData.bool.injEq, PyData.int.injEq, exists_eq_left', exists_eq_left, and_true, true_and, eq_ints, ↓reduceIte, Option.bind_some, Option.map_some, Nat.reduceAdd, Nat.reduceLeDiff, PyData.list.injEq, PyData.tuple.injEq, add_ints, sub_ints, lt_ints, le_ints, gt_ints, ge_ints, glen_list, glen_tuple]
    refine ⟨by omega, _, _, .inl rfl, _, _, _, _, rfl, fun d hd => ?_, by rw [List.length_append]; simp only [List.length_cons, List.length_nil]; omega, by rw [List.length_append]; exact g7, fun d hd => f4 d (List.mem_cons_of_mem _ hd)⟩
    rcases List.mem_append.mp hd with h | h
    · exact f1 d h
    · rw [List.mem_singleton.mp h]
      exact ⟨y, rfl, hy⟩
  · obtain ⟨j, _, rfl⟩ := List.mem_map.mp hd
    exact ⟨j, rfl⟩
  · obtain ⟨a9, a10, a11, fs, rfl, f1, f2, f3, f4⟩ := hI
    simp only [seqQ_nx]
    rw [W_mRetV (ds := fs) rfl]
    simp only [List.length_nil, Nat.add_zero] at f2
    exact ⟨_, _, rfl, q fs T' f2 f1 (f3.up (by omega))⟩

theorem turn_W {k : Nat} {T : Dk} {Q : PyData × Dk → Prop} {rs : List PyData} (g : GB k T) (hk : k + 60 < 1000000000) (hr : rs ≠ []) (hl : rs.length < 1000) (hn : ∀ d ∈ rs, Nm d) (q : ∀ (d : PyData) (T' : Dk), Tn d → GB (k + 2) T' → Q (d, T')) : W (V__law_turn [.deck, .dat (.list rs)] T) Q := by
  have hp : 0 < rs.length := List.length_pos_iff.mpr hr
  refine W_mFun ?_
  unfold VB__law_turn
  simp only [W_mSeq, W_mSet, W_mSetF, W_mIf, W_mRet, W_mCf, W_mAk0, W_mAk1, W_mAd, W_mN0, W_mC, W_mBin, W_mVar0, W_mVarS, W_mVarBd, W_mVarBo, W_mVarBS, W_mQ, W_mNot, W_mAnd, W_mOr, W_mL, W_mLst, W_mCons, W_mNil, W_mTup, W_mIt, W_mLc, W_mRng1, W_mCall, W_mNext, W_mAsg, W_mFor, W_mYes, W_mSl, W_mP0, W_mP, W_mSlF, W_mNeg, W_mRevT, W_mTupOf, W_mListT, W_mIfx, W_mAk2, W_mAc, W_mCst0, W_mCstS, W_mAndV, W_mOrV, W_mNotV, W_some, W_map, W_bind, seqQ_nx, seqQ_rt, List.set_cons_succ, List.set_cons_zero, List.map_cons, List.map_nil, List.length_cons, List.length_nil, List.nil_append, List.cons_append, List.replicate, wipeE, PyData.bool.injEq, PyData.int.injEq, exists_eq_left', exists_eq_left, and_true, true_and, eq_ints, ↓reduceIte, Option.bind_some, Option.map_some, Nat.reduceAdd, Nat.reduceLeDiff, PyData.list.injEq, PyData.tuple.injEq, add_ints, sub_ints, lt_ints, le_ints, gt_ints, ge_ints, glen_list, glen_tuple]
  refine takeB_W g (by omega) (by omega) (by omega) fun v T1 v0 v1 g1 => ?_
  obtain ⟨d, hd, e⟩ := ix_list v0 v1
  simp only [e, W_mSeq, W_mSet, W_mSetF, W_mIf, W_mRet, W_mCf, W_mAk0, W_mAk1, W_mAd, W_mN0, W_mC, W_mBin, W_mVar0, W_mVarS, W_mVarBd, W_mVarBo, W_mVarBS, W_mQ, W_mNot, W_mAnd, W_mOr, W_mL, W_mLst, W_mCons, W_mNil, W_mTup, W_mIt, W_mLc, W_mRng1, W_mCall, W_mNext, W_mAsg, W_mFor, W_mYes, W_mSl, W_mP0, W_mP, W_mSlF, W_mNeg, W_mRevT, W_mTupOf, W_mListT, W_mIfx, W_mAk2, W_mAc, W_mCst0, W_mCstS, W_mAndV, W_mOrV, W_mNotV, W_some, W_map, W_bind, seqQ_nx, seqQ_rt, List.set_cons_succ, List.set_cons_zero, List.map_cons, List.map_nil, List.length_cons, List.length_nil, List.nil_append, List.cons_append, List.replicate, wipeE, PyData.bool.injEq, PyData.int.injEq, exists_eq_left', exists_eq_left, and_true, true_and, eq_ints, ↓reduceIte, Option.bind_some, Option.map_some, Nat.reduceAdd, Nat.reduceLeDiff, PyData.list.injEq, PyData.tuple.injEq, add_ints, sub_ints, lt_ints, le_ints, gt_ints, ge_ints, glen_list, glen_tuple]
  refine takeB_W g1 (by decide) (by decide) (by omega) fun u T2 u0 u1 g2 => ?_
  simp only [W_mSeq, W_mSet, W_mSetF, W_mIf, W_mRet, W_mCf, W_mAk0, W_mAk1, W_mAd, W_mN0, W_mC, W_mBin, W_mVar0, W_mVarS, W_mVarBd, W_mVarBo, W_mVarBS, W_mQ, W_mNot, W_mAnd, W_mOr, W_mL, W_mLst, W_mCons, W_mNil, W_mTup, W_mIt, W_mLc, W_mRng1, W_mCall, W_mNext, W_mAsg, W_mFor, W_mYes, W_mSl, W_mP0, W_mP, W_mSlF, W_mNeg, W_mRevT, W_mTupOf, W_mListT, W_mIfx, W_mAk2, W_mAc, W_mCst0, W_mCstS, W_mAndV, W_mOrV, W_mNotV, W_some, W_map, W_bind, seqQ_nx, seqQ_rt, List.set_cons_succ, List.set_cons_zero, List.map_cons, List.map_nil, List.length_cons, List.length_nil, List.nil_append, List.cons_append, List.replicate, wipeE, PyData.bool.injEq, PyData.int.injEq, exists_eq_left', exists_eq_left, and_true, true_and, eq_ints, ↓reduceIte, Option.bind_some, Option.map_some, Nat.reduceAdd, Nat.reduceLeDiff, PyData.list.injEq, PyData.tuple.injEq, add_ints, sub_ints, lt_ints, le_ints, gt_ints, ge_ints, glen_list, glen_tuple]
  obtain ⟨s, rfl, ts⟩ := hn d hd
  exact ⟨_, _, rfl, q _ _ ⟨s, u, rfl, ts, by omega⟩ g2⟩
theorem sort_W {k : Nat} {T : Dk} {Q : PyData × Dk → Prop} {ks rs : List PyData} (g : GB k T) (hk : k + 70 < 1000000000) (hr : rs ≠ []) (hl : rs.length < 1000) (hn : ∀ d ∈ rs, Nm d) (hr' : ks ≠ []) (hl' : ks.length < 1000) (hn' : ∀ d ∈ ks, Nm d) (q : ∀ (d : PyData) (T' : Dk), So d → GB (k + 3) T' → Q (d, T')) : W (V__law_sort [.deck, .dat (.list ks), .dat (.list rs)] T) Q := by
  have hp : 0 < ks.length := List.length_pos_iff.mpr hr'
  refine W_mFun ?_
  unfold VB__law_sort
  simp only [W_mSeq, W_mSet, W_mSetF, W_mIf, W_mRet, W_mCf, W_mAk0, W_mAk1, W_mAd, W_mN0, W_mC, W_mBin, W_mVar0, W_mVarS, W_mVarBd, W_mVarBo, W_mVarBS, W_mQ, W_mNot, W_mAnd, W_mOr, W_mL, W_mLst, W_mCons, W_mNil, W_mTup, W_mIt, W_mLc, W_mRng1, W_mCall, W_mNext, W_mAsg, W_mFor, W_mYes, W_mSl, W_mP0, W_mP, W_mSlF, W_mNeg, W_mRevT, W_mTupOf, W_mListT, W_mIfx, W_mAk2, W_mAc, W_mCst0, W_mCstS, W_mAndV, W_mOrV, W_mNotV, W_some, W_map, W_bind, seqQ_nx, seqQ_rt, List.set_cons_succ, List.set_cons_zero, List.map_cons, List.map_nil, List.length_cons, List.length_nil, List.nil_append, List.cons_append, List.replicate, wipeE, PyData.bool.injEq, PyData.int.injEq, exists_eq_left', exists_eq_left, and_true, true_and, eq_ints, ↓reduceIte, Option.bind_some, Option.map_some, Nat.reduceAdd, Nat.reduceLeDiff, PyData.list.injEq, PyData.tuple.injEq, add_ints, sub_ints, lt_ints, le_ints, gt_ints, ge_ints, glen_list, glen_tuple]
  refine takeB_W g (by omega) (by omega) (by omega) fun v T1 v0 v1 g1 => ?_
  simp only [W_mSeq, W_mSet, W_mSetF, W_mIf, W_mRet, W_mCf, W_mAk0, W_mAk1, W_mAd, W_mN0, W_mC, W_mBin, W_mVar0, W_mVarS, W_mVarBd, W_mVarBo, W_mVarBS, W_mQ, W_mNot, W_mAnd, W_mOr, W_mL, W_mLst, W_mCons, W_mNil, W_mTup, W_mIt, W_mLc, W_mRng1, W_mCall, W_mNext, W_mAsg, W_mFor, W_mYes, W_mSl, W_mP0, W_mP, W_mSlF, W_mNeg, W_mRevT, W_mTupOf, W_mListT, W_mIfx, W_mAk2, W_mAc, W_mCst0, W_mCstS, W_mAndV, W_mOrV, W_mNotV, W_some, W_map, W_bind, seqQ_nx, seqQ_rt, List.set_cons_succ, List.set_cons_zero, List.map_cons, List.map_nil, List.length_cons, List.length_nil, List.nil_append, List.cons_append, List.replicate, wipeE, PyData.bool.injEq, PyData.int.injEq, exists_eq_left', exists_eq_left, and_true, true_and, eq_ints, ↓reduceIte, Option.bind_some, Option.map_some, Nat.reduceAdd, Nat.reduceLeDiff, PyData.list.injEq, PyData.tuple.injEq, add_ints, sub_ints, lt_ints, le_ints, gt_ints, ge_ints, glen_list, glen_tuple]
  split
  · refine takeB_W g1 (by omega) (by omega) (by omega) fun u T2 u0 u1 g2 => ?_
    obtain ⟨d, hd, e⟩ := ix_list u0 u1
    simp only [e, W_mSeq, W_mSet, W_mSetF, W_mIf, W_mRet, W_mCf, W_mAk0, W_mAk1, W_mAd, W_mN0, W_mC, W_mBin, W_mVar0, W_mVarS, W_mVarBd, W_mVarBo, W_mVarBS, W_mQ, W_mNot, W_mAnd, W_mOr, W_mL, W_mLst, W_mCons, W_mNil, W_mTup, W_mIt, W_mLc, W_mRng1, W_mCall, W_mNext, W_mAsg, W_mFor, W_mYes, W_mSl, W_mP0, W_mP, W_mSlF, W_mNeg, W_mRevT, W_mTupOf, W_mListT, W_mIfx, W_mAk2, W_mAc, W_mCst0, W_mCstS, W_mAndV, W_mOrV, W_mNotV, W_some, W_map, W_bind, seqQ_nx, seqQ_rt, List.set_cons_succ, List.set_cons_zero, List.map_cons, List.map_nil, List.length_cons, List.length_nil, List.nil_append, List.cons_append, List.replicate, wipeE, PyData.bool.injEq, PyData.int.injEq, exists_eq_left', exists_eq_left, and_true, true_and, eq_ints, ↓reduceIte, Option.bind_some, Option.map_some, Nat.reduceAdd, Nat.reduceLeDiff, PyData.list.injEq, PyData.tuple.injEq, add_ints, sub_ints, lt_ints, le_ints, gt_ints, ge_ints, glen_list, glen_tuple]
    obtain ⟨s, rfl, ts⟩ := hn' d hd
    exact ⟨_, _, rfl, q _ _ (.inr ⟨s, rfl, ts⟩) (g2.up (by omega))⟩
  · refine turn_W g1 (by omega) hr hl hn fun d T2 hd g2 => ?_
    exact ⟨_, _, rfl, q _ _ (.inl hd) (g2.up (by omega))⟩
theorem rule_W {k : Nat} {T : Dk} {Q : PyData × Dk → Prop} {ks rs : List PyData} (g : GB k T) (hk : k + 80 < 1000000000) (hr : rs ≠ []) (hl : rs.length < 1000) (hn : ∀ d ∈ rs, Nm d) (hr' : ks ≠ []) (hl' : ks.length < 1000) (hn' : ∀ d ∈ ks, Nm d) (q : ∀ (d : PyData) (T' : Dk), Ru d → GB (k + 7) T' → Q (d, T')) : W (V__law_rule [.deck, .dat (.list ks), .dat (.list rs)] T) Q := by
  refine W_mFun ?_
  unfold VB__law_rule
  simp only [W_mSeq, W_mSet, W_mSetF, W_mIf, W_mRet, W_mCf, W_mAk0, W_mAk1, W_mAd, W_mN0, W_mC, W_mBin, W_mVar0, W_mVarS, W_mVarBd, W_mVarBo, W_mVarBS, W_mQ, W_mNot, W_mAnd, W_mOr, W_mL, W_mLst, W_mCons, W_mNil, W_mTup, W_mIt, W_mLc, W_mRng1, W_mCall, W_mNext, W_mAsg, W_mFor, W_mYes, W_mSl, W_mP0, W_mP, W_mSlF, W_mNeg, W_mRevT, W_mTupOf, W_mListT, W_mIfx, W_mAk2, W_mAc, W_mCst0, W_mCstS, W_mAndV, W_mOrV, W_mNotV, W_some, W_map, W_bind, seqQ_nx, seqQ_rt, List.set_cons_succ, List.set_cons_zero, List.map_cons, List.map_nil, List.length_cons, List.length_nil, List.nil_append, List.cons_append, List.replicate, wipeE, PyData.bool.injEq, PyData.int.injEq, exists_eq_left', exists_eq_left, and_true, true_and, eq_ints, ↓reduceIte, Option.bind_some, Option.map_some, Nat.reduceAdd, Nat.reduceLeDiff, PyData.list.injEq, PyData.tuple.injEq, add_ints, sub_ints, lt_ints, le_ints, gt_ints, ge_ints, glen_list, glen_tuple]
  refine takeB_W g (by omega) (by omega) (by omega) fun v T1 v0 v1 g1 => ?_
  simp only [W_mSeq, W_mSet, W_mSetF, W_mIf, W_mRet, W_mCf, W_mAk0, W_mAk1, W_mAd, W_mN0, W_mC, W_mBin, W_mVar0, W_mVarS, W_mVarBd, W_mVarBo, W_mVarBS, W_mQ, W_mNot, W_mAnd, W_mOr, W_mL, W_mLst, W_mCons, W_mNil, W_mTup, W_mIt, W_mLc, W_mRng1, W_mCall, W_mNext, W_mAsg, W_mFor, W_mYes, W_mSl, W_mP0, W_mP, W_mSlF, W_mNeg, W_mRevT, W_mTupOf, W_mListT, W_mIfx, W_mAk2, W_mAc, W_mCst0, W_mCstS, W_mAndV, W_mOrV, W_mNotV, W_some, W_map, W_bind, seqQ_nx, seqQ_rt, List.set_cons_succ, List.set_cons_zero, List.map_cons, List.map_nil, List.length_cons, List.length_nil, List.nil_append, List.cons_append, List.replicate, wipeE, PyData.bool.injEq, PyData.int.injEq, exists_eq_left', exists_eq_left, and_true, true_and, eq_ints, ↓reduceIte, Option.bind_some, Option.map_some, Nat.reduceAdd, Nat.reduceLeDiff, PyData.list.injEq, PyData.tuple.injEq, add_ints, sub_ints, lt_ints, le_ints, gt_ints, ge_ints, glen_list, glen_tuple]
  split
  · refine sort_W g1 (by omega) hr hl hn hr' hl' hn' fun a T2 ha g2 => ?_
    simp only [W_mSeq, W_mSet, W_mSetF, W_mIf, W_mRet, W_mCf, W_mAk0, W_mAk1, W_mAd, W_mN0, W_mC, W_mBin, W_mVar0, W_mVarS, W_mVarBd, W_mVarBo, W_mVarBS, W_mQ, W_mNot, W_mAnd, W_mOr, W_mL, W_mLst, W_mCons, W_mNil, W_mTup, W_mIt, W_mLc, W_mRng1, W_mCall, W_mNext, W_mAsg, W_mFor, W_mYes, W_mSl, W_mP0, W_mP, W_mSlF, W_mNeg, W_mRevT, W_mTupOf, W_mListT, W_mIfx, W_mAk2, W_mAc, W_mCst0, W_mCstS, W_mAndV, W_mOrV, W_mNotV, W_some, W_map, W_bind, seqQ_nx, seqQ_rt, List.set_cons_succ, List.set_cons_zero, List.map_cons, List.map_nil, List.length_cons, List.length_nil, List.nil_append, List.cons_append, List.replicate, wipeE, PyData.bool.injEq, PyData.int.injEq, exists_eq_left', exists_eq_left, and_true, true_and, eq_ints, ↓reduceIte, Option.bind_some, Option.map_some, Nat.reduceAdd, Nat.reduceLeDiff, PyData.list.injEq, PyData.tuple.injEq, add_ints, sub_ints, lt_ints, le_ints, gt_ints, ge_ints, glen_list, glen_tuple]
    refine sort_W g2 (by omega) hr hl hn hr' hl' hn' fun b T3 hb g3 => ?_
    simp only [W_mSeq, W_mSet, W_mSetF, W_mIf, W_mRet, W_mCf, W_mAk0, W_mAk1, W_mAd, W_mN0, W_mC, W_mBin, W_mVar0, W_mVarS, W_mVarBd, W_mVarBo, W_mVarBS, W_mQ, W_mNot, W_mAnd, W_mOr, W_mL, W_mLst, W_mCons, W_mNil, W_mTup, W_mIt, W_mLc, W_mRng1, W_mCall, W_mNext, W_mAsg, W_mFor, W_mYes, W_mSl, W_mP0, W_mP, W_mSlF, W_mNeg, W_mRevT, W_mTupOf, W_mListT, W_mIfx, W_mAk2, W_mAc, W_mCst0, W_mCstS, W_mAndV, W_mOrV, W_mNotV, W_some, W_map, W_bind, seqQ_nx, seqQ_rt, List.set_cons_succ, List.set_cons_zero, List.map_cons, List.map_nil, List.length_cons, List.length_nil, List.nil_append, List.cons_append, List.replicate, wipeE, PyData.bool.injEq, PyData.int.injEq, exists_eq_left', exists_eq_left, and_true, true_and, eq_ints, ↓reduceIte, Option.bind_some, Option.map_some, Nat.reduceAdd, Nat.reduceLeDiff, PyData.list.injEq, PyData.tuple.injEq, add_ints, sub_ints, lt_ints, le_ints, gt_ints, ge_ints, glen_list, glen_tuple]
    exact ⟨_, _, rfl, q _ _ ⟨_, a, b, rfl, .inl ⟨.inl rfl, ha, hb⟩⟩ (g3.up (by omega))⟩
  split
  · refine turn_W g1 (by omega) hr hl hn fun a T2 ha g2 => ?_
    simp only [W_mSeq, W_mSet, W_mSetF, W_mIf, W_mRet, W_mCf, W_mAk0, W_mAk1, W_mAd, W_mN0, W_mC, W_mBin, W_mVar0, W_mVarS, W_mVarBd, W_mVarBo, W_mVarBS, W_mQ, W_mNot, W_mAnd, W_mOr, W_mL, W_mLst, W_mCons, W_mNil, W_mTup, W_mIt, W_mLc, W_mRng1, W_mCall, W_mNext, W_mAsg, W_mFor, W_mYes, W_mSl, W_mP0, W_mP, W_mSlF, W_mNeg, W_mRevT, W_mTupOf, W_mListT, W_mIfx, W_mAk2, W_mAc, W_mCst0, W_mCstS, W_mAndV, W_mOrV, W_mNotV, W_some, W_map, W_bind, seqQ_nx, seqQ_rt, List.set_cons_succ, List.set_cons_zero, List.map_cons, List.map_nil, List.length_cons, List.length_nil, List.nil_append, List.cons_append, List.replicate, wipeE, PyData.bool.injEq, PyData.int.injEq, exists_eq_left', exists_eq_left, and_true, true_and, eq_ints, ↓reduceIte, Option.bind_some, Option.map_some, Nat.reduceAdd, Nat.reduceLeDiff, PyData.list.injEq, PyData.tuple.injEq, add_ints, sub_ints, lt_ints, le_ints, gt_ints, ge_ints, glen_list, glen_tuple]
    refine turn_W g2 (by omega) hr hl hn fun b T3 hb g3 => ?_
    simp only [W_mSeq, W_mSet, W_mSetF, W_mIf, W_mRet, W_mCf, W_mAk0, W_mAk1, W_mAd, W_mN0, W_mC, W_mBin, W_mVar0, W_mVarS, W_mVarBd, W_mVarBo, W_mVarBS, W_mQ, W_mNot, W_mAnd, W_mOr, W_mL, W_mLst, W_mCons, W_mNil, W_mTup, W_mIt, W_mLc, W_mRng1, W_mCall, W_mNext, W_mAsg, W_mFor, W_mYes, W_mSl, W_mP0, W_mP, W_mSlF, W_mNeg, W_mRevT, W_mTupOf, W_mListT, W_mIfx, W_mAk2, W_mAc, W_mCst0, W_mCstS, W_mAndV, W_mOrV, W_mNotV, W_some, W_map, W_bind, seqQ_nx, seqQ_rt, List.set_cons_succ, List.set_cons_zero, List.map_cons, List.map_nil, List.length_cons, List.length_nil, List.nil_append, List.cons_append, List.replicate, wipeE, PyData.bool.injEq, PyData.int.injEq, exists_eq_left', exists_eq_left, and_true, true_and, eq_ints, ↓reduceIte, Option.bind_some, Option.map_some, Nat.reduceAdd, Nat.reduceLeDiff, PyData.list.injEq, PyData.tuple.injEq, add_ints, sub_ints, lt_ints, le_ints, gt_ints, ge_ints, glen_list, glen_tuple]
    exact ⟨_, _, rfl, q _ _ ⟨_, a, b, rfl, .inr ⟨.inl rfl, ha, hb⟩⟩ (g3.up (by omega))⟩
  split
  · refine sort_W g1 (by omega) hr hl hn hr' hl' hn' fun a T2 ha g2 => ?_
    simp only [W_mSeq, W_mSet, W_mSetF, W_mIf, W_mRet, W_mCf, W_mAk0, W_mAk1, W_mAd, W_mN0, W_mC, W_mBin, W_mVar0, W_mVarS, W_mVarBd, W_mVarBo, W_mVarBS, W_mQ, W_mNot, W_mAnd, W_mOr, W_mL, W_mLst, W_mCons, W_mNil, W_mTup, W_mIt, W_mLc, W_mRng1, W_mCall, W_mNext, W_mAsg, W_mFor, W_mYes, W_mSl, W_mP0, W_mP, W_mSlF, W_mNeg, W_mRevT, W_mTupOf, W_mListT, W_mIfx, W_mAk2, W_mAc, W_mCst0, W_mCstS, W_mAndV, W_mOrV, W_mNotV, W_some, W_map, W_bind, seqQ_nx, seqQ_rt, List.set_cons_succ, List.set_cons_zero, List.map_cons, List.map_nil, List.length_cons, List.length_nil, List.nil_append, List.cons_append, List.replicate, wipeE, PyData.bool.injEq, PyData.int.injEq, exists_eq_left', exists_eq_left, and_true, true_and, eq_ints, ↓reduceIte, Option.bind_some, Option.map_some, Nat.reduceAdd, Nat.reduceLeDiff, PyData.list.injEq, PyData.tuple.injEq, add_ints, sub_ints, lt_ints, le_ints, gt_ints, ge_ints, glen_list, glen_tuple]
    refine sort_W g2 (by omega) hr hl hn hr' hl' hn' fun b T3 hb g3 => ?_
    simp only [W_mSeq, W_mSet, W_mSetF, W_mIf, W_mRet, W_mCf, W_mAk0, W_mAk1, W_mAd, W_mN0, W_mC, W_mBin, W_mVar0, W_mVarS, W_mVarBd, W_mVarBo, W_mVarBS, W_mQ, W_mNot, W_mAnd, W_mOr, W_mL, W_mLst, W_mCons, W_mNil, W_mTup, W_mIt, W_mLc, W_mRng1, W_mCall, W_mNext, W_mAsg, W_mFor, W_mYes, W_mSl, W_mP0, W_mP, W_mSlF, W_mNeg, W_mRevT, W_mTupOf, W_mListT, W_mIfx, W_mAk2, W_mAc, W_mCst0, W_mCstS, W_mAndV, W_mOrV, W_mNotV, W_some, W_map, W_bind, seqQ_nx, seqQ_rt, List.set_cons_succ, List.set_cons_zero, List.map_cons, List.map_nil, List.length_cons, List.length_nil, List.nil_append, List.cons_append, List.replicate, wipeE, PyData.bool.injEq, PyData.int.injEq, exists_eq_left', exists_eq_left, and_true, true_and, eq_ints, ↓reduceIte, Option.bind_some, Option.map_some, Nat.reduceAdd, Nat.reduceLeDiff, PyData.list.injEq, PyData.tuple.injEq, add_ints, sub_ints, lt_ints, le_ints, gt_ints, ge_ints, glen_list, glen_tuple]
    exact ⟨_, _, rfl, q _ _ ⟨_, a, b, rfl, .inl ⟨.inr rfl, ha, hb⟩⟩ (g3.up (by omega))⟩
  · refine turn_W g1 (by omega) hr hl hn fun a T2 ha g2 => ?_
    simp only [W_mSeq, W_mSet, W_mSetF, W_mIf, W_mRet, W_mCf, W_mAk0, W_mAk1, W_mAd, W_mN0, W_mC, W_mBin, W_mVar0, W_mVarS, W_mVarBd, W_mVarBo, W_mVarBS, W_mQ, W_mNot, W_mAnd, W_mOr, W_mL, W_mLst, W_mCons, W_mNil, W_mTup, W_mIt, W_mLc, W_mRng1, W_mCall, W_mNext, W_mAsg, W_mFor, W_mYes, W_mSl, W_mP0, W_mP, W_mSlF, W_mNeg, W_mRevT, W_mTupOf, W_mListT, W_mIfx, W_mAk2, W_mAc, W_mCst0, W_mCstS, W_mAndV, W_mOrV, W_mNotV, W_some, W_map, W_bind, seqQ_nx, seqQ_rt, List.set_cons_succ, List.set_cons_zero, List.map_cons, List.map_nil, List.length_cons, List.length_nil, List.nil_append, List.cons_append, List.replicate, wipeE, PyData.bool.injEq, PyData.int.injEq, exists_eq_left', exists_eq_left, and_true, true_and, eq_ints, ↓reduceIte, Option.bind_some, Option.map_some, Nat.reduceAdd, Nat.reduceLeDiff, PyData.list.injEq, PyData.tuple.injEq, add_ints, sub_ints, lt_ints, le_ints, gt_ints, ge_ints, glen_list, glen_tuple]
    refine turn_W g2 (by omega) hr hl hn fun b T3 hb g3 => ?_
    simp only [W_mSeq, W_mSet, W_mSetF, W_mIf, W_mRet, W_mCf, W_mAk0, W_mAk1, W_mAd, W_mN0, W_mC, W_mBin, W_mVar0, W_mVarS, W_mVarBd, W_mVarBo, W_mVarBS, W_mQ, W_mNot, W_mAnd, W_mOr, W_mL, W_mLst, W_mCons, W_mNil, W_mTup, W_mIt, W_mLc, W_mRng1, W_mCall, W_mNext, W_mAsg, W_mFor, W_mYes, W_mSl, W_mP0, W_mP, W_mSlF, W_mNeg, W_mRevT, W_mTupOf, W_mListT, W_mIfx, W_mAk2, W_mAc, W_mCst0, W_mCstS, W_mAndV, W_mOrV, W_mNotV, W_some, W_map, W_bind, seqQ_nx, seqQ_rt, List.set_cons_succ, List.set_cons_zero, List.map_cons, List.map_nil, List.length_cons, List.length_nil, List.nil_append, List.cons_append, List.replicate, wipeE, PyData.bool.injEq, PyData.int.injEq, exists_eq_left', exists_eq_left, and_true, true_and, eq_ints, ↓reduceIte, Option.bind_some, Option.map_some, Nat.reduceAdd, Nat.reduceLeDiff, PyData.list.injEq, PyData.tuple.injEq, add_ints, sub_ints, lt_ints, le_ints, gt_ints, ge_ints, glen_list, glen_tuple]
    exact ⟨_, _, rfl, q _ _ ⟨_, a, b, rfl, .inr ⟨.inr rfl, ha, hb⟩⟩ (g3.up (by omega))⟩
theorem rules_W {k m : Nat} {T : Dk} {Q : PyData × Dk → Prop} {ks rs : List PyData} (g : GB k T) (hk : k + 500 < 1000000000) (hm : m ≤ 20) (hr : rs ≠ []) (hl : rs.length ≤ 2) (hn : ∀ d ∈ rs, Nm d) (hr' : ks ≠ []) (hl' : ks.length < 1000) (hn' : ∀ d ∈ ks, Nm d) (q : ∀ (ds : List PyData) (T' : Dk), (∀ d ∈ ds, Ru d) → ds.length ≤ m → GB (k + 7 * m) T' → Q (.list ds, T')) : W (V__law_rules [.deck, .dat (.list ks), .dat (.list rs), .dat (.int (m : Nat))] T) Q := by
  refine W_mFun ?_
  unfold VB__law_rules
  simp only [W_mSeq, W_mSet, W_mSetF, W_mIf, W_mRet, W_mCf, W_mAk0, W_mAk1, W_mAd, W_mN0, W_mC, W_mBin, W_mVar0, W_mVarS, W_mVarBd, W_mVarBo, W_mVarBS, W_mQ, W_mNot, W_mAnd, W_mOr, W_mL, W_mLst, W_mCons, W_mNil, W_mTup, W_mIt, W_mLc, W_mRng1, W_mCall, W_mNext, W_mAsg, W_mFor, W_mYes, W_mSl, W_mP0, W_mP, W_mSlF, W_mNeg, W_mRevT, W_mTupOf, W_mListT, W_mIfx, W_mAk2, W_mAc, W_mCst0, W_mCstS, W_mAndV, W_mOrV, W_mNotV, W_some, W_map, W_bind, seqQ_nx, seqQ_rt, List.set_cons_succ, List.set_cons_zero, List.map_cons, List.map_nil, List.length_cons, List.length_nil, List.nil_append, List.cons_append, List.replicate, wipeE, PyData.bool.injEq, PyData.int.injEq, exists_eq_left', exists_eq_left, and_true, true_and, eq_ints, ↓reduceIte, Option.bind_some, Option.map_some, Nat.reduceAdd, Nat.reduceLeDiff, PyData.list.injEq, PyData.tuple.injEq, add_ints, sub_ints, lt_ints, le_ints, gt_ints, ge_ints, glen_list, glen_tuple]
  refine ⟨by omega, ?_⟩
  refine W_fold (fun ds en T' => ∃ (a5 a6 : Option Sl) (fs : List PyData) (j : Nat), en = [some Sl.deck, some (.dat (.list ks)), some (.dat (.list rs)), some (.dat (.int (m : Nat))), some (Sl.own fs), a5, a6] ∧ (∀ d ∈ fs, Ru d) ∧ fs.length ≤ j ∧ j + ds.length = m ∧ GB (k + 7 * j) T') (fun d ds en T' hI => ?_) _ _ T ⟨none, none, [], 0, rfl, (fun _ h => by cases h), Nat.le_refl _, by simp [rng_len], g⟩ fun en' T' hI => ?_
  · obtain ⟨a5, a6, fs, j, rfl, f1, f2, f3, f4⟩ := hI
    rw [List.length_cons] at f3
    refine W_some.mpr ?_
    refine W_cut (fun en' T'' => ∃ d', Ru d' ∧ GB (k + 7 * (j + 1)) T'' ∧ en' = [some Sl.deck, some (.dat (.list ks)), some (.dat (.list rs)), some (.dat (.int (m : Nat))), some (Sl.own fs), some (.dat d), some (.dat d')]) ?_ ?_
    · simp only [W_mSet, W_mSetF, W_mIf, W_mRet, W_mCf, W_mAk0, W_mAk1, W_mAd, W_mN0, W_mC, W_mBin, W_mVar0, W_mVarS, W_mVarBd, W_mVarBo, W_mVarBS, W_mQ, W_mNot, W_mAnd, W_mOr, W_mL, W_mLst, W_mCons, W_mNil, W_mTup, W_mIt, W_mLc, W_mRng1, W_mCall, W_mNext, W_mAsg, W_mYes, W_mSl, W_mP0, W_mP, W_mSlF, W_mNeg, W_mRevT, W_mTupOf, W_mListT, W_mIfx, W_mAk2, W_mAc, W_mCst0, W_mCstS, W_mAndV, W_mOrV, W_mNotV, W_some, W_map, W_bind, seqQ_nx, seqQ_rt, List.set_cons_succ, List.set_cons_zero, List.map_cons, List.map_nil, List.length_cons, List.length_nil, List.nil_append, List.cons_append, List.replicate, wipeE, PyData.bool.injEq, PyData.int.injEq, exists_eq_left', exists_eq_left, and_true, true_and, eq_ints, ↓reduceIte, Option.bind_some, Option.map_some, Nat.reduceAdd, Nat.reduceLeDiff, PyData.list.injEq, PyData.tuple.injEq, add_ints, sub_ints, lt_ints, le_ints, gt_ints, ge_ints, glen_list, glen_tuple, cut_head rs 2 hl]
      have e2 : cutD rs none (some 2) = rs := cut_head rs 2 hl
      rw [e2]
      refine rule_W f4 (by omega) hr (by omega) hn hr' hl' hn' fun d' T2 hd g2 => ?_
      exact ⟨_, _, rfl, d', hd, g2.up (by omega), rfl⟩
    rintro en1 T2 ⟨d', hd, g2, rfl⟩
    simp only [W_mSet, W_mSetF, W_mIf, W_mRet, W_mCf, W_mAk0, W_mAk1, W_mAd, W_mN0, W_mC, W_mBin, W_mVar0, W_mVarS, W_mVarBd, W_mVarBo, W_mVarBS, W_mQ, W_mNot, W_mAnd, W_mOr, W_mL, W_mLst, W_mCons, W_mNil, W_mTup, W_mIt, W_mLc, W_mRng1, W_mCall, W_mNext, W_mAsg, W_mYes, W_mSl, W_mP0, W_mP, W_mSlF, W_mNeg, W_mRevT, W_mTupOf, W_mListT, W_mIfx, W_mAk2, W_mAc, W_mCst0, W_mCstS, W_mAndV, W_mOrV, W_mNotV, W_some, W_map, W_bind, seqQ_nx, seqQ_rt, List.set_cons_succ, List.set_cons_zero, List.map_cons, List.map_nil, List.length_cons, List.length_nil, List.nil_append, List.cons_append, List.replicate, wipeE, PyData.bool.injEq, PyData.int.injEq, exists_eq_left', exists_eq_left, and_true, true_and, eq_ints, ↓reduceIte, Option.bind_some, Option.map_some, Nat.reduceAdd, Nat.reduceLeDiff, PyData.list.injEq, PyData.tuple.injEq, add_ints, sub_ints, lt_ints, le_ints, gt_ints, ge_ints, glen_list, glen_tuple, in_sh true hd.sh (fun d hd => (f1 d hd).sh) (by decide) (by decide)]
    split
    · rw [W_mApp (ds := fs) rfl]
      simp only [W_mSet, W_mSetF, W_mIf, W_mRet, W_mCf, W_mAk0, W_mAk1, W_mAd, W_mN0, W_mC, W_mBin, W_mVar0, W_mVarS, W_mVarBd, W_mVarBo, W_mVarBS, W_mQ, W_mNot, W_mAnd, W_mOr, W_mL, W_mLst, W_mCons, W_mNil, W_mTup, W_mIt, W_mLc, W_mRng1, W_mCall, W_mNext, W_mAsg, W_mYes, W_mSl, W_mP0, W_mP, W_mSlF, W_mNeg, W_mRevT, W_mTupOf, W_mListT, W_mIfx, W_mAk2, W_mAc, W_mCst0, W_mCstS, W_mAndV, W_mOrV, W_mNotV, W_some, W_map, W_bind, seqQ_nx, seqQ_rt, List.set_cons_succ, List.set_cons_zero, List.map_cons, List.map_nil, List.length_cons, List.length_nil, List.nil_append, List.cons_append, List.replicate, wipeE, PyData.bool.injEq, PyData.int.injEq, exists_eq_left', exists_eq_left, and_true, true_and, eq_ints, ↓reduceIte, Option.bind_some, Option.map_some, Nat.reduceAdd, Nat.reduceLeDiff, PyData.list.injEq, PyData.tuple.injEq, add_ints, sub_ints, lt_ints, le_ints, gt_ints, ge_ints, glen_list, glen_tuple]
      refine ⟨by omega, _, _, .inl rfl, _, _, _, j + 1, rfl, fun x hx => ?_, by rw [List.length_append]; simp only [List.length_cons, List.length_nil]; omega, by omega, g2⟩
      rcases List.mem_append.mp hx with h | h
      · exact f1 x h
      · rw [List.mem_singleton.mp h]
        exact hd
    · exact ⟨_, _, .inl rfl, _, _, fs, j + 1, rfl, f1, by omega, by omega, g2⟩
  · obtain ⟨a5, a6, fs, j, rfl, f1, f2, f3, f4⟩ := hI
    simp only [seqQ_nx]
    rw [W_mRetV (ds := fs) rfl]
    simp only [List.length_nil, Nat.add_zero] at f3
    exact ⟨_, _, rfl, q fs T' f1 (by omega) (f4.up (by omega))⟩
end LQ

-- LQVA
set_option Elab.async false
set_option linter.all false
set_option maxRecDepth 100000
set_option maxHeartbeats 2000000
namespace LQ
open PySem PySem.Spec PyProof.Rows L2
theorem W_eq {β : Type} {x : Option β} {v : β} : W x (fun p => p = v) ↔ x = some v := ⟨fun ⟨r, e, h⟩ => by rw [e, h], fun e => ⟨v, e, rfl⟩⟩
theorem eq_strs {n m : Nat} {s t : Str} (h : Tx n s) (g : Tx m t) : gEq (.str s) (.str t) = some (.bool (s == t)) := by
  rw [eq_sh (.str h) (.str g) (by decide) (by decide)]
  simp only [PyData.eqv]
theorem ne_strs {n m : Nat} {s t : Str} (h : Tx n s) (g : Tx m t) : gNe (.str s) (.str t) = some (.bool (!(s == t))) := by
  rw [ne_sh (.str h) (.str g) (by decide) (by decide)]
  simp only [PyData.eqv]
def rnd : PyData → PyData
  | .tuple [x, .int i] => .tuple [x, .int (1 - i)]
  | d => d
def wordOf : PyData → Str
  | .tuple [.str w, _, _] => w
  | _ => ""
def nextD (r s : PyData) (t : Int) : PyData := match r with
  | .tuple [.str w, a, b] => if (w == "within" && (t == 0 && PyData.eqv s a)) = true then b else if (w == "along" && (t == 0 && PyData.eqv s a)) = true then b else if (w == "along" && (t == 1 && PyData.eqv s (rnd a))) = true then rnd b else .none
  | _ => .none
theorem rnd_tn {d : PyData} (h : Tn d) : Tn (rnd d) := by
  obtain ⟨s, i, rfl, ts, h⟩ := h
  exact ⟨s, 1 - i, rfl, ts, by omega⟩
theorem round_val {d : PyData} (h : Tn d) (T : Dk) : V__law_round [.dat d] T = some (rnd d, T) := by
  obtain ⟨s, i, rfl, ts, h⟩ := h
  rfl
theorem other_val {d : PyData} (h : Tn d) (T : Dk) : V_other_way [.dat d] T = some (rnd d, T) := by
  obtain ⟨s, i, rfl, ts, h⟩ := h
  rfl
theorem tx_within : Tx 10 "within" := word_tx (.inl (.inl rfl))
theorem tx_along : Tx 10 "along" := word_tx (.inr (.inl rfl))
theorem w_aw : (Str.ofString "within" == Str.ofString "along") = false := by decide +kernel
theorem w_pw : (Str.ofString "apart" == Str.ofString "within") = false := by decide +kernel
theorem w_pa : (Str.ofString "apart" == Str.ofString "along") = false := by decide +kernel
theorem w_lw : (Str.ofString "along" == Str.ofString "within") = false := by decide +kernel
theorem w_yw : (Str.ofString "away" == Str.ofString "within") = false := by decide +kernel
theorem w_ya : (Str.ofString "away" == Str.ofString "along") = false := by decide +kernel
/-- the law's step -/
theorem next_val {rs : List PyData} {i : Nat} {r s : PyData} (hr : rs[i]? = some r) (h : Ru r) (hs : So s) (t : Int) (T : Dk) : V__law_next [.dat (.tuple rs), .dat s, .dat (.int (i : Nat)), .dat (.int t)] T = some (nextD r s t, T) := by
  obtain ⟨w, a, b, rfl, hw⟩ := h
  have tw : Tx 10 w := word_tx (hw.imp (fun h => h.1) (fun h => h.1))
  have hab : So a ∧ So b := by
    rcases hw with ⟨_, ha, hb⟩ | ⟨_, ha, hb⟩
    · exact ⟨ha, hb⟩
    · exact ⟨.inl ha, .inl hb⟩
  have hix := ix_tup hr
  have e1 := eq_strs tw tx_within
  have e2 := eq_strs tw tx_along
  have e3 := eq_sh hs.sh hab.1.sh (by decide) (by decide)
  refine W_eq.mp (W_mFun ?_)
  unfold VB__law_next
  refine W_seq_nx (en' := [some (.dat (.tuple rs)), some (.dat s), some (.dat (.int (i : Nat))), some (.dat (.int t)), some (.dat (.str w)), some (.dat a), some (.dat b)]) (T' := T) ?_ ?_
  · refine W_eq.mp ?_
    simp only [W_mSet, W_mSetF, W_mIf, W_mRet, W_mCf, W_mAk0, W_mAk1, W_mAd, W_mN0, W_mC, W_mBin, W_mVar0, W_mVarS, W_mVarBd, W_mVarBo, W_mVarBS, W_mQ, W_mNot, W_mAnd, W_mOr, W_mL, W_mLst, W_mCons, W_mNil, W_mTup, W_mIt, W_mLc, W_mRng1, W_mCall, W_mNext, W_mAsg, W_mYes, W_mSl, W_mP0, W_mP, W_mSlF, W_mNeg, W_mRevT, W_mTupOf, W_mListT, W_mIfx, W_mAk2, W_mAc, W_mCst0, W_mCstS, W_mAndV, W_mOrV, W_mNotV, W_some, W_map, W_bind, seqQ_nx, seqQ_rt, List.set_cons_succ, List.set_cons_zero, List.map_cons, List.map_nil, List.length_cons, List.length_nil, List.nil_append, List.cons_append, List.replicate, wipeE, PyData.bool.injEq, PyData.int.injEq, exists_eq_left', exists_eq_left, and_true, true_and, eq_ints, ↓reduceIte, Option.bind_some, Option.map_some, Nat.reduceAdd, Nat.reduceLeDiff, PyData.list.injEq, PyData.tuple.injEq, add_ints, sub_ints, lt_ints, le_ints, gt_ints, ge_ints, glen_list, glen_tuple, reduceCtorEq, false_or, or_false, hix, gtTup, gtCons, gtNil, gtName]
  rcases hw with ⟨rfl | rfl, ha, hb⟩ | ⟨rfl | rfl, ha, hb⟩
  · simp only [W_mSeq, W_mSet, W_mSetF, W_mIf, W_mRet, W_mCf, W_mAk0, W_mAk1, W_mAd, W_mN0, W_mC, W_mBin, W_mVar0, W_mVarS, W_mVarBd, W_mVarBo, W_mVarBS, W_mQ, W_mNot, W_mAnd, W_mOr, W_mL, W_mLst, W_mCons, W_mNil, W_mTup, W_mIt, W_mLc, W_mRng1, W_mCall, W_mNext, W_mAsg, W_mFor, W_mYes, W_mSl, W_mP0, W_mP, W_mSlF, W_mNeg, W_mRevT, W_mTupOf, W_mListT, W_mIfx, W_mAk2, W_mAc, W_mCst0, W_mCstS, W_mAndV, W_mOrV, W_mNotV, W_some, W_map, W_bind, seqQ_nx, seqQ_rt, List.set_cons_succ, List.set_cons_zero, List.map_cons, List.map_nil, List.length_cons, List.length_nil, List.nil_append, List.cons_append, List.replicate, wipeE, PyData.bool.injEq, PyData.int.injEq, exists_eq_left', exists_eq_left, and_true, true_and, eq_ints, ↓reduceIte, Option.bind_some, Option.map_some, Nat.reduceAdd, Nat.reduceLeDiff, PyData.list.injEq, PyData.tuple.injEq, add_ints, sub_ints, lt_ints, le_ints, gt_ints, ge_ints, glen_list, glen_tuple, reduceCtorEq, false_or, or_false, e1, e2, e3, nextD, beq_self_eq_true, w_aw, Bool.true_and, Bool.false_and, Bool.false_eq_true]
    cases (t == 0) <;> cases (PyData.eqv s a) <;> simp
  · simp only [W_mSeq, W_mSet, W_mSetF, W_mIf, W_mRet, W_mCf, W_mAk0, W_mAk1, W_mAd, W_mN0, W_mC, W_mBin, W_mVar0, W_mVarS, W_mVarBd, W_mVarBo, W_mVarBS, W_mQ, W_mNot, W_mAnd, W_mOr, W_mL, W_mLst, W_mCons, W_mNil, W_mTup, W_mIt, W_mLc, W_mRng1, W_mCall, W_mNext, W_mAsg, W_mFor, W_mYes, W_mSl, W_mP0, W_mP, W_mSlF, W_mNeg, W_mRevT, W_mTupOf, W_mListT, W_mIfx, W_mAk2, W_mAc, W_mCst0, W_mCstS, W_mAndV, W_mOrV, W_mNotV, W_some, W_map, W_bind, seqQ_nx, seqQ_rt, List.set_cons_succ, List.set_cons_zero, List.map_cons, List.map_nil, List.length_cons, List.length_nil, List.nil_append, List.cons_append, List.replicate, wipeE, PyData.bool.injEq, PyData.int.injEq, exists_eq_left', exists_eq_left, and_true, true_and, eq_ints, ↓reduceIte, Option.bind_some, Option.map_some, Nat.reduceAdd, Nat.reduceLeDiff, PyData.list.injEq, PyData.tuple.injEq, add_ints, sub_ints, lt_ints, le_ints, gt_ints, ge_ints, glen_list, glen_tuple, reduceCtorEq, false_or, or_false, e1, e2, e3, nextD, w_pw, w_pa, Bool.true_and, Bool.false_and, Bool.false_eq_true]
    simp
  · have e4 := eq_sh hs.sh (rnd_tn ha).sh (by decide) (by decide)
    simp only [W_mSeq, W_mSet, W_mSetF, W_mIf, W_mRet, W_mCf, W_mAk0, W_mAk1, W_mAd, W_mN0, W_mC, W_mBin, W_mVar0, W_mVarS, W_mVarBd, W_mVarBo, W_mVarBS, W_mQ, W_mNot, W_mAnd, W_mOr, W_mL, W_mLst, W_mCons, W_mNil, W_mTup, W_mIt, W_mLc, W_mRng1, W_mCall, W_mNext, W_mAsg, W_mFor, W_mYes, W_mSl, W_mP0, W_mP, W_mSlF, W_mNeg, W_mRevT, W_mTupOf, W_mListT, W_mIfx, W_mAk2, W_mAc, W_mCst0, W_mCstS, W_mAndV, W_mOrV, W_mNotV, W_some, W_map, W_bind, seqQ_nx, seqQ_rt, List.set_cons_succ, List.set_cons_zero, List.map_cons, List.map_nil, List.length_cons, List.length_nil, List.nil_append, List.cons_append, List.replicate, wipeE, PyData.bool.injEq, PyData.int.injEq, exists_eq_left', exists_eq_left, and_true, true_and, eq_ints, ↓reduceIte, Option.bind_some, Option.map_some, Nat.reduceAdd, Nat.reduceLeDiff, PyData.list.injEq, PyData.tuple.injEq, add_ints, sub_ints, lt_ints, le_ints, gt_ints, ge_ints, glen_list, glen_tuple, reduceCtorEq, false_or, or_false, e1, e2, e3, nextD, w_lw, beq_self_eq_true, Bool.true_and, Bool.false_and, Bool.false_eq_true, round_val ha, round_val hb, e4]
    by_cases h0 : t = 0
    · subst h0
      cases (PyData.eqv s a) <;> simp
    · have hb0 : (t == 0) = false := by simpa using h0
      rw [hb0]
      cases (t == 1) <;> cases (PyData.eqv s (rnd a)) <;> simp
  · simp only [W_mSeq, W_mSet, W_mSetF, W_mIf, W_mRet, W_mCf, W_mAk0, W_mAk1, W_mAd, W_mN0, W_mC, W_mBin, W_mVar0, W_mVarS, W_mVarBd, W_mVarBo, W_mVarBS, W_mQ, W_mNot, W_mAnd, W_mOr, W_mL, W_mLst, W_mCons, W_mNil, W_mTup, W_mIt, W_mLc, W_mRng1, W_mCall, W_mNext, W_mAsg, W_mFor, W_mYes, W_mSl, W_mP0, W_mP, W_mSlF, W_mNeg, W_mRevT, W_mTupOf, W_mListT, W_mIfx, W_mAk2, W_mAc, W_mCst0, W_mCstS, W_mAndV, W_mOrV, W_mNotV, W_some, W_map, W_bind, seqQ_nx, seqQ_rt, List.set_cons_succ, List.set_cons_zero, List.map_cons, List.map_nil, List.length_cons, List.length_nil, List.nil_append, List.cons_append, List.replicate, wipeE, PyData.bool.injEq, PyData.int.injEq, exists_eq_left', exists_eq_left, and_true, true_and, eq_ints, ↓reduceIte, Option.bind_some, Option.map_some, Nat.reduceAdd, Nat.reduceLeDiff, PyData.list.injEq, PyData.tuple.injEq, add_ints, sub_ints, lt_ints, le_ints, gt_ints, ge_ints, glen_list, glen_tuple, reduceCtorEq, false_or, or_false, e1, e2, e3, nextD, w_yw, w_ya, Bool.true_and, Bool.false_and, Bool.false_eq_true]
    simp
theorem next_so {r s : PyData} (h : Ru r) (t : Int) : nextD r s t = .none ∨ So (nextD r s t) := by
  obtain ⟨w, a, b, rfl, hw⟩ := h
  simp only [nextD]
  rcases hw with ⟨hw, ha, hb⟩ | ⟨hw, ha, hb⟩
  · have : (w == "along") = false := by rcases hw with rfl | rfl <;> decide +kernel
    rw [this]
    split
    · exact .inr hb
    · simp
  · split
    · exact .inr (.inl hb)
    split
    · exact .inr (.inl hb)
    split
    · exact .inr (.inl (rnd_tn hb))
    · exact .inl rfl
/-! ### ways, walked -/
def stepOf (rs : List PyData) (al : Bool) : PyData → Option (PyData × Int)
  | .tuple [.int i, .int t] => if 0 ≤ i ∧ i < (rs.length : Nat) then (rs[i.toNat]?).bind fun r => if (al && !(wordOf r == "along")) = true then none else some (r, t) else none
  | _ => none
def walk (rs : List PyData) (al : Bool) : List PyData → PyData → Option PyData
  | [], s => some s
  | d :: ds, s => match stepOf rs al d with
    | none => none
    | some (r, t) => if isNn (nextD r s t) = true then none else walk rs al ds (nextD r s t)
theorem isNn_so {d : PyData} (h : So d) : isNn d = false := by
  rcases h with ⟨s, i, rfl, _⟩ | ⟨s, rfl, _⟩ <;> rfl
theorem isNn_none {d : PyData} (h : isNn d = true) : d = .none := by
  cases d <;> first | rfl | cases h
theorem isWh_int {d : PyData} (h : isWh d = true) : ∃ i, d = .int i := by
  cases d <;> first | exact ⟨_, rfl⟩ | cases h
theorem word_val {r : PyData} (h : Ru r) : ixD r (.int 0) = some (.str (wordOf r)) ∧ Tx 10 (wordOf r) := by
  obtain ⟨w, a, b, rfl, hw⟩ := h
  exact ⟨rfl, word_tx (hw.imp (fun h => h.1) (fun h => h.1))⟩
def endBody : MS := (mSeq (mIf (mOr (mNot (mQ (mIsi "tuple" (mVar 4)))) (mQ (mBin gNe (mCall gLen (mCons (mVar 4) mNil)) (mC (PyData.int (2)))))) (mRet (mC .none)) mNext)
  (mSeq (mIf (mOr (mNot (mQ (mCf V_is_whole (mAd (mBin ixD (mVar 4) (mC (PyData.int (0)))) mN0)))) (mOr (mNot (mQ (mCf V_is_whole (mAd (mBin ixD (mVar 4) (mC (PyData.int (1)))) mN0)))) (mOr (mQ (mBin gLt (mBin ixD (mVar 4) (mC (PyData.int (0)))) (mC (PyData.int (0))))) (mQ (mBin gGe (mBin ixD (mVar 4) (mC (PyData.int (0)))) (mCall gLen (mCons (mVar 0) mNil))))))) (mRet (mC .none)) mNext)
  (mSeq (mIf (mAnd (mQ (mVar 3)) (mQ (mBin gNe (mBin ixD (mBin ixD (mVar 0) (mBin ixD (mVar 4) (mC (PyData.int (0))))) (mC (PyData.int (0)))) (mC (PyData.str "along"))))) (mRet (mC .none)) mNext)
  (mSeq (mSet 1 (mCf V__law_next (mAd (mVar 0) (mAd (mVar 1) (mAd (mBin ixD (mVar 4) (mC (PyData.int (0)))) (mAd (mBin ixD (mVar 4) (mC (PyData.int (1)))) mN0))))))
  (mIf (mQ (mBin (gIsN false) (mVar 1) (mC .none))) (mRet (mC .none)) mNext)))))
theorem ne_ints (i j : Int) : gNe (.int i) (.int j) = some (.bool (!(i == j))) := rfl
theorem W_mIsiT {m : ME} {en : En} {T : Dk} {Q : PyData × Dk → Prop} : W (mIsi "tuple" m en T) Q ↔ W (m en T) fun p => Q (.bool (match p.1 with | .tuple _ => true | _ => false), p.2) := by
  rw [W_mIsi]
  refine W_congr fun p => ?_
  obtain ⟨d, T'⟩ := p
  have e := v_isi_tuple d
  cases d <;> exact W_some
theorem ix0 (a : PyData) (ds : List PyData) : ixD (.tuple (a :: ds)) (.int 0) = some a := ix_tup (i := 0) rfl
theorem ix1 (a b : PyData) (ds : List PyData) : ixD (.tuple (a :: b :: ds)) (.int 1) = some b := ix_tup (i := 1) rfl
/-- one step of the law's walk -/
theorem endBody_val {rs : List PyData} (hrs : ∀ r ∈ rs, Ru r) (al : Bool) {s : PyData} (hs : So s) (th d : PyData) (T : Dk) :
    endBody [some (.dat (.tuple rs)), some (.dat s), some (.dat th), some (.dat (.bool al)), some (.dat d)] T = some (match stepOf rs al d with
      | none => .rt .none T
      | some (r, t) => if isNn (nextD r s t) = true then .rt .none T else .nx [some (.dat (.tuple rs)), some (.dat (nextD r s t)), some (.dat th), some (.dat (.bool al)), some (.dat d)] T) := by
  refine W_eq.mp ?_
  unfold endBody
  have short : ∀ d', (∀ x y, d' ≠ .tuple [x, y]) → (mOr (mNot (mQ (mIsi "tuple" (mVar 4)))) (mQ (mBin gNe (mCall gLen (mCons (mVar 4) mNil)) (mC (PyData.int (2)))))) [some (.dat (.tuple rs)), some (.dat s), some (.dat th), some (.dat (.bool al)), some (.dat d')] T = some (true, T) := by
    intro d' hd
    refine W_eq.mp ?_
    cases d' with
    | tuple ds =>
      simp only [W_mSet, W_mSetF, W_mIf, W_mRet, W_mCf, W_mAk0, W_mAk1, W_mAd, W_mN0, W_mC, W_mBin, W_mVar0, W_mVarS, W_mVarBd, W_mVarBo, W_mVarBS, W_mQ, W_mNot, W_mAnd, W_mOr, W_mL, W_mLst, W_mCons, W_mNil, W_mTup, W_mIt, W_mLc, W_mRng1, W_mCall, W_mNext, W_mAsg, W_mYes, W_mSl, W_mP0, W_mP, W_mSlF, W_mNeg, W_mRevT, W_mTupOf, W_mListT, W_mIfx, W_mAk2, W_mAc, W_mCst0, W_mCstS, W_mAndV, W_mOrV, W_mNotV, W_some, W_map, W_bind, seqQ_nx, seqQ_rt, List.set_cons_succ, List.set_cons_zero, List.map_cons, List.map_nil, List.length_cons, List.length_nil, List.nil_append, List.cons_append, List.replicate, wipeE, PyData.bool.injEq, PyData.int.injEq, exists_eq_left', exists_eq_left, and_true, true_and, eq_ints, ↓reduceIte, Option.bind_some, Option.map_some, Nat.reduceAdd, Nat.reduceLeDiff, PyData.list.injEq, PyData.tuple.injEq, add_ints, sub_ints, lt_ints, le_ints, gt_ints, ge_ints, glen_list, glen_tuple, reduceCtorEq, false_or, or_false, W_mIsiT, ne_ints]
      have : ((((ds.length : Nat) : Int)) == 2) = false := by
        simp only [beq_eq_false_iff_ne, ne_eq]
        intro h
        match ds, h with
        | [x, y], _ => exact hd x y rfl
        | [], h => simp at h
        | [_], h => simp at h
        | _ :: _ :: _ :: _, h => simp at h; omega
      simp [this]
    | _ => simp only [W_mSet, W_mSetF, W_mIf, W_mRet, W_mCf, W_mAk0, W_mAk1, W_mAd, W_mN0, W_mC, W_mBin, W_mVar0, W_mVarS, W_mVarBd, W_mVarBo, W_mVarBS, W_mQ, W_mNot, W_mAnd, W_mOr, W_mL, W_mLst, W_mCons, W_mNil, W_mTup, W_mIt, W_mLc, W_mRng1, W_mCall, W_mNext, W_mAsg, W_mYes, W_mSl, W_mP0, W_mP, W_mSlF, W_mNeg, W_mRevT, W_mTupOf, W_mListT, W_mIfx, W_mAk2, W_mAc, W_mCst0, W_mCstS, W_mAndV, W_mOrV, W_mNotV, W_some, W_map, W_bind, seqQ_nx, seqQ_rt, List.set_cons_succ, List.set_cons_zero, List.map_cons, List.map_nil, List.length_cons, List.length_nil, List.nil_append, List.cons_append, List.replicate, wipeE, PyData.bool.injEq, PyData.int.injEq, exists_eq_left', exists_eq_left, and_true, true_and, eq_ints, ↓reduceIte, Option.bind_some, Option.map_some, Nat.reduceAdd, Nat.reduceLeDiff, PyData.list.injEq, PyData.tuple.injEq, add_ints, sub_ints, lt_ints, le_ints, gt_ints, ge_ints, glen_list, glen_tuple, reduceCtorEq, false_or, or_false, W_mIsiT]; simp
  by_cases h2 : ∃ x y, d = .tuple [x, y]
  · obtain ⟨x, y, rfl⟩ := h2
    have wx := v_is_whole x T
    have wy := v_is_whole y T
    cases hx : isWh x with
    | false =>
      rw [hx] at wx
      have hst : stepOf rs al (.tuple [x, y]) = none := by
        unfold stepOf
        split
        · rename_i e
          cases e
          cases hx
        · rfl
      simp only [W_mSeq, W_mSet, W_mSetF, W_mIf, W_mRet, W_mCf, W_mAk0, W_mAk1, W_mAd, W_mN0, W_mC, W_mBin, W_mVar0, W_mVarS, W_mVarBd, W_mVarBo, W_mVarBS, W_mQ, W_mNot, W_mAnd, W_mOr, W_mL, W_mLst, W_mCons, W_mNil, W_mTup, W_mIt, W_mLc, W_mRng1, W_mCall, W_mNext, W_mAsg, W_mFor, W_mYes, W_mSl, W_mP0, W_mP, W_mSlF, W_mNeg, W_mRevT, W_mTupOf, W_mListT, W_mIfx, W_mAk2, W_mAc, W_mCst0, W_mCstS, W_mAndV, W_mOrV, W_mNotV, W_some, W_map, W_bind, seqQ_nx, seqQ_rt, List.set_cons_succ, List.set_cons_zero, List.map_cons, List.map_nil, List.length_cons, List.length_nil, List.nil_append, List.cons_append, List.replicate, wipeE, PyData.bool.injEq, PyData.int.injEq, exists_eq_left', exists_eq_left, and_true, true_and, eq_ints, ↓reduceIte, Option.bind_some, Option.map_some, Nat.reduceAdd, Nat.reduceLeDiff, PyData.list.injEq, PyData.tuple.injEq, add_ints, sub_ints, lt_ints, le_ints, gt_ints, ge_ints, glen_list, glen_tuple, reduceCtorEq, false_or, or_false, W_mIsiT, ne_ints, ix0, ix1, wx, hst]
      simp
    | true =>
      obtain ⟨i, rfl⟩ := isWh_int hx
      cases hy : isWh y with
      | false =>
        rw [hy] at wy
        have hst : stepOf rs al (.tuple [.int i, y]) = none := by
          unfold stepOf
          split
          · rename_i e
            cases e
            cases hy
          · rfl
        simp only [W_mSeq, W_mSet, W_mSetF, W_mIf, W_mRet, W_mCf, W_mAk0, W_mAk1, W_mAd, W_mN0, W_mC, W_mBin, W_mVar0, W_mVarS, W_mVarBd, W_mVarBo, W_mVarBS, W_mQ, W_mNot, W_mAnd, W_mOr, W_mL, W_mLst, W_mCons, W_mNil, W_mTup, W_mIt, W_mLc, W_mRng1, W_mCall, W_mNext, W_mAsg, W_mFor, W_mYes, W_mSl, W_mP0, W_mP, W_mSlF, W_mNeg, W_mRevT, W_mTupOf, W_mListT, W_mIfx, W_mAk2, W_mAc, W_mCst0, W_mCstS, W_mAndV, W_mOrV, W_mNotV, W_some, W_map, W_bind, seqQ_nx, seqQ_rt, List.set_cons_succ, List.set_cons_zero, List.map_cons, List.map_nil, List.length_cons, List.length_nil, List.nil_append, List.cons_append, List.replicate, wipeE, PyData.bool.injEq, PyData.int.injEq, exists_eq_left', exists_eq_left, and_true, true_and, eq_ints, ↓reduceIte, Option.bind_some, Option.map_some, Nat.reduceAdd, Nat.reduceLeDiff, PyData.list.injEq, PyData.tuple.injEq, add_ints, sub_ints, lt_ints, le_ints, gt_ints, ge_ints, glen_list, glen_tuple, reduceCtorEq, false_or, or_false, W_mIsiT, ne_ints, ix0, ix1, wx, wy, hx, hst]
        simp
      | true =>
        obtain ⟨t, rfl⟩ := isWh_int hy
        by_cases hi : 0 ≤ i ∧ i < (rs.length : Nat)
        · obtain ⟨j, rfl⟩ := Int.eq_ofNat_of_zero_le hi.1
          have hj : j < rs.length := by omega
          have hr : rs[j]? = some rs[j] := List.getElem?_eq_getElem hj
          have ru := hrs rs[j] (List.getElem_mem hj)
          obtain ⟨ew, tw⟩ := word_val ru
          have hn := next_val hr ru hs t T
          have hst : stepOf rs al (.tuple [.int (j : Nat), .int t]) = if (al && !(wordOf rs[j] == "along")) = true then none else some (rs[j], t) := by
            simp only [stepOf]
            rw [if_pos hi]
            simp only [Int.toNat_natCast, hr, Option.bind_some]
          have hne := ne_strs tw tx_along
          rw [hst]
          simp only [W_mSeq, W_mSet, W_mSetF, W_mIf, W_mRet, W_mCf, W_mAk0, W_mAk1, W_mAd, W_mN0, W_mC, W_mBin, W_mVar0, W_mVarS, W_mVarBd, W_mVarBo, W_mVarBS, W_mQ, W_mNot, W_mAnd, W_mOr, W_mL, W_mLst, W_mCons, W_mNil, W_mTup, W_mIt, W_mLc, W_mRng1, W_mCall, W_mNext, W_mAsg, W_mFor, W_mYes, W_mSl, W_mP0, W_mP, W_mSlF, W_mNeg, W_mRevT, W_mTupOf, W_mListT, W_mIfx, W_mAk2, W_mAc, W_mCst0, W_mCstS, W_mAndV, W_mOrV, W_mNotV, W_some, W_map, W_bind, seqQ_nx, seqQ_rt, List.set_cons_succ, List.set_cons_zero, List.map_cons, List.map_nil, List.length_cons, List.length_nil, List.nil_append, List.cons_append, List.replicate, wipeE, PyData.bool.injEq, PyData.int.injEq, exists_eq_left', exists_eq_left, and_true, true_and, eq_ints, ↓reduceIte, Option.bind_some, Option.map_some, Nat.reduceAdd, Nat.reduceLeDiff, PyData.list.injEq, PyData.tuple.injEq, add_ints, sub_ints, lt_ints, le_ints, gt_ints, ge_ints, glen_list, glen_tuple, reduceCtorEq, false_or, or_false, W_mIsiT, ne_ints, ix0, ix1, wx, wy, hx, hy, ix_tup hr, ew, hne, hn]
          have c1 : decide (((j : Nat) : Int) < 0) = false := decide_eq_false (by omega)
          have c2 : decide (((rs.length : Nat) : Int) ≤ ((j : Nat) : Int)) = false := decide_eq_false (by omega)
          rw [c1, c2]
          cases al
          · simp
            cases hnn : isNn (nextD rs[j] s t) <;> simp [hnn, gIsN, W_some]
          · cases (wordOf rs[j] == "along") <;> simp
            cases hnn : isNn (nextD rs[j] s t) <;> simp [hnn, gIsN, W_some]
        · have hst : stepOf rs al (.tuple [.int i, .int t]) = none := by
            simp only [stepOf]
            rw [if_neg hi]
          simp only [W_mSeq, W_mSet, W_mSetF, W_mIf, W_mRet, W_mCf, W_mAk0, W_mAk1, W_mAd, W_mN0, W_mC, W_mBin, W_mVar0, W_mVarS, W_mVarBd, W_mVarBo, W_mVarBS, W_mQ, W_mNot, W_mAnd, W_mOr, W_mL, W_mLst, W_mCons, W_mNil, W_mTup, W_mIt, W_mLc, W_mRng1, W_mCall, W_mNext, W_mAsg, W_mFor, W_mYes, W_mSl, W_mP0, W_mP, W_mSlF, W_mNeg, W_mRevT, W_mTupOf, W_mListT, W_mIfx, W_mAk2, W_mAc, W_mCst0, W_mCstS, W_mAndV, W_mOrV, W_mNotV, W_some, W_map, W_bind, seqQ_nx, seqQ_rt, List.set_cons_succ, List.set_cons_zero, List.map_cons, List.map_nil, List.length_cons, List.length_nil, List.nil_append, List.cons_append, List.replicate, wipeE, PyData.bool.injEq, PyData.int.injEq, exists_eq_left', exists_eq_left, and_true, true_and, eq_ints, ↓reduceIte, Option.bind_some, Option.map_some, Nat.reduceAdd, Nat.reduceLeDiff, PyData.list.injEq, PyData.tuple.injEq, add_ints, sub_ints, lt_ints, le_ints, gt_ints, ge_ints, glen_list, glen_tuple, reduceCtorEq, false_or, or_false, W_mIsiT, ne_ints, ix0, ix1, wx, wy, hx, hy, hst]
          by_cases h0 : i < 0
          · simp [h0]
          · have : ((rs.length : Nat) : Int) ≤ i := by omega
            simp [this]
  · have hst : stepOf rs al d = none := by
      unfold stepOf
      split
      · exact absurd ⟨_, _, rfl⟩ h2
      · rfl
    rw [hst]
    refine W_mSeq.mpr (W.of ((ev_if_t (short d fun x y e => h2 ⟨x, y, e⟩)).trans rfl) ?_)
    rfl
theorem step_ru {rs : List PyData} (hrs : ∀ r ∈ rs, Ru r) {al : Bool} {d r : PyData} {t : Int} (hst : stepOf rs al d = some (r, t)) : Ru r := by
  unfold stepOf at hst
  split at hst
  · rename_i i t'
    split at hst
    · cases he : rs[i.toNat]? with
      | none => rw [he] at hst; cases hst
      | some r' =>
        rw [he] at hst
        simp only [Option.bind_some] at hst
        split at hst
        · cases hst
        · cases hst
          exact hrs _ (List.mem_of_getElem? he)
    · cases hst
  · cases hst
def endD (rs : List PyData) (al : Bool) (s : PyData) : PyData → PyData
  | .tuple ds => (walk rs al ds s).getD .none
  | _ => .none
theorem end_fold {rs : List PyData} (hrs : ∀ r ∈ rs, Ru r) (al : Bool) (th : PyData) (T : Dk) : ∀ (ds : List PyData) (s : PyData) (x : Option Sl), So s →
    W (mFold (gtName 4) endBody ds [some (.dat (.tuple rs)), some (.dat s), some (.dat th), some (.dat (.bool al)), x] T) fun r => (walk rs al ds s = none ∧ r = .rt .none T) ∨ ∃ s' x', walk rs al ds s = some s' ∧ So s' ∧ r = .nx [some (.dat (.tuple rs)), some (.dat s'), some (.dat th), some (.dat (.bool al)), x'] T
  | [], s, x, hs => W_some.mpr (.inr ⟨s, x, rfl, hs, rfl⟩)
  | d :: ds, s, x, hs => by
    have e := endBody_val hrs al hs th d T
    show W ((some [some (.dat (.tuple rs)), some (.dat s), some (.dat th), some (.dat (.bool al)), some (.dat d)]).bind fun en1 => (endBody en1 T).bind fun r => match r with
      | .nx en' T' => mFold (gtName 4) endBody ds en' T'
      | .ct en' T' => mFold (gtName 4) endBody ds en' T'
      | .bk en' T' => some (.nx en' T')
      | .rt d T' => some (.rt d T')) _
    simp only [Option.bind_some]
    rw [e]
    simp only [Option.bind_some, walk]
    cases hst : stepOf rs al d with
    | none => exact W_some.mpr (.inl ⟨rfl, rfl⟩)
    | some p =>
      obtain ⟨r, t⟩ := p
      simp only
      cases hn : isNn (nextD r s t) with
      | true => exact W_some.mpr (.inl ⟨rfl, rfl⟩)
      | false =>
        have hr : Ru r := step_ru hrs hst
        have hso : So (nextD r s t) := by
          rcases next_so (s := s) hr t with h | h
          · rw [h] at hn; cases hn
          · exact h
        exact end_fold hrs al th T ds (nextD r s t) _ hso
theorem end_val {rs : List PyData} (hrs : ∀ r ∈ rs, Ru r) (al : Bool) {s : PyData} (hs : So s) (th : PyData) (T : Dk) : V__law_end_of [.dat (.tuple rs), .dat s, .dat th, .dat (.bool al)] T = some (endD rs al s th, T) := by
  refine W_eq.mp (W_mFun ?_)
  show W ((mSeq (mIf (mNot (mQ (mIsi "tuple" (mVar 2)))) (mRet (mC .none)) mNext) (mSeq (mFor (mIt (mVar 2)) (gtName 4) endBody) (mRet (mVar 1)))) [some (.dat (.tuple rs)), some (.dat s), some (.dat th), some (.dat (.bool al)), none] T) _
  by_cases h : ∃ ds, th = .tuple ds
  · obtain ⟨ds, rfl⟩ := h
    refine W_seq_nx (en' := [some (.dat (.tuple rs)), some (.dat s), some (.dat (.tuple ds)), some (.dat (.bool al)), none]) (T' := T) rfl ?_
    rw [W_mSeq, W_mFor]
    refine W.of (r := (ds, T)) rfl ?_
    refine (end_fold hrs al (.tuple ds) T ds s none hs).imp fun r hr => ?_
    rcases hr with ⟨hw, rfl⟩ | ⟨s', x', hw, _, rfl⟩
    · exact ⟨_, _, rfl, by simp [endD, hw]⟩
    · simp only [W_mSeq, W_mSet, W_mSetF, W_mIf, W_mRet, W_mCf, W_mAk0, W_mAk1, W_mAd, W_mN0, W_mC, W_mBin, W_mVar0, W_mVarS, W_mVarBd, W_mVarBo, W_mVarBS, W_mQ, W_mNot, W_mAnd, W_mOr, W_mL, W_mLst, W_mCons, W_mNil, W_mTup, W_mIt, W_mLc, W_mRng1, W_mCall, W_mNext, W_mAsg, W_mFor, W_mYes, W_mSl, W_mP0, W_mP, W_mSlF, W_mNeg, W_mRevT, W_mTupOf, W_mListT, W_mIfx, W_mAk2, W_mAc, W_mCst0, W_mCstS, W_mAndV, W_mOrV, W_mNotV, W_some, W_map, W_bind, seqQ_nx, seqQ_rt, List.set_cons_succ, List.set_cons_zero, List.map_cons, List.map_nil, List.length_cons, List.length_nil, List.nil_append, List.cons_append, List.replicate, wipeE, PyData.bool.injEq, PyData.int.injEq, exists_eq_left', exists_eq_left, and_true, true_and, eq_ints, ↓reduceIte, Option.bind_some, Option.map_some, Nat.reduceAdd, Nat.reduceLeDiff, PyData.list.injEq, PyData.tuple.injEq, add_ints, sub_ints, lt_ints, le_ints, gt_ints, ge_ints, glen_list, glen_tuple, reduceCtorEq, false_or, or_false]
      exact ⟨_, _, rfl, by simp [endD, hw]⟩
  · have he : endD rs al s th = .none := by
      unfold endD
      split
      · exact absurd ⟨_, rfl⟩ h
      · rfl
    rw [he]
    refine W_mSeq.mpr (W.of (r := .rt .none T) ?_ ⟨_, _, rfl, rfl⟩)
    refine (ev_if_t ?_).trans rfl
    refine W_eq.mp ?_
    simp only [W_mSet, W_mSetF, W_mIf, W_mRet, W_mCf, W_mAk0, W_mAk1, W_mAd, W_mN0, W_mC, W_mBin, W_mVar0, W_mVarS, W_mVarBd, W_mVarBo, W_mVarBS, W_mQ, W_mNot, W_mAnd, W_mOr, W_mL, W_mLst, W_mCons, W_mNil, W_mTup, W_mIt, W_mLc, W_mRng1, W_mCall, W_mNext, W_mAsg, W_mYes, W_mSl, W_mP0, W_mP, W_mSlF, W_mNeg, W_mRevT, W_mTupOf, W_mListT, W_mIfx, W_mAk2, W_mAc, W_mCst0, W_mCstS, W_mAndV, W_mOrV, W_mNotV, W_some, W_map, W_bind, seqQ_nx, seqQ_rt, List.set_cons_succ, List.set_cons_zero, List.map_cons, List.map_nil, List.length_cons, List.length_nil, List.nil_append, List.cons_append, List.replicate, wipeE, PyData.bool.injEq, PyData.int.injEq, exists_eq_left', exists_eq_left, and_true, true_and, eq_ints, ↓reduceIte, Option.bind_some, Option.map_some, Nat.reduceAdd, Nat.reduceLeDiff, PyData.list.injEq, PyData.tuple.injEq, add_ints, sub_ints, lt_ints, le_ints, gt_ints, ge_ints, glen_list, glen_tuple, reduceCtorEq, false_or, or_false, W_mIsiT]
    cases th with
    | tuple ds => exact absurd ⟨_, rfl⟩ h
    | _ => simp
end LQ

-- LQVA
set_option Elab.async false
set_option linter.all false
set_option maxRecDepth 100000
set_option maxHeartbeats 2000000
namespace LQ
open PySem PySem.Spec PyProof.Rows L2
def wordsD (al : Bool) : PyData := if al then .tuple [.str "along"] else .tuple [.str "within", .str "along"]
theorem next_none {r s : PyData} {t : Int} (h0 : t ≠ 0) (h1 : t ≠ 1) : nextD r s t = .none := by
  unfold nextD
  split
  · have e0 : (t == 0) = false := by simpa using h0
    have e1 : (t == 1) = false := by simpa using h1
    simp [e0, e1]
  · rfl
theorem in_wordsD {w : Str} (h : Tx 10 w) (al : Bool) : gIn true (.str w) (wordsD al) = some (.bool (!((!al && w == "within") || w == "along"))) := by
  have e : ∀ x : Str, PyData.eqv (.str x) (.str w) = (w == x) := fun x => by
    simp only [PyData.eqv]
    rw [Bool.eq_iff_iff, beq_iff_eq, beq_iff_eq]
    exact eq_comm
  cases al
  · show gIn true (.str w) (.tuple [.str "within", .str "along"]) = _
    rw [inT_sh true (.str h) (m := 0) (fun d hd => ?_) (by decide) (by decide)]
    · simp [e]
    · simp only [List.mem_cons, List.not_mem_nil, or_false] at hd
      rcases hd with rfl | rfl
      · exact .str tx_within
      · exact .str tx_along
  · show gIn true (.str w) (.tuple [.str "along"]) = _
    rw [inT_sh true (.str h) (m := 0) (fun d hd => ?_) (by decide) (by decide)]
    · simp [e]
    · rw [List.mem_singleton.mp hd]
      exact .str tx_along
theorem land_val {r s : PyData} (h : Ru r) (hs : So s) (al : Bool) {t : Int} (ht : t = 0 ∨ t = 1) (T : Dk) : V_landing [.dat r, .cst (wordsD al), .dat (.int t), .dat s] T = some (if (al && !(wordOf r == "along")) = true then .none else nextD r s t, T) := by
  obtain ⟨w, a, b, rfl, hw⟩ := h
  have tw : Tx 10 w := word_tx (hw.imp (fun h => h.1) (fun h => h.1))
  have hab : So a ∧ So b := by
    rcases hw with ⟨_, ha, hb⟩ | ⟨_, ha, hb⟩
    · exact ⟨ha, hb⟩
    · exact ⟨.inl ha, .inl hb⟩
  have e1 := eq_strs tw tx_within
  have e3 := eq_sh hab.1.sh hs.sh (by decide) (by decide)
  have e5 := in_wordsD tw al
  have c3 : PyData.eqv s a = PyData.eqv a s := PySem.W.eqv_comm s a
  refine W_eq.mp (W_mFun ?_)
  unfold VB_landing
  refine W_seq_nx (en' := [some (.dat (.tuple [.str w, a, b])), some (.cst (wordsD al)), some (.dat (.int t)), some (.dat s), some (.dat (.str w)), some (.dat a), some (.dat b)]) (T' := T) ?_ ?_
  · refine W_eq.mp ?_
    simp only [W_mSet, W_mSetF, W_mIf, W_mRet, W_mCf, W_mAk0, W_mAk1, W_mAd, W_mN0, W_mC, W_mBin, W_mVar0, W_mVarS, W_mVarBd, W_mVarBo, W_mVarBS, W_mQ, W_mNot, W_mAnd, W_mOr, W_mL, W_mLst, W_mCons, W_mNil, W_mTup, W_mIt, W_mLc, W_mRng1, W_mCall, W_mNext, W_mAsg, W_mYes, W_mSl, W_mP0, W_mP, W_mSlF, W_mNeg, W_mRevT, W_mTupOf, W_mListT, W_mIfx, W_mAk2, W_mAc, W_mCst0, W_mCstS, W_mAndV, W_mOrV, W_mNotV, W_some, W_map, W_bind, seqQ_nx, seqQ_rt, List.set_cons_succ, List.set_cons_zero, List.map_cons, List.map_nil, List.length_cons, List.length_nil, List.nil_append, List.cons_append, List.replicate, wipeE, PyData.bool.injEq, PyData.int.injEq, exists_eq_left', exists_eq_left, and_true, true_and, eq_ints, ↓reduceIte, Option.bind_some, Option.map_some, Nat.reduceAdd, Nat.reduceLeDiff, PyData.list.injEq, PyData.tuple.injEq, add_ints, sub_ints, lt_ints, le_ints, gt_ints, ge_ints, glen_list, glen_tuple, reduceCtorEq, false_or, or_false, gtTup, gtCons, gtNil, gtName]
  rcases hw with ⟨rfl | rfl, ha, hb⟩ | ⟨rfl | rfl, ha, hb⟩
  · simp only [W_mSeq, W_mSet, W_mSetF, W_mIf, W_mRet, W_mCf, W_mAk0, W_mAk1, W_mAd, W_mN0, W_mC, W_mBin, W_mVar0, W_mVarS, W_mVarBd, W_mVarBo, W_mVarBS, W_mQ, W_mNot, W_mAnd, W_mOr, W_mL, W_mLst, W_mCons, W_mNil, W_mTup, W_mIt, W_mLc, W_mRng1, W_mCall, W_mNext, W_mAsg, W_mFor, W_mYes, W_mSl, W_mP0, W_mP, W_mSlF, W_mNeg, W_mRevT, W_mTupOf, W_mListT, W_mIfx, W_mAk2, W_mAc, W_mCst0, W_mCstS, W_mAndV, W_mOrV, W_mNotV, W_some, W_map, W_bind, seqQ_nx, seqQ_rt, List.set_cons_succ, List.set_cons_zero, List.map_cons, List.map_nil, List.length_cons, List.length_nil, List.nil_append, List.cons_append, List.replicate, wipeE, PyData.bool.injEq, PyData.int.injEq, exists_eq_left', exists_eq_left, and_true, true_and, eq_ints, ↓reduceIte, Option.bind_some, Option.map_some, Nat.reduceAdd, Nat.reduceLeDiff, PyData.list.injEq, PyData.tuple.injEq, add_ints, sub_ints, lt_ints, le_ints, gt_ints, ge_ints, glen_list, glen_tuple, reduceCtorEq, false_or, or_false, e1, e3, e5, nextD, wordOf, beq_self_eq_true, w_aw, c3]
    cases al
    · rcases ht with rfl | rfl
      · cases (PyData.eqv a s) <;> simp [W_some]
      · simp [W_some]
    · simp [W_some]
  · simp only [W_mSeq, W_mSet, W_mSetF, W_mIf, W_mRet, W_mCf, W_mAk0, W_mAk1, W_mAd, W_mN0, W_mC, W_mBin, W_mVar0, W_mVarS, W_mVarBd, W_mVarBo, W_mVarBS, W_mQ, W_mNot, W_mAnd, W_mOr, W_mL, W_mLst, W_mCons, W_mNil, W_mTup, W_mIt, W_mLc, W_mRng1, W_mCall, W_mNext, W_mAsg, W_mFor, W_mYes, W_mSl, W_mP0, W_mP, W_mSlF, W_mNeg, W_mRevT, W_mTupOf, W_mListT, W_mIfx, W_mAk2, W_mAc, W_mCst0, W_mCstS, W_mAndV, W_mOrV, W_mNotV, W_some, W_map, W_bind, seqQ_nx, seqQ_rt, List.set_cons_succ, List.set_cons_zero, List.map_cons, List.map_nil, List.length_cons, List.length_nil, List.nil_append, List.cons_append, List.replicate, wipeE, PyData.bool.injEq, PyData.int.injEq, exists_eq_left', exists_eq_left, and_true, true_and, eq_ints, ↓reduceIte, Option.bind_some, Option.map_some, Nat.reduceAdd, Nat.reduceLeDiff, PyData.list.injEq, PyData.tuple.injEq, add_ints, sub_ints, lt_ints, le_ints, gt_ints, ge_ints, glen_list, glen_tuple, reduceCtorEq, false_or, or_false, e1, e3, e5, nextD, wordOf, w_pw, w_pa, c3]
    cases al <;> simp [W_some]
  · have e4 := eq_sh (rnd_tn ha).sh hs.sh (by decide) (by decide)
    have c4 : PyData.eqv s (rnd a) = PyData.eqv (rnd a) s := PySem.W.eqv_comm s (rnd a)
    have hp : (mPar 5 6 (mCons (mCf V_other_way (mAd (mVar 5) mN0)) (mCons (mCf V_other_way (mAd (mVar 6) mN0)) mNil))) [some (.dat (.tuple [.str "along", a, b])), some (.cst (wordsD al)), some (.dat (.int t)), some (.dat s), some (.dat (.str "along")), some (.dat a), some (.dat b)] T = some (.nx [some (.dat (.tuple [.str "along", a, b])), some (.cst (wordsD al)), some (.dat (.int t)), some (.dat s), some (.dat (.str "along")), some (.dat (rnd a)), some (.dat (rnd b))] T) := by
      have : (mCons (mCf V_other_way (mAd (mVar 5) mN0)) (mCons (mCf V_other_way (mAd (mVar 6) mN0)) mNil)) [some (.dat (.tuple [.str "along", a, b])), some (.cst (wordsD al)), some (.dat (.int t)), some (.dat s), some (.dat (.str "along")), some (.dat a), some (.dat b)] T = some ([rnd a, rnd b], T) := by
        refine W_eq.mp ?_
        simp only [W_mSet, W_mSetF, W_mIf, W_mRet, W_mCf, W_mAk0, W_mAk1, W_mAd, W_mN0, W_mC, W_mBin, W_mVar0, W_mVarS, W_mVarBd, W_mVarBo, W_mVarBS, W_mQ, W_mNot, W_mAnd, W_mOr, W_mL, W_mLst, W_mCons, W_mNil, W_mTup, W_mIt, W_mLc, W_mRng1, W_mCall, W_mNext, W_mAsg, W_mYes, W_mSl, W_mP0, W_mP, W_mSlF, W_mNeg, W_mRevT, W_mTupOf, W_mListT, W_mIfx, W_mAk2, W_mAc, W_mCst0, W_mCstS, W_mAndV, W_mOrV, W_mNotV, W_some, W_map, W_bind, seqQ_nx, seqQ_rt, List.set_cons_succ, List.set_cons_zero, List.map_cons, List.map_nil, List.length_cons, List.length_nil, List.nil_append, List.cons_append, List.replicate, wipeE, PyData.bool.injEq, PyData.int.injEq, exists_eq_left', exists_eq_left, and_true, true_and, eq_ints, ↓reduceIte, Option.bind_some, Option.map_some, Nat.reduceAdd, Nat.reduceLeDiff, PyData.list.injEq, PyData.tuple.injEq, add_ints, sub_ints, lt_ints, le_ints, gt_ints, ge_ints, glen_list, glen_tuple, reduceCtorEq, false_or, or_false, other_val ha, other_val hb]
      unfold mPar
      rw [this]
      rfl
    simp only [W_mSeq, W_mSet, W_mSetF, W_mIf, W_mRet, W_mCf, W_mAk0, W_mAk1, W_mAd, W_mN0, W_mC, W_mBin, W_mVar0, W_mVarS, W_mVarBd, W_mVarBo, W_mVarBS, W_mQ, W_mNot, W_mAnd, W_mOr, W_mL, W_mLst, W_mCons, W_mNil, W_mTup, W_mIt, W_mLc, W_mRng1, W_mCall, W_mNext, W_mAsg, W_mFor, W_mYes, W_mSl, W_mP0, W_mP, W_mSlF, W_mNeg, W_mRevT, W_mTupOf, W_mListT, W_mIfx, W_mAk2, W_mAc, W_mCst0, W_mCstS, W_mAndV, W_mOrV, W_mNotV, W_some, W_map, W_bind, seqQ_nx, seqQ_rt, List.set_cons_succ, List.set_cons_zero, List.map_cons, List.map_nil, List.length_cons, List.length_nil, List.nil_append, List.cons_append, List.replicate, wipeE, PyData.bool.injEq, PyData.int.injEq, exists_eq_left', exists_eq_left, and_true, true_and, eq_ints, ↓reduceIte, Option.bind_some, Option.map_some, Nat.reduceAdd, Nat.reduceLeDiff, PyData.list.injEq, PyData.tuple.injEq, add_ints, sub_ints, lt_ints, le_ints, gt_ints, ge_ints, glen_list, glen_tuple, reduceCtorEq, false_or, or_false, e1, e3, e5, nextD, wordOf, w_lw, beq_self_eq_true, c3, c4, hp]
    rcases ht with rfl | rfl
    · cases al <;> cases (PyData.eqv a s) <;> simp [W_some, e3, W_mSeq, W_mSet, W_mSetF, W_mIf, W_mRet, W_mCf, W_mAk0, W_mAk1, W_mAd, W_mN0, W_mC, W_mBin, W_mVar0, W_mVarS, W_mVarBd, W_mVarBo, W_mVarBS, W_mQ, W_mNot, W_mAnd, W_mOr, W_mL, W_mLst, W_mCons, W_mNil, W_mTup, W_mIt, W_mLc, W_mRng1, W_mCall, W_mNext, W_mAsg, W_mFor, W_mYes, W_mSl, W_mP0, W_mP, W_mSlF, W_mNeg, W_mRevT, W_mTupOf, W_mListT, W_mIfx, W_mAk2, W_mAc, W_mCst0, W_mCstS, W_mAndV, W_mOrV, W_mNotV, W_some, W_map, W_bind, seqQ_nx, seqQ_rt, List.set_cons_succ, List.set_cons_zero, List.map_cons, List.map_nil, List.length_cons, List.length_nil, List.nil_append, List.cons_append, List.replicate, wipeE, PyData.bool.injEq, PyData.int.injEq, exists_eq_left', exists_eq_left, and_true, true_and, eq_ints, ↓reduceIte, Option.bind_some, Option.map_some, Nat.reduceAdd, Nat.reduceLeDiff, PyData.list.injEq, PyData.tuple.injEq, add_ints, sub_ints, lt_ints, le_ints, gt_ints, ge_ints, glen_list, glen_tuple, reduceCtorEq, false_or, or_false]
    · cases al <;> simp [W_some, W_mSeq, W_mSet, W_mSetF, W_mIf, W_mRet, W_mCf, W_mAk0, W_mAk1, W_mAd, W_mN0, W_mC, W_mBin, W_mVar0, W_mVarS, W_mVarBd, W_mVarBo, W_mVarBS, W_mQ, W_mNot, W_mAnd, W_mOr, W_mL, W_mLst, W_mCons, W_mNil, W_mTup, W_mIt, W_mLc, W_mRng1, W_mCall, W_mNext, W_mAsg, W_mFor, W_mYes, W_mSl, W_mP0, W_mP, W_mSlF, W_mNeg, W_mRevT, W_mTupOf, W_mListT, W_mIfx, W_mAk2, W_mAc, W_mCst0, W_mCstS, W_mAndV, W_mOrV, W_mNotV, W_some, W_map, W_bind, seqQ_nx, seqQ_rt, List.set_cons_succ, List.set_cons_zero, List.map_cons, List.map_nil, List.length_cons, List.length_nil, List.nil_append, List.cons_append, List.replicate, wipeE, PyData.bool.injEq, PyData.int.injEq, exists_eq_left', exists_eq_left, and_true, true_and, eq_ints, ↓reduceIte, Option.bind_some, Option.map_some, Nat.reduceAdd, Nat.reduceLeDiff, PyData.list.injEq, PyData.tuple.injEq, add_ints, sub_ints, lt_ints, le_ints, gt_ints, ge_ints, glen_list, glen_tuple, reduceCtorEq, false_or, or_false, hp, e4] <;> cases (PyData.eqv (rnd a) s) <;> simp
  · simp only [W_mSeq, W_mSet, W_mSetF, W_mIf, W_mRet, W_mCf, W_mAk0, W_mAk1, W_mAd, W_mN0, W_mC, W_mBin, W_mVar0, W_mVarS, W_mVarBd, W_mVarBo, W_mVarBS, W_mQ, W_mNot, W_mAnd, W_mOr, W_mL, W_mLst, W_mCons, W_mNil, W_mTup, W_mIt, W_mLc, W_mRng1, W_mCall, W_mNext, W_mAsg, W_mFor, W_mYes, W_mSl, W_mP0, W_mP, W_mSlF, W_mNeg, W_mRevT, W_mTupOf, W_mListT, W_mIfx, W_mAk2, W_mAc, W_mCst0, W_mCstS, W_mAndV, W_mOrV, W_mNotV, W_some, W_map, W_bind, seqQ_nx, seqQ_rt, List.set_cons_succ, List.set_cons_zero, List.map_cons, List.map_nil, List.length_cons, List.length_nil, List.nil_append, List.cons_append, List.replicate, wipeE, PyData.bool.injEq, PyData.int.injEq, exists_eq_left', exists_eq_left, and_true, true_and, eq_ints, ↓reduceIte, Option.bind_some, Option.map_some, Nat.reduceAdd, Nat.reduceLeDiff, PyData.list.injEq, PyData.tuple.injEq, add_ints, sub_ints, lt_ints, le_ints, gt_ints, ge_ints, glen_list, glen_tuple, reduceCtorEq, false_or, or_false, e1, e3, e5, nextD, wordOf, w_yw, w_ya, c3]
    cases al <;> simp [W_some]
end LQ

-- LQVA
set_option Elab.async false
set_option linter.all false
set_option maxRecDepth 100000
set_option maxHeartbeats 2000000
namespace LQ
open PySem PySem.Spec PyProof.Rows L2
/-! ### the search, plainly -/
abbrev Kvs := List (PyData × PyData)
def one1 (al : Bool) (r s : PyData) (n : Nat) (t : Int) : List (PyData × PyData) :=
  if (al && !(wordOf r == "along")) = true then [] else if isNn (nextD r s t) = true then [] else [(.tuple [.int (n : Nat), .int t], nextD r s t)]
def sts (al : Bool) : Nat → List PyData → PyData → List (PyData × PyData)
  | _, [], _ => []
  | n, r :: rs, s => one1 al r s n 0 ++ one1 al r s n 1 ++ sts al (n + 1) rs s
def catD : Option PyData → PyData → PyData
  | some (.tuple ds), st => .tuple (ds ++ [st])
  | _, _ => .none
def stp (h : PyData) (S : Kvs × List PyData) (p : PyData × PyData) : Kvs × List PyData :=
  if (getKv S.1 p.2).isSome = true then S else (S.1 ++ [(p.2, catD (getKv S.1 h) p.1)], S.2 ++ [p.2])
def has (kvs : Kvs) (d : PyData) : Prop := (getKv kvs d).isSome = true
theorem has_any {kvs : Kvs} {d : PyData} : (getKv kvs d).isSome = kvs.any fun p => PyData.eqv p.1 d := by
  unfold getKv
  rw [Option.isSome_map]
  induction kvs with
  | nil => rfl
  | cons p kvs ih =>
    simp only [List.find?_cons, List.any_cons]
    cases PyData.eqv p.1 d with
    | true => rfl
    | false => simpa using ih
theorem tn_eqv {a b : PyData} (ha : So a) (hb : So b) : PyData.eqv a b = true ↔ a = b := by
  rcases ha with ⟨s, i, rfl, _⟩ | ⟨s, rfl, _⟩ <;> rcases hb with ⟨t, j, rfl, _⟩ | ⟨t, rfl, _⟩ <;> simp [PyData.eqv, PyData.eqvAll]
theorem has_mem {kvs : Kvs} {d : PyData} (hk : ∀ p ∈ kvs, So p.1) (hd : So d) : has kvs d ↔ ∃ p ∈ kvs, p.1 = d := by
  unfold has
  rw [has_any, List.any_eq_true]
  constructor
  · rintro ⟨p, hp, e⟩
    exact ⟨p, hp, (tn_eqv (hk p hp) hd).mp e⟩
  · rintro ⟨p, hp, e⟩
    exact ⟨p, hp, (tn_eqv (hk p hp) hd).mpr e⟩
theorem has_app {kvs l : Kvs} {d : PyData} : has (kvs ++ l) d ↔ has kvs d ∨ has l d := by
  unfold has
  rw [has_any, has_any, has_any, List.any_append, Bool.or_eq_true]
theorem get_mem {kvs : Kvs} {d e : PyData} (hk : ∀ p ∈ kvs, So p.1) (hd : So d) (h : getKv kvs d = some e) : (d, e) ∈ kvs := by
  unfold getKv at h
  cases hf : kvs.find? fun p => PyData.eqv p.1 d with
  | none => rw [hf] at h; cases h
  | some p =>
    rw [hf] at h
    cases h
    have hp := List.mem_of_find?_eq_some hf
    have he := List.find?_some hf
    have := (tn_eqv (hk p hp) hd).mp he
    subst this
    exact hp
theorem walk_app {rs : List PyData} {al : Bool} {d : PyData} : ∀ {ds : List PyData} {s x : PyData}, walk rs al ds s = some x → walk rs al (ds ++ [d]) s = walk rs al [d] x
  | [], s, x, h => by cases h; rfl
  | c :: ds, s, x, h => by
    simp only [walk, List.cons_append] at h ⊢
    cases hs : stepOf rs al c with
    | none => rw [hs] at h; cases h
    | some p =>
      obtain ⟨r, t⟩ := p
      rw [hs] at h
      simp only at h ⊢
      split at h
      · cases h
      · rename_i hn
        rw [if_neg hn]
        have := walk_app (d := d) h
        simp only [walk] at this
        exact this
theorem sts_mem {al : Bool} : ∀ {rs : List PyData} {n : Nat} {h : PyData} {p : PyData × PyData}, p ∈ sts al n rs h ↔ ∃ (i : Nat) (r : PyData) (t : Int), rs[i]? = some r ∧ (t = 0 ∨ t = 1) ∧ (al && !(wordOf r == "along")) = false ∧ isNn (nextD r h t) = false ∧ p = (.tuple [.int ((n + i : Nat) : Int), .int t], nextD r h t)
  | [], n, h, p => by simp [sts]
  | r :: rs, n, h, p => by
    have o : ∀ t, p ∈ one1 al r h n t ↔ (al && !(wordOf r == "along")) = false ∧ isNn (nextD r h t) = false ∧ p = (.tuple [.int (n : Nat), .int t], nextD r h t) := fun t => by
      unfold one1
      cases (al && !(wordOf r == "along")) <;> cases isNn (nextD r h t) <;> simp
    simp only [sts, List.mem_append, o, sts_mem (rs := rs)]
    constructor
    · rintro ((⟨h1, h2, h3⟩ | ⟨h1, h2, h3⟩) | ⟨i, r', t, h1, h2, h3, h4, h5⟩)
      · exact ⟨0, r, 0, rfl, .inl rfl, h1, h2, h3⟩
      · exact ⟨0, r, 1, rfl, .inr rfl, h1, h2, h3⟩
      · exact ⟨i + 1, r', t, h1, h2, h3, h4, by rw [h5]; congr 4; congr 1; omega⟩
    · rintro ⟨i, r', t, h1, h2, h3, h4, h5⟩
      cases i with
      | zero =>
        cases h1
        rcases h2 with rfl | rfl
        · exact .inl (.inl ⟨h3, h4, h5⟩)
        · exact .inl (.inr ⟨h3, h4, h5⟩)
      | succ i => exact .inr ⟨i, r', t, h1, h2, h3, h4, by rw [h5]; congr 4; congr 1; omega⟩
def tgt : PyData → List PyData
  | .tuple [_, _, b] => [b, rnd b]
  | _ => []
theorem next_tn {r s : PyData} {t : Int} (h : Ru r) (hn : isNn (nextD r s t) = false) : So (nextD r s t) ∧ nextD r s t ∈ tgt r := by
  refine ⟨?_, ?_⟩
  · rcases next_so h t (s := s) with e | e
    · rw [e] at hn; cases hn
    · exact e
  · obtain ⟨w, a, b, rfl, hw'⟩ := h
    revert hn
    simp only [nextD]
    split
    · intro _; simp [tgt]
    split
    · intro _; simp [tgt]
    split
    · intro _; simp [tgt]
    · intro h; cases h
theorem tgt_len (r : PyData) : (tgt r).length ≤ 2 := by
  unfold tgt
  split <;> simp
def univ (rs : List PyData) : List PyData := rs.flatMap tgt
theorem univ_len : ∀ rs : List PyData, (univ rs).length ≤ 2 * rs.length
  | [] => by simp [univ]
  | r :: rs => by
    have := univ_len rs
    have := tgt_len r
    simp only [univ, List.flatMap_cons, List.length_append, List.length_cons] at *
    omega
theorem filt_lt {p q : PyData → Bool} (hqp : ∀ x, q x = true → p x = true) {x0 : PyData} (h1 : p x0 = true) (h2 : q x0 = false) : ∀ {U : List PyData}, (U.filter q).length ≤ (U.filter p).length ∧ (x0 ∈ U → (U.filter q).length < (U.filter p).length)
  | [] => by simp
  | u :: U => by
    obtain ⟨i1, i2⟩ := filt_lt hqp h1 h2 (U := U)
    simp only [List.filter_cons, List.mem_cons]
    cases hq : q u with
    | true =>
      rw [hqp u hq]
      simp only [if_true, List.length_cons]
      refine ⟨by omega, fun h => ?_⟩
      rcases h with rfl | h
      · rw [hq] at h2; cases h2
      · have := i2 h; omega
    | false =>
      cases hp : p u with
      | true =>
        simp only [if_true, Bool.false_eq_true, if_false, List.length_cons]
        exact ⟨by omega, fun _ => by omega⟩
      | false =>
        simp only [Bool.false_eq_true, if_false]
        refine ⟨i1, fun h => ?_⟩
        rcases h with rfl | h
        · rw [h1] at hp; cases hp
        · exact i2 h
def cnt (U : List PyData) (kvs : Kvs) : Nat := (U.filter fun u => !(getKv kvs u).isSome).length
structure Iv (al : Bool) (rs : List PyData) (one : PyData) (S : Kvs × List PyData) : Prop where
  ks : ∀ p ∈ S.1, So p.1 ∧ ∃ ds, p.2 = .tuple ds ∧ walk rs al ds one = some p.1 ∧ ds.length < S.1.length
  ws : ∀ h ∈ S.2, So h ∧ has S.1 h
section
variable {al : Bool} {rs : List PyData} (hrs : ∀ r ∈ rs, Ru r) {one : PyData}
include hrs
theorem sts_tn {h : PyData} {p : PyData × PyData} (hp : p ∈ sts al 0 rs h) : So p.2 ∧ p.2 ∈ univ rs ∧ walk rs al [p.1] h = some p.2 := by
  obtain ⟨i, r, t, h1, h2, h3, h4, rfl⟩ := sts_mem.mp hp
  have hr := List.mem_of_getElem? h1
  obtain ⟨a, b⟩ := next_tn (hrs r hr) h4
  refine ⟨a, List.mem_flatMap.mpr ⟨r, hr, b⟩, ?_⟩
  have hi : i < rs.length := (List.getElem?_eq_some_iff.mp h1).1
  simp only [walk, stepOf, Nat.zero_add, Int.toNat_natCast, h1, Option.bind_some, h3]
  rw [if_pos ⟨by omega, by omega⟩]
  simp [h4]
theorem get_path {S : Kvs × List PyData} {h : PyData} (I : Iv al rs one S) (ht : So h) (hh : has S.1 h) : ∃ ds, getKv S.1 h = some (.tuple ds) ∧ walk rs al ds one = some h ∧ ds.length < S.1.length := by
  obtain ⟨e, he⟩ := Option.isSome_iff_exists.mp hh
  have hm := get_mem (fun p hp => (I.ks p hp).1) ht he
  obtain ⟨_, ds, e1, e2, e3⟩ := I.ks _ hm
  exact ⟨ds, by rw [he]; exact congrArg some e1, e2, e3⟩
theorem stp_ok {S : Kvs × List PyData} {h : PyData} {p : PyData × PyData} (I : Iv al rs one S) (ht : So h) (hh : has S.1 h) (hp : p ∈ sts al 0 rs h) :
    Iv al rs one (stp h S p) ∧ (∀ d, has S.1 d → has (stp h S p).1 d) ∧ (∀ x ∈ S.2, x ∈ (stp h S p).2) ∧ (∀ q ∈ (stp h S p).1, q ∈ S.1 ∨ q.1 ∈ (stp h S p).2) ∧ has (stp h S p).1 p.2 ∧
    (stp h S p).2.length + cnt (univ rs) (stp h S p).1 ≤ S.2.length + cnt (univ rs) S.1 ∧ (stp h S p).1.length + cnt (univ rs) (stp h S p).1 ≤ S.1.length + cnt (univ rs) S.1 := by
  obtain ⟨t1, t2, t3⟩ := sts_tn hrs hp
  unfold stp
  split
  · rename_i hb
    exact ⟨I, fun _ h => h, fun _ h => h, fun _ h => .inl h, hb, Nat.le_refl _, Nat.le_refl _⟩
  · rename_i hb
    obtain ⟨ds, g1, g2, g3⟩ := get_path hrs I ht hh
    have hl : has [(p.2, catD (getKv S.1 h) p.1)] p.2 := by
      unfold has
      rw [has_any]
      simp [(tn_eqv t1 t1).mpr rfl]
    have c : cnt (univ rs) (S.1 ++ [(p.2, catD (getKv S.1 h) p.1)]) < cnt (univ rs) S.1 := by
      refine (filt_lt (x0 := p.2) (fun x hx => ?_) ?_ ?_).2 t2
      · simp only [Bool.not_eq_true', Bool.eq_false_iff] at hx ⊢
        intro h'
        exact hx (has_app.mpr (.inl h'))
      · simpa using hb
      · simp only [Bool.not_eq_false']
        exact has_app.mpr (.inr hl)
    refine ⟨⟨fun q hq => ?_, fun x hx => ?_⟩, fun d hd => has_app.mpr (.inl hd), fun x hx => List.mem_append.mpr (.inl hx), fun q hq => ?_, has_app.mpr (.inr hl), ?_, ?_⟩
    · rcases List.mem_append.mp hq with h' | h'
      · obtain ⟨u1, es, u2, u3, u4⟩ := I.ks q h'
        exact ⟨u1, es, u2, u3, by simp only [List.length_append]; omega⟩
      · rw [List.mem_singleton.mp h', g1]
        exact ⟨t1, ds ++ [p.1], rfl, (walk_app g2).trans t3, by simp only [List.length_append, List.length_cons, List.length_nil]; omega⟩
    · rcases List.mem_append.mp hx with h' | h'
      · exact ⟨(I.ws x h').1, has_app.mpr (.inl (I.ws x h').2)⟩
      · rw [List.mem_singleton.mp h']
        exact ⟨t1, has_app.mpr (.inr hl)⟩
    · rcases List.mem_append.mp hq with h' | h'
      · exact .inl h'
      · rw [List.mem_singleton.mp h']
        exact .inr (List.mem_append.mpr (.inr List.mem_cons_self))
    · simp only [List.length_append, List.length_cons, List.length_nil]
      omega
    · simp only [List.length_append, List.length_cons, List.length_nil]
      omega
theorem fold_ok {h : PyData} (ht : So h) : ∀ {L : List (PyData × PyData)} {S : Kvs × List PyData}, (∀ p ∈ L, p ∈ sts al 0 rs h) → Iv al rs one S → has S.1 h →
    Iv al rs one (L.foldl (stp h) S) ∧ (∀ d, has S.1 d → has (L.foldl (stp h) S).1 d) ∧ (∀ x ∈ S.2, x ∈ (L.foldl (stp h) S).2) ∧ (∀ q ∈ (L.foldl (stp h) S).1, q ∈ S.1 ∨ q.1 ∈ (L.foldl (stp h) S).2) ∧ (∀ p ∈ L, has (L.foldl (stp h) S).1 p.2) ∧
    (L.foldl (stp h) S).2.length + cnt (univ rs) (L.foldl (stp h) S).1 ≤ S.2.length + cnt (univ rs) S.1 ∧ (L.foldl (stp h) S).1.length + cnt (univ rs) (L.foldl (stp h) S).1 ≤ S.1.length + cnt (univ rs) S.1
  | [], S, _, I, _ => ⟨I, fun _ h => h, fun _ h => h, fun _ h => .inl h, (fun _ h => by cases h), Nat.le_refl _, Nat.le_refl _⟩
  | p :: L, S, hL, I, hh => by
    obtain ⟨a1, a2, a3, a4, a5, a6, a7⟩ := stp_ok hrs I ht hh (hL p List.mem_cons_self)
    obtain ⟨b1, b2, b3, b4, b5, b6, b7⟩ := fold_ok ht (L := L) (S := stp h S p) (fun q hq => hL q (List.mem_cons_of_mem _ hq)) a1 (a2 _ hh)
    simp only [List.foldl_cons]
    refine ⟨b1, fun d hd => b2 d (a2 d hd), fun x hx => b3 x (a3 x hx), fun q hq => ?_, fun q hq => ?_, by omega, by omega⟩
    · rcases b4 q hq with h' | h'
      · rcases a4 q h' with h' | h'
        · exact .inl h'
        · exact .inr (b3 _ h')
      · exact .inr h'
    · rcases List.mem_cons.mp hq with rfl | h'
      · exact b2 _ a5
      · exact b5 q h'
end
def bfs (al : Bool) (rs : List PyData) : Nat → Kvs → List PyData → Option Kvs
  | 0, _, _ => none
  | _ + 1, kvs, [] => some kvs
  | n + 1, kvs, h :: w => bfs al rs n ((sts al 0 rs h).foldl (stp h) (kvs, w)).1 ((sts al 0 rs h).foldl (stp h) (kvs, w)).2
def Cl (al : Bool) (rs : List PyData) (S : Kvs × List PyData) : Prop := ∀ p ∈ S.1, p.1 ∈ S.2 ∨ ∀ q ∈ sts al 0 rs p.1, has S.1 q.2
theorem bfs_ok {al : Bool} {rs : List PyData} (hrs : ∀ r ∈ rs, Ru r) {one : PyData} : ∀ (n : Nat) (kvs : Kvs) (w : List PyData), Iv al rs one (kvs, w) → Cl al rs (kvs, w) → w.length + cnt (univ rs) kvs < n → ∃ R, bfs al rs n kvs w = some R ∧ Iv al rs one (R, []) ∧ Cl al rs (R, []) ∧ ∀ d, has kvs d → has R d
  | 0, _, _, _, _, h => by omega
  | n + 1, kvs, [], I, C, _ => ⟨kvs, rfl, I, C, fun _ h => h⟩
  | n + 1, kvs, h :: w, I, C, hl => by
    have I' : Iv al rs one (kvs, w) := ⟨I.ks, fun x hx => I.ws x (List.mem_cons_of_mem _ hx)⟩
    obtain ⟨ht, hh⟩ := I.ws h List.mem_cons_self
    obtain ⟨b1, b2, b3, b4, b5, b6, b7⟩ := fold_ok hrs ht (L := sts al 0 rs h) (S := (kvs, w)) (fun _ h => h) I' hh
    simp only [List.length_cons] at hl
    simp only at b6
    have C' : Cl al rs ((sts al 0 rs h).foldl (stp h) (kvs, w)) := fun p hp => by
      rcases b4 p hp with h' | h'
      · rcases C p h' with h' | h'
        · rcases List.mem_cons.mp h' with h' | h'
          · rw [h']
            exact .inr b5
          · exact .inl (b3 _ h')
        · exact .inr fun q hq => b2 _ (h' q hq)
      · exact .inl h'
    obtain ⟨R, r1, r2, r3, r4⟩ := bfs_ok hrs n _ _ b1 C' (by omega)
    exact ⟨R, r1, r2, r3, fun d hd => r4 d (b2 d hd)⟩
/-- what steps lead to is found -/
theorem reach {al : Bool} {rs : List PyData} (hrs : ∀ r ∈ rs, Ru r) {one : PyData} {R : Kvs} (I : Iv al rs one (R, [])) (C : Cl al rs (R, [])) : ∀ (ds : List PyData) (s x : PyData), So s → has R s → walk rs al ds s = some x → has R x
  | [], s, x, _, h, e => by cases e; exact h
  | d :: ds, s, x, ht, h, e => by
    simp only [walk] at e
    cases hst : stepOf rs al d with
    | none => rw [hst] at e; cases e
    | some p =>
      obtain ⟨r, t⟩ := p
      rw [hst] at e
      simp only at e
      split at e
      · cases e
      · rename_i hn
        have hn : isNn (nextD r s t) = false := by simpa using hn
        obtain ⟨p, hp, rfl⟩ := (has_mem (fun p hp => (I.ks p hp).1) ht).mp h
        have : ∃ i : Nat, rs[i]? = some r ∧ (al && !(wordOf r == "along")) = false := by
          unfold stepOf at hst
          split at hst
          · rename_i i t'
            split at hst
            · cases he : rs[i.toNat]? with
              | none => rw [he] at hst; cases hst
              | some r' =>
                rw [he] at hst
                simp only [Option.bind_some] at hst
                split at hst
                · cases hst
                · rename_i hw
                  cases hst
                  exact ⟨i.toNat, he, by simpa using hw⟩
            · cases hst
          · cases hst
        obtain ⟨i, hi, hw⟩ := this
        have ht' : t = 0 ∨ t = 1 := by
          rcases Classical.em (t = 0) with h0 | h0
          · exact .inl h0
          · rcases Classical.em (t = 1) with h1 | h1
            · exact .inr h1
            · rw [next_none h0 h1] at hn; cases hn
        have hq := sts_mem (n := 0).mpr ⟨i, r, t, hi, ht', hw, hn, rfl⟩
        rcases C p hp with h' | h'
        · cases h'
        · exact reach hrs I C ds _ x (next_tn (hrs r (List.mem_of_getElem? hi)) hn).1 (h' _ hq) e
theorem bfs_len {al : Bool} {rs : List PyData} (hrs : ∀ r ∈ rs, Ru r) {one : PyData} : ∀ (n : Nat) (kvs : Kvs) (w : List PyData) (R : Kvs), Iv al rs one (kvs, w) → bfs al rs n kvs w = some R → R.length ≤ kvs.length + cnt (univ rs) kvs
  | 0, _, _, _, _, e => by cases e
  | n + 1, kvs, [], R, I, e => by cases e; omega
  | n + 1, kvs, h :: w, R, I, e => by
    have I' : Iv al rs one (kvs, w) := ⟨I.ks, fun x hx => I.ws x (List.mem_cons_of_mem _ hx)⟩
    obtain ⟨ht, hh⟩ := I.ws h List.mem_cons_self
    obtain ⟨b1, b2, b3, b4, b5, b6, b7⟩ := fold_ok hrs ht (L := sts al 0 rs h) (S := (kvs, w)) (fun _ h => h) I' hh
    simp only at b7
    have := bfs_len hrs n _ _ R b1 e
    omega
end LQ

-- LQVA
set_option Elab.async false
set_option linter.all false
set_option maxRecDepth 100000
set_option maxHeartbeats 2000000
namespace LQ
open PySem PySem.Spec PyProof.Rows L2
def pairD (p : PyData × PyData) : PyData := .tuple [p.1, p.2]
/-! ### steps_at -/
def SB : MS := (mSeq (mSet 7 (mCf V_landing (mAd (mVar 5) (mAc (mCst 1) (mAd (mVar 6) (mAd (mVar 2) mN0))))))
  (mIf (mQ (mBin (gIsN true) (mVar 7) (mC .none))) (mApp 3 (mTup (mCons (mTup (mCons (mVar 4) (mCons (mVar 6) mNil))) (mCons (mVar 7) mNil)))) mNext))
theorem sb_val {al : Bool} {r h rs0 : PyData} (hr : Ru r) (hh : So h) {t : Int} (ht : t = 0 ∨ t = 1) (n : Nat) {fs : List PyData} (hl : fs.length < 16777216) (a7 : Option Sl) (T : Dk) :
    ∃ x, SB [some (.dat rs0), some (.cst (wordsD al)), some (.dat h), some (.own fs), some (.dat (.int (n : Nat))), some (.dat r), some (.dat (.int t)), a7] T = some (.nx [some (.dat rs0), some (.cst (wordsD al)), some (.dat h), some (.own (fs ++ (one1 al r h n t).map pairD)), some (.dat (.int (n : Nat))), some (.dat r), some (.dat (.int t)), some (.dat x)] T) := by
  have hv := land_val hr hh al ht T
  have e1 : (mSet 7 (mCf V_landing (mAd (mVar 5) (mAc (mCst 1) (mAd (mVar 6) (mAd (mVar 2) mN0)))))) [some (.dat rs0), some (.cst (wordsD al)), some (.dat h), some (.own fs), some (.dat (.int (n : Nat))), some (.dat r), some (.dat (.int t)), a7] T = some (.nx [some (.dat rs0), some (.cst (wordsD al)), some (.dat h), some (.own fs), some (.dat (.int (n : Nat))), some (.dat r), some (.dat (.int t)), some (.dat (if (al && !(wordOf r == "along")) = true then .none else nextD r h t))] T) := by
    show ((V_landing [.dat r, .cst (wordsD al), .dat (.int t), .dat h] T).map fun p => Res.nx _ p.2) = _
    rw [hv]
    rfl
  refine ⟨if (al && !(wordOf r == "along")) = true then .none else nextD r h t, ?_⟩
  unfold SB mSeq
  rw [e1]
  simp only [Option.bind_some]
  have hi : (mQ (mBin (gIsN true) (mVar 7) (mC .none))) [some (.dat rs0), some (.cst (wordsD al)), some (.dat h), some (.own fs), some (.dat (.int (n : Nat))), some (.dat r), some (.dat (.int t)), some (.dat (if (al && !(wordOf r == "along")) = true then .none else nextD r h t))] T = some (!isNn (if (al && !(wordOf r == "along")) = true then .none else nextD r h t), T) := by
    refine W_eq.mp ?_
    simp only [W_mSeq, W_mSet, W_mSetF, W_mIf, W_mRet, W_mCf, W_mAk0, W_mAk1, W_mAd, W_mN0, W_mC, W_mBin, W_mVar0, W_mVarS, W_mVarBd, W_mVarBo, W_mVarBS, W_mQ, W_mNot, W_mAnd, W_mOr, W_mL, W_mLst, W_mCons, W_mNil, W_mTup, W_mIt, W_mLc, W_mRng1, W_mCall, W_mNext, W_mAsg, W_mFor, W_mYes, W_mSl, W_mP0, W_mP, W_mSlF, W_mNeg, W_mRevT, W_mTupOf, W_mListT, W_mIfx, W_mAk2, W_mAc, W_mCst0, W_mCstS, W_mAndV, W_mOrV, W_mNotV, W_some, W_map, W_bind, seqQ_nx, seqQ_rt, List.set_cons_succ, List.set_cons_zero, List.map_cons, List.map_nil, List.length_cons, List.length_nil, List.nil_append, List.cons_append, List.replicate, wipeE, PyData.bool.injEq, PyData.int.injEq, exists_eq_left', exists_eq_left, and_true, true_and, eq_ints, ↓reduceIte, Option.bind_some, Option.map_some, Nat.reduceAdd, Nat.reduceLeDiff, PyData.list.injEq, PyData.tuple.injEq, add_ints, sub_ints, lt_ints, le_ints, gt_ints, ge_ints, glen_list, glen_tuple, reduceCtorEq, false_or, or_false, gIsN, Bool.true_xor]
  unfold mIf
  rw [hi]
  simp only [Option.bind_some]
  unfold one1
  cases hw : (al && !(wordOf r == "along"))
  rotate_left
  · simp [isNn, mNext]
  · cases hn : isNn (nextD r h t)
    · simp [hn, mApp, hl, mTup, mCons, mNil, mVar, pairD]
    · simp [hn, mNext]
def enF : Nat → List PyData → List PyData
  | _, [] => []
  | n, r :: rs => .tuple [.int (n : Nat), r] :: enF (n + 1) rs
theorem en_eq : ∀ (rs : List PyData) (n : Nat), rs.mapIdx (fun i d => PyData.tuple [.int ((n + i : Nat) : Int), d]) = enF n rs
  | [], n => by simp [enF]
  | r :: rs, n => by
    rw [List.mapIdx_cons]
    simp only [enF, Nat.add_zero]
    congr 1
    rw [← en_eq rs (n + 1)]
    congr 1
    funext i d
    congr 4
    omega
theorem enum_eq (rs : List PyData) : enumD rs = enF 0 rs := by
  rw [← en_eq rs 0]
  unfold enumD
  simp only [Nat.zero_add]
theorem one1_len (al : Bool) (r h : PyData) (n : Nat) (t : Int) : (one1 al r h n t).length ≤ 1 := by
  unfold one1
  split
  · simp
  split <;> simp
theorem steps_fold {al : Bool} {h rs0 : PyData} (hh : So h) (T : Dk) : ∀ (rs : List PyData) (n : Nat) (fs : List PyData) (a4 a5 a6 a7 : Option Sl), (∀ r ∈ rs, Ru r) → fs.length + 2 * rs.length < 16777216 →
    ∃ b4 b5 b6 b7, mFold (gtTup 2 (gtCons (gtName 4) (gtCons (gtName 5) gtNil))) (mFor (mIt (mTup (mCons (mC (PyData.int (0))) (mCons (mC (PyData.int (1))) mNil)))) (gtName 6) SB) (enF n rs) [some (.dat rs0), some (.cst (wordsD al)), some (.dat h), some (.own fs), a4, a5, a6, a7] T = some (.nx [some (.dat rs0), some (.cst (wordsD al)), some (.dat h), some (.own (fs ++ (sts al n rs h).map pairD)), b4, b5, b6, b7] T)
  | [], n, fs, a4, a5, a6, a7, _, _ => ⟨a4, a5, a6, a7, by simp [enF, mFold, sts]⟩
  | r :: rs, n, fs, a4, a5, a6, a7, hr, hl => by
    rw [List.length_cons] at hl
    have l0 := one1_len al r h n 0
    have l1 := one1_len al r h n 1
    obtain ⟨x, e0⟩ := sb_val (al := al) (rs0 := rs0) (hr r List.mem_cons_self) hh (.inl rfl) n (fs := fs) (by omega) a7 T
    obtain ⟨y, e1⟩ := sb_val (al := al) (rs0 := rs0) (hr r List.mem_cons_self) hh (.inr rfl) n (fs := fs ++ (one1 al r h n 0).map pairD) (by rw [List.length_append, List.length_map]; omega) (some (.dat x)) T
    obtain ⟨b4, b5, b6, b7, e2⟩ := steps_fold (al := al) (rs0 := rs0) hh T rs (n + 1) (fs ++ (one1 al r h n 0).map pairD ++ (one1 al r h n 1).map pairD) (some (.dat (.int (n : Nat)))) (some (.dat r)) (some (.dat (.int 1))) (some (.dat y)) (fun q hq => hr q (List.mem_cons_of_mem _ hq)) (by simp only [List.length_append, List.length_map]; omega)
    refine ⟨b4, b5, b6, b7, ?_⟩
    have inner : (mFor (mIt (mTup (mCons (mC (PyData.int (0))) (mCons (mC (PyData.int (1))) mNil)))) (gtName 6) SB) [some (.dat rs0), some (.cst (wordsD al)), some (.dat h), some (.own fs), some (.dat (.int (n : Nat))), some (.dat r), a6, a7] T = some (.nx [some (.dat rs0), some (.cst (wordsD al)), some (.dat h), some (.own (fs ++ (one1 al r h n 0).map pairD ++ (one1 al r h n 1).map pairD)), some (.dat (.int (n : Nat))), some (.dat r), some (.dat (.int 1)), some (.dat y)] T) := by
      show mFold (gtName 6) SB [.int 0, .int 1] _ T = _
      simp only [mFold, gtName, List.set_cons_succ, List.set_cons_zero, Option.bind_some, e0, e1]
    simp only [enF, mFold, gtTup, gtCons, gtNil, gtName, List.length_cons, List.length_nil, Nat.zero_add, Nat.reduceAdd, if_true, List.set_cons_succ, List.set_cons_zero, Option.bind_some, inner, e2]
    simp only [sts, List.map_append, List.append_assoc]
theorem steps_val {al : Bool} {rs : List PyData} (hrs : ∀ r ∈ rs, Ru r) (hl : rs.length ≤ 20) {h : PyData} (hh : So h) (T : Dk) : V_steps_at [.dat (.tuple rs), .cst (wordsD al), .dat h] T = some (.list ((sts al 0 rs h).map pairD), T) := by
  obtain ⟨b4, b5, b6, b7, e⟩ := steps_fold (al := al) (rs0 := .tuple rs) hh T rs 0 [] none none none none hrs (by simp only [List.length_nil]; omega)
  have e' : VB_steps_at ([Sl.dat (.tuple rs), Sl.cst (wordsD al), Sl.dat h].map some ++ List.replicate (8 - 3) none) T = some (.rt (.list ((sts al 0 rs h).map pairD)) T) := by
    show ((mFold (gtTup 2 (gtCons (gtName 4) (gtCons (gtName 5) gtNil))) (mFor (mIt (mTup (mCons (mC (PyData.int (0))) (mCons (mC (PyData.int (1))) mNil)))) (gtName 6) SB) (enumD rs) [some (.dat (.tuple rs)), some (.cst (wordsD al)), some (.dat h), some (.own []), none, none, none, none] T).bind fun r => match r with
      | .nx en' T' => mRetV 3 en' T'
      | r => some r) = _
    rw [enum_eq, e]
    rfl
  unfold V_steps_at mFun
  show (match VB_steps_at ([Sl.dat (.tuple rs), Sl.cst (wordsD al), Sl.dat h].map some ++ List.replicate (8 - 3) none) T with
    | some (.rt d T') => some (d, T')
    | some (.nx _ T') => some (.none, T')
    | _ => none) = _
  rw [e']
/-! ### fewest -/
def FB : MS := (mIf (mQ (mInD true 3 (mVar 7))) (mSeq (mPutD 3 (mVar 7) (mBin gCatT (mGetD 3 (mVar 5)) (mTup (mCons (mVar 6) mNil))))
  (mApp 4 (mVar 7))) mNext)
theorem key_tn {d : PyData} (h : So d) : (keyL d).isSome = true := by
  rcases h with ⟨s, i, rfl, _⟩ | ⟨s, rfl, _⟩ <;> rfl
theorem put_new {kvs : Kvs} {d e : PyData} (h : ¬ (getKv kvs d).isSome = true) : putKv kvs d e = kvs ++ [(d, e)] := by
  unfold putKv
  rw [has_any] at h
  rw [if_neg h]
theorem fb_val {al : Bool} {rs : List PyData} (hrs : ∀ r ∈ rs, Ru r) {one x0 x1 x2 : PyData} {S : Kvs × List PyData} {h : PyData} {p : PyData × PyData} (I : Iv al rs one S) (ht : So h) (hh : has S.1 h) (hp : p ∈ sts al 0 rs h) (l1 : S.1.length < 1000) (l2 : S.2.length < 1000) (T : Dk) :
    FB [some (.dat x0), some (.cst x1), some (.dat x2), some (.ownD S.1), some (.own S.2), some (.dat h), some (.dat p.1), some (.dat p.2)] T = some (.nx [some (.dat x0), some (.cst x1), some (.dat x2), some (.ownD (stp h S p).1), some (.own (stp h S p).2), some (.dat h), some (.dat p.1), some (.dat p.2)] T) := by
  obtain ⟨t1, _, _⟩ := sts_tn hrs hp
  obtain ⟨ds, g1, g2, g3⟩ := get_path hrs I ht hh
  have k1 := key_tn t1
  have k2 := key_tn ht
  unfold stp
  cases hb : (getKv S.1 p.2).isSome
  · have hpn := put_new (e := catD (getKv S.1 h) p.1) (by rw [hb]; simp)
    rw [g1] at hpn
    simp only [catD] at hpn
    have q1 : ds.length + 1 ≤ 16777216 := by omega
    have q2 : S.1.length < 16777216 := by omega
    have q3 : S.2.length < 16777216 := by omega
    simp [FB, mIf, mQ, mInD, mVar, mSeq, mPutD, mBin, mGetD, mTup, mCons, mNil, mApp, gCatT, k1, k2, hb, g1, q1, q2, q3, catD, hpn]
    exact fun h => absurd (by simpa using hb) h
  · simp only [FB, mIf, mQ, mInD, mVar, List.getElem?_cons_succ, List.getElem?_cons_zero, Option.bind_some, k1, hb, if_true, Bool.xor_self, mNext]
    simp
def stepT : MG := (gtTup 2 (gtCons (gtName 6) (gtCons (gtName 7) gtNil)))
theorem few_fold {al : Bool} {rs : List PyData} (hrs : ∀ r ∈ rs, Ru r) {one x0 x1 x2 h : PyData} (ht : So h) (T : Dk) : ∀ (L : List (PyData × PyData)) (S : Kvs × List PyData) (a6 a7 : Option Sl), (∀ p ∈ L, p ∈ sts al 0 rs h) → Iv al rs one S → has S.1 h → S.1.length + cnt (univ rs) S.1 < 1000 → S.2.length + cnt (univ rs) S.1 < 1000 →
    ∃ b6 b7, mFold stepT FB (L.map pairD) [some (.dat x0), some (.cst x1), some (.dat x2), some (.ownD S.1), some (.own S.2), some (.dat h), a6, a7] T = some (.nx [some (.dat x0), some (.cst x1), some (.dat x2), some (.ownD (L.foldl (stp h) S).1), some (.own (L.foldl (stp h) S).2), some (.dat h), b6, b7] T)
  | [], S, a6, a7, _, _, _, _, _ => ⟨a6, a7, rfl⟩
  | p :: L, S, a6, a7, hL, I, hh, l1, l2 => by
    have e := fb_val (al := al) (x0 := x0) (x1 := x1) (x2 := x2) hrs I ht hh (hL p List.mem_cons_self) (by omega) (by omega) T
    obtain ⟨c1, c2, c3, c4, c5, c6, c7⟩ := stp_ok hrs I ht hh (hL p List.mem_cons_self)
    obtain ⟨b6, b7, e2⟩ := few_fold (al := al) (x0 := x0) (x1 := x1) (x2 := x2) hrs ht T L (stp h S p) (some (.dat p.1)) (some (.dat p.2)) (fun q hq => hL q (List.mem_cons_of_mem _ hq)) c1 (c2 _ hh) (by omega) (by omega)
    refine ⟨b6, b7, ?_⟩
    simp only [List.map_cons, mFold, stepT, pairD, gtTup, gtCons, gtNil, gtName, List.length_cons, List.length_nil, Nat.zero_add, Nat.reduceAdd, if_true, List.set_cons_succ, List.set_cons_zero, Option.bind_some, e]
    exact e2
def FW : MS := (mSeq (mPop 4 (mC (PyData.int (0))) (gtName 5))
  (mFor (mIt (mCf V_steps_at (mAd (mVar 0) (mAc (mCst 1) (mAd (mVar 5) mN0))))) stepT FB))
theorem few_while {al : Bool} {rs : List PyData} (hrs : ∀ r ∈ rs, Ru r) (hl : rs.length ≤ 20) {one x2 : PyData} (T : Dk) : ∀ (n : Nat) (kvs : Kvs) (w : List PyData) (a5 a6 a7 : Option Sl) (R : Kvs), Iv al rs one (kvs, w) → kvs.length + cnt (univ rs) kvs < 1000 → w.length + cnt (univ rs) kvs < 1000 → bfs al rs n kvs w = some R →
    ∃ b5 b6 b7, mWhile (mTru (mVarB 4)) FW n [some (.dat (.tuple rs)), some (.cst (wordsD al)), some (.dat x2), some (.ownD kvs), some (.own w), a5, a6, a7] T = some (.nx [some (.dat (.tuple rs)), some (.cst (wordsD al)), some (.dat x2), some (.ownD R), some (.own []), b5, b6, b7] T)
  | 0, _, _, _, _, _, _, _, _, _, e => by cases e
  | n + 1, kvs, [], a5, a6, a7, R, _, _, _, e => by
    cases e
    exact ⟨a5, a6, a7, rfl⟩
  | n + 1, kvs, h :: w, a5, a6, a7, R, I, l1, l2, e => by
    simp only [List.length_cons] at l2
    have I' : Iv al rs one (kvs, w) := ⟨I.ks, fun x hx => I.ws x (List.mem_cons_of_mem _ hx)⟩
    obtain ⟨ht, hh⟩ := I.ws h List.mem_cons_self
    obtain ⟨c1, c2, c3, c4, c5, c6, c7⟩ := fold_ok hrs ht (L := sts al 0 rs h) (S := (kvs, w)) (fun _ h => h) I' hh
    obtain ⟨d6, d7, e1⟩ := few_fold (al := al) (x0 := .tuple rs) (x1 := wordsD al) (x2 := x2) hrs ht T (sts al 0 rs h) (kvs, w) a6 a7 (fun _ h => h) I' hh (by simpa using l1) (by simp only; omega)
    simp only at c6 c7
    obtain ⟨b5, b6, b7, e2⟩ := few_while (al := al) (x2 := x2) hrs hl T n _ _ (some (.dat h)) d6 d7 R c1 (by omega) (by omega) e
    refine ⟨b5, b6, b7, ?_⟩
    have hp : (mPop 4 (mC (PyData.int (0))) (gtName 5)) [some (.dat (.tuple rs)), some (.cst (wordsD al)), some (.dat x2), some (.ownD kvs), some (.own (h :: w)), a5, a6, a7] T = some (.nx [some (.dat (.tuple rs)), some (.cst (wordsD al)), some (.dat x2), some (.ownD kvs), some (.own w), some (.dat h), a6, a7] T) := by
      have hs : seqIndex? 0 (h :: w).length = some 0 := by simp [seqIndex?]
      simp only [mPop, mC, List.getElem?_cons_succ, List.getElem?_cons_zero, Option.bind_some, hs]
      rfl
    have hb : FW [some (.dat (.tuple rs)), some (.cst (wordsD al)), some (.dat x2), some (.ownD kvs), some (.own (h :: w)), a5, a6, a7] T = some (.nx [some (.dat (.tuple rs)), some (.cst (wordsD al)), some (.dat x2), some (.ownD ((sts al 0 rs h).foldl (stp h) (kvs, w)).1), some (.own ((sts al 0 rs h).foldl (stp h) (kvs, w)).2), some (.dat h), d6, d7] T) := by
      unfold FW mSeq
      rw [hp]
      simp only [Option.bind_some]
      have hi : (mIt (mCf V_steps_at (mAd (mVar 0) (mAc (mCst 1) (mAd (mVar 5) mN0))))) [some (.dat (.tuple rs)), some (.cst (wordsD al)), some (.dat x2), some (.ownD kvs), some (.own w), some (.dat h), a6, a7] T = some ((sts al 0 rs h).map pairD, T) := by
        show ((V_steps_at [.dat (.tuple rs), .cst (wordsD al), .dat h] T).bind fun p => (itemsD p.1).map fun ds => (ds, p.2)) = _
        rw [steps_val hrs hl ht T]
        rfl
      unfold mFor
      rw [hi]
      exact e1
    show ((some (true, T)).bind fun p : Bool × Dk => if p.1 = true then (FW [some (.dat (.tuple rs)), some (.cst (wordsD al)), some (.dat x2), some (.ownD kvs), some (.own (h :: w)), a5, a6, a7] p.2).bind fun r => match r with
      | .nx en' T' => mWhile (mTru (mVarB 4)) FW n en' T'
      | .ct en' T' => mWhile (mTru (mVarB 4)) FW n en' T'
      | .bk en' T' => some (.nx en' T')
      | .rt d T' => some (.rt d T')
      else some (.nx _ p.2)) = _
    simp only [Option.bind_some, if_true, hb]
    exact e2
theorem start_iv {al : Bool} {rs : List PyData} {one : PyData} (h : So one) : Iv al rs one ([(one, .tuple [])], [one]) ∧ Cl al rs ([(one, .tuple [])], [one]) ∧ cnt (univ rs) [(one, .tuple [])] ≤ 2 * rs.length := by
  have hh : has [(one, .tuple [])] one := (has_mem (fun p hp => by rw [List.mem_singleton.mp hp]; exact h) h).mpr ⟨_, List.mem_cons_self, rfl⟩
  refine ⟨⟨fun p hp => ?_, fun x hx => ?_⟩, fun p hp => ?_, Nat.le_trans (List.length_filter_le _ _) (univ_len rs)⟩
  · rw [List.mem_singleton.mp hp]
    exact ⟨h, [], rfl, rfl, by simp⟩
  · rw [List.mem_singleton.mp hx]
    exact ⟨h, hh⟩
  · rw [List.mem_singleton.mp hp]
    exact .inl List.mem_cons_self
/-- the program's search -/
theorem few_val {al : Bool} {rs : List PyData} (hrs : ∀ r ∈ rs, Ru r) (hl : rs.length ≤ 20) {one : PyData} (h1 : So one) (T : Dk) {R : Kvs} (e : bfs al rs 100 [(one, .tuple [])] [one] = some R) : V_fewest [.dat (.tuple rs), .cst (wordsD al), .dat one] T = some (.dict R, T) := by
  obtain ⟨I, C, l⟩ := start_iv (al := al) (rs := rs) h1
  obtain ⟨b5, b6, b7, ew⟩ := few_while (al := al) (x2 := one) hrs hl T 100 _ _ none none none R I (by simp only [List.length_cons, List.length_nil]; omega) (by simp only [List.length_cons, List.length_nil]; omega) e
  have e' : VB_fewest ([Sl.dat (.tuple rs), Sl.cst (wordsD al), Sl.dat one].map some ++ List.replicate (8 - 3) none) T = some (.rt (.dict R) T) := by
    have en : (mNewD1 3 (mVar 2) (mTup mNil)) ([Sl.dat (.tuple rs), Sl.cst (wordsD al), Sl.dat one].map some ++ List.replicate (8 - 3) none) T = some (.nx [some (.dat (.tuple rs)), some (.cst (wordsD al)), some (.dat one), some (.ownD [(one, .tuple [])]), none, none, none, none] T) := by
      have k := key_tn h1
      show (if (keyL one).isSome = true ∧ true = true then some _ else none) = _
      rw [if_pos ⟨k, rfl⟩]
      rfl
    unfold VB_fewest
    rw [mSeq, en]
    simp only [Option.bind_some]
    show ((mWhile (mTru (mVarB 4)) FW 100 [some (.dat (.tuple rs)), some (.cst (wordsD al)), some (.dat one), some (.ownD [(one, .tuple [])]), some (.own [one]), none, none, none] T).bind fun r => match r with
      | .nx en' T' => mRetD 3 en' T'
      | r => some r) = _
    rw [ew]
    rfl
  unfold V_fewest mFun
  show (match VB_fewest ([Sl.dat (.tuple rs), Sl.cst (wordsD al), Sl.dat one].map some ++ List.replicate (8 - 3) none) T with
    | some (.rt d T') => some (d, T')
    | some (.nx _ T') => some (.none, T')
    | _ => none) = _
  rw [e']
end LQ

-- LQVA
set_option Elab.async false
set_option linter.all false
set_option maxRecDepth 100000
set_option maxHeartbeats 2000000
namespace LQ
open PySem PySem.Spec PyProof.Rows L2
def lenD : PyData → PyData
  | .tuple ds => .int (ds.length : Nat)
  | _ => .none
def lm (kvs : Kvs) : Kvs := kvs.map fun p => (p.1, lenD p.2)
theorem get_lm (kvs : Kvs) (d : PyData) : getKv (lm kvs) d = (getKv kvs d).map lenD := by
  unfold getKv lm
  induction kvs with
  | nil => rfl
  | cons p kvs ih =>
    simp only [List.map_cons, List.find?_cons]
    cases PyData.eqv p.1 d with
    | true => rfl
    | false => exact ih
theorem lm_app (a b : Kvs) : lm (a ++ b) = lm a ++ lm b := by simp [lm]
theorem lm_len (a : Kvs) : (lm a).length = a.length := by simp [lm]
def RP : MS := (mIf (mAnd (mQ (mBin (gIsN true) (mVar 8) (mC .none))) (mQ (mInD true 3 (mVar 8)))) (mSeq (mPutD 3 (mVar 8) (mBin gAdd (mGetD 3 (mVar 5)) (mC (PyData.int (1)))))
  (mApp 4 (mVar 8))) mNext)
def RB : MS := (mSeq (mSet 8 (mCf V__law_next (mAd (mVar 0) (mAd (mVar 5) (mAd (mVar 6) (mAd (mVar 7) mN0))))))
  (mSeq (mIf (mAnd (mQ (mVar 2)) (mQ (mBin gNe (mBin ixD (mBin ixD (mVar 0) (mVar 6)) (mC (PyData.int (0)))) (mC (PyData.str "along"))))) (mSet 8 (mC .none)) mNext)
  RP))
theorem rp_none (al : Bool) (x0 x1 h x6 x7 : PyData) (kvs : Kvs) (w : List PyData) (T : Dk) : RP [some (.dat x0), some (.dat x1), some (.dat (.bool al)), some (.ownD kvs), some (.own w), some (.dat h), some (.dat x6), some (.dat x7), some (.dat .none)] T = some (.nx [some (.dat x0), some (.dat x1), some (.dat (.bool al)), some (.ownD kvs), some (.own w), some (.dat h), some (.dat x6), some (.dat x7), some (.dat .none)] T) := rfl
theorem rb_val {al : Bool} {rs : List PyData} (hrs : ∀ r ∈ rs, Ru r) {one x1 : PyData} {S : Kvs × List PyData} {h r : PyData} {n : Nat} {t : Int} (hr : rs[n]? = some r) (htt : t = 0 ∨ t = 1) (I : Iv al rs one S) (ht : So h) (hh : has S.1 h) (l1 : S.1.length < 1000) (l2 : S.2.length < 1000) (a8 : Option Sl) (T : Dk) :
    ∃ b8, RB [some (.dat (.tuple rs)), some (.dat x1), some (.dat (.bool al)), some (.ownD (lm S.1)), some (.own S.2), some (.dat h), some (.dat (.int (n : Nat))), some (.dat (.int t)), a8] T = some (.nx [some (.dat (.tuple rs)), some (.dat x1), some (.dat (.bool al)), some (.ownD (lm ((one1 al r h n t).foldl (stp h) S).1)), some (.own ((one1 al r h n t).foldl (stp h) S).2), some (.dat h), some (.dat (.int (n : Nat))), some (.dat (.int t)), b8] T) := by
  have ru := hrs r (List.mem_of_getElem? hr)
  have hn := next_val hr ru ht t T
  obtain ⟨ew, tw⟩ := word_val ru
  have hne := ne_strs tw tx_along
  have e1 : (mSet 8 (mCf V__law_next (mAd (mVar 0) (mAd (mVar 5) (mAd (mVar 6) (mAd (mVar 7) mN0)))))) [some (.dat (.tuple rs)), some (.dat x1), some (.dat (.bool al)), some (.ownD (lm S.1)), some (.own S.2), some (.dat h), some (.dat (.int (n : Nat))), some (.dat (.int t)), a8] T = some (.nx [some (.dat (.tuple rs)), some (.dat x1), some (.dat (.bool al)), some (.ownD (lm S.1)), some (.own S.2), some (.dat h), some (.dat (.int (n : Nat))), some (.dat (.int t)), some (.dat (nextD r h t))] T) := by
    show ((V__law_next [.dat (.tuple rs), .dat h, .dat (.int (n : Nat)), .dat (.int t)] T).map fun p => Res.nx _ p.2) = _
    rw [hn]
    rfl
  have e2 : (mIf (mAnd (mQ (mVar 2)) (mQ (mBin gNe (mBin ixD (mBin ixD (mVar 0) (mVar 6)) (mC (PyData.int (0)))) (mC (PyData.str "along"))))) (mSet 8 (mC .none)) mNext) [some (.dat (.tuple rs)), some (.dat x1), some (.dat (.bool al)), some (.ownD (lm S.1)), some (.own S.2), some (.dat h), some (.dat (.int (n : Nat))), some (.dat (.int t)), some (.dat (nextD r h t))] T = some (.nx [some (.dat (.tuple rs)), some (.dat x1), some (.dat (.bool al)), some (.ownD (lm S.1)), some (.own S.2), some (.dat h), some (.dat (.int (n : Nat))), some (.dat (.int t)), some (.dat (if (al && !(wordOf r == "along")) = true then .none else nextD r h t))] T) := by
    refine W_eq.mp ?_
    simp only [W_mSeq, W_mSet, W_mSetF, W_mIf, W_mRet, W_mCf, W_mAk0, W_mAk1, W_mAd, W_mN0, W_mC, W_mBin, W_mVar0, W_mVarS, W_mVarBd, W_mVarBo, W_mVarBS, W_mQ, W_mNot, W_mAnd, W_mOr, W_mL, W_mLst, W_mCons, W_mNil, W_mTup, W_mIt, W_mLc, W_mRng1, W_mCall, W_mNext, W_mAsg, W_mFor, W_mYes, W_mSl, W_mP0, W_mP, W_mSlF, W_mNeg, W_mRevT, W_mTupOf, W_mListT, W_mIfx, W_mAk2, W_mAc, W_mCst0, W_mCstS, W_mAndV, W_mOrV, W_mNotV, W_some, W_map, W_bind, seqQ_nx, seqQ_rt, List.set_cons_succ, List.set_cons_zero, List.map_cons, List.map_nil, List.length_cons, List.length_nil, List.nil_append, List.cons_append, List.replicate, wipeE, PyData.bool.injEq, PyData.int.injEq, exists_eq_left', exists_eq_left, and_true, true_and, eq_ints, ↓reduceIte, Option.bind_some, Option.map_some, Nat.reduceAdd, Nat.reduceLeDiff, PyData.list.injEq, PyData.tuple.injEq, add_ints, sub_ints, lt_ints, le_ints, gt_ints, ge_ints, glen_list, glen_tuple, reduceCtorEq, false_or, or_false, ix_tup hr, ew, hne]
    cases al <;> cases (wordOf r == "along") <;> simp
  unfold RB
  rw [mSeq, e1]
  simp only [Option.bind_some]
  rw [mSeq, e2]
  simp only [Option.bind_some]
  unfold one1
  cases hw : (al && !(wordOf r == "along"))
  rotate_left
  · exact ⟨_, rp_none _ _ _ _ _ _ _ _ _⟩
  · cases hnn : isNn (nextD r h t)
    · have hp : (PyData.tuple [.int (n : Nat), .int t], nextD r h t) ∈ sts al 0 rs h := sts_mem.mpr ⟨n, r, t, hr, htt, hw, hnn, by rw [Nat.zero_add]⟩
      obtain ⟨t1, _, _⟩ := sts_tn hrs hp
      obtain ⟨ds, g1, g2, g3⟩ := get_path hrs I ht hh
      have k1 := key_tn t1
      have k2 := key_tn ht
      have g1' : getKv (lm S.1) h = some (.int (ds.length : Nat)) := by rw [get_lm, g1]; rfl
      have q2 : (lm S.1).length < 16777216 := by rw [lm_len]; omega
      have q3 : S.2.length < 16777216 := by omega
      refine ⟨some (.dat (nextD r h t)), ?_⟩
      simp only [Bool.not_true, Bool.false_eq_true, if_false, List.foldl_cons, List.foldl_nil]
      unfold stp
      simp only at t1 k1 ⊢
      cases hb : (getKv S.1 (nextD r h t)).isSome
      · have hb' : getKv (lm S.1) (nextD r h t) = none := by
          rw [get_lm]
          have : getKv S.1 (nextD r h t) = none := by simpa using hb
          rw [this]
          rfl
        have hpn := put_new (kvs := lm S.1) (d := nextD r h t) (e := .int ((ds.length : Nat) + 1)) (by rw [hb']; simp)
        simp [RP, mIf, mAnd, mQ, gIsN, mC, hnn, mInD, mVar, mSeq, mPutD, mBin, mGetD, mApp, add_ints, k1, k2, hb', g1, g1', q2, q3, hpn]
        simp [lm_app, lm, catD, lenD]
      · have hb' : (getKv (lm S.1) (nextD r h t)).isSome = true := by
          rw [get_lm, Option.isSome_map]
          exact hb
        simp [RP, mIf, mAnd, mQ, gIsN, mC, hnn, mInD, mVar, mBin, k1, hb', mNext]
        intro e
        rw [e] at hb'
        cases hb'
    · have := isNn_none hnn
      refine ⟨some (.dat .none), ?_⟩
      simp only [Bool.not_true, Bool.false_eq_true, if_false, if_true, List.foldl_nil, this]
      exact rp_none _ _ _ _ _ _ _ _ _
def rnF : Nat → Nat → List PyData
  | _, 0 => []
  | i, k + 1 => .int (i : Nat) :: rnF (i + 1) k
theorem rn_eq : ∀ (k i : Nat), (rng ((i : Nat) : Int) k).map PyData.int = rnF i k
  | 0, i => rfl
  | k + 1, i => by
    simp only [rnF]
    rw [← rn_eq k (i + 1)]
    unfold rng
    rw [List.range_succ_eq_map, List.map_cons, List.map_cons, List.map_map]
    simp
    intros
    omega
def RF : MS := (mFor (mIt (mTup (mCons (mC (PyData.int (0))) (mCons (mC (PyData.int (1))) mNil)))) (gtName 7) RB)
theorem red_fold {al : Bool} {rs : List PyData} (hrs : ∀ r ∈ rs, Ru r) {one x1 h : PyData} (ht : So h) (T : Dk) : ∀ (rs' : List PyData) (n : Nat) (S : Kvs × List PyData) (a6 a7 a8 : Option Sl), (∀ i, rs'[i]? = rs[n + i]?) → Iv al rs one S → has S.1 h → S.1.length + cnt (univ rs) S.1 < 1000 → S.2.length + cnt (univ rs) S.1 < 1000 →
    ∃ b6 b7 b8, mFold (gtName 6) RF (rnF n rs'.length) [some (.dat (.tuple rs)), some (.dat x1), some (.dat (.bool al)), some (.ownD (lm S.1)), some (.own S.2), some (.dat h), a6, a7, a8] T = some (.nx [some (.dat (.tuple rs)), some (.dat x1), some (.dat (.bool al)), some (.ownD (lm ((sts al n rs' h).foldl (stp h) S).1)), some (.own ((sts al n rs' h).foldl (stp h) S).2), some (.dat h), b6, b7, b8] T)
  | [], n, S, a6, a7, a8, _, _, _, _, _ => ⟨a6, a7, a8, rfl⟩
  | r :: rs', n, S, a6, a7, a8, hi, I, hh, l1, l2 => by
    have hr : rs[n]? = some r := (hi 0).symm
    have mem : ∀ t : Int, (t = 0 ∨ t = 1) → ∀ p ∈ one1 al r h n t, p ∈ sts al 0 rs h := fun t htt p hp => by
      unfold one1 at hp
      split at hp
      · cases hp
      split at hp
      · cases hp
      · rename_i h1 h2
        rw [List.mem_singleton.mp hp]
        exact sts_mem.mpr ⟨n, r, t, hr, htt, by simpa using h1, by simpa using h2, by rw [Nat.zero_add]⟩
    obtain ⟨y0, e0⟩ := rb_val (al := al) (x1 := x1) hrs hr (.inl rfl) I ht hh (by omega) (by omega) a8 T
    obtain ⟨c1, c2, c3, c4, c5, c6, c7⟩ := fold_ok hrs ht (mem 0 (.inl rfl)) I hh
    obtain ⟨y1, e1⟩ := rb_val (al := al) (x1 := x1) hrs hr (.inr rfl) c1 ht (c2 _ hh) (by omega) (by omega) y0 T
    obtain ⟨d1, d2, d3, d4, d5, d6, d7⟩ := fold_ok hrs ht (mem 1 (.inr rfl)) c1 (c2 _ hh)
    obtain ⟨b6, b7, b8, e2⟩ := red_fold (al := al) (x1 := x1) hrs ht T rs' (n + 1) _ (some (.dat (.int (n : Nat)))) (some (.dat (.int 1))) y1 (fun i => by
      have := hi (i + 1)
      rw [List.getElem?_cons_succ] at this
      rw [this]
      congr 1
      omega) d1 (d2 _ (c2 _ hh)) (by omega) (by omega)
    refine ⟨b6, b7, b8, ?_⟩
    have inner : RF [some (.dat (.tuple rs)), some (.dat x1), some (.dat (.bool al)), some (.ownD (lm S.1)), some (.own S.2), some (.dat h), some (.dat (.int (n : Nat))), a7, a8] T = some (.nx [some (.dat (.tuple rs)), some (.dat x1), some (.dat (.bool al)), some (.ownD (lm ((one1 al r h n 1).foldl (stp h) ((one1 al r h n 0).foldl (stp h) S)).1)), some (.own ((one1 al r h n 1).foldl (stp h) ((one1 al r h n 0).foldl (stp h) S)).2), some (.dat h), some (.dat (.int (n : Nat))), some (.dat (.int 1)), y1] T) := by
      show mFold (gtName 7) RB [.int 0, .int 1] _ T = _
      simp only [mFold, gtName, List.set_cons_succ, List.set_cons_zero, Option.bind_some, e0, e1]
    simp only [List.length_cons, rnF, mFold, gtName, List.set_cons_succ, List.set_cons_zero, Option.bind_some, inner]
    simp only [sts, List.foldl_append]
    exact e2
def RWb : MS := (mSeq (mSet 5 (mBin ixD (mVarB 4) (mC (PyData.int (0)))))
  (mSeq (mSetF 4 (mSlF (mVarB 4) (mP (mC (PyData.int (1)))) mP0))
  (mFor (mRng1 (mCall gLen (mCons (mVar 0) mNil))) (gtName 6) RF)))
theorem cut_tail (h : PyData) (w : List PyData) : LQ.cutD (h :: w) (some 1) none = w := by
  unfold LQ.cutD
  have e1 : HT.sIx (h :: w).length 0 (some 1) = 1 := by
    simp [HT.sIx]
  have e2 : HT.sIx (h :: w).length (h :: w).length none = (h :: w).length := rfl
  rw [e1, e2]
  simp
end LQ

-- LQVA
set_option Elab.async false
set_option linter.all false
set_option maxRecDepth 100000
set_option maxHeartbeats 2000000
namespace LQ
open PySem PySem.Spec PyProof.Rows L2
def RC : MT := (mQ (mBin gNe (mVarB 4) (mL (mLst mNil))))
theorem rc_nil (x0 x1 x2 : PyData) (kvs : Kvs) (a5 a6 a7 a8 : Option Sl) (T : Dk) : RC [some (.dat (x0)), some (.dat (x1)), some (.dat (x2)), some (.ownD (kvs)), some (.own ([])), a5, a6, a7, a8] T = some (false, T) := rfl
theorem rc_cons {h : PyData} {w : List PyData} (hw : ∀ d ∈ h :: w, So d) (x0 x1 x2 : PyData) (kvs : Kvs) (a5 a6 a7 a8 : Option Sl) (T : Dk) : RC [some (.dat (x0)), some (.dat (x1)), some (.dat (x2)), some (.ownD (kvs)), some (.own (h :: w)), a5, a6, a7, a8] T = some (true, T) := by
  have e : gNe (.list (h :: w)) (.list []) = some (.bool true) := by
    rw [ne_sh (Sh.list fun d hd => (hw d hd).sh) (Sh.list (n := 0) fun d hd => by cases hd) (by decide) (by decide)]
    simp [PyData.eqv, PyData.eqvAll]
  show (match (gNe (.list (h :: w)) (.list [])).map fun b => (b, T) with
    | some (.bool b, T') => some (b, T')
    | _ => none) = _
  rw [e]
  rfl
theorem r1_val (x0 x1 x2 h : PyData) (w : List PyData) (kvs : Kvs) (a5 a6 a7 a8 : Option Sl) (T : Dk) : (mSet 5 (mBin ixD (mVarB 4) (mC (PyData.int (0))))) [some (.dat (x0)), some (.dat (x1)), some (.dat (x2)), some (.ownD (kvs)), some (.own (h :: w)), a5, a6, a7, a8] T = some (.nx [some (.dat (x0)), some (.dat (x1)), some (.dat (x2)), some (.ownD (kvs)), some (.own (h :: w)), some (.dat (h)), a6, a7, a8] T) := by
  have e : ixD (.list (h :: w)) (.int 0) = some h := by
    have := atI_nat (xs := h :: w) (j := 0) (v := h) rfl
    exact this
  show ((ixD (.list (h :: w)) (.int 0)).map fun b => (b, T)).map (fun p => Res.nx _ p.2) = _
  rw [e]
  rfl
theorem r2_val (x0 x1 x2 h : PyData) (w : List PyData) (kvs : Kvs) (a6 a7 a8 : Option Sl) (T : Dk) : (mSetF 4 (mSlF (mVarB 4) (mP (mC (PyData.int (1)))) mP0)) [some (.dat (x0)), some (.dat (x1)), some (.dat (x2)), some (.ownD (kvs)), some (.own (h :: w)), some (.dat (h)), a6, a7, a8] T = some (.nx [some (.dat (x0)), some (.dat (x1)), some (.dat (x2)), some (.ownD (kvs)), some (.own (w)), some (.dat (h)), a6, a7, a8] T) := by
  have e := cut_tail h w
  show some (Res.nx [some (.dat (x0)), some (.dat (x1)), some (.dat (x2)), some (.ownD (kvs)), some (.own (LQ.cutD (h :: w) (some 1) none)), some (.dat (h)), a6, a7, a8] T) = _
  rw [e]
theorem r3_val {rs : List PyData} (hl : rs.length ≤ 20) (x1 x2 h : PyData) (w : List PyData) (kvs : Kvs) (a6 a7 a8 : Option Sl) (T : Dk) : (mRng1 (mCall gLen (mCons (mVar 0) mNil))) [some (.dat (.tuple rs)), some (.dat (x1)), some (.dat (x2)), some (.ownD (kvs)), some (.own (w)), some (.dat (h)), a6, a7, a8] T = some (rnF 0 rs.length, T) := by
  have e := rn_eq rs.length 0
  have e0 : (mCall gLen (mCons (mVar 0) mNil)) [some (.dat (.tuple rs)), some (.dat (x1)), some (.dat (x2)), some (.ownD (kvs)), some (.own (w)), some (.dat (h)), a6, a7, a8] T = some (.int ((rs.length : Nat) : Int), T) := rfl
  have e1 : ((0 : Nat) : Int) = 0 := rfl
  rw [e1] at e
  refine W_eq.mp (W_mRng1.mpr (W.of e0 ⟨_, rfl, ⟨by omega, by omega⟩, ?_⟩))
  rw [Int.toNat_natCast, e]
theorem rwb_val {al : Bool} {rs : List PyData} (hl : rs.length ≤ 20) {x1 h : PyData} {w : List PyData} {kvs : Kvs} {a5 a6 a7 a8 : Option Sl} {T : Dk} {X : Option Res}
    (e : mFold (gtName 6) RF (rnF 0 rs.length) [some (.dat (.tuple rs)), some (.dat (x1)), some (.dat (.bool al)), some (.ownD (kvs)), some (.own (w)), some (.dat (h)), a6, a7, a8] T = X) : RWb [some (.dat (.tuple rs)), some (.dat (x1)), some (.dat (.bool al)), some (.ownD (kvs)), some (.own (h :: w)), a5, a6, a7, a8] T = X := by
  exact seq_nx (r1_val _ _ _ _ _ _ _ _ _ _ _) (seq_nx (r2_val _ _ _ _ _ _ _ _ _ _) (for_to (r3_val hl _ _ _ _ _ _ _ _ _) e))
theorem red_while {al : Bool} {rs : List PyData} (hrs : ∀ r ∈ rs, Ru r) (hl : rs.length ≤ 20) {one x1 : PyData} (T : Dk) : ∀ (n : Nat) (kvs : Kvs) (w : List PyData) (a5 a6 a7 a8 : Option Sl) (R : Kvs), Iv al rs one (kvs, w) → kvs.length + cnt (univ rs) kvs < 1000 → w.length + cnt (univ rs) kvs < 1000 → bfs al rs n kvs w = some R →
    ∃ b5 b6 b7 b8, mWhile RC RWb n [some (.dat (.tuple rs)), some (.dat (x1)), some (.dat (.bool al)), some (.ownD (lm kvs)), some (.own (w)), a5, a6, a7, a8] T = some (.nx [some (.dat (.tuple rs)), some (.dat (x1)), some (.dat (.bool al)), some (.ownD (lm R)), some (.own ([])), b5, b6, b7, b8] T)
  | 0, _, _, _, _, _, _, _, _, _, _, e => by cases e
  | n + 1, kvs, [], a5, a6, a7, a8, R, _, _, _, e => by
    cases e
    exact ⟨a5, a6, a7, a8, wh_end (rc_nil _ _ _ _ _ _ _ _ _)⟩
  | n + 1, kvs, h :: w, a5, a6, a7, a8, R, I, l1, l2, e => by
    simp only [List.length_cons] at l2
    have I' : Iv al rs one (kvs, w) := ⟨I.ks, fun x hx => I.ws x (List.mem_cons_of_mem _ hx)⟩
    obtain ⟨ht, hh⟩ := I.ws h List.mem_cons_self
    obtain ⟨c1, c2, c3, c4, c5, c6, c7⟩ := fold_ok hrs ht (L := sts al 0 rs h) (S := (kvs, w)) (fun _ h => h) I' hh
    obtain ⟨d6, d7, d8, e1⟩ := red_fold (al := al) (x1 := x1) hrs ht T rs 0 (kvs, w) a6 a7 a8 (fun i => by rw [Nat.zero_add]) I' hh (by simpa using l1) (by simp only; omega)
    simp only at c6 c7
    obtain ⟨b5, b6, b7, b8, e2⟩ := red_while (al := al) (x1 := x1) hrs hl T n _ _ (some (.dat h)) d6 d7 d8 R c1 (by omega) (by omega) e
    exact ⟨b5, b6, b7, b8, wh_nx (rc_cons (fun d hd => (I.ws d hd).1) _ _ _ _ _ _ _ _ _) (rwb_val hl e1) e2⟩
theorem red_val {al : Bool} {rs : List PyData} (hrs : ∀ r ∈ rs, Ru r) (hl : rs.length ≤ 20) {one : PyData} (h1 : So one) (T : Dk) {R : Kvs} (e : bfs al rs 100 [(one, .tuple [])] [one] = some R) : V__law_reached [.dat (.tuple rs), .dat one, .dat (.bool al)] T = some (.dict (lm R), T) := by
  obtain ⟨I, C, l⟩ := start_iv (al := al) (rs := rs) h1
  obtain ⟨b5, b6, b7, b8, ew⟩ := red_while (al := al) (x1 := one) hrs hl T 100 _ _ none none none none R I (by simp only [List.length_cons, List.length_nil]; omega) (by simp only [List.length_cons, List.length_nil]; omega) e
  have e' : VB__law_reached ([Sl.dat (.tuple rs), Sl.dat one, Sl.dat (.bool al)].map some ++ List.replicate (9 - 3) none) T = some (.rt (.dict (lm R)) T) := by
    have en : (mNewD1 3 (mVar 1) (mC (PyData.int (0)))) ([Sl.dat (.tuple rs), Sl.dat one, Sl.dat (.bool al)].map some ++ List.replicate (9 - 3) none) T = some (.nx [some (.dat (.tuple rs)), some (.dat (one)), some (.dat (.bool al)), some (.ownD ([(one, .int 0)])), none, none, none, none, none] T) := by
      have k := key_tn h1
      show (if (keyL one).isSome = true ∧ true = true then some _ else none) = _
      rw [if_pos ⟨k, rfl⟩]
      rfl
    unfold VB__law_reached
    rw [mSeq, en]
    simp only [Option.bind_some]
    show ((mWhile RC RWb 100 [some (.dat (.tuple rs)), some (.dat (one)), some (.dat (.bool al)), some (.ownD (lm [(one, .tuple [])])), some (.own ([one])), none, none, none, none] T).bind fun r => match r with
      | .nx en' T' => mRetD 3 en' T'
      | r => some r) = _
    rw [ew]
    rfl
  unfold V__law_reached mFun
  show (match VB__law_reached ([Sl.dat (.tuple rs), Sl.dat one, Sl.dat (.bool al)].map some ++ List.replicate (9 - 3) none) T with
    | some (.rt d T') => some (d, T')
    | some (.nx _ T') => some (.none, T')
    | _ => none) = _
  rw [e']
end LQ

-- LQVA
set_option Elab.async false
set_option linter.all false
set_option maxRecDepth 100000
set_option maxHeartbeats 2000000
namespace LQ
open PySem PySem.Spec PyProof.Rows L2
open PySem.W (alike alikeAll)
theorem W_mSeqF {s : MS} {m : MA} {en : En} {T : Dk} {Q : List PyData × Dk → Prop} (h : W (s en T) fun r => ∃ en' T', r = .nx en' T' ∧ W (m en' T') Q) : W (mSeqF s m en T) Q := by
  obtain ⟨r, e, en', T', rfl, h⟩ := h
  unfold mSeqF
  rw [e]
  exact h
theorem ru_along {a b : PyData} (ha : Tn a) (hb : Tn b) : Ru (.tuple [.str "along", a, b]) := ⟨_, _, _, rfl, .inr ⟨.inl rfl, ha, hb⟩⟩
theorem ru_within {a b : PyData} (ha : So a) (hb : So b) : Ru (.tuple [.str "within", a, b]) := ⟨_, _, _, rfl, .inl ⟨.inl rfl, ha, hb⟩⟩
def LB : MS := (mSeq (mSet 7 (mCf X__law_take (mAk 0 (mAd (mC (PyData.int (3))) mN0))))
  (mSeq (mIf (mAnd (mQ (mBin gEq (mVar 7) (mC (PyData.int (0))))) (mQ (mBin gEq (mCall gLen (mCons (mVar 5) mNil)) (mC (PyData.int (2)))))) (mSeq (mSet 8 (mCf V__law_turn (mAk 0 (mAd (mVar 2) mN0))))
  (mSeq (mSet 9 (mTup (mCons (mC (PyData.str "along")) (mCons (mVar 5) (mCons (mVar 8) mNil)))))
  (mIf (mQ (mBin gEq (mCf X__law_take (mAk 0 (mAd (mC (PyData.int (2))) mN0))) (mC (PyData.int (0))))) (mSet 9 (mTup (mCons (mC (PyData.str "along")) (mCons (mCf V__law_round (mAd (mVar 5) mN0)) (mCons (mCf V__law_round (mAd (mVar 8) mN0)) mNil))))) mNext))) (mSeq (mSet 8 (mCf V__law_sort (mAk 0 (mAd (mVar 1) (mAd (mVar 2) mN0)))))
  (mSet 9 (mTup (mCons (mC (PyData.str "within")) (mCons (mVar 5) (mCons (mVar 8) mNil)))))))
  (mSeq (mIf (mQ (mBin (gIn true) (mVar 9) (mVarB 4))) (mApp 4 (mVar 9)) mNext)
  (mSet 5 (mVar 8)))))
section
variable {k : Nat} {T : Dk} {ks rs : List PyData} (hr : rs ≠ []) (hl : rs.length < 1000) (hn : ∀ d ∈ rs, Nm d) (hr' : ks ≠ []) (hl' : ks.length < 1000) (hn' : ∀ d ∈ ks, Nm d)
include hr hl hn hr' hl' hn'
theorem lb_W {fs : List PyData} {th x3 : PyData} {a6 a7 a8 a9 : Option Sl} {Q : Res → Prop} (g : GB k T) (hk : k + 90 < 1000000000) (hf : ∀ r ∈ fs, Ru r) (hfl : fs.length < 100) (ht : So th)
    (q : ∀ (fs' : List PyData) (th' : PyData) (T' : Dk) (b7 b8 b9 : Option Sl), (∀ r ∈ fs', Ru r) → fs'.length ≤ fs.length + 1 → So th' → GB (k + 6) T' → Q (.nx [some .deck, some (.dat (.list ks)), some (.dat (.list rs)), some (.dat (x3)), some (.own (fs')), some (.dat (th')), a6, b7, b8, b9] T')) : W (LB [some .deck, some (.dat (.list ks)), some (.dat (.list rs)), some (.dat (x3)), some (.own (fs)), some (.dat (th)), a6, a7, a8, a9] T) Q := by
  unfold LB
  rw [W_mSeq]
  simp only [W_mSet, W_mSetF, W_mIf, W_mRet, W_mCf, W_mAk0, W_mAk1, W_mAd, W_mN0, W_mC, W_mBin, W_mVar0, W_mVarS, W_mVarBd, W_mVarBo, W_mVarBS, W_mQ, W_mNot, W_mAnd, W_mOr, W_mL, W_mLst, W_mCons, W_mNil, W_mTup, W_mIt, W_mLc, W_mRng1, W_mCall, W_mNext, W_mAsg, W_mYes, W_mSl, W_mP0, W_mP, W_mSlF, W_mNeg, W_mRevT, W_mTupOf, W_mListT, W_mIfx, W_mAk2, W_mAc, W_mCst0, W_mCstS, W_mAndV, W_mOrV, W_mNotV, W_some, W_map, W_bind, seqQ_nx, seqQ_rt, List.set_cons_succ, List.set_cons_zero, List.map_cons, List.map_nil, List.length_cons, List.length_nil, List.nil_append, List.cons_append, List.replicate, wipeE, PyData.bool.injEq, PyData.int.injEq, exists_eq_left', exists_eq_left, and_true, true_and, eq_ints, ↓reduceIte, Option.bind_some, Option.map_some, Nat.reduceAdd, Nat.reduceLeDiff, PyData.list.injEq, PyData.tuple.injEq, add_ints, sub_ints, lt_ints, le_ints, gt_ints, ge_ints, glen_list, glen_tuple, reduceCtorEq, false_or, or_false]
  refine takeB_W g (by decide) (by decide) (by omega) fun pk T1 p0 p1 g1 => ?_
  simp only
  refine W_cut (fun en' T' => ∃ ot ru, en' = [some .deck, some (.dat (.list ks)), some (.dat (.list rs)), some (.dat (x3)), some (.own (fs)), some (.dat (th)), a6, some (.dat (.int pk)), some (.dat (ot)), some (.dat (ru))] ∧ So ot ∧ Ru ru ∧ GB (k + 6) T') ?_ ?_
  · have els : W ((mSeq (mSet 8 (mCf V__law_sort (mAk 0 (mAd (mVar 1) (mAd (mVar 2) mN0)))))
        (mSet 9 (mTup (mCons (mC (PyData.str "within")) (mCons (mVar 5) (mCons (mVar 8) mNil)))))) [some .deck, some (.dat (.list ks)), some (.dat (.list rs)), some (.dat (x3)), some (.own (fs)), some (.dat (th)), a6, some (.dat (.int pk)), a8, a9] T1) fun r => ∃ en' T', r = .nx en' T' ∧ ∃ ot ru, en' = [some .deck, some (.dat (.list ks)), some (.dat (.list rs)), some (.dat (x3)), some (.own (fs)), some (.dat (th)), a6, some (.dat (.int pk)), some (.dat (ot)), some (.dat (ru))] ∧ So ot ∧ Ru ru ∧ GB (k + 6) T' := by
      simp only [W_mSeq, W_mSet, W_mSetF, W_mIf, W_mRet, W_mCf, W_mAk0, W_mAk1, W_mAd, W_mN0, W_mC, W_mBin, W_mVar0, W_mVarS, W_mVarBd, W_mVarBo, W_mVarBS, W_mQ, W_mNot, W_mAnd, W_mOr, W_mL, W_mLst, W_mCons, W_mNil, W_mTup, W_mIt, W_mLc, W_mRng1, W_mCall, W_mNext, W_mAsg, W_mFor, W_mYes, W_mSl, W_mP0, W_mP, W_mSlF, W_mNeg, W_mRevT, W_mTupOf, W_mListT, W_mIfx, W_mAk2, W_mAc, W_mCst0, W_mCstS, W_mAndV, W_mOrV, W_mNotV, W_some, W_map, W_bind, seqQ_nx, seqQ_rt, List.set_cons_succ, List.set_cons_zero, List.map_cons, List.map_nil, List.length_cons, List.length_nil, List.nil_append, List.cons_append, List.replicate, wipeE, PyData.bool.injEq, PyData.int.injEq, exists_eq_left', exists_eq_left, and_true, true_and, eq_ints, ↓reduceIte, Option.bind_some, Option.map_some, Nat.reduceAdd, Nat.reduceLeDiff, PyData.list.injEq, PyData.tuple.injEq, add_ints, sub_ints, lt_ints, le_ints, gt_ints, ge_ints, glen_list, glen_tuple, reduceCtorEq, false_or, or_false]
      refine sort_W g1 (by omega) hr hl hn hr' hl' hn' fun ot T2 hot g2 => ?_
      exact ⟨_, _, rfl, _, _, rfl, hot, ru_within ht hot, g2.up (by omega)⟩
    rcases ht with ht | ⟨s, rfl, ts⟩
    · have thn : W ((mSeq (mSet 8 (mCf V__law_turn (mAk 0 (mAd (mVar 2) mN0))))
          (mSeq (mSet 9 (mTup (mCons (mC (PyData.str "along")) (mCons (mVar 5) (mCons (mVar 8) mNil)))))
          (mIf (mQ (mBin gEq (mCf X__law_take (mAk 0 (mAd (mC (PyData.int (2))) mN0))) (mC (PyData.int (0))))) (mSet 9 (mTup (mCons (mC (PyData.str "along")) (mCons (mCf V__law_round (mAd (mVar 5) mN0)) (mCons (mCf V__law_round (mAd (mVar 8) mN0)) mNil))))) mNext))) [some .deck, some (.dat (.list ks)), some (.dat (.list rs)), some (.dat (x3)), some (.own (fs)), some (.dat (th)), a6, some (.dat (.int pk)), a8, a9] T1) fun r => ∃ en' T', r = .nx en' T' ∧ ∃ ot ru, en' = [some .deck, some (.dat (.list ks)), some (.dat (.list rs)), some (.dat (x3)), some (.own (fs)), some (.dat (th)), a6, some (.dat (.int pk)), some (.dat (ot)), some (.dat (ru))] ∧ So ot ∧ Ru ru ∧ GB (k + 6) T' := by
        rw [W_mSeq]
        simp only [W_mSet, W_mSetF, W_mIf, W_mRet, W_mCf, W_mAk0, W_mAk1, W_mAd, W_mN0, W_mC, W_mBin, W_mVar0, W_mVarS, W_mVarBd, W_mVarBo, W_mVarBS, W_mQ, W_mNot, W_mAnd, W_mOr, W_mL, W_mLst, W_mCons, W_mNil, W_mTup, W_mIt, W_mLc, W_mRng1, W_mCall, W_mNext, W_mAsg, W_mYes, W_mSl, W_mP0, W_mP, W_mSlF, W_mNeg, W_mRevT, W_mTupOf, W_mListT, W_mIfx, W_mAk2, W_mAc, W_mCst0, W_mCstS, W_mAndV, W_mOrV, W_mNotV, W_some, W_map, W_bind, seqQ_nx, seqQ_rt, List.set_cons_succ, List.set_cons_zero, List.map_cons, List.map_nil, List.length_cons, List.length_nil, List.nil_append, List.cons_append, List.replicate, wipeE, PyData.bool.injEq, PyData.int.injEq, exists_eq_left', exists_eq_left, and_true, true_and, eq_ints, ↓reduceIte, Option.bind_some, Option.map_some, Nat.reduceAdd, Nat.reduceLeDiff, PyData.list.injEq, PyData.tuple.injEq, add_ints, sub_ints, lt_ints, le_ints, gt_ints, ge_ints, glen_list, glen_tuple, reduceCtorEq, false_or, or_false]
        refine turn_W g1 (by omega) hr hl hn fun ot T2 hot g2 => ?_
        rw [W_mSeq]
        simp only [W_mSet, W_mSetF, W_mIf, W_mRet, W_mCf, W_mAk0, W_mAk1, W_mAd, W_mN0, W_mC, W_mBin, W_mVar0, W_mVarS, W_mVarBd, W_mVarBo, W_mVarBS, W_mQ, W_mNot, W_mAnd, W_mOr, W_mL, W_mLst, W_mCons, W_mNil, W_mTup, W_mIt, W_mLc, W_mRng1, W_mCall, W_mNext, W_mAsg, W_mYes, W_mSl, W_mP0, W_mP, W_mSlF, W_mNeg, W_mRevT, W_mTupOf, W_mListT, W_mIfx, W_mAk2, W_mAc, W_mCst0, W_mCstS, W_mAndV, W_mOrV, W_mNotV, W_some, W_map, W_bind, seqQ_nx, seqQ_rt, List.set_cons_succ, List.set_cons_zero, List.map_cons, List.map_nil, List.length_cons, List.length_nil, List.nil_append, List.cons_append, List.replicate, wipeE, PyData.bool.injEq, PyData.int.injEq, exists_eq_left', exists_eq_left, and_true, true_and, eq_ints, ↓reduceIte, Option.bind_some, Option.map_some, Nat.reduceAdd, Nat.reduceLeDiff, PyData.list.injEq, PyData.tuple.injEq, add_ints, sub_ints, lt_ints, le_ints, gt_ints, ge_ints, glen_list, glen_tuple, reduceCtorEq, false_or, or_false]
        refine takeB_W g2 (by decide) (by decide) (by omega) fun u T3 u0 u1 g3 => ?_
        simp only [W_mSeq, W_mSet, W_mSetF, W_mIf, W_mRet, W_mCf, W_mAk0, W_mAk1, W_mAd, W_mN0, W_mC, W_mBin, W_mVar0, W_mVarS, W_mVarBd, W_mVarBo, W_mVarBS, W_mQ, W_mNot, W_mAnd, W_mOr, W_mL, W_mLst, W_mCons, W_mNil, W_mTup, W_mIt, W_mLc, W_mRng1, W_mCall, W_mNext, W_mAsg, W_mFor, W_mYes, W_mSl, W_mP0, W_mP, W_mSlF, W_mNeg, W_mRevT, W_mTupOf, W_mListT, W_mIfx, W_mAk2, W_mAc, W_mCst0, W_mCstS, W_mAndV, W_mOrV, W_mNotV, W_some, W_map, W_bind, seqQ_nx, seqQ_rt, List.set_cons_succ, List.set_cons_zero, List.map_cons, List.map_nil, List.length_cons, List.length_nil, List.nil_append, List.cons_append, List.replicate, wipeE, PyData.bool.injEq, PyData.int.injEq, exists_eq_left', exists_eq_left, and_true, true_and, eq_ints, ↓reduceIte, Option.bind_some, Option.map_some, Nat.reduceAdd, Nat.reduceLeDiff, PyData.list.injEq, PyData.tuple.injEq, add_ints, sub_ints, lt_ints, le_ints, gt_ints, ge_ints, glen_list, glen_tuple, reduceCtorEq, false_or, or_false]
        obtain ⟨b, hb⟩ : ∃ b : Bool, (u == 0) = b := ⟨_, rfl⟩
        rw [hb]
        cases b
        · simp only [Bool.false_eq_true, if_false]
          exact ⟨_, _, rfl, _, _, rfl, .inl hot, ru_along ht hot, g3.up (by omega)⟩
        · simp only [if_true]
          rw [round_val ht, W_some, round_val hot, W_some]
          exact ⟨_, _, rfl, _, _, rfl, .inl hot, ru_along (rnd_tn ht) (rnd_tn hot), g3.up (by omega)⟩
      have hlen : gLen [th] = some (.int 2) := by
        obtain ⟨s, i, rfl, _⟩ := ht
        rfl
      rw [W_mIf]
      simp only [W_mSet, W_mSetF, W_mIf, W_mRet, W_mCf, W_mAk0, W_mAk1, W_mAd, W_mN0, W_mC, W_mBin, W_mVar0, W_mVarS, W_mVarBd, W_mVarBo, W_mVarBS, W_mQ, W_mNot, W_mAnd, W_mOr, W_mL, W_mLst, W_mCons, W_mNil, W_mTup, W_mIt, W_mLc, W_mRng1, W_mCall, W_mNext, W_mAsg, W_mYes, W_mSl, W_mP0, W_mP, W_mSlF, W_mNeg, W_mRevT, W_mTupOf, W_mListT, W_mIfx, W_mAk2, W_mAc, W_mCst0, W_mCstS, W_mAndV, W_mOrV, W_mNotV, W_some, W_map, W_bind, seqQ_nx, seqQ_rt, List.set_cons_succ, List.set_cons_zero, List.map_cons, List.map_nil, List.length_cons, List.length_nil, List.nil_append, List.cons_append, List.replicate, wipeE, PyData.bool.injEq, PyData.int.injEq, exists_eq_left', exists_eq_left, and_true, true_and, eq_ints, ↓reduceIte, Option.bind_some, Option.map_some, Nat.reduceAdd, Nat.reduceLeDiff, PyData.list.injEq, PyData.tuple.injEq, add_ints, sub_ints, lt_ints, le_ints, gt_ints, ge_ints, glen_list, glen_tuple, reduceCtorEq, false_or, or_false, hlen]
      obtain ⟨b, hb⟩ : ∃ b : Bool, (pk == 0) = b := ⟨_, rfl⟩
      rw [hb]
      cases b
      · simpa using els
      · simpa using thn
    · have hlen : gLen [.tuple [.str s]] = some (.int 1) := rfl
      rw [W_mIf]
      simp only [W_mSet, W_mSetF, W_mIf, W_mRet, W_mCf, W_mAk0, W_mAk1, W_mAd, W_mN0, W_mC, W_mBin, W_mVar0, W_mVarS, W_mVarBd, W_mVarBo, W_mVarBS, W_mQ, W_mNot, W_mAnd, W_mOr, W_mL, W_mLst, W_mCons, W_mNil, W_mTup, W_mIt, W_mLc, W_mRng1, W_mCall, W_mNext, W_mAsg, W_mYes, W_mSl, W_mP0, W_mP, W_mSlF, W_mNeg, W_mRevT, W_mTupOf, W_mListT, W_mIfx, W_mAk2, W_mAc, W_mCst0, W_mCstS, W_mAndV, W_mOrV, W_mNotV, W_some, W_map, W_bind, seqQ_nx, seqQ_rt, List.set_cons_succ, List.set_cons_zero, List.map_cons, List.map_nil, List.length_cons, List.length_nil, List.nil_append, List.cons_append, List.replicate, wipeE, PyData.bool.injEq, PyData.int.injEq, exists_eq_left', exists_eq_left, and_true, true_and, eq_ints, ↓reduceIte, Option.bind_some, Option.map_some, Nat.reduceAdd, Nat.reduceLeDiff, PyData.list.injEq, PyData.tuple.injEq, add_ints, sub_ints, lt_ints, le_ints, gt_ints, ge_ints, glen_list, glen_tuple, reduceCtorEq, false_or, or_false, hlen]
      obtain ⟨b, hb⟩ : ∃ b : Bool, (pk == 0) = b := ⟨_, rfl⟩
      rw [hb]
      cases b
      · simpa using els
      · simpa using els
  rintro _ T2 ⟨ot, ru, rfl, hot, hru, g2⟩
  refine W_cut (fun en' T' => ∃ fs', en' = [some .deck, some (.dat (.list ks)), some (.dat (.list rs)), some (.dat (x3)), some (.own (fs')), some (.dat (th)), a6, some (.dat (.int pk)), some (.dat (ot)), some (.dat (ru))] ∧ (∀ r ∈ fs', Ru r) ∧ fs'.length ≤ fs.length + 1 ∧ GB (k + 6) T') ?_ ?_
  · simp only [W_mSeq, W_mSet, W_mSetF, W_mIf, W_mRet, W_mCf, W_mAk0, W_mAk1, W_mAd, W_mN0, W_mC, W_mBin, W_mVar0, W_mVarS, W_mVarBd, W_mVarBo, W_mVarBS, W_mQ, W_mNot, W_mAnd, W_mOr, W_mL, W_mLst, W_mCons, W_mNil, W_mTup, W_mIt, W_mLc, W_mRng1, W_mCall, W_mNext, W_mAsg, W_mFor, W_mYes, W_mSl, W_mP0, W_mP, W_mSlF, W_mNeg, W_mRevT, W_mTupOf, W_mListT, W_mIfx, W_mAk2, W_mAc, W_mCst0, W_mCstS, W_mAndV, W_mOrV, W_mNotV, W_some, W_map, W_bind, seqQ_nx, seqQ_rt, List.set_cons_succ, List.set_cons_zero, List.map_cons, List.map_nil, List.length_cons, List.length_nil, List.nil_append, List.cons_append, List.replicate, wipeE, PyData.bool.injEq, PyData.int.injEq, exists_eq_left', exists_eq_left, and_true, true_and, eq_ints, ↓reduceIte, Option.bind_some, Option.map_some, Nat.reduceAdd, Nat.reduceLeDiff, PyData.list.injEq, PyData.tuple.injEq, add_ints, sub_ints, lt_ints, le_ints, gt_ints, ge_ints, glen_list, glen_tuple, reduceCtorEq, false_or, or_false]
    rw [in_sh true hru.sh (fun d hd => (hf d hd).sh) (by decide) (by decide), W_some]
    obtain ⟨b, hb⟩ : ∃ b : Bool, (true ^^ fs.any fun z => PyData.eqv z ru) = b := ⟨_, rfl⟩
    simp only [hb, W_mSeq, W_mSet, W_mSetF, W_mIf, W_mRet, W_mCf, W_mAk0, W_mAk1, W_mAd, W_mN0, W_mC, W_mBin, W_mVar0, W_mVarS, W_mVarBd, W_mVarBo, W_mVarBS, W_mQ, W_mNot, W_mAnd, W_mOr, W_mL, W_mLst, W_mCons, W_mNil, W_mTup, W_mIt, W_mLc, W_mRng1, W_mCall, W_mNext, W_mAsg, W_mFor, W_mYes, W_mSl, W_mP0, W_mP, W_mSlF, W_mNeg, W_mRevT, W_mTupOf, W_mListT, W_mIfx, W_mAk2, W_mAc, W_mCst0, W_mCstS, W_mAndV, W_mOrV, W_mNotV, W_some, W_map, W_bind, seqQ_nx, seqQ_rt, List.set_cons_succ, List.set_cons_zero, List.map_cons, List.map_nil, List.length_cons, List.length_nil, List.nil_append, List.cons_append, List.replicate, wipeE, PyData.bool.injEq, PyData.int.injEq, exists_eq_left', exists_eq_left, and_true, true_and, eq_ints, ↓reduceIte, Option.bind_some, Option.map_some, Nat.reduceAdd, Nat.reduceLeDiff, PyData.list.injEq, PyData.tuple.injEq, add_ints, sub_ints, lt_ints, le_ints, gt_ints, ge_ints, glen_list, glen_tuple, reduceCtorEq, false_or, or_false]
    cases b
    · simp only [Bool.false_eq_true, if_false]
      exact ⟨_, _, rfl, _, rfl, hf, by omega, g2⟩
    · simp only [if_true]
      rw [W_mApp (ds := fs) rfl]
      simp only [W_mSeq, W_mSet, W_mSetF, W_mIf, W_mRet, W_mCf, W_mAk0, W_mAk1, W_mAd, W_mN0, W_mC, W_mBin, W_mVar0, W_mVarS, W_mVarBd, W_mVarBo, W_mVarBS, W_mQ, W_mNot, W_mAnd, W_mOr, W_mL, W_mLst, W_mCons, W_mNil, W_mTup, W_mIt, W_mLc, W_mRng1, W_mCall, W_mNext, W_mAsg, W_mFor, W_mYes, W_mSl, W_mP0, W_mP, W_mSlF, W_mNeg, W_mRevT, W_mTupOf, W_mListT, W_mIfx, W_mAk2, W_mAc, W_mCst0, W_mCstS, W_mAndV, W_mOrV, W_mNotV, W_some, W_map, W_bind, seqQ_nx, seqQ_rt, List.set_cons_succ, List.set_cons_zero, List.map_cons, List.map_nil, List.length_cons, List.length_nil, List.nil_append, List.cons_append, List.replicate, wipeE, PyData.bool.injEq, PyData.int.injEq, exists_eq_left', exists_eq_left, and_true, true_and, eq_ints, ↓reduceIte, Option.bind_some, Option.map_some, Nat.reduceAdd, Nat.reduceLeDiff, PyData.list.injEq, PyData.tuple.injEq, add_ints, sub_ints, lt_ints, le_ints, gt_ints, ge_ints, glen_list, glen_tuple, reduceCtorEq, false_or, or_false]
      refine ⟨by omega, _, _, rfl, _, rfl, fun x hx => ?_, by rw [List.length_append]; simp only [List.length_cons, List.length_nil]; omega, g2⟩
      rcases List.mem_append.mp hx with h | h
      · exact hf x h
      · rw [List.mem_singleton.mp h]
        exact hru
  rintro _ T3 ⟨fs', rfl, hf', hl2, g3⟩
  simp only [W_mSeq, W_mSet, W_mSetF, W_mIf, W_mRet, W_mCf, W_mAk0, W_mAk1, W_mAd, W_mN0, W_mC, W_mBin, W_mVar0, W_mVarS, W_mVarBd, W_mVarBo, W_mVarBS, W_mQ, W_mNot, W_mAnd, W_mOr, W_mL, W_mLst, W_mCons, W_mNil, W_mTup, W_mIt, W_mLc, W_mRng1, W_mCall, W_mNext, W_mAsg, W_mFor, W_mYes, W_mSl, W_mP0, W_mP, W_mSlF, W_mNeg, W_mRevT, W_mTupOf, W_mListT, W_mIfx, W_mAk2, W_mAc, W_mCst0, W_mCstS, W_mAndV, W_mOrV, W_mNotV, W_some, W_map, W_bind, seqQ_nx, seqQ_rt, List.set_cons_succ, List.set_cons_zero, List.map_cons, List.map_nil, List.length_cons, List.length_nil, List.nil_append, List.cons_append, List.replicate, wipeE, PyData.bool.injEq, PyData.int.injEq, exists_eq_left', exists_eq_left, and_true, true_and, eq_ints, ↓reduceIte, Option.bind_some, Option.map_some, Nat.reduceAdd, Nat.reduceLeDiff, PyData.list.injEq, PyData.tuple.injEq, add_ints, sub_ints, lt_ints, le_ints, gt_ints, ge_ints, glen_list, glen_tuple, reduceCtorEq, false_or, or_false]
  exact q fs' _ T3 _ _ _ hf' hl2 hot g3
theorem spine_W {m : Nat} {Q : List PyData × Dk → Prop} (g : GB k T) (hk : k + 200 < 1000000000) (hm : m ≤ 8) (q : ∀ (fs : List PyData) (T' : Dk), (∀ r ∈ fs, Ru r) → fs.length ≤ m → GB (k + 60) T' → Q (fs, T')) : W (V__law_spine [.deck, .dat (.list ks), .dat (.list rs), .dat (.int (m : Nat))] T) Q := by
  show W (VB__law_spine [some .deck, some (.dat (.list ks)), some (.dat (.list rs)), some (.dat (.int (m : Nat))), none, none, none, none, none, none] T) Q
  unfold VB__law_spine
  refine W_mSeqF ?_
  simp only [W_mSet, W_mSetF, W_mIf, W_mRet, W_mCf, W_mAk0, W_mAk1, W_mAd, W_mN0, W_mC, W_mBin, W_mVar0, W_mVarS, W_mVarBd, W_mVarBo, W_mVarBS, W_mQ, W_mNot, W_mAnd, W_mOr, W_mL, W_mLst, W_mCons, W_mNil, W_mTup, W_mIt, W_mLc, W_mRng1, W_mCall, W_mNext, W_mAsg, W_mYes, W_mSl, W_mP0, W_mP, W_mSlF, W_mNeg, W_mRevT, W_mTupOf, W_mListT, W_mIfx, W_mAk2, W_mAc, W_mCst0, W_mCstS, W_mAndV, W_mOrV, W_mNotV, W_some, W_map, W_bind, seqQ_nx, seqQ_rt, List.set_cons_succ, List.set_cons_zero, List.map_cons, List.map_nil, List.length_cons, List.length_nil, List.nil_append, List.cons_append, List.replicate, wipeE, PyData.bool.injEq, PyData.int.injEq, exists_eq_left', exists_eq_left, and_true, true_and, eq_ints, ↓reduceIte, Option.bind_some, Option.map_some, Nat.reduceAdd, Nat.reduceLeDiff, PyData.list.injEq, PyData.tuple.injEq, add_ints, sub_ints, lt_ints, le_ints, gt_ints, ge_ints, glen_list, glen_tuple, reduceCtorEq, false_or, or_false]
  refine ⟨_, _, rfl, W_mSeqF ?_⟩
  simp only [W_mSet, W_mSetF, W_mIf, W_mRet, W_mCf, W_mAk0, W_mAk1, W_mAd, W_mN0, W_mC, W_mBin, W_mVar0, W_mVarS, W_mVarBd, W_mVarBo, W_mVarBS, W_mQ, W_mNot, W_mAnd, W_mOr, W_mL, W_mLst, W_mCons, W_mNil, W_mTup, W_mIt, W_mLc, W_mRng1, W_mCall, W_mNext, W_mAsg, W_mYes, W_mSl, W_mP0, W_mP, W_mSlF, W_mNeg, W_mRevT, W_mTupOf, W_mListT, W_mIfx, W_mAk2, W_mAc, W_mCst0, W_mCstS, W_mAndV, W_mOrV, W_mNotV, W_some, W_map, W_bind, seqQ_nx, seqQ_rt, List.set_cons_succ, List.set_cons_zero, List.map_cons, List.map_nil, List.length_cons, List.length_nil, List.nil_append, List.cons_append, List.replicate, wipeE, PyData.bool.injEq, PyData.int.injEq, exists_eq_left', exists_eq_left, and_true, true_and, eq_ints, ↓reduceIte, Option.bind_some, Option.map_some, Nat.reduceAdd, Nat.reduceLeDiff, PyData.list.injEq, PyData.tuple.injEq, add_ints, sub_ints, lt_ints, le_ints, gt_ints, ge_ints, glen_list, glen_tuple, reduceCtorEq, false_or, or_false]
  refine sort_W g (by omega) hr hl hn hr' hl' hn' fun th T1 hth g1 => ?_
  refine ⟨_, _, rfl, W_mSeqF ?_⟩
  rw [W_mFor]
  refine W.of (rng1_to (n := m) rfl (by omega)) ?_
  refine W_fold (fun ds en' T' => ∃ fs th a6 a7 a8 a9, en' = [some .deck, some (.dat (.list ks)), some (.dat (.list rs)), some (.dat (.int (m : Nat))), some (.own (fs)), some (.dat (th)), a6, a7, a8, a9] ∧ (∀ r ∈ fs, Ru r) ∧ fs.length + ds.length ≤ m ∧ So th ∧ GB (k + 3 + 6 * (m - ds.length)) T') (fun d ds en' T' hI => ?_) _ _ _ ⟨[], th, none, none, none, none, rfl, (fun _ h => by cases h), by simp [rng_len], hth, g1.up (by omega)⟩ fun en' T' hI => ?_
  · obtain ⟨fs, th', a6, a7, a8, a9, rfl, h1, h2, h3, h4⟩ := hI
    simp only [List.length_cons] at h2 h4
    simp only [gtName, List.set_cons_succ, List.set_cons_zero, W_some]
    refine lb_W hr hl hn hr' hl' hn' h4 (by omega) h1 (by omega) h3 fun fs' th' T'' b7 b8 b9 i1 i2 i3 i4 => ?_
    exact ⟨_, _, .inl rfl, fs', th', _, b7, b8, b9, rfl, i1, by omega, i3, i4.up (by omega)⟩
  · obtain ⟨fs, th', a6, a7, a8, a9, rfl, h1, h2, h3, h4⟩ := hI
    refine ⟨_, _, rfl, ⟨(fs, T'), rfl, ?_⟩⟩
    exact q fs T' h1 (by simpa using h2) (h4.up (by simp only [List.length_nil]; omega))
end
/-! ### the sorts that are named -/
theorem so_nk {d : PyData} (h : So d) : ∃ k, nk d = some k ∧ k.depth ≤ 8 := by
  rcases h with ⟨s, i, rfl, _⟩ | ⟨s, rfl, _⟩
  · exact ⟨.tup [.text s, .num i], rfl, by simp [NestedKey.depth, NestedKey.depthAll]⟩
  · exact ⟨.tup [.text s], rfl, by simp [NestedKey.depth, NestedKey.depthAll]⟩
theorem so_alike {a b : PyData} (ha : So a) (hb : So b) : alike a b = true := by
  rcases ha with ⟨s, i, rfl, _⟩ | ⟨s, rfl, _⟩ <;> rcases hb with ⟨t, j, rfl, _⟩ | ⟨t, rfl, _⟩ <;> simp [alike, alikeAll]
theorem so_tup {d : PyData} (h : So d) : tupNE d = true := by
  rcases h with ⟨s, i, rfl, _⟩ | ⟨s, rfl, _⟩ <;> rfl
theorem nks_so : ∀ {ds : List PyData}, (∀ d ∈ ds, So d) → ∃ ks, nks ds = some ks ∧ (ks.all fun k => decide (k.depth ≤ 8)) = true
  | [], _ => ⟨[], rfl, rfl⟩
  | d :: ds, h => by
    obtain ⟨k, e1, e2⟩ := so_nk (h d List.mem_cons_self)
    obtain ⟨ks, e3, e4⟩ := nks_so fun x hx => h x (List.mem_cons_of_mem _ hx)
    exact ⟨k :: ks, by simp only [nks, e1, e3, Option.bind_some, Option.map_some], by simp only [List.all_cons, e4, Bool.and_true, decide_eq_true_eq]; exact e2⟩
theorem datas_in : ∀ {ks : List NestedKey} {k : NestedKey}, k ∈ ks → k.data ∈ NestedKey.datas ks
  | [], k, h => by cases h
  | q :: ks, k, h => by
    simp only [NestedKey.datas]
    rcases List.mem_cons.mp h with rfl | h
    · exact List.mem_cons_self
    · exact List.mem_cons_of_mem _ (datas_in h)
theorem sortSet_so {ds : List PyData} (h : ∀ d ∈ ds, So d) (hl : ds.length < 64) : ∃ ss, gSortSet ds = some ss ∧ ∀ d ∈ ss, So d := by
  obtain ⟨ks, e1, e2⟩ := nks_so h
  have c : canSort ds = true := by
    simp only [canSort, Bool.and_eq_true, decide_eq_true_eq, List.all_eq_true]
    exact ⟨⟨⟨hl, fun d hd => so_tup (h d hd)⟩, fun d hd e he => so_alike (h d hd) (h e he)⟩, fun d hd => Nat.le_trans (h d hd).sh.2 (by decide)⟩
  refine ⟨sortD ((ddK ks).map NestedKey.data), ?_, fun d hd => ?_⟩
  · unfold gSortSet
    rw [e1]
    simp only
    rw [if_pos ⟨c, e2⟩]
  · have := (List.mergeSort_perm _ _).mem_iff.mp hd
    obtain ⟨k, hk, rfl⟩ := List.mem_map.mp this
    have hm := datas_in (mem_ddK.mp hk)
    rw [nks_data _ _ e1] at hm
    exact h _ hm
def NN : MS := (mSeq (mApp 2 (mVar 6))
  (mIf (mQ (mBin gEq (mCall gLen (mCons (mVar 6) mNil)) (mC (PyData.int (2))))) (mApp 2 (mCf V__law_round (mAd (mVar 6) mN0))) mNext))
theorem nn_W {fs : List PyData} {x0 x1 th : PyData} {a3 a4 a5 : Option Sl} {T : Dk} (hf : ∀ d ∈ fs, So d) (hl : fs.length < 100) (ht : So th) : W (NN [some (.dat (x0)), some (.dat (x1)), some (.own (fs)), a3, a4, a5, some (.dat (th))] T) fun r => ∃ fs', r = .nx [some (.dat (x0)), some (.dat (x1)), some (.own (fs')), a3, a4, a5, some (.dat (th))] T ∧ (∀ d ∈ fs', So d) ∧ fs'.length ≤ fs.length + 2 := by
  have h1 : ∀ d ∈ fs ++ [th], So d := fun x hx => by
    rcases List.mem_append.mp hx with h | h
    · exact hf x h
    · rw [List.mem_singleton.mp h]; exact ht
  have l1 : (fs ++ [th]).length = fs.length + 1 := by simp
  unfold NN
  rw [W_mSeq, W_mApp (ds := fs) rfl]
  simp only [W_mSet, W_mSetF, W_mIf, W_mRet, W_mCf, W_mAk0, W_mAk1, W_mAd, W_mN0, W_mC, W_mBin, W_mVar0, W_mVarS, W_mVarBd, W_mVarBo, W_mVarBS, W_mQ, W_mNot, W_mAnd, W_mOr, W_mL, W_mLst, W_mCons, W_mNil, W_mTup, W_mIt, W_mLc, W_mRng1, W_mCall, W_mNext, W_mAsg, W_mYes, W_mSl, W_mP0, W_mP, W_mSlF, W_mNeg, W_mRevT, W_mTupOf, W_mListT, W_mIfx, W_mAk2, W_mAc, W_mCst0, W_mCstS, W_mAndV, W_mOrV, W_mNotV, W_some, W_map, W_bind, seqQ_nx, seqQ_rt, List.set_cons_succ, List.set_cons_zero, List.map_cons, List.map_nil, List.length_cons, List.length_nil, List.nil_append, List.cons_append, List.replicate, wipeE, PyData.bool.injEq, PyData.int.injEq, exists_eq_left', exists_eq_left, and_true, true_and, eq_ints, ↓reduceIte, Option.bind_some, Option.map_some, Nat.reduceAdd, Nat.reduceLeDiff, PyData.list.injEq, PyData.tuple.injEq, add_ints, sub_ints, lt_ints, le_ints, gt_ints, ge_ints, glen_list, glen_tuple, reduceCtorEq, false_or, or_false]
  refine ⟨by omega, ?_⟩
  rcases id ht with ht' | ⟨s, rfl, ts⟩
  · have hlen : gLen [th] = some (.int 2) := by
      obtain ⟨s, i, rfl, _⟩ := ht'
      rfl
    simp only [W_mSet, W_mSetF, W_mIf, W_mRet, W_mCf, W_mAk0, W_mAk1, W_mAd, W_mN0, W_mC, W_mBin, W_mVar0, W_mVarS, W_mVarBd, W_mVarBo, W_mVarBS, W_mQ, W_mNot, W_mAnd, W_mOr, W_mL, W_mLst, W_mCons, W_mNil, W_mTup, W_mIt, W_mLc, W_mRng1, W_mCall, W_mNext, W_mAsg, W_mYes, W_mSl, W_mP0, W_mP, W_mSlF, W_mNeg, W_mRevT, W_mTupOf, W_mListT, W_mIfx, W_mAk2, W_mAc, W_mCst0, W_mCstS, W_mAndV, W_mOrV, W_mNotV, W_some, W_map, W_bind, seqQ_nx, seqQ_rt, List.set_cons_succ, List.set_cons_zero, List.map_cons, List.map_nil, List.length_cons, List.length_nil, List.nil_append, List.cons_append, List.replicate, wipeE, PyData.bool.injEq, PyData.int.injEq, exists_eq_left', exists_eq_left, and_true, true_and, eq_ints, ↓reduceIte, Option.bind_some, Option.map_some, Nat.reduceAdd, Nat.reduceLeDiff, PyData.list.injEq, PyData.tuple.injEq, add_ints, sub_ints, lt_ints, le_ints, gt_ints, ge_ints, glen_list, glen_tuple, reduceCtorEq, false_or, or_false, hlen]
    simp only [beq_self_eq_true, if_true]
    rw [W_mApp (ds := fs ++ [th]) rfl]
    simp only [W_mSet, W_mSetF, W_mIf, W_mRet, W_mCf, W_mAk0, W_mAk1, W_mAd, W_mN0, W_mC, W_mBin, W_mVar0, W_mVarS, W_mVarBd, W_mVarBo, W_mVarBS, W_mQ, W_mNot, W_mAnd, W_mOr, W_mL, W_mLst, W_mCons, W_mNil, W_mTup, W_mIt, W_mLc, W_mRng1, W_mCall, W_mNext, W_mAsg, W_mYes, W_mSl, W_mP0, W_mP, W_mSlF, W_mNeg, W_mRevT, W_mTupOf, W_mListT, W_mIfx, W_mAk2, W_mAc, W_mCst0, W_mCstS, W_mAndV, W_mOrV, W_mNotV, W_some, W_map, W_bind, seqQ_nx, seqQ_rt, List.set_cons_succ, List.set_cons_zero, List.map_cons, List.map_nil, List.length_cons, List.length_nil, List.nil_append, List.cons_append, List.replicate, wipeE, PyData.bool.injEq, PyData.int.injEq, exists_eq_left', exists_eq_left, and_true, true_and, eq_ints, ↓reduceIte, Option.bind_some, Option.map_some, Nat.reduceAdd, Nat.reduceLeDiff, PyData.list.injEq, PyData.tuple.injEq, add_ints, sub_ints, lt_ints, le_ints, gt_ints, ge_ints, glen_list, glen_tuple, reduceCtorEq, false_or, or_false, round_val ht']
    refine ⟨by omega, _, rfl, fun x hx => ?_, by simp⟩
    rcases List.mem_append.mp hx with h | h
    · exact h1 x h
    · rw [List.mem_singleton.mp h]; exact .inl (rnd_tn ht')
  · have hlen : gLen [.tuple [.str s]] = some (.int 1) := rfl
    simp only [W_mSet, W_mSetF, W_mIf, W_mRet, W_mCf, W_mAk0, W_mAk1, W_mAd, W_mN0, W_mC, W_mBin, W_mVar0, W_mVarS, W_mVarBd, W_mVarBo, W_mVarBS, W_mQ, W_mNot, W_mAnd, W_mOr, W_mL, W_mLst, W_mCons, W_mNil, W_mTup, W_mIt, W_mLc, W_mRng1, W_mCall, W_mNext, W_mAsg, W_mYes, W_mSl, W_mP0, W_mP, W_mSlF, W_mNeg, W_mRevT, W_mTupOf, W_mListT, W_mIfx, W_mAk2, W_mAc, W_mCst0, W_mCstS, W_mAndV, W_mOrV, W_mNotV, W_some, W_map, W_bind, seqQ_nx, seqQ_rt, List.set_cons_succ, List.set_cons_zero, List.map_cons, List.map_nil, List.length_cons, List.length_nil, List.nil_append, List.cons_append, List.replicate, wipeE, PyData.bool.injEq, PyData.int.injEq, exists_eq_left', exists_eq_left, and_true, true_and, eq_ints, ↓reduceIte, Option.bind_some, Option.map_some, Nat.reduceAdd, Nat.reduceLeDiff, PyData.list.injEq, PyData.tuple.injEq, add_ints, sub_ints, lt_ints, le_ints, gt_ints, ge_ints, glen_list, glen_tuple, reduceCtorEq, false_or, or_false, hlen]
    exact ⟨_, rfl, h1, by omega⟩
end LQ

-- LQVA
set_option Elab.async false
set_option linter.all false
set_option maxRecDepth 100000
set_option maxHeartbeats 2000000
namespace LQ
open PySem PySem.Spec PyProof.Rows L2
theorem search {al : Bool} {rs : List PyData} (hrs : ∀ r ∈ rs, Ru r) (hl : rs.length ≤ 20) {one : PyData} (h1 : So one) : ∃ R, bfs al rs 100 [(one, .tuple [])] [one] = some R ∧ Iv al rs one (R, []) ∧ Cl al rs (R, []) ∧ has R one := by
  obtain ⟨I, C, l⟩ := start_iv (al := al) (rs := rs) h1
  obtain ⟨R, r1, r2, r3, r4⟩ := bfs_ok hrs 100 _ _ I C (by simp only [List.length_cons, List.length_nil]; omega)
  exact ⟨R, r1, r2, r3, r4 _ (I.ws one List.mem_cons_self).2⟩
theorem ne_of_has {R : Kvs} {d : PyData} (h : has R d) : ∃ p R', R = p :: R' := by
  cases R with
  | nil => cases h
  | cons p R' => exact ⟨p, R', rfl⟩
theorem ways_val {rs : List PyData} (hrs : ∀ r ∈ rs, Ru r) (hl : rs.length ≤ 20) {one : PyData} (h1 : So one) (T : Dk) {R : Kvs} (e : bfs false rs 100 [(one, .tuple [])] [one] = some R) : V_ways_from [.dat (.tuple rs), .dat one] T = some (.dict R, T) := by
  have := few_val hrs hl h1 T e
  unfold V_ways_from mFun
  show (match (V_fewest [.dat (.tuple rs), .cst (wordsD false), .dat one] T).map fun p => Res.rt p.1 p.2 with
    | some (.rt d T') => some (d, T')
    | some (.nx _ T') => some (.none, T')
    | _ => none) = _
  rw [this]
  rfl
theorem tways_val {rs : List PyData} (hrs : ∀ r ∈ rs, Ru r) (hl : rs.length ≤ 20) {one : PyData} (h1 : So one) (T : Dk) {R : Kvs} (e : bfs true rs 100 [(one, .tuple [])] [one] = some R) : V_turn_ways_from [.dat (.tuple rs), .dat one] T = some (.dict R, T) := by
  have := few_val hrs hl h1 T e
  unfold V_turn_ways_from mFun
  show (match (V_fewest [.dat (.tuple rs), .cst (wordsD true), .dat one] T).map fun p => Res.rt p.1 p.2 with
    | some (.rt d T') => some (d, T')
    | some (.nx _ T') => some (.none, T')
    | _ => none) = _
  rw [this]
  rfl
theorem W_mCfF {M : MFF} {ms : MAs} {en : En} {T : Dk} {Q : List PyData × Dk → Prop} : W (mCfF M ms en T) Q ↔ W (ms en T) fun p => W (M p.1 p.2) Q := by
  unfold mCfF
  simp only [W_bind]
def NF : MS := (mFor (mIt (mTup (mCons (mVar 4) (mCons (mVar 5) mNil)))) (gtName 6) NN)
theorem nf_W {fs : List PyData} {x0 x1 a b : PyData} {a3 a6 : Option Sl} {T : Dk} (hf : ∀ d ∈ fs, So d) (hl : fs.length < 90) (ha : So a) (hb : So b) : W (NF [some (.dat (x0)), some (.dat (x1)), some (.own (fs)), a3, some (.dat (a)), some (.dat (b)), a6] T) fun r => ∃ fs' b6, r = .nx [some (.dat (x0)), some (.dat (x1)), some (.own (fs')), a3, some (.dat (a)), some (.dat (b)), b6] T ∧ (∀ d ∈ fs', So d) ∧ fs'.length ≤ fs.length + 4 := by
  unfold NF
  rw [W_mFor]
  refine W.of (r := ([a, b], T)) rfl ?_
  refine W_fold (fun ds en' T' => ∃ fs' b6, en' = [some (.dat (x0)), some (.dat (x1)), some (.own (fs')), a3, some (.dat (a)), some (.dat (b)), b6] ∧ T' = T ∧ (∀ d ∈ fs', So d) ∧ (∀ d ∈ ds, So d) ∧ fs'.length + 2 * ds.length ≤ fs.length + 4) (fun d ds en' T' hI => ?_) _ _ _ ⟨fs, a6, rfl, rfl, hf, (fun d hd => by
    simp only [List.mem_cons, List.not_mem_nil, or_false] at hd
    rcases hd with rfl | rfl
    · exact ha
    · exact hb), by simp⟩ fun en' T' hI => ?_
  · obtain ⟨fs', b6, rfl, rfl, h1, h2, h3⟩ := hI
    simp only [List.length_cons] at h3
    simp only [gtName, List.set_cons_succ, List.set_cons_zero, W_some]
    refine (nn_W h1 (by omega) (h2 d List.mem_cons_self)).imp fun r hr => ?_
    obtain ⟨fs2, rfl, i1, i2⟩ := hr
    exact ⟨_, _, .inl rfl, fs2, _, rfl, rfl, i1, fun x hx => h2 x (List.mem_cons_of_mem _ hx), by omega⟩
  · obtain ⟨fs', b6, rfl, rfl, h1, h2, h3⟩ := hI
    exact ⟨fs', b6, rfl, h1, by simpa using h3⟩
theorem named_W {rs : List PyData} (hrs : ∀ r ∈ rs, Ru r) (hl : rs.length ≤ 12) {more : List PyData} (hm : ∀ d ∈ more, So d) (hml : more.length ≤ 1) (T : Dk) {Q : PyData × Dk → Prop} (q : ∀ ss, (∀ d ∈ ss, So d) → Q (.list ss, T)) : W (V__law_named [.dat (.tuple rs), .dat (.list more)] T) Q := by
  refine W_mFun ?_
  unfold VB__law_named
  refine W_seq_nx (en' := [some (.dat (.tuple rs)), some (.dat (.list more)), some (.own (more)), none, none, none, none]) (T' := T) rfl ?_
  refine W_cut (fun en' T' => ∃ fs a3 a4 a5 a6, en' = [some (.dat (.tuple rs)), some (.dat (.list more)), some (.own (fs)), a3, a4, a5, a6] ∧ T' = T ∧ (∀ d ∈ fs, So d) ∧ fs.length ≤ 49) ?_ ?_
  · rw [W_mFor]
    refine W.of (r := (rs, T)) rfl ?_
    refine W_fold (fun ds en' T' => ∃ fs a3 a4 a5 a6, en' = [some (.dat (.tuple rs)), some (.dat (.list more)), some (.own (fs)), a3, a4, a5, a6] ∧ T' = T ∧ (∀ d ∈ fs, So d) ∧ (∀ d ∈ ds, Ru d) ∧ fs.length + 4 * ds.length ≤ 49) (fun d ds en' T' hI => ?_) _ _ _ ⟨more, none, none, none, none, rfl, rfl, hm, hrs, by simp only; omega⟩ fun en' T' hI => ?_
    · obtain ⟨fs, a3, a4, a5, a6, rfl, rfl, h1, h2, h3⟩ := hI
      simp only [List.length_cons] at h3
      obtain ⟨w, a, b, rfl, hw⟩ := h2 d List.mem_cons_self
      have hab : So a ∧ So b := by
        rcases hw with ⟨_, ha, hb⟩ | ⟨_, ha, hb⟩
        · exact ⟨ha, hb⟩
        · exact ⟨.inl ha, .inl hb⟩
      refine W.of (r := [some (.dat (.tuple rs)), some (.dat (.list more)), some (.own (fs)), some (.dat (.str w)), some (.dat (a)), some (.dat (b)), a6]) rfl ?_
      refine (nf_W (x0 := .tuple rs) (x1 := .list more) (a3 := some (.dat (.str w))) (a6 := a6) h1 (by omega) hab.1 hab.2).imp fun r hr => ?_
      obtain ⟨fs', b6, rfl, i1, i2⟩ := hr
      exact ⟨_, _, .inl rfl, fs', _, _, _, _, rfl, rfl, i1, fun x hx => h2 x (List.mem_cons_of_mem _ hx), by omega⟩
    · obtain ⟨fs, a3, a4, a5, a6, rfl, rfl, h1, h2, h3⟩ := hI
      exact ⟨_, _, rfl, fs, a3, a4, a5, a6, rfl, rfl, h1, by simpa using h3⟩
  rintro _ T' ⟨fs, a3, a4, a5, a6, rfl, rfl, h1, h2⟩
  obtain ⟨ss, e, hs⟩ := sortSet_so h1 (by omega)
  rw [W_mRet, W_mL]
  refine W.of (r := (ss, T')) ?_ ⟨_, _, rfl, q ss hs⟩
  show (gSortSet fs).map (fun es => (es, T')) = _
  rw [e]
  rfl
/-! ### sorted keys -/
open PySem.W (alike AllAlike)
theorem keys_lm (R : Kvs) : (lm R).map (·.1) = R.map (·.1) := by simp [lm]
theorem so_all {ds : List PyData} (h : ∀ d ∈ ds, So d) : AllAlike ds := fun a ha b hb => so_alike (h a ha) (h b hb)
theorem so_canSrt {ds : List PyData} (h : ∀ d ∈ ds, So d) (hl : ds.length ≤ 1000) : canSrt ds = true := by
  simp only [canSrt, Bool.and_eq_true, decide_eq_true_eq, List.all_eq_true]
  exact ⟨⟨⟨hl, fun d hd => so_tup (h d hd)⟩, fun d hd e he => so_alike (h d hd) (h e he)⟩, fun d hd => Nat.le_trans (h d hd).sh.2 (by decide)⟩
theorem sortD_mem {ds : List PyData} {d : PyData} : d ∈ sortD ds ↔ d ∈ ds := (List.mergeSort_perm ds leD).mem_iff
theorem sortD_len (ds : List PyData) : (sortD ds).length = ds.length := (List.mergeSort_perm ds leD).length_eq
theorem sortD_sortD {ds : List PyData} (h : ∀ d ∈ ds, So d) : sortD (sortD ds) = sortD ds := (sortD_perm (so_all h) (List.mergeSort_perm ds leD).symm).symm
theorem gSortL_so {ds : List PyData} (h : ∀ d ∈ ds, So d) (hl : ds.length ≤ 1000) : gSortL ds = some (sortD ds) := by
  obtain ⟨ks, e1, e2⟩ := nks_so h
  unfold gSortL
  rw [e1]
  simp only
  rw [if_pos ⟨so_canSrt h hl, e2⟩]
theorem eqvAll_so : ∀ {ds : List PyData}, (∀ d ∈ ds, So d) → PyData.eqvAll ds ds = true
  | [], _ => by simp [PyData.eqvAll]
  | d :: ds, h => by
    have h1 := h d List.mem_cons_self
    simp [PyData.eqvAll, (tn_eqv h1 h1).mpr rfl, eqvAll_so fun d hd => h d (List.mem_cons_of_mem _ hd)]
theorem ne_sos {ds : List PyData} (h : ∀ d ∈ ds, So d) : gNe (.tuple ds) (.tuple ds) = some (.bool false) := by
  have hs : Sh 2 (.tuple ds) := Sh.tuple fun d hd => (h d hd).sh
  rw [ne_sh hs hs (by decide) (by decide)]
  simp only [PyData.eqv, eqvAll_so h, Bool.not_true]
section
variable {en : En} {T T1 T2 T' : Dk}
theorem W_mSortL {m : ME} {Q : List PyData × Dk → Prop} : W (mSortL m en T) Q ↔ W (m en T) fun p => ∃ ds, p.1 = .list ds ∧ W (gSortL ds) fun es => Q (es, p.2) := by
  unfold mSortL
  simp only [W_bind]
  refine W_congr fun p => ?_
  obtain ⟨d, T'⟩ := p
  cases d <;> simp [W_none, W_map]
theorem sortKv_val {m : ME} {R : Kvs} (h : m en T = some (.dict R, T')) (hn : R ≠ []) (hs : ∀ p ∈ R, So p.1) (hl : R.length ≤ 1000) : mSortKv m en T = some (sortD (R.map (·.1)), T') := by
  cases R with
  | nil => exact absurd rfl hn
  | cons p R =>
    unfold mSortKv
    rw [h]
    simp only [Option.bind_some]
    rw [if_pos (so_canSrt (fun d hd => by
      obtain ⟨q, hq, rfl⟩ := List.mem_map.mp hd
      exact hs q hq) (by rw [List.length_map]; exact hl))]
theorem keys_val {m : ME} {R : Kvs} (h : m en T = some (.dict (lm R), T')) (hn : R ≠ []) : mKeysOf m en T = some (R.map (·.1), T') := by
  cases R with
  | nil => exact absurd rfl hn
  | cons p R =>
    unfold mKeysOf
    rw [h]
    have := keys_lm (p :: R)
    simp only [lm, List.map_cons, Option.bind_some] at this ⊢
    rw [this]
theorem l_to {m : MA} {ds : List PyData} (h : m en T = some (ds, T')) : mL m en T = some (.list ds, T') := by
  unfold mL
  rw [h]
  rfl
theorem ad_to {m : ME} {ms : MAs} {d : PyData} {ss : List Sl} (h : m en T = some (d, T1)) (k : ms en T1 = some (ss, T2)) : mAd m ms en T = some (.dat d :: ss, T2) := by
  unfold mAd
  rw [h, Option.bind_some, k]
  rfl
theorem not_t {m : ME} (h : m en T = some (.bool true, T')) : (mNot (mQ m)) en T = some (false, T') := by
  unfold mNot mQ
  rw [h]
  rfl
theorem set_to {i : Nat} {m : ME} {d : PyData} (h : m en T = some (d, T')) : mSet i m en T = some (.nx (en.set i (some (.dat d))) T') := by
  unfold mSet
  rw [h]
  rfl
end
end LQ

-- LQVA
set_option Elab.async false
set_option linter.all false
set_option maxRecDepth 100000
set_option maxHeartbeats 2000000
/-! things that can be compared and shown -/
namespace LQ
open PySem PySem.Spec PyProof.Rows L2
structure Pd (n S : Nat) (d : PyData) : Prop where
  lay : d.canLay0 = true
  dp : d.depth ≤ n
  wt : d.weight ≤ S
  it : d.intsShort 45 = true
  sw : d.showable = true
  nd : d.hasDict = false
  ok : okB d = true
structure Ps (n S : Nat) (ds : List PyData) : Prop where
  lay : PyData.canLayAll0 ds = true
  dp : PyData.depthAll ds ≤ n
  wt : PyData.weightAll ds ≤ S
  it : PyData.intsShortAll 45 ds = true
  sw : PyData.showableAll ds = true
  nd : PyData.hasDictAll ds = false
  ok : okAll ds = true
theorem Pd.up {n m S R : Nat} {d : PyData} (h : Pd n S d) (e : n ≤ m) (f : S ≤ R) : Pd m R d := ⟨h.lay, Nat.le_trans h.dp e, Nat.le_trans h.wt f, h.it, h.sw, h.nd, h.ok⟩
theorem Ps.up {n m S R : Nat} {ds : List PyData} (h : Ps n S ds) (e : n ≤ m) (f : S ≤ R) : Ps m R ds := ⟨h.lay, Nat.le_trans h.dp e, Nat.le_trans h.wt f, h.it, h.sw, h.nd, h.ok⟩
theorem Ps.of {n S : Nat} : ∀ {ds : List PyData}, (∀ d ∈ ds, Pd n S d) → Ps n (ds.length * (S + 1)) ds
  | [], _ => ⟨by simp [PyData.canLayAll0], by simp [PyData.depthAll], by simp [PyData.weightAll], by simp [PyData.intsShortAll], by simp [PyData.showableAll], by simp [PyData.hasDictAll], by simp [okAll]⟩
  | d :: ds, h => by
    have h1 := h d List.mem_cons_self
    have h2 := Ps.of fun x hx => h x (List.mem_cons_of_mem _ hx)
    refine ⟨?_, ?_, ?_, ?_, ?_, ?_, ?_⟩
    · simp [PyData.canLayAll0, h1.lay, h2.lay]
    · have := h1.dp; have := h2.dp; simp only [PyData.depthAll]; omega
    · have := h1.wt; have := h2.wt; simp only [PyData.weightAll, List.length_cons, Nat.add_mul]; omega
    · simp [PyData.intsShortAll, h1.it, h2.it]
    · simp [PyData.showableAll, h1.sw, h2.sw]
    · simp [PyData.hasDictAll, h1.nd, h2.nd]
    · simp [okAll, h1.ok, h2.ok]
theorem Ps.tuple {n S : Nat} {ds : List PyData} (h : Ps n S ds) : Pd (n + 1) S (.tuple ds) :=
  ⟨by simpa [PyData.canLay0] using h.lay, by have := h.dp; simp only [PyData.depth]; omega, by simpa [PyData.weight] using h.wt, by simpa [PyData.intsShort] using h.it, by simpa [PyData.showable] using h.sw, by simpa [PyData.hasDict] using h.nd, by simpa [okB] using h.ok⟩
theorem Ps.list {n S : Nat} {ds : List PyData} (h : Ps n S ds) : Pd (n + 1) S (.list ds) :=
  ⟨by simpa [PyData.canLay0] using h.lay, by have := h.dp; simp only [PyData.depth]; omega, by simpa [PyData.weight] using h.wt, by simpa [PyData.intsShort] using h.it, by simpa [PyData.showable] using h.sw, by simpa [PyData.hasDict] using h.nd, by simpa [okB] using h.ok⟩
theorem Pd.sh {n S : Nat} {d : PyData} (h : Pd n S d) : Sh n d := ⟨h.lay, h.dp⟩
theorem Pd.repr {n S : Nat} {d : PyData} (h : Pd n S d) (e : n ≤ 60) (f : S ≤ 300000) : gRepr [d] = some (.str d.shown) := by
  have h1 := PyData.shown_le 45 (by decide) d (PyData.leavesShort_of_canLay0 45 d h.lay h.it)
  have h2 := h.wt
  have h3 : (45 + 2) * d.weight ≤ 47 * 300000 := Nat.mul_le_mul (by decide) (by omega)
  show (if _ then _ else _) = _
  rw [if_pos ⟨h.sw, fun q => (by rw [h.nd] at q; cases q), Nat.le_trans h.dp e, by omega⟩]
theorem pd_str {m : Nat} {s : Str} (h : Tx m s) (e : m ≤ 16777216) : Pd 0 m (.str s) :=
  ⟨h.lay, by simp [PyData.depth], by simpa [PyData.weight, Str.length] using h.1, by simp [PyData.intsShort], by simp [PyData.showable], by simp [PyData.hasDict], by simp only [okB, h.lay, Bool.and_true, decide_eq_true_eq]; exact Nat.le_trans h.1 e⟩
theorem pd_int {i : Int} (h0 : -1000 ≤ i) (h1 : i ≤ 1000) : Pd 0 10 (.int i) := by
  have hl : i.natAbs.log2 < 10 := by
    rcases Nat.eq_zero_or_pos i.natAbs with h | h
    · rw [h]; decide
    · exact (Nat.log2_lt (by omega)).mpr (by omega)
  refine ⟨by simp [PyData.canLay0], by simp [PyData.depth], ?_, ?_, ?_, by simp [PyData.hasDict], by simp [okB]⟩
  · simp only [PyData.weight]
    split
    · decide
    · omega
  · have := PyData.shown_int_le (i := i) (by omega)
    simp only [PyData.intsShort, decide_eq_true_eq]
    omega
  · simp only [PyData.showable, decide_eq_true_eq]
    omega
theorem Ps.mem {n S : Nat} {ds : List PyData} (h : ∀ d ∈ ds, Pd n S d) (m : Nat) (hl : ds.length ≤ m) : Pd (n + 1) (m * (S + 1)) (.tuple ds) := (Ps.of h).tuple.up (Nat.le_refl _) (Nat.mul_le_mul hl (Nat.le_refl _))
theorem Ps.memL {n S : Nat} {ds : List PyData} (h : ∀ d ∈ ds, Pd n S d) (m : Nat) (hl : ds.length ≤ m) : Pd (n + 1) (m * (S + 1)) (.list ds) := (Ps.of h).list.up (Nat.le_refl _) (Nat.mul_le_mul hl (Nat.le_refl _))
/-! ### none twice -/
theorem ddK_le : ∀ ks : List NestedKey, (ddK ks).length ≤ ks.length
  | [] => Nat.le_refl _
  | k :: ks => by
    have := ddK_le ks
    unfold ddK
    split
    · simp only [List.length_cons]; omega
    · simp only [List.length_cons]; omega
theorem ddK_nodup : ∀ ks : List NestedKey, (ddK ks).length = ks.length ↔ ks.Nodup
  | [] => by simp [ddK]
  | k :: ks => by
    have h1 := ddK_le ks
    have h2 := ddK_nodup ks
    rw [List.nodup_cons]
    unfold ddK
    split
    · rename_i h
      simp only [List.length_cons]
      constructor
      · intro e; omega
      · intro e; exact absurd h (by simpa using e.1)
    · rename_i h
      simp only [List.length_cons, Nat.add_right_cancel_iff, h2]
      exact ⟨fun e => ⟨by simpa using h, e⟩, fun e => e.2⟩
end LQ

-- LQVA
-- OLDOR
set_option Elab.async false
set_option linter.all false
set_option maxRecDepth 100000
set_option maxHeartbeats 2000000
/-! names and words as they are drawn (the deck of k01 to k05, k43 ..) -/
namespace LQ
open PySem PySem.Spec PyProof.Rows L2
def VBA__law_names : MS := (mSeq (mSet 2 (mC (PyData.str "abcdefghijklmnopqrstuvwxyz")))
  (mSeq (mSet 3 (mJoin (mC (PyData.str "")) (mL (mLc [7] (mRng1 (mCf V__law_pick (mAk 0 (mAd (mL (mLst (mCons (mC (PyData.int (0))) (mCons (mC (PyData.int (1))) (mCons (mC (PyData.int (2))) (mCons (mC (PyData.int (4))) mNil)))))) mN0)))) (gtName 7) mYes (mCf V__law_pick (mAk 0 (mAd (mVar 2) mN0)))))))
  (mSeq (mSet 4 (mCf V__law_take (mAk 0 (mAd (mBin gAdd (mCall gLen (mCons (mVar 3) mNil)) (mC (PyData.int (1)))) mN0))))
  (mSeq (mSet 5 (mCf V__law_take (mAk 0 (mAd (mC (PyData.int (26))) mN0))))
  (mSeq (mSetF 6 (mLst mNil))
  (mSeq (mFor (mRng1 (mVar 1)) (gtName 7) (mSeq (mSet 8 (mBin gAddS (mBin gAddS (mSl gSlS (mVar 3) mP0 (mP (mVar 4))) (mBin ixD (mVar 2) (mBin gMod (mBin gAdd (mVar 5) (mBin gMul (mC (PyData.int (7))) (mVar 7))) (mC (PyData.int (26)))))) (mSl gSlS (mVar 3) (mP (mVar 4)) mP0)))
  (mApp 6 (mBin gAddS (mVar 8) (mBin gMulS (mC (PyData.str "e")) (mBin gAdd (mCf V__law_pick (mAk 0 (mAd (mL (mLst (mCons (mC (PyData.int (0))) (mCons (mC (PyData.int (0))) (mCons (mC (PyData.int (0))) (mCons (mC (PyData.int (3))) mNil)))))) mN0))) (mCall gInt (mCons (mBin (gIn false) (mVar 8) (mTup (mCons (mC (PyData.str "if")) (mCons (mC (PyData.str "and")) mNil)))) mNil))))))))
  (mRetV 6)))))))
def VA__law_names : MF := mFun 9 VBA__law_names
def VBA__law_words : MS := (mSeq (mSet 1 (mCf VA__law_names (mAk 0 (mAd (mC (PyData.int (8))) mN0))))
  (mSeq (mIf (mQ (mBin gEq (mCf V__law_take (mAk 0 (mAd (mC (PyData.int (3))) mN0))) (mC (PyData.int (0))))) (mRet (mL (mLst (mCons (mL (mSlF (mVar 1) mP0 (mP (mC (PyData.int (3)))))) (mCons (mL (mLst (mCons (mBin ixD (mVar 1) (mC (PyData.int (0)))) (mCons (mBin ixD (mVar 1) (mC (PyData.int (4)))) mNil)))) (mCons (mL (mLst (mCons (mBin ixD (mVar 1) (mC (PyData.int (0)))) (mCons (mBin ixD (mVar 1) (mC (PyData.int (6)))) (mCons (mBin ixD (mVar 1) (mC (PyData.int (7)))) mNil))))) mNil)))))) mNext)
  (mRet (mL (mLst (mCons (mL (mSlF (mVar 1) mP0 (mP (mC (PyData.int (3)))))) (mCons (mL (mSlF (mVar 1) (mP (mC (PyData.int (3)))) (mP (mC (PyData.int (5)))))) (mCons (mL (mSlF (mVar 1) (mP (mC (PyData.int (5)))) mP0)) mNil))))))))
def VA__law_words : MF := mFun 2 VBA__law_words
theorem tx_if : Tx 2 "if" := ⟨by decide +kernel, canLay_cps (by decide +kernel)⟩
theorem tx_and : Tx 3 "and" := ⟨by decide +kernel, canLay_cps (by decide +kernel)⟩
theorem tx_e : Tx 1 "e" := ⟨by decide +kernel, canLay_cps (by decide +kernel)⟩
theorem in_tup_if {n : Nat} {x : Str} (h : Tx n x) : ∃ b : Bool, gIn false (.str x) (.tuple [.str "if", .str "and"]) = some (.bool b) := by
  refine ⟨_, inT_sh false (.str h) (m := 0) (fun d hd => ?_) (by decide) (by decide)⟩
  simp only [List.mem_cons, List.not_mem_nil, or_false] at hd
  rcases hd with rfl | rfl
  · exact .str tx_if
  · exact .str tx_and
theorem mulE {n : Int} (h0 : 0 ≤ n) (h1 : n ≤ 4) : gMulS (.str "e") (.int n) = some (.str (Txt.mul "e" n)) ∧ Tx 4 (Txt.mul "e" n) := by
  have hn : n = 0 ∨ n = 1 ∨ n = 2 ∨ n = 3 ∨ n = 4 := by omega
  constructor
  · show (if _ then _ else _) = _
    rw [if_pos ⟨h0, by omega, by have := tx_e.1; omega⟩]
  · rcases hn with rfl | rfl | rfl | rfl | rfl <;> exact ⟨by decide +kernel, canLay_cps (by decide +kernel)⟩
theorem namesA_W {k : Nat} {T : Dk} {Q : PyData × Dk → Prop} (g : Gd k T) (hk : k + 60 < 1000000000) (q : ∀ (ds : List PyData) (T' : Dk), ds.length = 8 → (∀ d ∈ ds, Nm d) → Gd (k + 40) T' → Q (.list ds, T')) : W (VA__law_names [.deck, .dat (.int 8)] T) Q := by
  refine W_mFun ?_
  unfold VBA__law_names
  simp only [W_mSeq, W_mSet, W_mSetF, W_mIf, W_mRet, W_mCf, W_mAk0, W_mAk1, W_mAd, W_mN0, W_mC, W_mBin, W_mVar0, W_mVarS, W_mVarBd, W_mVarBo, W_mVarBS, W_mQ, W_mNot, W_mAnd, W_mOr, W_mL, W_mLst, W_mCons, W_mNil, W_mTup, W_mIt, W_mLc, W_mRng1, W_mCall, W_mNext, W_mAsg, W_mFor, W_mYes, W_mSl, W_mP0, W_mP, W_mSlF, W_mNeg, W_mRevT, W_mTupOf, W_mListT, W_mIfx, W_mAk2, W_mAc, W_mCst0, W_mCstS, W_mAndV, W_mOrV, W_mNotV, W_some, W_map, W_bind, seqQ_nx, seqQ_rt, List.set_cons_succ, List.set_cons_zero, List.map_cons, List.map_nil, List.length_cons, List.length_nil, List.nil_append, List.cons_append, List.replicate, wipeE, PyData.bool.injEq, PyData.int.injEq, exists_eq_left', exists_eq_left, and_true, true_and, eq_ints, ↓reduceIte, Option.bind_some, Option.map_some, Nat.reduceAdd, Nat.reduceLeDiff, PyData.list.injEq, PyData.tuple.injEq, add_ints, sub_ints, lt_ints, le_ints, gt_ints, ge_ints, glen_list, glen_tuple]
  have stem : ∀ Q' : PyData × Dk → Prop, (∀ (s : Str) (T' : Dk), Tx 4 s → Gd (k + 5) T' → Q' (.str s, T')) → W (mJoin (mC (PyData.str "")) (mL (mLc [7] (mRng1 (mCf V__law_pick (mAk 0 (mAd (mL (mLst (mCons (mC (PyData.int (0))) (mCons (mC (PyData.int (1))) (mCons (mC (PyData.int (2))) (mCons (mC (PyData.int (4))) mNil)))))) mN0)))) (gtName 7) mYes (mCf V__law_pick (mAk 0 (mAd (mVar 2) mN0))))) [some .deck, some (.dat (.int 8)), some (.dat (.str "abcdefghijklmnopqrstuvwxyz")), none, none, none, none, none, none] T) Q' := by
    intro Q' q'
    have : W ((mL (mLc [7] (mRng1 (mCf V__law_pick (mAk 0 (mAd (mL (mLst (mCons (mC (PyData.int (0))) (mCons (mC (PyData.int (1))) (mCons (mC (PyData.int (2))) (mCons (mC (PyData.int (4))) mNil)))))) mN0)))) (gtName 7) mYes (mCf V__law_pick (mAk 0 (mAd (mVar 2) mN0))))) [some .deck, some (.dat (.int 8)), some (.dat (.str "abcdefghijklmnopqrstuvwxyz")), none, none, none, none, none, none] T) fun p => ∃ ds, p.1 = .list ds ∧ (∀ d ∈ ds, Sgn d) ∧ ds.length ≤ 4 ∧ Gd (k + 5) p.2 := by
      simp only [W_mSeq, W_mSet, W_mSetF, W_mIf, W_mRet, W_mCf, W_mAk0, W_mAk1, W_mAd, W_mN0, W_mC, W_mBin, W_mVar0, W_mVarS, W_mVarBd, W_mVarBo, W_mVarBS, W_mQ, W_mNot, W_mAnd, W_mOr, W_mL, W_mLst, W_mCons, W_mNil, W_mTup, W_mIt, W_mLc, W_mRng1, W_mCall, W_mNext, W_mAsg, W_mFor, W_mYes, W_mSl, W_mP0, W_mP, W_mSlF, W_mNeg, W_mRevT, W_mTupOf, W_mListT, W_mIfx, W_mAk2, W_mAc, W_mCst0, W_mCstS, W_mAndV, W_mOrV, W_mNotV, W_some, W_map, W_bind, seqQ_nx, seqQ_rt, List.set_cons_succ, List.set_cons_zero, List.map_cons, List.map_nil, List.length_cons, List.length_nil, List.nil_append, List.cons_append, List.replicate, wipeE, PyData.bool.injEq, PyData.int.injEq, exists_eq_left', exists_eq_left, and_true, true_and, eq_ints, ↓reduceIte, Option.bind_some, Option.map_some, Nat.reduceAdd, Nat.reduceLeDiff, PyData.list.injEq, PyData.tuple.injEq, add_ints, sub_ints, lt_ints, le_ints, gt_ints, ge_ints, glen_list, glen_tuple]
      refine pick_W g (by simp) (by simp) (by omega) fun n hn T4 g4 => ?_
      have : ∃ j : Nat, n = .int (j : Nat) ∧ j ≤ 4 := by
        simp only [List.mem_cons, List.not_mem_nil, or_false] at hn
        rcases hn with rfl | rfl | rfl | rfl
        · exact ⟨0, rfl, by decide⟩
        · exact ⟨1, rfl, by decide⟩
        · exact ⟨2, rfl, by decide⟩
        · exact ⟨4, rfl, by decide⟩
      obtain ⟨j, rfl, hj⟩ := this
      simp only [W_mSeq, W_mSet, W_mSetF, W_mIf, W_mRet, W_mCf, W_mAk0, W_mAk1, W_mAd, W_mN0, W_mC, W_mBin, W_mVar0, W_mVarS, W_mVarBd, W_mVarBo, W_mVarBS, W_mQ, W_mNot, W_mAnd, W_mOr, W_mL, W_mLst, W_mCons, W_mNil, W_mTup, W_mIt, W_mLc, W_mRng1, W_mCall, W_mNext, W_mAsg, W_mFor, W_mYes, W_mSl, W_mP0, W_mP, W_mSlF, W_mNeg, W_mRevT, W_mTupOf, W_mListT, W_mIfx, W_mAk2, W_mAc, W_mCst0, W_mCstS, W_mAndV, W_mOrV, W_mNotV, W_some, W_map, W_bind, seqQ_nx, seqQ_rt, List.set_cons_succ, List.set_cons_zero, List.map_cons, List.map_nil, List.length_cons, List.length_nil, List.nil_append, List.cons_append, List.replicate, wipeE, PyData.bool.injEq, PyData.int.injEq, exists_eq_left', exists_eq_left, and_true, true_and, eq_ints, ↓reduceIte, Option.bind_some, Option.map_some, Nat.reduceAdd, Nat.reduceLeDiff, PyData.list.injEq, PyData.tuple.injEq, add_ints, sub_ints, lt_ints, le_ints, gt_ints, ge_ints, glen_list, glen_tuple]
      refine ⟨by omega, by rw [List.length_map, rng_len]; omega, ?_⟩
      refine W_loop (fun ds es T' => (∀ e ∈ es, Sgn e) ∧ es.length + ds.length = j ∧ Gd (k + 1 + es.length) T') (fun d ds es T5 hI => ?_) _ [] T4 ⟨(fun _ h => by cases h), by simp [rng_len], g4⟩ fun es T5 hI => ?_
      · obtain ⟨i1, i2, i3⟩ := hI
        rw [List.length_cons] at i2
        simp only [gtName, W_mSeq, W_mSet, W_mSetF, W_mIf, W_mRet, W_mCf, W_mAk0, W_mAk1, W_mAd, W_mN0, W_mC, W_mBin, W_mVar0, W_mVarS, W_mVarBd, W_mVarBo, W_mVarBS, W_mQ, W_mNot, W_mAnd, W_mOr, W_mL, W_mLst, W_mCons, W_mNil, W_mTup, W_mIt, W_mLc, W_mRng1, W_mCall, W_mNext, W_mAsg, W_mFor, W_mYes, W_mSl, W_mP0, W_mP, W_mSlF, W_mNeg, W_mRevT, W_mTupOf, W_mListT, W_mIfx, W_mAk2, W_mAc, W_mCst0, W_mCstS, W_mAndV, W_mOrV, W_mNotV, W_some, W_map, W_bind, seqQ_nx, seqQ_rt, List.set_cons_succ, List.set_cons_zero, List.map_cons, List.map_nil, List.length_cons, List.length_nil, List.nil_append, List.cons_append, List.replicate, wipeE, PyData.bool.injEq, PyData.int.injEq, exists_eq_left', exists_eq_left, and_true, true_and, eq_ints, ↓reduceIte, Option.bind_some, Option.map_some, Nat.reduceAdd, Nat.reduceLeDiff, PyData.list.injEq, PyData.tuple.injEq, add_ints, sub_ints, lt_ints, le_ints, gt_ints, ge_ints, glen_list, glen_tuple]
        refine pickS_W i3 (by rw [abc_len]; decide) (by rw [abc_len]; decide) (by omega) fun c hc T6 g6 => ?_
        refine ⟨fun e he => ?_, by rw [List.length_append]; simp only [List.length_cons, List.length_nil]; omega, ?_⟩
        · rcases List.mem_append.mp he with h | h
          · exact i1 e h
          · rw [List.mem_singleton.mp h]
            exact ⟨c, abc_ok.2 c hc, rfl⟩
        · rw [List.length_append]
          exact g6
      · obtain ⟨i1, i2, i3⟩ := hI
        simp only [List.nil_append, List.length_nil, Nat.add_zero] at i1 i2 i3
        exact ⟨i1, by show es.length ≤ 4; omega, i3.up (by omega)⟩
    obtain ⟨⟨d, T5⟩, e, ds, rfl, h1, h2, h3⟩ := this
    obtain ⟨s, es, ts⟩ := join_signsT h1 (by omega) e
    exact W.of es (q' s T5 (ts.up h2) h3)
  refine stem _ fun sm T4 hs g4 => ?_
  have hl := glen_str hs (by decide)
  have hsl := hs.1
  simp only [W_mSeq, W_mSet, W_mSetF, W_mIf, W_mRet, W_mCf, W_mAk0, W_mAk1, W_mAd, W_mN0, W_mC, W_mBin, W_mVar0, W_mVarS, W_mVarBd, W_mVarBo, W_mVarBS, W_mQ, W_mNot, W_mAnd, W_mOr, W_mL, W_mLst, W_mCons, W_mNil, W_mTup, W_mIt, W_mLc, W_mRng1, W_mCall, W_mNext, W_mAsg, W_mFor, W_mYes, W_mSl, W_mP0, W_mP, W_mSlF, W_mNeg, W_mRevT, W_mTupOf, W_mListT, W_mIfx, W_mAk2, W_mAc, W_mCst0, W_mCstS, W_mAndV, W_mOrV, W_mNotV, W_some, W_map, W_bind, seqQ_nx, seqQ_rt, List.set_cons_succ, List.set_cons_zero, List.map_cons, List.map_nil, List.length_cons, List.length_nil, List.nil_append, List.cons_append, List.replicate, wipeE, PyData.bool.injEq, PyData.int.injEq, exists_eq_left', exists_eq_left, and_true, true_and, eq_ints, ↓reduceIte, Option.bind_some, Option.map_some, Nat.reduceAdd, Nat.reduceLeDiff, PyData.list.injEq, PyData.tuple.injEq, add_ints, sub_ints, lt_ints, le_ints, gt_ints, ge_ints, glen_list, glen_tuple, hl]
  refine take_W g4 (by omega) (by omega) (by omega) fun wh T5 w0 w1 g5 => ?_
  simp only [W_mSeq, W_mSet, W_mSetF, W_mIf, W_mRet, W_mCf, W_mAk0, W_mAk1, W_mAd, W_mN0, W_mC, W_mBin, W_mVar0, W_mVarS, W_mVarBd, W_mVarBo, W_mVarBS, W_mQ, W_mNot, W_mAnd, W_mOr, W_mL, W_mLst, W_mCons, W_mNil, W_mTup, W_mIt, W_mLc, W_mRng1, W_mCall, W_mNext, W_mAsg, W_mFor, W_mYes, W_mSl, W_mP0, W_mP, W_mSlF, W_mNeg, W_mRevT, W_mTupOf, W_mListT, W_mIfx, W_mAk2, W_mAc, W_mCst0, W_mCstS, W_mAndV, W_mOrV, W_mNotV, W_some, W_map, W_bind, seqQ_nx, seqQ_rt, List.set_cons_succ, List.set_cons_zero, List.map_cons, List.map_nil, List.length_cons, List.length_nil, List.nil_append, List.cons_append, List.replicate, wipeE, PyData.bool.injEq, PyData.int.injEq, exists_eq_left', exists_eq_left, and_true, true_and, eq_ints, ↓reduceIte, Option.bind_some, Option.map_some, Nat.reduceAdd, Nat.reduceLeDiff, PyData.list.injEq, PyData.tuple.injEq, add_ints, sub_ints, lt_ints, le_ints, gt_ints, ge_ints, glen_list, glen_tuple]
  refine take_W g5 (by decide) (by decide) (by omega) fun bg T6 b0 b1 g6 => ?_
  simp only [W_mSeq, W_mSet, W_mSetF, W_mIf, W_mRet, W_mCf, W_mAk0, W_mAk1, W_mAd, W_mN0, W_mC, W_mBin, W_mVar0, W_mVarS, W_mVarBd, W_mVarBo, W_mVarBS, W_mQ, W_mNot, W_mAnd, W_mOr, W_mL, W_mLst, W_mCons, W_mNil, W_mTup, W_mIt, W_mLc, W_mRng1, W_mCall, W_mNext, W_mAsg, W_mFor, W_mYes, W_mSl, W_mP0, W_mP, W_mSlF, W_mNeg, W_mRevT, W_mTupOf, W_mListT, W_mIfx, W_mAk2, W_mAc, W_mCst0, W_mCstS, W_mAndV, W_mOrV, W_mNotV, W_some, W_map, W_bind, seqQ_nx, seqQ_rt, List.set_cons_succ, List.set_cons_zero, List.map_cons, List.map_nil, List.length_cons, List.length_nil, List.nil_append, List.cons_append, List.replicate, wipeE, PyData.bool.injEq, PyData.int.injEq, exists_eq_left', exists_eq_left, and_true, true_and, eq_ints, ↓reduceIte, Option.bind_some, Option.map_some, Nat.reduceAdd, Nat.reduceLeDiff, PyData.list.injEq, PyData.tuple.injEq, add_ints, sub_ints, lt_ints, le_ints, gt_ints, ge_ints, glen_list, glen_tuple]
  refine ⟨by decide, ?_⟩
  refine W_fold (fun ds en T' => ∃ (a7 a8 : Option Sl) (fs : List PyData), en = [some .deck, some (.dat (.int 8)), some (.dat (.str "abcdefghijklmnopqrstuvwxyz")), some (.dat (.str sm)), some (.dat (.int wh)), some (.dat (.int bg)), some (.own (fs)), a7, a8] ∧ (∀ d ∈ fs, Nm d) ∧ fs.length + ds.length = 8 ∧ Gd (k + 7 + fs.length) T' ∧ ∀ d ∈ ds, ∃ i, d = .int i) (fun d ds en T' hI => ?_) _ _ T6 ⟨none, none, [], rfl, (fun _ h => by cases h), by simp [rng_len], g6, fun d hd => ?_⟩ fun en' T' hI => ?_
  · obtain ⟨a7, a8, fs, rfl, f1, f2, f3, f4⟩ := hI
    obtain ⟨i, rfl⟩ := f4 d List.mem_cons_self
    rw [List.length_cons] at f2
    have hmod0 : 0 ≤ (bg + 7 * i) % 26 := Int.emod_nonneg _ (by decide)
    have hmod1 : (bg + 7 * i) % 26 < 26 := Int.emod_lt_of_pos _ (by decide)
    obtain ⟨c, hc, ec⟩ := ix_abc hmod0 hmod1
    have hcut := fun lo hi => sl_str_cut hs (by decide) lo hi
    have t1 : Tx 5 (cutS sm none (some wh) ++ ⟨#[c]⟩) := (hs.cut _ _).app (Tx.sgn hc)
    have t2 : Tx 9 (cutS sm none (some wh) ++ ⟨#[c]⟩ ++ cutS sm (some wh) none) := t1.app (hs.cut _ _)
    refine W_some.mpr ?_
    refine W_cut (fun en' T'' => T' = T'' ∧ en' = [some .deck, some (.dat (.int 8)), some (.dat (.str "abcdefghijklmnopqrstuvwxyz")), some (.dat (.str sm)), some (.dat (.int wh)), some (.dat (.int bg)), some (.own (fs)), some (.dat (.int i)), some (.dat (.str (cutS sm none (some wh) ++ ⟨#[c]⟩ ++ cutS sm (some wh) none)))]) ?_ ?_
    · simp only [W_mSet, W_mSetF, W_mIf, W_mRet, W_mCf, W_mAk0, W_mAk1, W_mAd, W_mN0, W_mC, W_mBin, W_mVar0, W_mVarS, W_mVarBd, W_mVarBo, W_mVarBS, W_mQ, W_mNot, W_mAnd, W_mOr, W_mL, W_mLst, W_mCons, W_mNil, W_mTup, W_mIt, W_mLc, W_mRng1, W_mCall, W_mNext, W_mAsg, W_mYes, W_mSl, W_mP0, W_mP, W_mSlF, W_mNeg, W_mRevT, W_mTupOf, W_mListT, W_mIfx, W_mAk2, W_mAc, W_mCst0, W_mCstS, W_mAndV, W_mOrV, W_mNotV, W_some, W_map, W_bind, seqQ_nx, seqQ_rt, List.set_cons_succ, List.set_cons_zero, List.map_cons, List.map_nil, List.length_cons, List.length_nil, List.nil_append, List.cons_append, List.replicate, wipeE, PyData.bool.injEq, PyData.int.injEq, exists_eq_left', exists_eq_left, and_true, true_and, eq_ints, ↓reduceIte, Option.bind_some, Option.map_some, Nat.reduceAdd, Nat.reduceLeDiff, PyData.list.injEq, PyData.tuple.injEq, add_ints, sub_ints, lt_ints, le_ints, gt_ints, ge_ints, glen_list, glen_tuple, hcut, mul_ints (show (-1000 : Int) < 7 ∧ (7 : Int) < 1000 by decide), mod_ints (show (0 : Int) < 26 by decide), ec, add_str (hs.cut none (some wh)) (Tx.sgn hc) (by decide), add_str t1 (hs.cut (some wh) none) (by decide)]
      exact ⟨_, _, rfl, rfl, rfl⟩
    rintro en1 _ ⟨rfl, rfl⟩
    obtain ⟨b, hb⟩ := in_tup_if t2
    rw [W_mApp (ds := fs) rfl]
    simp only [W_mSet, W_mSetF, W_mIf, W_mRet, W_mCf, W_mAk0, W_mAk1, W_mAd, W_mN0, W_mC, W_mBin, W_mVar0, W_mVarS, W_mVarBd, W_mVarBo, W_mVarBS, W_mQ, W_mNot, W_mAnd, W_mOr, W_mL, W_mLst, W_mCons, W_mNil, W_mTup, W_mIt, W_mLc, W_mRng1, W_mCall, W_mNext, W_mAsg, W_mYes, W_mSl, W_mP0, W_mP, W_mSlF, W_mNeg, W_mRevT, W_mTupOf, W_mListT, W_mIfx, W_mAk2, W_mAc, W_mCst0, W_mCstS, W_mAndV, W_mOrV, W_mNotV, W_some, W_map, W_bind, seqQ_nx, seqQ_rt, List.set_cons_succ, List.set_cons_zero, List.map_cons, List.map_nil, List.length_cons, List.length_nil, List.nil_append, List.cons_append, List.replicate, wipeE, PyData.bool.injEq, PyData.int.injEq, exists_eq_left', exists_eq_left, and_true, true_and, eq_ints, ↓reduceIte, Option.bind_some, Option.map_some, Nat.reduceAdd, Nat.reduceLeDiff, PyData.list.injEq, PyData.tuple.injEq, add_ints, sub_ints, lt_ints, le_ints, gt_ints, ge_ints, glen_list, glen_tuple]
    refine pick_W f3 (by simp) (by simp) (by omega) fun x hx T7 g7 => ?_
    have : ∃ j : Nat, x = .int (j : Nat) ∧ j ≤ 3 := by
      simp only [List.mem_cons, List.not_mem_nil, or_false] at hx
      rcases hx with rfl | rfl | rfl | rfl
      · exact ⟨0, rfl, by decide⟩
      · exact ⟨0, rfl, by decide⟩
      · exact ⟨0, rfl, by decide⟩
      · exact ⟨3, rfl, by decide⟩
    obtain ⟨j, rfl, hj⟩ := this
    have hib : (0 : Int) ≤ (if b = true then 1 else 0) ∧ (if b = true then (1 : Int) else 0) ≤ 1 := by split <;> decide
    obtain ⟨em, tm⟩ := mulE (n := (j : Nat) + (if b = true then 1 else 0)) (by omega) (by omega)
    simp only [W_mSet, W_mSetF, W_mIf, W_mRet, W_mCf, W_mAk0, W_mAk1, W_mAd, W_mN0, W_mC, W_mBin, W_mVar0, W_mVarS, W_mVarBd, W_mVarBo, W_mVarBS, W_mQ, W_mNot, W_mAnd, W_mOr, W_mL, W_mLst, W_mCons, W_mNil, W_mTup, W_mIt, W_mLc, W_mRng1, W_mCall, W_mNext, W_mAsg, W_mYes, W_mSl, W_mP0, W_mP, W_mSlF, W_mNeg, W_mRevT, W_mTupOf, W_mListT, W_mIfx, W_mAk2, W_mAc, W_mCst0, W_mCstS, W_mAndV, W_mOrV, W_mNotV, W_some, W_map, W_bind, seqQ_nx, seqQ_rt, List.set_cons_succ, List.set_cons_zero, List.map_cons, List.map_nil, List.length_cons, List.length_nil, List.nil_append, List.cons_append, List.replicate, wipeE, PyData.bool.injEq, PyData.int.injEq, exists_eq_left', exists_eq_left, and_true, true_and, eq_ints, ↓reduceIte, Option.bind_some, Option.map_some, Nat.reduceAdd, Nat.reduceLeDiff, PyData.list.injEq, PyData.tuple.injEq, add_ints, sub_ints, lt_ints, le_ints, gt_ints, ge_ints, glen_list, glen_tuple, hb, int_bool, em, add_str t2 tm (by decide)]
    refine ⟨by omega, _, _, .inl rfl, _, _, _, rfl, fun d hd => ?_, by rw [List.length_append]; simp only [List.length_cons, List.length_nil]; omega, by rw [List.length_append]; exact g7, fun d hd => f4 d (List.mem_cons_of_mem _ hd)⟩
    rcases List.mem_append.mp hd with h | h
    · exact f1 d h
    · rw [List.mem_singleton.mp h]
      exact ⟨_, rfl, (t2.app tm).up (by decide)⟩
  · obtain ⟨j, _, rfl⟩ := List.mem_map.mp hd
    exact ⟨j, rfl⟩
  · obtain ⟨a7, a8, fs, rfl, f1, f2, f3, f4⟩ := hI
    simp only [seqQ_nx]
    rw [W_mRetV (ds := fs) rfl]
    simp only [List.length_nil, Nat.add_zero] at f2
    exact ⟨_, _, rfl, q fs T' f2 f1 (f3.up (by omega))⟩
theorem eight {ns : List PyData} (h : ns.length = 8) : ∃ n1 n2 n3 n4 n5 n6 n7 n8, ns = [n1, n2, n3, n4, n5, n6, n7, n8] := by
  match ns, h with
  | [a, b, c, d, e, f, g, h], _ => exact ⟨a, b, c, d, e, f, g, h, rfl⟩
def NL (ds : List PyData) : Prop := ds ≠ [] ∧ ds.length ≤ 3 ∧ ∀ d ∈ ds, Nm d
theorem nl2 {a b : PyData} (ha : Nm a) (hb : Nm b) : NL [a, b] := ⟨by simp, by simp, fun d hd => by
  simp only [List.mem_cons, List.not_mem_nil, or_false] at hd
  rcases hd with rfl | rfl <;> assumption⟩
theorem nl3 {a b c : PyData} (ha : Nm a) (hb : Nm b) (hc : Nm c) : NL [a, b, c] := ⟨by simp, by simp, fun d hd => by
  simp only [List.mem_cons, List.not_mem_nil, or_false] at hd
  rcases hd with rfl | rfl | rfl <;> assumption⟩
theorem wordsA_W {k : Nat} {T : Dk} {Q : PyData × Dk → Prop} (g : Gd k T) (hk : k + 100 < 1000000000) (q : ∀ (ks rs ts : List PyData) (T' : Dk), NL ks → NL rs → NL ts → Gd (k + 41) T' → Q (.list [.list ks, .list rs, .list ts], T')) : W (VA__law_words [.deck] T) Q := by
  refine W_mFun ?_
  unfold VBA__law_words
  rw [W_mSeq]
  simp only [W_mSet, W_mSetF, W_mIf, W_mRet, W_mCf, W_mAk0, W_mAk1, W_mAd, W_mN0, W_mC, W_mBin, W_mVar0, W_mVarS, W_mVarBd, W_mVarBo, W_mVarBS, W_mQ, W_mNot, W_mAnd, W_mOr, W_mL, W_mLst, W_mCons, W_mNil, W_mTup, W_mIt, W_mLc, W_mRng1, W_mCall, W_mNext, W_mAsg, W_mYes, W_mSl, W_mP0, W_mP, W_mSlF, W_mNeg, W_mRevT, W_mTupOf, W_mListT, W_mIfx, W_mAk2, W_mAc, W_mCst0, W_mCstS, W_mAndV, W_mOrV, W_mNotV, W_some, W_map, W_bind, seqQ_nx, seqQ_rt, List.set_cons_succ, List.set_cons_zero, List.map_cons, List.map_nil, List.length_cons, List.length_nil, List.nil_append, List.cons_append, List.replicate, wipeE, PyData.bool.injEq, PyData.int.injEq, exists_eq_left', exists_eq_left, and_true, true_and, eq_ints, ↓reduceIte, Option.bind_some, Option.map_some, Nat.reduceAdd, Nat.reduceLeDiff, PyData.list.injEq, PyData.tuple.injEq, add_ints, sub_ints, lt_ints, le_ints, gt_ints, ge_ints, glen_list, glen_tuple]
  refine namesA_W g (by omega) fun ns T1 hln hns g1 => ?_
  obtain ⟨n1, n2, n3, n4, n5, n6, n7, n8, rfl⟩ := eight hln
  have h1 := hns n1 (by simp); have h2 := hns n2 (by simp); have h3 := hns n3 (by simp); have h4 := hns n4 (by simp)
  have h5 := hns n5 (by simp); have h6 := hns n6 (by simp); have h7 := hns n7 (by simp); have h8 := hns n8 (by simp)
  simp only
  rw [W_mSeq, W_mIf, W_mQ, W_mBin, W_mCf]
  refine W.of (r := ([.deck, .dat (.int 3)], T1)) rfl ?_
  refine take_W g1 (by decide) (by decide) (by omega) fun v T2 v0 v1 g2 => ?_
  refine W.of (r := (.int 0, T2)) rfl ?_
  rw [eq_ints, W_some]
  refine ⟨_, rfl, ?_⟩
  simp only
  split
  · refine W.of (r := .rt (.list [.list [n1, n2, n3], .list [n1, n5], .list [n1, n7, n8]]) T2) rfl ?_
    exact ⟨_, _, rfl, q _ _ _ _ (nl3 h1 h2 h3) (nl2 h1 h5) (nl3 h1 h7 h8) (g2.up (by omega))⟩
  · refine W.of (r := .nx [some .deck, some (.dat (.list [n1, n2, n3, n4, n5, n6, n7, n8]))] T2) rfl ?_
    refine W.of (r := .rt (.list [.list [n1, n2, n3], .list [n4, n5], .list [n6, n7, n8]]) T2) rfl ?_
    exact ⟨_, _, rfl, q _ _ _ _ (nl3 h1 h2 h3) (nl2 h4 h5) (nl3 h6 h7 h8) (g2.up (by omega))⟩
theorem Nm.pd {d : PyData} (h : Nm d) : Pd 0 40 d := by
  obtain ⟨s, rfl, t⟩ := h
  exact pd_str t (by decide)
end LQ

set_option Elab.async false
set_option linter.all false
set_option maxRecDepth 100000
set_option maxHeartbeats 1000000
namespace K04
open PySem PySem.Spec PyProof.Rows L2 LQ
def topS (i : Nat) : Stmt := PySem.Challenge.pw_ledquestions_k04_sorts_and_things.main.body.getD i (.Pass ⟨0, 0, 0, 0⟩)
structure Bt (K : PySem.W.Frag) (mg : Str → Option Value) : Prop where
  b_abs : mg "abs" = none
  b_int : mg "int" = none
  b_len : mg "len" = none
  b_list : mg "list" = none
  b_range : mg "range" = none
  b_repr : mg "repr" = none
  b_set : mg "set" = none
  b_sorted : mg "sorted" = none
  b_tuple : mg "tuple" = none
section
variable {P : Program} {w : World} {K : PySem.W.Frag} {mg : Str → Option Value} {base : Heap}
abbrev s_row_sorts : Stmt := topS 1
theorem sc_row_sorts : FnScope ["row"] ["row"] (defScope s_row_sorts) := ⟨rfl, rfl, rfl, by decide +kernel, rfl, by decide +kernel, by decide +kernel⟩
def B_row_sorts : MS := (mSeq (mIf (mQ (mBin gEq (mCall gLen (mCons (mVar 0) mNil)) (mC (PyData.int (2))))) (mRet (mL (mLst (mCons (mTup (mCons (mTup (mCons (mBin ixD (mVar 0) (mC (PyData.int (0)))) mNil)) (mCons (mBin ixD (mVar 0) (mC (PyData.int (1)))) mNil))) mNil)))) mNext)
  (mRet (mL (mLst (mCons (mTup (mCons (mTup (mCons (mBin ixD (mVar 0) (mC (PyData.int (0)))) (mCons (mC (PyData.int (0))) mNil))) (mCons (mBin ixD (mVar 0) (mC (PyData.int (1)))) mNil))) (mCons (mTup (mCons (mTup (mCons (mBin ixD (mVar 0) (mC (PyData.int (0)))) (mCons (mC (PyData.int (1))) mNil))) (mCons (mBin ixD (mVar 0) (mC (PyData.int (2)))) mNil))) mNil))))))
def M_row_sorts : MF := mFun 1 B_row_sorts
theorem ok_row_sorts (T : Bt K mg) (D : Def K mg "row_sorts" s_row_sorts ["row"])  : Cal P w K mg base 1 "row_sorts" ["row"] M_row_sorts :=
  have sc := sc_row_sorts
  cal (N := ["row"]) (k := 0) (mb := B_row_sorts) D sc fun f cdv A outer s H E z hr gu =>
    (ss_cons (s_if (q_cmp (op_eqD hr.units) l_eq (bw (d_callB call_len l_len (by rfl) T.b_len (by decide +kernel) (ab_cons (bw (d_var 0)) ab_nil))) (bw d_int) (nomark _)) (ss_one (s_ret (fz (f_lst (a_cons (d_tup (a_cons (d_tup (a_cons (d_ix (ed (d_var 0)) (bw d_int)) a_nil)) (a_cons (d_ix (ed (d_var 0)) (bw d_int)) a_nil))) a_nil))))) ss_nil)
    (ss_one (s_ret (fz (f_lst (a_cons (d_tup (a_cons (d_tup (a_cons (d_ix (ed (d_var 0)) (bw d_int)) (a_cons d_int a_nil))) (a_cons (d_ix (ed (d_var 0)) (bw d_int)) a_nil))) (a_cons (d_tup (a_cons (d_tup (a_cons (d_ix (ed (d_var 0)) (bw d_int)) (a_cons d_int a_nil))) (a_cons (d_ix (ed (d_var 0)) (bw d_int)) a_nil))) a_nil)))))))
abbrev s_sorts_of : Stmt := topS 2
theorem sc_sorts_of : FnScope ["rows", "thing", "row", "sort", "whose"] ["rows", "thing"] (defScope s_sorts_of) := ⟨rfl, rfl, rfl, by decide +kernel, rfl, by decide +kernel, by decide +kernel⟩
def B_sorts_of : MS := (mRet (mTupOf (mL (mSrtN (mLc2 [2, 3, 4] (mIt (mVar 0)) (gtName 2) mYes [3, 4] (mIt (mCf M_row_sorts (mAd (mVar 2) mN0))) (gtTup 2 (gtCons (gtName 3) (gtCons (gtName 4) gtNil))) (mQ (mBin gEq (mVar 4) (mVar 1))) (mVar 3))))))
def M_sorts_of : MF := mFun 5 B_sorts_of
theorem ok_sorts_of (T : Bt K mg) (D : Def K mg "sorts_of" s_sorts_of ["rows", "thing"]) (C_row_sorts : Cal P w K mg base 1 "row_sorts" ["row"] M_row_sorts) : Cal P w K mg base 2 "sorts_of" ["rows", "thing"] M_sorts_of :=
  have sc := sc_sorts_of
  cal (N := ["rows", "thing", "row", "sort", "whose"]) (k := 1) (mb := B_sorts_of) D sc fun f cdv A outer s H E z hr gu =>
    (ss_one (s_ret (d_tupOf (by rfl) T.b_tuple (ed (fz (f_sc2N hr.units (by rfl) T.b_sorted rfl sc.nd (i_seqE (ed (d_var 0))) (blkOk_by (own := [("row", 2), ("sort", 3), ("whose", 4)]) (N := ["rows", "thing", "row", "sort", "whose"]) (sc := defScope s_sorts_of) (by decide +kernel)) (fun _ _ _ _ _ => g_up (g_name 2 sc.nd)) (fun _ _ _ _ _ => qs_nil) (fun _ _ _ _ _ => (i_seq (d_cal C_row_sorts (hr.mono (by decide)) gu (by rfl) (n_d (d_var 2) n_nil) (n_lenD n_len0)))) (fun _ _ _ _ _ => (g_tup rfl (gs_cons (g_name 3 sc.nd) (gs_cons (g_name 4 sc.nd) gs_nil)))) (fun _ _ _ _ _ => (qs_one (q_cmp (op_eqD hr.units) l_eq (bw (d_var 4)) (bw (d_var 1)) (nomark _)))) (fun _ _ _ _ _ => (d_var 3))))))))
theorem ok_sorts_of_kw (T : Bt K mg) (D : DefK K mg "sorts_of" s_sorts_of ["rows", "thing"] ["thing", "rows"] [1, 0]) (C_row_sorts : Cal P w K mg base 1 "row_sorts" ["row"] M_row_sorts) : CalKw P w K mg base 2 "sorts_of" ["rows", "thing"] ["thing", "rows"] [1, 0] M_sorts_of :=
  have sc := sc_sorts_of
  calKw (N := ["rows", "thing", "row", "sort", "whose"]) (k := 1) (mb := B_sorts_of) D sc fun f cdv A outer s H E z hr gu =>
    (ss_one (s_ret (d_tupOf (by rfl) T.b_tuple (ed (fz (f_sc2N hr.units (by rfl) T.b_sorted rfl sc.nd (i_seqE (ed (d_var 0))) (blkOk_by (own := [("row", 2), ("sort", 3), ("whose", 4)]) (N := ["rows", "thing", "row", "sort", "whose"]) (sc := defScope s_sorts_of) (by decide +kernel)) (fun _ _ _ _ _ => g_up (g_name 2 sc.nd)) (fun _ _ _ _ _ => qs_nil) (fun _ _ _ _ _ => (i_seq (d_cal C_row_sorts (hr.mono (by decide)) gu (by rfl) (n_d (d_var 2) n_nil) (n_lenD n_len0)))) (fun _ _ _ _ _ => (g_tup rfl (gs_cons (g_name 3 sc.nd) (gs_cons (g_name 4 sc.nd) gs_nil)))) (fun _ _ _ _ _ => (qs_one (q_cmp (op_eqD hr.units) l_eq (bw (d_var 4)) (bw (d_var 1)) (nomark _)))) (fun _ _ _ _ _ => (d_var 3))))))))
abbrev s_things_of : Stmt := topS 3
theorem sc_things_of : FnScope ["rows", "row", "thing"] ["rows"] (defScope s_things_of) := ⟨rfl, rfl, rfl, by decide +kernel, rfl, by decide +kernel, by decide +kernel⟩
def B_things_of : MS := (mRet (mTupOf (mL (mSrtT (mLc2 [1, 2] (mIt (mVar 0)) (gtName 1) mYes [2] (mIt (mSl gSlT (mVar 1) (mP (mC (PyData.int (1)))) mP0)) (gtName 2) mYes (mVar 2))))))
def M_things_of : MF := mFun 3 B_things_of
theorem ok_things_of (T : Bt K mg) (D : Def K mg "things_of" s_things_of ["rows"])  : Cal P w K mg base 1 "things_of" ["rows"] M_things_of :=
  have sc := sc_things_of
  cal (N := ["rows", "row", "thing"]) (k := 0) (mb := B_things_of) D sc fun f cdv A outer s H E z hr gu =>
    (ss_one (s_ret (d_tupOf (by rfl) T.b_tuple (ed (fz (f_sc2T hr.units (by rfl) T.b_sorted rfl sc.nd (i_seqE (ed (d_var 0))) (blkOk_by (own := [("row", 1), ("thing", 2)]) (N := ["rows", "row", "thing"]) (sc := defScope s_things_of) (by decide +kernel)) (fun _ _ _ _ _ => g_up (g_name 1 sc.nd)) (fun _ _ _ _ _ => qs_nil) (fun _ _ _ _ _ => (i_seq (d_sliceT (d_var 1) (p_some (bw d_int)) p_none))) (fun _ _ _ _ _ => (g_name 2 sc.nd)) (fun _ _ _ _ _ => qs_nil) (fun _ _ _ _ _ => (d_var 2))))))))
abbrev s__law_cell : Stmt := topS 5
theorem sc__law_cell : FnScope ["_law_script", "_law_k"] ["_law_script", "_law_k"] (defScope s__law_cell) := ⟨rfl, rfl, rfl, by decide +kernel, rfl, by decide +kernel, by decide +kernel⟩
def B__law_cell : MS := (mSeq (mIf (mQ (mBin gEq (mCall gLen (mCons (mVar 0) mNil)) (mC (PyData.int (0))))) (mRet (mBin gAdd (mBin gMul (mC (PyData.int (7))) (mVar 1)) (mC (PyData.int (3))))) mNext)
  (mRet (mCall gAbs (mCons (mBin ixD (mVar 0) (mBin gMod (mVar 1) (mCall gLen (mCons (mVar 0) mNil)))) mNil))))
def M__law_cell : MF := mFun 2 B__law_cell
theorem ok__law_cell (T : Bt K mg) (D : Def K mg "_law_cell" s__law_cell ["_law_script", "_law_k"])  : Cal P w K mg base 1 "_law_cell" ["_law_script", "_law_k"] M__law_cell :=
  have sc := sc__law_cell
  cal (N := ["_law_script", "_law_k"]) (k := 0) (mb := B__law_cell) D sc fun f cdv A outer s H E z hr gu =>
    (ss_cons (s_if (q_cmp (op_eqD hr.units) l_eq (bw (d_callB call_len l_len (by rfl) T.b_len (by decide +kernel) (ab_cons (bw (d_var 0)) ab_nil))) (bw d_int) (nomark _)) (ss_one (s_ret (d_op op_add l_add (bw (d_op op_mul l_mul (bw d_int) (bw (d_var 1)))) (bw d_int)))) ss_nil)
    (ss_one (s_ret (d_callB call_abs l_abs (by rfl) T.b_abs (by decide +kernel) (ab_cons (bw (d_ix (ed (d_var 0)) (bw (d_op op_mod l_mod (bw (d_var 1)) (bw (d_callB call_len l_len (by rfl) T.b_len (by decide +kernel) (ab_cons (bw (d_var 0)) ab_nil))))))) ab_nil)))))
abbrev s__law_take : Stmt := topS 7
theorem sc__law_take : FnScope ["_law_deck_here", "_law_many", "_law_number", "_law_cell_here"] ["_law_deck_here", "_law_many"] (defScope s__law_take) := ⟨rfl, rfl, rfl, by decide +kernel, rfl, by decide +kernel, by decide +kernel⟩
def B__law_take : MS := (mSeq (fun en T => mWhile (mQ (mBin gLt (mK2 0) (mKlen 0))) (mSeq (mSet 3 (mKit 0 (mK2 0)))
  (mSeq (mIf (mQ (mBin gGt (mVar 3) (mC (PyData.int (0))))) (mSeq (mKput 0 (mK2 0) (mBin gFdiv (mVar 3) (mVar 1)))
  (mRet (mBin gMod (mVar 3) (mVar 1)))) mNext)
  (mKset2 0 (mBin gAdd (mK2 0) (mC (PyData.int (1))))))) ((fun en T => T.gs.length + 1 - T.i) en T) en T)
  (mSeq (mKset3 0 (mBin gAdd (mK3 0) (mC (PyData.int (1)))))
  (mSeq (mSet 2 (mBin gAdd (mBin gMul (mBin gAdd (mBin gMod (mCf M__law_cell (mAd (mK0 0) (mAd (mK3 0) mN0))) (mC (PyData.int (1000003)))) (mC (PyData.int (5)))) (mBin gAdd (mK3 0) (mC (PyData.int (2))))) (mBin gMul (mC (PyData.int (7919))) (mK3 0))))
  (mRet (mBin gMod (mBin gFdiv (mBin gMod (mBin gPow (mVar 2) (mC (PyData.int (5)))) (mC (PyData.int (2147483647)))) (mC (PyData.int (13)))) (mVar 1))))))
def M__law_take : MF := mFun 4 B__law_take
theorem ok__law_take (T : Bt K mg) (D : Def K mg "_law_take" s__law_take ["_law_deck_here", "_law_many"]) (C__law_cell : Cal P w K mg base 1 "_law_cell" ["_law_script", "_law_k"] M__law_cell) : Cal P w K mg base 2 "_law_take" ["_law_deck_here", "_law_many"] M__law_take :=
  have sc := sc__law_take
  cal (N := ["_law_deck_here", "_law_many", "_law_number", "_law_cell_here"]) (k := 1) (mb := B__law_take) D sc fun f cdv A outer s H E z hr gu =>
    (ss_cons (s_while (fun en T => T.gs.length + 1 - T.i) PassesOwn.never (q_cmp op_lt l_lt (bw (k_2 0)) (bw (k_len 0 (by rfl) T.b_len)) (nomark _)) (ss_cons (s_set 3 sc.nd (k_it 0 (bw (k_2 0))))
    (ss_cons (s_if (q_cmp op_gt l_gt (bw (d_var 3)) (bw d_int) (nomark _)) (ss_cons (k_put 0 (d_op op_fdiv l_fdiv (bw (d_var 3)) (bw (d_var 1))))
    (ss_one (s_ret (d_op op_mod l_mod (bw (d_var 3)) (bw (d_var 1)))))) ss_nil)
    (ss_one (k_set2 0 (d_op op_add l_add (bw (k_2 0)) (bw d_int)))))))
    (ss_cons (k_set3 0 (d_op op_add l_add (bw (k_3 0)) (bw d_int)))
    (ss_cons (s_set 2 sc.nd (d_op op_add l_add (bw (d_op op_mul l_mul (bw (d_op op_add l_add (bw (d_op op_mod l_mod (bw (d_cal C__law_cell (hr.mono (by decide)) gu (by rfl) (n_d (k_0 0) (n_d (k_3 0) n_nil)) (n_lenD (n_lenD n_len0)))) (bw d_int))) (bw d_int))) (bw (d_op op_add l_add (bw (k_3 0)) (bw d_int))))) (bw (d_op op_mul l_mul (bw d_int) (bw (k_3 0))))))
    (ss_one (s_ret (d_op op_mod l_mod (bw (d_op op_fdiv l_fdiv (bw (d_op op_mod l_mod (bw (d_op op_pow l_pow (bw (d_var 2)) (bw d_int))) (bw d_int))) (bw d_int))) (bw (d_var 1))))))))
abbrev s__law_pick : Stmt := topS 8
theorem sc__law_pick : FnScope ["_law_deck_here", "_law_some"] ["_law_deck_here", "_law_some"] (defScope s__law_pick) := ⟨rfl, rfl, rfl, by decide +kernel, rfl, by decide +kernel, by decide +kernel⟩
def B__law_pick : MS := (mRet (mBin ixD (mVar 1) (mCf M__law_take (mAk 0 (mAd (mCall gLen (mCons (mVar 1) mNil)) mN0)))))
def M__law_pick : MF := mFun 2 B__law_pick
theorem ok__law_pick (T : Bt K mg) (D : Def K mg "_law_pick" s__law_pick ["_law_deck_here", "_law_some"]) (C__law_take : Cal P w K mg base 2 "_law_take" ["_law_deck_here", "_law_many"] M__law_take) : Cal P w K mg base 3 "_law_pick" ["_law_deck_here", "_law_some"] M__law_pick :=
  have sc := sc__law_pick
  cal (N := ["_law_deck_here", "_law_some"]) (k := 2) (mb := B__law_pick) D sc fun f cdv A outer s H E z hr gu =>
    (ss_one (s_ret (d_ix (ed (d_var 1)) (bw (d_cal C__law_take (hr.mono (by decide)) gu (by rfl) (n_k 0 (n_d (d_callB call_len l_len (by rfl) T.b_len (by decide +kernel) (ab_cons (bw (d_var 1)) ab_nil)) n_nil)) (n_lenK (n_lenD n_len0)))))))
abbrev s__law_names : Stmt := topS 9
theorem sc__law_names : FnScope ["_law_deck_here", "_law_many", "_law_letters", "_law_stem", "_law_cut", "_law_begin", "_law_found", "_law_turn", "_law_name"] ["_law_deck_here", "_law_many"] (defScope s__law_names) := ⟨rfl, rfl, rfl, by decide +kernel, rfl, by decide +kernel, by decide +kernel⟩
def B__law_names : MS := (mSeq (mSet 2 (mC (PyData.str "abcdefghijklmnopqrstuvwxyz")))
  (mSeq (mSet 3 (mJoin (mC (PyData.str "")) (mL (mLc [7] (mRng1 (mCf M__law_pick (mAk 0 (mAd (mL (mLst (mCons (mC (PyData.int (0))) (mCons (mC (PyData.int (1))) (mCons (mC (PyData.int (2))) (mCons (mC (PyData.int (4))) mNil)))))) mN0)))) (gtName 7) mYes (mCf M__law_pick (mAk 0 (mAd (mVar 2) mN0)))))))
  (mSeq (mSet 4 (mCf M__law_take (mAk 0 (mAd (mBin gAdd (mCall gLen (mCons (mVar 3) mNil)) (mC (PyData.int (1)))) mN0))))
  (mSeq (mSet 5 (mCf M__law_take (mAk 0 (mAd (mC (PyData.int (26))) mN0))))
  (mSeq (mSetF 6 (mLst mNil))
  (mSeq (mFor (mRng1 (mVar 1)) (gtName 7) (mSeq (mSet 8 (mBin gAddS (mBin gAddS (mSl gSlS (mVar 3) mP0 (mP (mVar 4))) (mBin ixD (mVar 2) (mBin gMod (mBin gAdd (mVar 5) (mBin gMul (mC (PyData.int (7))) (mVar 7))) (mC (PyData.int (26)))))) (mSl gSlS (mVar 3) (mP (mVar 4)) mP0)))
  (mApp 6 (mBin gAddS (mVar 8) (mBin gMulS (mC (PyData.str "e")) (mBin gAdd (mCf M__law_pick (mAk 0 (mAd (mL (mLst (mCons (mC (PyData.int (0))) (mCons (mC (PyData.int (0))) (mCons (mC (PyData.int (0))) (mCons (mC (PyData.int (3))) mNil)))))) mN0))) (mCall gInt (mCons (mBin (gIn false) (mVar 8) (mTup (mCons (mC (PyData.str "if")) (mCons (mC (PyData.str "and")) mNil)))) mNil))))))))
  (mRetV 6)))))))
def M__law_names : MF := mFun 9 B__law_names
theorem ok__law_names (T : Bt K mg) (D : Def K mg "_law_names" s__law_names ["_law_deck_here", "_law_many"]) (C__law_pick : Cal P w K mg base 3 "_law_pick" ["_law_deck_here", "_law_some"] M__law_pick) (C__law_take : Cal P w K mg base 2 "_law_take" ["_law_deck_here", "_law_many"] M__law_take) : Cal P w K mg base 4 "_law_names" ["_law_deck_here", "_law_many"] M__law_names :=
  have sc := sc__law_names
  cal (N := ["_law_deck_here", "_law_many", "_law_letters", "_law_stem", "_law_cut", "_law_begin", "_law_found", "_law_turn", "_law_name"]) (k := 3) (mb := B__law_names) D sc fun f cdv A outer s H E z hr gu =>
    (ss_cons (s_set 2 sc.nd d_str)
    (ss_cons (s_set 3 sc.nd (d_join (bw d_str) (bw (fz (f_lc rfl sc.nd (ie_of (i_rng1 (by rfl) T.b_range (bw (d_cal C__law_pick (hr.mono (by decide)) gu (by rfl) (n_k 0 (n_d (fz (f_lst (a_cons d_int (a_cons d_int (a_cons d_int (a_cons d_int a_nil)))))) n_nil)) (n_lenK (n_lenD n_len0)))))) (blkOk_by (own := [("_law_turn", 7)]) (N := ["_law_deck_here", "_law_many", "_law_letters", "_law_stem", "_law_cut", "_law_begin", "_law_found", "_law_turn", "_law_name"]) (sc := defScope s__law_names) (by decide +kernel)) (fun _ _ _ _ _ => (g_name 7 sc.nd)) (fun _ _ _ _ _ => qs_nil) (fun _ _ _ _ _ => (d_cal C__law_pick (hr.mono (by decide)) gu (by rfl) (n_k 0 (n_d (d_var 2) n_nil)) (n_lenK (n_lenD n_len0)))))))))
    (ss_cons (s_set 4 sc.nd (d_cal C__law_take (hr.mono (by decide)) gu (by rfl) (n_k 0 (n_d (d_op op_add l_add (bw (d_callB call_len l_len (by rfl) T.b_len (by decide +kernel) (ab_cons (bw (d_var 3)) ab_nil))) (bw d_int)) n_nil)) (n_lenK (n_lenD n_len0))))
    (ss_cons (s_set 5 sc.nd (d_cal C__law_take (hr.mono (by decide)) gu (by rfl) (n_k 0 (n_d d_int n_nil)) (n_lenK (n_lenD n_len0))))
    (ss_cons (s_setF 6 sc.nd (f_lst a_nil))
    (ss_cons (s_for PassesOwn.never rfl (i_rng1 (by rfl) T.b_range (bw (d_var 1))) (g_name 7 sc.nd) (ss_cons (s_set 8 sc.nd (d_op op_add_str l_addS (bw (d_op op_add_str l_addS (bw (d_sliceS (bw (d_var 3)) p_none (p_some (bw (d_var 4))))) (bw (d_ix (ed (d_var 2)) (bw (d_op op_mod l_mod (bw (d_op op_add l_add (bw (d_var 5)) (bw (d_op op_mul l_mul (bw d_int) (bw (d_var 7)))))) (bw d_int))))))) (bw (d_sliceS (bw (d_var 3)) (p_some (bw (d_var 4))) p_none))))
    (ss_one (s_app 6 (pe_bm PySem.F.plainAttrs_list PySem.F.slot_list_append PySem.F.type_list_append mt_append (pv 6) (pa_cons (d_op op_add_str l_addS (bw (d_var 8)) (bw (d_op op_mulS l_mulS (bw d_str) (bw (d_op op_add l_add (bw (d_cal C__law_pick (hr.mono (by decide)) gu (by rfl) (n_k 0 (n_d (fz (f_lst (a_cons d_int (a_cons d_int (a_cons d_int (a_cons d_int a_nil)))))) n_nil)) (n_lenK (n_lenD n_len0)))) (bw (d_callTy call_int1 l_int (by rfl) T.b_int (by decide +kernel) (ab_cons (bw (d_cmp (op_inA (room65 hr)) l_in (bw (d_var 8)) (bw (d_tup (a_cons d_str (a_cons d_str a_nil)))) rfl)) ab_nil)))))))) pa_nil))))))
    (ss_one (s_retV 6))))))))
abbrev s__law_words : Stmt := topS 10
theorem sc__law_words : FnScope ["_law_deck_here", "_law_names_here"] ["_law_deck_here"] (defScope s__law_words) := ⟨rfl, rfl, rfl, by decide +kernel, rfl, by decide +kernel, by decide +kernel⟩
def B__law_words : MS := (mSeq (mSet 1 (mCf M__law_names (mAk 0 (mAd (mC (PyData.int (8))) mN0))))
  (mSeq (mIf (mQ (mBin gEq (mCf M__law_take (mAk 0 (mAd (mC (PyData.int (3))) mN0))) (mC (PyData.int (0))))) (mRet (mL (mLst (mCons (mL (mSlF (mVar 1) mP0 (mP (mC (PyData.int (3)))))) (mCons (mL (mLst (mCons (mBin ixD (mVar 1) (mC (PyData.int (0)))) (mCons (mBin ixD (mVar 1) (mC (PyData.int (4)))) mNil)))) (mCons (mL (mLst (mCons (mBin ixD (mVar 1) (mC (PyData.int (0)))) (mCons (mBin ixD (mVar 1) (mC (PyData.int (6)))) (mCons (mBin ixD (mVar 1) (mC (PyData.int (7)))) mNil))))) mNil)))))) mNext)
  (mRet (mL (mLst (mCons (mL (mSlF (mVar 1) mP0 (mP (mC (PyData.int (3)))))) (mCons (mL (mSlF (mVar 1) (mP (mC (PyData.int (3)))) (mP (mC (PyData.int (5)))))) (mCons (mL (mSlF (mVar 1) (mP (mC (PyData.int (5)))) mP0)) mNil))))))))
def M__law_words : MF := mFun 2 B__law_words
theorem ok__law_words (T : Bt K mg) (D : Def K mg "_law_words" s__law_words ["_law_deck_here"]) (C__law_names : Cal P w K mg base 4 "_law_names" ["_law_deck_here", "_law_many"] M__law_names) (C__law_take : Cal P w K mg base 2 "_law_take" ["_law_deck_here", "_law_many"] M__law_take) : Cal P w K mg base 5 "_law_words" ["_law_deck_here"] M__law_words :=
  have sc := sc__law_words
  cal (N := ["_law_deck_here", "_law_names_here"]) (k := 4) (mb := B__law_words) D sc fun f cdv A outer s H E z hr gu =>
    (ss_cons (s_set 1 sc.nd (d_cal C__law_names (hr.mono (by decide)) gu (by rfl) (n_k 0 (n_d d_int n_nil)) (n_lenK (n_lenD n_len0))))
    (ss_cons (s_if (q_cmp (op_eqD hr.units) l_eq (bw (d_cal C__law_take (hr.mono (by decide)) gu (by rfl) (n_k 0 (n_d d_int n_nil)) (n_lenK (n_lenD n_len0)))) (bw d_int) (nomark _)) (ss_one (s_ret (fz (f_lst (a_cons (fz (f_slice (ed (d_var 1)) p_none (p_some (bw d_int)))) (a_cons (fz (f_lst (a_cons (d_ix (ed (d_var 1)) (bw d_int)) (a_cons (d_ix (ed (d_var 1)) (bw d_int)) a_nil)))) (a_cons (fz (f_lst (a_cons (d_ix (ed (d_var 1)) (bw d_int)) (a_cons (d_ix (ed (d_var 1)) (bw d_int)) (a_cons (d_ix (ed (d_var 1)) (bw d_int)) a_nil))))) a_nil))))))) ss_nil)
    (ss_one (s_ret (fz (f_lst (a_cons (fz (f_slice (ed (d_var 1)) p_none (p_some (bw d_int)))) (a_cons (fz (f_slice (ed (d_var 1)) (p_some (bw d_int)) (p_some (bw d_int)))) (a_cons (fz (f_slice (ed (d_var 1)) (p_some (bw d_int)) p_none)) a_nil)))))))))
abbrev s__law_row : Stmt := topS 11
theorem sc__law_row : FnScope ["_law_deck_here", "_law_words_here"] ["_law_deck_here", "_law_words_here"] (defScope s__law_row) := ⟨rfl, rfl, rfl, by decide +kernel, rfl, by decide +kernel, by decide +kernel⟩
def B__law_row : MS := (mSeq (mIf (mQ (mBin gEq (mCf M__law_take (mAk 0 (mAd (mC (PyData.int (2))) mN0))) (mC (PyData.int (0))))) (mRet (mTup (mCons (mCf M__law_pick (mAk 0 (mAd (mBin ixD (mVar 1) (mC (PyData.int (0)))) mN0))) (mCons (mCf M__law_pick (mAk 0 (mAd (mBin ixD (mVar 1) (mC (PyData.int (2)))) mN0))) mNil)))) mNext)
  (mRet (mTup (mCons (mCf M__law_pick (mAk 0 (mAd (mBin ixD (mVar 1) (mC (PyData.int (1)))) mN0))) (mCons (mCf M__law_pick (mAk 0 (mAd (mBin ixD (mVar 1) (mC (PyData.int (2)))) mN0))) (mCons (mCf M__law_pick (mAk 0 (mAd (mBin ixD (mVar 1) (mC (PyData.int (2)))) mN0))) mNil))))))
def M__law_row : MF := mFun 2 B__law_row
theorem ok__law_row (T : Bt K mg) (D : Def K mg "_law_row" s__law_row ["_law_deck_here", "_law_words_here"]) (C__law_pick : Cal P w K mg base 3 "_law_pick" ["_law_deck_here", "_law_some"] M__law_pick) (C__law_take : Cal P w K mg base 2 "_law_take" ["_law_deck_here", "_law_many"] M__law_take) : Cal P w K mg base 4 "_law_row" ["_law_deck_here", "_law_words_here"] M__law_row :=
  have sc := sc__law_row
  cal (N := ["_law_deck_here", "_law_words_here"]) (k := 3) (mb := B__law_row) D sc fun f cdv A outer s H E z hr gu =>
    (ss_cons (s_if (q_cmp (op_eqD hr.units) l_eq (bw (d_cal C__law_take (hr.mono (by decide)) gu (by rfl) (n_k 0 (n_d d_int n_nil)) (n_lenK (n_lenD n_len0)))) (bw d_int) (nomark _)) (ss_one (s_ret (d_tup (a_cons (d_cal C__law_pick (hr.mono (by decide)) gu (by rfl) (n_k 0 (n_d (d_ix (ed (d_var 1)) (bw d_int)) n_nil)) (n_lenK (n_lenD n_len0))) (a_cons (d_cal C__law_pick (hr.mono (by decide)) gu (by rfl) (n_k 0 (n_d (d_ix (ed (d_var 1)) (bw d_int)) n_nil)) (n_lenK (n_lenD n_len0))) a_nil))))) ss_nil)
    (ss_one (s_ret (d_tup (a_cons (d_cal C__law_pick (hr.mono (by decide)) gu (by rfl) (n_k 0 (n_d (d_ix (ed (d_var 1)) (bw d_int)) n_nil)) (n_lenK (n_lenD n_len0))) (a_cons (d_cal C__law_pick (hr.mono (by decide)) gu (by rfl) (n_k 0 (n_d (d_ix (ed (d_var 1)) (bw d_int)) n_nil)) (n_lenK (n_lenD n_len0))) (a_cons (d_cal C__law_pick (hr.mono (by decide)) gu (by rfl) (n_k 0 (n_d (d_ix (ed (d_var 1)) (bw d_int)) n_nil)) (n_lenK (n_lenD n_len0))) a_nil)))))))
abbrev s__law_rows : Stmt := topS 12
theorem sc__law_rows : FnScope ["_law_deck_here", "_law_words_here", "_law_many", "_law_found", "_law_turn", "_law_row_here"] ["_law_deck_here", "_law_words_here", "_law_many"] (defScope s__law_rows) := ⟨rfl, rfl, rfl, by decide +kernel, rfl, by decide +kernel, by decide +kernel⟩
def B__law_rows : MS := (mSeq (mSetF 3 (mLst mNil))
  (mSeq (mFor (mRng1 (mVar 2)) (gtName 4) (mSeq (mSet 5 (mCf M__law_row (mAk 0 (mAd (mVar 1) mN0))))
  (mIf (mQ (mBin (gIn true) (mVar 5) (mVarB 3))) (mApp 3 (mVar 5)) mNext)))
  (mRet (mTupOf (mL (mSortL (mVarB 3)))))))
def M__law_rows : MF := mFun 6 B__law_rows
theorem ok__law_rows (T : Bt K mg) (D : Def K mg "_law_rows" s__law_rows ["_law_deck_here", "_law_words_here", "_law_many"]) (C__law_row : Cal P w K mg base 4 "_law_row" ["_law_deck_here", "_law_words_here"] M__law_row) : Cal P w K mg base 5 "_law_rows" ["_law_deck_here", "_law_words_here", "_law_many"] M__law_rows :=
  have sc := sc__law_rows
  cal (N := ["_law_deck_here", "_law_words_here", "_law_many", "_law_found", "_law_turn", "_law_row_here"]) (k := 4) (mb := B__law_rows) D sc fun f cdv A outer s H E z hr gu =>
    (ss_cons (s_setF 3 sc.nd (f_lst a_nil))
    (ss_cons (s_for PassesOwn.never rfl (i_rng1 (by rfl) T.b_range (bw (d_var 2))) (g_name 4 sc.nd) (ss_cons (s_set 5 sc.nd (d_cal C__law_row (hr.mono (by decide)) gu (by rfl) (n_k 0 (n_d (d_var 1) n_nil)) (n_lenK (n_lenD n_len0))))
    (ss_one (s_if (q_cmp (op_notInA (room65 hr)) l_in (bw (d_var 5)) (be (e_var 3)) rfl) (ss_one (s_app 3 (pe_bm PySem.F.plainAttrs_list PySem.F.slot_list_append PySem.F.type_list_append mt_append (pv 3) (pa_cons (d_var 5) pa_nil)))) ss_nil))))
    (ss_one (s_ret (d_tupOf (by rfl) T.b_tuple (ed (fz (f_sortL hr.units (by rfl) T.b_sorted (e_var 3)))))))))
abbrev s__law_sorts : Stmt := topS 13
theorem sc__law_sorts : FnScope ["_law_mine", "_law_one", "_law_found", "_law_row_here", "_law_place"] ["_law_mine", "_law_one"] (defScope s__law_sorts) := ⟨rfl, rfl, rfl, by decide +kernel, rfl, by decide +kernel, by decide +kernel⟩
def B__law_sorts : MS := (mSeq (mSetF 2 (mLst mNil))
  (mSeq (mFor (mIt (mVar 0)) (gtName 3) (mFor (mRng2 (mC (PyData.int (1))) (mCall gLen (mCons (mVar 3) mNil))) (gtName 4) (mIf (mAnd (mQ (mBin gEq (mBin ixD (mVar 3) (mVar 4)) (mVar 1))) (mQ (mBin gEq (mCall gLen (mCons (mVar 3) mNil)) (mC (PyData.int (2)))))) (mApp 2 (mTup (mCons (mBin ixD (mVar 3) (mC (PyData.int (0)))) mNil))) (mIf (mQ (mBin gEq (mBin ixD (mVar 3) (mVar 4)) (mVar 1))) (mApp 2 (mTup (mCons (mBin ixD (mVar 3) (mC (PyData.int (0)))) (mCons (mBin gSub (mVar 4) (mC (PyData.int (1)))) mNil)))) mNext))))
  (mRet (mTupOf (mL (mSortSet (mVarB 2)))))))
def M__law_sorts : MF := mFun 5 B__law_sorts
theorem ok__law_sorts (T : Bt K mg) (D : Def K mg "_law_sorts" s__law_sorts ["_law_mine", "_law_one"])  : Cal P w K mg base 1 "_law_sorts" ["_law_mine", "_law_one"] M__law_sorts :=
  have sc := sc__law_sorts
  cal (N := ["_law_mine", "_law_one", "_law_found", "_law_row_here", "_law_place"]) (k := 0) (mb := B__law_sorts) D sc fun f cdv A outer s H E z hr gu =>
    (ss_cons (s_setF 2 sc.nd (f_lst a_nil))
    (ss_cons (s_for PassesOwn.never rfl (i_seq (d_var 0)) (g_name 3 sc.nd) (ss_one (s_for PassesOwn.never rfl (i_rng2 (by rfl) T.b_range (bw d_int) (bw (d_callB call_len l_len (by rfl) T.b_len (by decide +kernel) (ab_cons (bw (d_var 3)) ab_nil)))) (g_name 4 sc.nd) (ss_one (s_if (q_and (q_cmp (op_eqD hr.units) l_eq (bw (d_ix (ed (d_var 3)) (bw (d_var 4)))) (bw (d_var 1)) (nomark _)) (q_and1 (q_cmp (op_eqD hr.units) l_eq (bw (d_callB call_len l_len (by rfl) T.b_len (by decide +kernel) (ab_cons (bw (d_var 3)) ab_nil))) (bw d_int) (nomark _)))).pt (ss_one (s_app 2 (pe_bm PySem.F.plainAttrs_list PySem.F.slot_list_append PySem.F.type_list_append mt_append (pv 2) (pa_cons (d_tup (a_cons (d_ix (ed (d_var 3)) (bw d_int)) a_nil)) pa_nil)))) (ss_one (s_if (q_cmp (op_eqD hr.units) l_eq (bw (d_ix (ed (d_var 3)) (bw (d_var 4)))) (bw (d_var 1)) (nomark _)) (ss_one (s_app 2 (pe_bm PySem.F.plainAttrs_list PySem.F.slot_list_append PySem.F.type_list_append mt_append (pv 2) (pa_cons (d_tup (a_cons (d_ix (ed (d_var 3)) (bw d_int)) (a_cons (d_op op_sub l_sub (bw (d_var 4)) (bw d_int)) a_nil))) pa_nil)))) ss_nil)))))))
    (ss_one (s_ret (d_tupOf (by rfl) T.b_tuple (ed (fz (f_sortSet rfl hr.units (by rfl) T.b_sorted (by rfl) T.b_set (e_var 2)))))))))
abbrev s__law_things : Stmt := topS 14
theorem sc__law_things : FnScope ["_law_mine", "_law_found", "_law_row_here", "_law_one"] ["_law_mine"] (defScope s__law_things) := ⟨rfl, rfl, rfl, by decide +kernel, rfl, by decide +kernel, by decide +kernel⟩
def B__law_things : MS := (mSeq (mSetF 1 (mLst mNil))
  (mSeq (mFor (mIt (mVar 0)) (gtName 2) (mSetF 1 (mCatV 1 (mLc [3] (mIt (mSl gSlT (mVar 2) (mP (mC (PyData.int (1)))) mP0)) (gtName 3) (mQ (mBin (gIn true) (mVar 3) (mVarB 1))) (mVar 3)))))
  (mRet (mTupOf (mL (mSortTx (mVarB 1)))))))
def M__law_things : MF := mFun 4 B__law_things
theorem ok__law_things (T : Bt K mg) (D : Def K mg "_law_things" s__law_things ["_law_mine"])  : Cal P w K mg base 1 "_law_things" ["_law_mine"] M__law_things :=
  have sc := sc__law_things
  cal (N := ["_law_mine", "_law_found", "_law_row_here", "_law_one"]) (k := 0) (mb := B__law_things) D sc fun f cdv A outer s H E z hr gu =>
    (ss_cons (s_setF 1 sc.nd (f_lst a_nil))
    (ss_cons (s_for PassesOwn.never rfl (i_seq (d_var 0)) (g_name 2 sc.nd) (ss_one (s_setF 1 sc.nd (f_catV 1 (f_lc rfl sc.nd (i_seqE (ed (d_sliceT (d_var 2) (p_some (bw d_int)) p_none))) (blkOk_by (own := [("_law_one", 3)]) (N := ["_law_mine", "_law_found", "_law_row_here", "_law_one"]) (sc := defScope s__law_things) (by decide +kernel)) (fun _ _ _ _ _ => (g_name 3 sc.nd)) (fun _ _ _ _ _ => (qs_one (q_cmp (op_notInA (room65 hr)) l_in (bw (d_var 3)) (be (e_var 1)) rfl))) (fun _ _ _ _ _ => (d_var 3)))))))
    (ss_one (s_ret (d_tupOf (by rfl) T.b_tuple (ed (fz (f_sortTx rfl hr.units (by rfl) T.b_sorted (by rfl) T.b_set (e_var 1)))))))))
abbrev s__law_is_right : Stmt := topS 15
theorem sc__law_is_right : FnScope ["_law_mine", "_law_some", "_law_one", "_law_due"] ["_law_mine", "_law_some"] (defScope s__law_is_right) := ⟨rfl, rfl, rfl, by decide +kernel, rfl, by decide +kernel, by decide +kernel⟩
def B__law_is_right : MS := (mSeq (mIf (mQ (mBin (gS fun i j => .bool (!(i == j))) (mCall gRepr (mCons (mCf M_things_of (mAd (mVar 0) mN0)) mNil)) (mCall gRepr (mCons (mCf M__law_things (mAd (mVar 0) mN0)) mNil)))) (mRet (mC (PyData.bool false))) mNext)
  (mSeq (mFor (mIt (mVar 1)) (gtName 2) (mSeq (mSet 3 (mCall gRepr (mCons (mCf M__law_sorts (mAd (mVar 0) (mAd (mVar 2) mN0))) mNil)))
  (mIf (mOr (mQ (mBin (gS fun i j => .bool (!(i == j))) (mCall gRepr (mCons (mCf M_sorts_of (mAd (mVar 0) (mAd (mVar 2) mN0))) mNil)) (mVar 3))) (mQ (mBin (gS fun i j => .bool (!(i == j))) (mCall gRepr (mCons (mCfK M_sorts_of [1, 0] (mAd (mVar 2) (mAd (mVar 0) mN0))) mNil)) (mVar 3)))) (mRet (mC (PyData.bool false))) mNext)))
  (mRet (mC (PyData.bool true)))))
def M__law_is_right : MF := mFun 4 B__law_is_right
theorem ok__law_is_right (T : Bt K mg) (D : Def K mg "_law_is_right" s__law_is_right ["_law_mine", "_law_some"]) (C__law_sorts : Cal P w K mg base 1 "_law_sorts" ["_law_mine", "_law_one"] M__law_sorts) (C__law_things : Cal P w K mg base 1 "_law_things" ["_law_mine"] M__law_things) (C_sorts_of : Cal P w K mg base 2 "sorts_of" ["rows", "thing"] M_sorts_of) (C_sorts_of_kw : CalKw P w K mg base 2 "sorts_of" ["rows", "thing"] ["thing", "rows"] [1, 0] M_sorts_of) (C_things_of : Cal P w K mg base 1 "things_of" ["rows"] M_things_of) : Cal P w K mg base 3 "_law_is_right" ["_law_mine", "_law_some"] M__law_is_right :=
  have sc := sc__law_is_right
  cal (N := ["_law_mine", "_law_some", "_law_one", "_law_due"]) (k := 2) (mb := B__law_is_right) D sc fun f cdv A outer s H E z hr gu =>
    (ss_cons (s_if (q_cmp op_ne l_neS (bw (d_callB (call_reprD gu hr.units) l_repr (by rfl) T.b_repr (by decide +kernel) (ab_cons (bw (d_cal C_things_of (hr.mono (by decide)) gu (by rfl) (n_d (d_var 0) n_nil) (n_lenD n_len0))) ab_nil))) (bw (d_callB (call_reprD gu hr.units) l_repr (by rfl) T.b_repr (by decide +kernel) (ab_cons (bw (d_cal C__law_things (hr.mono (by decide)) gu (by rfl) (n_d (d_var 0) n_nil) (n_lenD n_len0))) ab_nil))) (nomark _)) (ss_one (s_ret d_bl)) ss_nil)
    (ss_cons (s_for PassesOwn.never rfl (i_seq (d_var 1)) (g_name 2 sc.nd) (ss_cons (s_set 3 sc.nd (d_callB (call_reprD gu hr.units) l_repr (by rfl) T.b_repr (by decide +kernel) (ab_cons (bw (d_cal C__law_sorts (hr.mono (by decide)) gu (by rfl) (n_d (d_var 0) (n_d (d_var 2) n_nil)) (n_lenD (n_lenD n_len0)))) ab_nil)))
    (ss_one (s_if (q_or (q_cmp op_ne l_neS (bw (d_callB (call_reprD gu hr.units) l_repr (by rfl) T.b_repr (by decide +kernel) (ab_cons (bw (d_cal C_sorts_of (hr.mono (by decide)) gu (by rfl) (n_d (d_var 0) (n_d (d_var 2) n_nil)) (n_lenD (n_lenD n_len0)))) ab_nil))) (bw (d_var 3)) (nomark _)) (q_or1 (q_cmp op_ne l_neS (bw (d_callB (call_reprD gu hr.units) l_repr (by rfl) T.b_repr (by decide +kernel) (ab_cons (bw (d_calKw C_sorts_of_kw (hr.mono (by decide)) gu (by rfl) (w_d (d_var 2) (w_d (d_var 0) w_nil)) (n_lenD (n_lenD n_len0)) ⟨rfl, by decide⟩)) ab_nil))) (bw (d_var 3)) (nomark _)))).pt (ss_one (s_ret d_bl)) ss_nil))))
    (ss_one (s_ret d_bl))))
abbrev s__law_deck : Stmt := topS 6
theorem sc__law_deck : FnScope ["_law_script", "_law_cells", "_law_cell_here"] ["_law_script"] (defScope s__law_deck) := ⟨rfl, rfl, rfl, by decide +kernel, rfl, by decide +kernel, by decide +kernel⟩
def S__law_deck : MS := (mSetF 1 (mListOf (mL (mSlF (mVar 0) mP0 (mP (mC (PyData.int (63))))))))
def R__law_deck : MKd := mKd 1 (mLc [2] (mIt (mVarB 1)) (gtName 2) (mQ (mBin gGe (mCall gAbs (mCons (mVar 2) mNil)) (mBin gPow (mC (PyData.int (10))) (mC (PyData.int (18)))))) (mCall gAbs (mCons (mVar 2) mNil)))
def M__law_deck : List Sl → Dk → Option (List Int × List Int) := mFunK 3 S__law_deck R__law_deck
theorem ok__law_deck (T : Bt K mg) (D : Def K mg "_law_deck" s__law_deck ["_law_script"]) : CalK P w K mg base 1 "_law_deck" ["_law_script"] M__law_deck :=
  have sc := sc__law_deck
  calK (N := ["_law_script", "_law_cells", "_law_cell_here"]) (k := 0) (s1 := S__law_deck) (m := R__law_deck) D sc rfl (fun f cdv A outer s H E z hr gu => (s_setF 1 sc.nd (f_list (by rfl) T.b_list (ed (fz (f_slice (ed (d_var 0)) p_none (p_some (bw d_int))))))))
    (fun f cdv A outer s H E z hr gu => (s_retK 1 (f_lc rfl sc.nd (i_seqE (e_var 1)) (blkOk_by (own := [("_law_cell_here", 2)]) (N := ["_law_script", "_law_cells", "_law_cell_here"]) (sc := defScope s__law_deck) (by decide +kernel)) (fun _ _ _ _ _ => (g_name 2 sc.nd)) (fun _ _ _ _ _ => (qs_one (q_cmp op_ge l_ge (bw (d_callB call_abs l_abs (by rfl) T.b_abs (by decide +kernel) (ab_cons (bw (d_var 2)) ab_nil))) (bw (d_op op_pow l_pow (bw d_int) (bw d_int))) (nomark _)))) (fun _ _ _ _ _ => (d_callB call_abs l_abs (by rfl) T.b_abs (by decide +kernel) (ab_cons (bw (d_var 2)) ab_nil))))))
abbrev s_law : Stmt := topS 16
theorem sc_law : FnScope ["_law_script", "_law_deck_here", "_law_words_here", "_law_mine", "_law_some", "_law_at"] ["_law_script"] (defScope s_law) := ⟨rfl, rfl, rfl, by decide +kernel, rfl, by decide +kernel, by decide +kernel⟩
def B_law : MS := (mSeq (mSet 2 (mCf M__law_words (mAk 1 mN0)))
  (mSeq (mSet 3 (mCf M__law_rows (mAk 1 (mAd (mVar 2) (mAd (mCf M__law_pick (mAk 1 (mAd (mL (mLst (mCons (mC (PyData.int (0))) (mCons (mC (PyData.int (1))) (mCons (mC (PyData.int (3))) (mCons (mC (PyData.int (7))) (mCons (mC (PyData.int (13))) mNil))))))) mN0))) mN0)))))
  (mSeq (mSet 4 (mL (mCatE (mBin ixD (mVar 2) (mC (PyData.int (2)))) (mLst (mCons (mC (PyData.str "nowhere")) (mCons (mC (PyData.str "zzz")) mNil))))))
  (mSeq (mSet 5 (mCf M__law_take (mAk 1 (mAd (mBin gAdd (mCall gLen (mCons (mVar 3) mNil)) (mC (PyData.int (1)))) mN0))))
  (mSeq (mIf (mOr (mNot (mQ (mCf M__law_is_right (mAd (mVar 3) (mAd (mVar 4) mN0))))) (mNot (mQ (mCf M__law_is_right (mAd (mSl gSlT (mVar 3) mP0 (mP (mVar 5))) (mAd (mVar 4) mN0)))))) (mRet (mC (PyData.bool false))) mNext)
  (mRet (mAndV (mCf M__law_is_right (mAd (mSl gSlT (mVar 3) (mP (mVar 5)) mP0) (mAd (mVar 4) mN0))) (mCf M__law_is_right (mAd (mVar 3) (mAd (mL (mRevL (mVar 4))) mN0))))))))))
theorem der_law (T : Bt K mg) (C__law_deck : CalK P w K mg base 1 "_law_deck" ["_law_script"] M__law_deck) (C__law_is_right : Cal P w K mg base 3 "_law_is_right" ["_law_mine", "_law_some"] M__law_is_right) (C__law_pick : Cal P w K mg base 3 "_law_pick" ["_law_deck_here", "_law_some"] M__law_pick) (C__law_rows : Cal P w K mg base 5 "_law_rows" ["_law_deck_here", "_law_words_here", "_law_many"] M__law_rows) (C__law_take : Cal P w K mg base 2 "_law_take" ["_law_deck_here", "_law_many"] M__law_take) (C__law_words : Cal P w K mg base 5 "_law_words" ["_law_deck_here"] M__law_words) (cdv : Value) (A : Around) (outer : List Env) (s : Shared) (H : Hp) (E : XK) {f : Addr} (hr : Room 5 (A.deeper (envOfC "law" (defScope s_law) s.heap.objs.size f cdv))) (gu : A.guards = some []) :
    PSs (cxOf CX0 P w K mg base ["_law_script", "_law_deck_here", "_law_words_here", "_law_mine", "_law_some", "_law_at"] "law" (defScope s_law) f cdv A outer s H E).nox (defBody s_law) (tLaw 1 K (mVar 0) M__law_deck B_law) :=
  have sc := sc_law
  law_deck 1 sc.nd C__law_deck (hr.mono (by decide)) gu (by rfl) (fun z => d_var 0) (fun z =>
    (ss_cons (s_set 2 sc.nd (d_cal C__law_words (hr.mono (by decide)) gu (by rfl) (n_k 1 n_nil) (n_lenK n_len0)))
    (ss_cons (s_set 3 sc.nd (d_cal C__law_rows (hr.mono (by decide)) gu (by rfl) (n_k 1 (n_d (d_var 2) (n_d (d_cal C__law_pick (hr.mono (by decide)) gu (by rfl) (n_k 1 (n_d (fz (f_lst (a_cons d_int (a_cons d_int (a_cons d_int (a_cons d_int (a_cons d_int a_nil))))))) n_nil)) (n_lenK (n_lenD n_len0))) n_nil))) (n_lenK (n_lenD (n_lenD n_len0)))))
    (ss_cons (s_set 4 sc.nd (fz (f_catE (d_ix (ed (d_var 2)) (bw d_int)) (f_lst (a_cons d_str (a_cons d_str a_nil))))))
    (ss_cons (s_set 5 sc.nd (d_cal C__law_take (hr.mono (by decide)) gu (by rfl) (n_k 1 (n_d (d_op op_add l_add (bw (d_callB call_len l_len (by rfl) T.b_len (by decide +kernel) (ab_cons (bw (d_var 3)) ab_nil))) (bw d_int)) n_nil)) (n_lenK (n_lenD n_len0))))
    (ss_cons (s_if (q_or (q_not (q_val (d_cal C__law_is_right (hr.mono (by decide)) gu (by rfl) (n_d (d_var 3) (n_d (d_var 4) n_nil)) (n_lenD (n_lenD n_len0))))) (q_or1 (q_not (q_val (d_cal C__law_is_right (hr.mono (by decide)) gu (by rfl) (n_d (d_sliceT (d_var 3) p_none (p_some (bw (d_var 5)))) (n_d (d_var 4) n_nil)) (n_lenD (n_lenD n_len0))))))).pt (ss_one (s_ret d_bl)) ss_nil)
    (ss_one (s_ret (d_and (d_cal C__law_is_right (hr.mono (by decide)) gu (by rfl) (n_d (d_sliceT (d_var 3) (p_some (bw (d_var 5))) p_none) (n_d (d_var 4) n_nil)) (n_lenD (n_lenD n_len0))) (d_one (d_cal C__law_is_right (hr.mono (by decide)) gu (by rfl) (n_d (d_var 3) (n_d (fz (f_revL (ed (d_var 4)))) n_nil)) (n_lenD (n_lenD n_len0)))))))))))))
end
end K04

-- LQVA
set_option Elab.async false
set_option linter.all false
set_option maxRecDepth 100000
set_option maxHeartbeats 2000000
namespace K04
open PySem PySem.Spec PyProof.Rows L2 LQ
open PySem.W (alike alikeAll AllAlike)
theorem e_take : M__law_take = V__law_take := rfl
theorem e_pick : M__law_pick = V__law_pick := rfl
theorem e_deck : M__law_deck = V__law_deck := rfl
theorem e_words : M__law_words = VA__law_words := rfl
/-- a row as it is drawn -/
def Rw (d : PyData) : Prop := (∃ s x, d = .tuple [.str s, .str x] ∧ Tx 40 s ∧ Tx 40 x) ∨ ∃ s x y, d = .tuple [.str s, .str x, .str y] ∧ Tx 40 s ∧ Tx 40 x ∧ Tx 40 y
def pt : PyData → List Str
  | .tuple [_, .str x] => [x]
  | .tuple [_, .str x, .str y] => [x, y]
  | _ => []
def sq (th : Str) : PyData → List PyData
  | .tuple [s, .str x] => if (x == th) = true then [.tuple [s]] else []
  | .tuple [s, .str x, .str y] => (if (x == th) = true then [.tuple [s, .int 0]] else []) ++ (if (y == th) = true then [.tuple [s, .int 1]] else [])
  | _ => []
theorem pt_len (d : PyData) : (pt d).length ≤ 2 := by
  unfold pt
  split <;> simp
theorem sq_len (th : Str) (d : PyData) : (sq th d).length ≤ 2 := by
  unfold sq
  split
  · split <;> simp
  · split <;> split <;> simp
  · simp
theorem flat_len {f : PyData → List Str} (h : ∀ d, (f d).length ≤ 2) : ∀ rs : List PyData, (rs.flatMap f).length ≤ 2 * rs.length
  | [] => by simp
  | r :: rs => by
    have := h r
    have := flat_len h rs
    simp only [List.flatMap_cons, List.length_append, List.length_cons]
    omega
theorem flat_len' {f : PyData → List PyData} (h : ∀ d, (f d).length ≤ 2) : ∀ rs : List PyData, (rs.flatMap f).length ≤ 2 * rs.length
  | [] => by simp
  | r :: rs => by
    have := h r
    have := flat_len' h rs
    simp only [List.flatMap_cons, List.length_append, List.length_cons]
    omega
theorem eq_sv {s t : Str} (hs : Tx 40 s) (ht : Tx 40 t) : gEq (.str s) (.str t) = some (.bool (s == t)) := by
  rw [eq_sh (.str hs) (.str ht) (by decide) (by decide)]
  simp only [PyData.eqv]
/-! ### what stands in rows -/
theorem things_loop (x0 : PyData) (T : Dk) : ∀ (rs : List PyData), (∀ r ∈ rs, Rw r) → mLoop2 (gtName 1) mYes [2] (mIt (mSl gSlT (mVar 1) (mP (mC (PyData.int (1)))) mP0)) (gtName 2) mYes (mVar 2) [some (.dat (x0)), none, none] rs T = some ((rs.flatMap pt).map PyData.str, T)
  | [], _ => rfl
  | r :: rs, h => by
    have ih := things_loop x0 T rs fun q hq => h q (List.mem_cons_of_mem _ hq)
    unfold mLoop2
    rcases h r List.mem_cons_self with ⟨s, x, rfl, _⟩ | ⟨s, x, y, rfl, _⟩
    · have e : mLoop (gtName 2) mYes (mVar 2) (wipeE [some (.dat (x0)), some (.dat (.tuple [.str s, .str x])), none] [2]) [.str x] T = some ([.str x], T) := rfl
      have i : (mIt (mSl gSlT (mVar 1) (mP (mC (PyData.int (1)))) mP0)) [some (.dat (x0)), some (.dat (.tuple [.str s, .str x])), none] T = some ([.str x], T) := rfl
      have g : gtName 1 (.tuple [.str s, .str x]) [some (.dat (x0)), none, none] = some [some (.dat (x0)), some (.dat (.tuple [.str s, .str x])), none] := rfl
      rw [g]
      simp only [Option.bind_some, mYes, if_true, i, e, ih, Option.map_some]
      simp [pt]
    · have e : mLoop (gtName 2) mYes (mVar 2) (wipeE [some (.dat (x0)), some (.dat (.tuple [.str s, .str x, .str y])), none] [2]) [.str x, .str y] T = some ([.str x, .str y], T) := rfl
      have i : (mIt (mSl gSlT (mVar 1) (mP (mC (PyData.int (1)))) mP0)) [some (.dat (x0)), some (.dat (.tuple [.str s, .str x, .str y])), none] T = some ([.str x, .str y], T) := rfl
      have g : gtName 1 (.tuple [.str s, .str x, .str y]) [some (.dat (x0)), none, none] = some [some (.dat (x0)), some (.dat (.tuple [.str s, .str x, .str y])), none] := rfl
      rw [g]
      simp only [Option.bind_some, mYes, if_true, i, e, ih, Option.map_some]
      simp [pt]
theorem strsOf_map : ∀ ys : List Str, strsOf (ys.map PyData.str) = some ys
  | [] => rfl
  | y :: ys => by simp only [List.map_cons, strsOf, strsOf_map ys, Option.map_some]
theorem gSortTx_val {ys : List Str} (h : ys.length < 64) : gSortTx (ys.map PyData.str) = some (sortD ((ddS ys).map PyData.str)) := by
  unfold gSortTx
  rw [strsOf_map]
  simp only
  rw [if_pos (by rw [List.length_map]; exact h)]
def thingsD (rs : List PyData) : PyData := .tuple (sortD ((ddS (rs.flatMap pt)).map PyData.str))
theorem things_val {rs : List PyData} (h : ∀ r ∈ rs, Rw r) (hl : rs.length ≤ 13) (T : Dk) : M_things_of [.dat (.tuple rs)] T = some (thingsD rs, T) := by
  have hf := flat_len pt_len rs
  have e : (mSrtT (mLc2 [1, 2] (mIt (mVar 0)) (gtName 1) mYes [2] (mIt (mSl gSlT (mVar 1) (mP (mC (PyData.int (1)))) mP0)) (gtName 2) mYes (mVar 2))) [some (.dat (.tuple rs)), none, none] T = some (sortD ((ddS (rs.flatMap pt)).map PyData.str), T) := by
    have i : (mIt (mVar 0)) [some (.dat (.tuple rs)), none, none] T = some (rs, T) := rfl
    have w : wipeE [some (.dat (.tuple rs)), none, none] [1, 2] = [some (.dat (.tuple rs)), none, none] := rfl
    unfold mSrtT mLc2
    rw [i]
    simp only [Option.bind_some]
    rw [w, things_loop (.tuple rs) T rs h]
    simp only [Option.bind_some]
    rw [gSortTx_val (by omega)]
    rfl
  refine W_eq.mp (W_mFun ?_)
  unfold B_things_of
  rw [W_mRet, W_mTupOf, W_mL]
  exact W.of e ⟨_, rfl, _, _, rfl, rfl⟩
/-! ### the law's own -/
def stepT (fs : List Str) (r : PyData) : List Str := fs ++ (pt r).filter fun x => !fs.contains x
theorem in_strs {x : Str} {fs : List Str} (hx : Tx 40 x) (hf : ∀ f ∈ fs, Tx 40 f) : gIn true (.str x) (.list (fs.map PyData.str)) = some (.bool (!fs.contains x)) := by
  rw [in_sh true (.str hx) (m := 0) (fun d hd => by
    obtain ⟨k, hk, rfl⟩ := List.mem_map.mp hd
    exact .str (hf k hk)) (by decide) (by decide)]
  congr 2
  rw [Bool.true_xor]
  congr 1
  rw [Bool.eq_iff_iff, List.any_eq_true, List.contains_iff_mem]
  constructor
  · rintro ⟨d, hd, e⟩
    obtain ⟨k, hk, rfl⟩ := List.mem_map.mp hd
    simp only [PyData.eqv, beq_iff_eq] at e
    rw [← e]; exact hk
  · intro hx
    exact ⟨.str x, List.mem_map.mpr ⟨x, hx, rfl⟩, by simp [PyData.eqv]⟩
theorem pt_tx {r : PyData} (h : Rw r) : ∀ x ∈ pt r, Tx 40 x := by
  rcases h with ⟨s, x, rfl, h1, h2⟩ | ⟨s, x, y, rfl, h1, h2, h3⟩
  · intro z hz; simp [pt] at hz; rw [hz]; exact h2
  · intro z hz
    simp [pt] at hz
    rcases hz with rfl | rfl
    · exact h2
    · exact h3
theorem tloop (x0 x2 : Option Sl) {fs : List Str} (hf : ∀ f ∈ fs, Tx 40 f) (T : Dk) : ∀ ys : List Str, (∀ y ∈ ys, Tx 40 y) → mLoop (gtName 3) (mQ (mBin (gIn true) (mVar 3) (mVarB 1))) (mVar 3) [x0, some (.own (fs.map PyData.str)), x2, none] (ys.map PyData.str) T = some ((ys.filter fun x => !fs.contains x).map PyData.str, T)
  | [], _ => rfl
  | y :: ys, h => by
    have ih := tloop x0 x2 hf T ys fun q hq => h q (List.mem_cons_of_mem _ hq)
    have g : gtName 3 (.str y) [x0, some (.own (fs.map PyData.str)), x2, none] = some [x0, some (.own (fs.map PyData.str)), x2, some (.dat (.str y))] := rfl
    have t : (mQ (mBin (gIn true) (mVar 3) (mVarB 1))) [x0, some (.own (fs.map PyData.str)), x2, some (.dat (.str y))] T = some (!fs.contains y, T) := by
      refine W_eq.mp ?_
      rw [W_mQ, W_mBin]
      refine W.of (r := (.str y, T)) rfl (W.of (r := (.list (fs.map PyData.str), T)) rfl (W.of (in_strs (h y List.mem_cons_self) hf) ⟨_, rfl, rfl⟩))
    have v : (mVar 3) [x0, some (.own (fs.map PyData.str)), x2, some (.dat (.str y))] T = some (.str y, T) := rfl
    simp only [List.map_cons]
    unfold mLoop
    rw [g]
    simp only [Option.bind_some, t, v, ih]
    cases hc : fs.contains y with
    | false =>
      rw [List.filter_cons_of_pos (by simp only [hc]; rfl)]
      rfl
    | true =>
      rw [List.filter_cons_of_neg (by simp only [hc]; decide)]
      rfl
theorem lthings_fold (T : Dk) (x0 : PyData) : ∀ (us : List PyData) (fs : List Str) (a2 a3 : Option Sl), (∀ r ∈ us, Rw r) → (∀ f ∈ fs, Tx 40 f) → fs.length + 2 * us.length ≤ 100 →
    ∃ b2 b3, mFold (gtName 2) (mSetF 1 (mCatV 1 (mLc [3] (mIt (mSl gSlT (mVar 2) (mP (mC (PyData.int (1)))) mP0)) (gtName 3) (mQ (mBin (gIn true) (mVar 3) (mVarB 1))) (mVar 3)))) us [some (.dat (x0)), some (.own (fs.map PyData.str)), a2, a3] T = some (.nx [some (.dat (x0)), some (.own ((us.foldl stepT fs).map PyData.str)), b2, b3] T)
  | [], fs, a2, a3, _, _, _ => ⟨a2, a3, rfl⟩
  | r :: us, fs, a2, a3, h, hf, hl => by
    have hr := h r List.mem_cons_self
    simp only [List.length_cons] at hl
    have hp := pt_len r
    have hfil : ((pt r).filter fun x => !fs.contains x).length ≤ 2 := Nat.le_trans (List.length_filter_le _ _) hp
    have hf' : ∀ f ∈ stepT fs r, Tx 40 f := fun f hm => by
      rcases List.mem_append.mp hm with h' | h'
      · exact hf f h'
      · exact pt_tx hr f (List.mem_filter.mp h').1
    have sl : (mIt (mSl gSlT (mVar 2) (mP (mC (PyData.int (1)))) mP0)) [some (.dat (x0)), some (.own (fs.map PyData.str)), some (.dat (r)), a3] T = some ((pt r).map PyData.str, T) := by
      rcases hr with ⟨s, x, rfl, _⟩ | ⟨s, x, y, rfl, _⟩ <;> rfl
    have lc : (mLc [3] (mIt (mSl gSlT (mVar 2) (mP (mC (PyData.int (1)))) mP0)) (gtName 3) (mQ (mBin (gIn true) (mVar 3) (mVarB 1))) (mVar 3)) [some (.dat (x0)), some (.own (fs.map PyData.str)), some (.dat (r)), a3] T = some (((pt r).filter fun x => !fs.contains x).map PyData.str, T) := by
      unfold mLc
      rw [sl]
      simp only [Option.bind_some]
      rw [if_pos (by rw [List.length_map]; omega)]
      exact tloop _ _ hf T (pt r) (pt_tx hr)
    have st : (mSetF 1 (mCatV 1 (mLc [3] (mIt (mSl gSlT (mVar 2) (mP (mC (PyData.int (1)))) mP0)) (gtName 3) (mQ (mBin (gIn true) (mVar 3) (mVarB 1))) (mVar 3)))) [some (.dat (x0)), some (.own (fs.map PyData.str)), some (.dat (r)), a3] T = some (.nx [some (.dat (x0)), some (.own ((stepT fs r).map PyData.str)), some (.dat (r)), a3] T) := by
      refine W_eq.mp ?_
      rw [W_mSetF, W_mCatVo (ds := fs.map PyData.str) (es := []) rfl]
      refine W.of lc ⟨by simp only [List.length_map]; omega, ?_⟩
      simp [stepT]
    obtain ⟨b2, b3, y⟩ := lthings_fold T x0 us (stepT fs r) (some (.dat r)) a3 (fun q hq => h q (List.mem_cons_of_mem _ hq)) hf' (by simp only [stepT, List.length_append]; omega)
    exact ⟨b2, b3, fold_nx rfl st y⟩
theorem step_mem {x : Str} : ∀ (us : List PyData) (fs : List Str), x ∈ us.foldl stepT fs ↔ x ∈ fs ∨ x ∈ us.flatMap pt
  | [], fs => by simp
  | r :: us, fs => by
    simp only [List.foldl_cons, List.flatMap_cons, List.mem_append]
    rw [step_mem us]
    simp only [stepT, List.mem_append, List.mem_filter, Bool.not_eq_true', List.contains_eq_mem, decide_eq_false_iff_not]
    constructor
    · rintro ((h | ⟨h, _⟩) | h)
      · exact .inl h
      · exact .inr (.inl h)
      · exact .inr (.inr h)
    · rintro (h | h | h)
      · exact .inl (.inl h)
      · by_cases hx : x ∈ fs
        · exact .inl (.inl hx)
        · exact .inl (.inr ⟨h, hx⟩)
      · exact .inr h
theorem step_len : ∀ (us : List PyData) (fs : List Str), (us.foldl stepT fs).length ≤ fs.length + 2 * us.length
  | [], fs => by simp
  | r :: us, fs => by
    have h1 := step_len us (stepT fs r)
    have h2 : ((pt r).filter fun x => !fs.contains x).length ≤ 2 := Nat.le_trans (List.length_filter_le _ _) (pt_len r)
    simp only [List.foldl_cons, List.length_cons]
    simp only [stepT, List.length_append] at h1 ⊢
    omega
theorem lthings_val {rs : List PyData} (h : ∀ r ∈ rs, Rw r) (hl : rs.length ≤ 13) (T : Dk) : M__law_things [.dat (.tuple rs)] T = some (thingsD rs, T) := by
  obtain ⟨b2, b3, y⟩ := lthings_fold T (.tuple rs) rs [] none none h (fun _ h => by cases h) (by simp; omega)
  have hlen := step_len rs []
  have e : (mSortTx (mVarB 1)) [some (.dat (.tuple rs)), some (.own ((rs.foldl stepT []).map PyData.str)), b2, b3] T = some (sortD ((ddS (rs.foldl stepT [])).map PyData.str), T) := by
    show (gSortTx ((rs.foldl stepT []).map PyData.str)).map (fun es => (es, T)) = _
    rw [gSortTx_val (by simp at hlen; omega)]
    rfl
  have es : sortD ((ddS (rs.foldl stepT [])).map PyData.str) = sortD ((ddS (rs.flatMap pt)).map PyData.str) := by
    refine sortD_perm (str_alike _) (((List.perm_ext_iff_of_nodup nd_ddS nd_ddS).mpr fun k => ?_).map _)
    rw [mem_ddS, mem_ddS, step_mem]
    simp
  rw [es] at e
  refine fun_rt ?_
  show (mSeq (mSetF 1 (mLst mNil)) (mSeq (mFor (mIt (mVar 0)) (gtName 2) (mSetF 1 (mCatV 1 (mLc [3] (mIt (mSl gSlT (mVar 2) (mP (mC (PyData.int (1)))) mP0)) (gtName 3) (mQ (mBin (gIn true) (mVar 3) (mVarB 1))) (mVar 3)))))
    (mRet (mTupOf (mL (mSortTx (mVarB 1))))))) [some (.dat (.tuple rs)), none, none, none] T = _
  refine seq_nx (en' := [some (.dat (.tuple rs)), some (.own ([])), none, none]) (T' := T) rfl (seq_nx (for_to rfl y) ?_)
  refine W_eq.mp ?_
  rw [W_mRet, W_mTupOf, W_mL]
  exact W.of e ⟨_, rfl, rfl⟩
end K04

-- LQVA
set_option Elab.async false
set_option linter.all false
set_option maxRecDepth 100000
set_option maxHeartbeats 2000000
namespace K04
open PySem PySem.Spec PyProof.Rows L2 LQ
def prs : PyData → List (PyData × Str)
  | .tuple [s, .str x] => [(.tuple [s], x)]
  | .tuple [s, .str x, .str y] => [(.tuple [s, .int 0], x), (.tuple [s, .int 1], y)]
  | _ => []
def pk (th : Str) (ps : List (PyData × Str)) : List PyData := (ps.filter fun p => p.2 == th).map (·.1)
def sr (th : Str) (r : PyData) : List PyData := pk th (prs r)
theorem sr_len (th : Str) (d : PyData) : (sr th d).length ≤ 2 := by
  unfold sr pk
  rw [List.length_map]
  refine Nat.le_trans (List.length_filter_le _ _) ?_
  unfold prs
  split <;> simp
theorem prs_ok {r : PyData} (h : Rw r) : ∀ p ∈ prs r, So p.1 ∧ Tx 40 p.2 := by
  rcases h with ⟨s, x, rfl, h1, h2⟩ | ⟨s, x, y, rfl, h1, h2, h3⟩
  · intro p hp
    simp only [prs, List.mem_singleton] at hp
    rw [hp]
    exact ⟨.inr ⟨s, rfl, h1⟩, h2⟩
  · intro p hp
    simp only [prs, List.mem_cons, List.not_mem_nil, or_false] at hp
    rcases hp with rfl | rfl
    · exact ⟨.inl ⟨s, 0, rfl, h1, .inl rfl⟩, h2⟩
    · exact ⟨.inl ⟨s, 1, rfl, h1, .inr rfl⟩, h3⟩
theorem sr_so {r : PyData} {th : Str} (h : Rw r) : ∀ d ∈ sr th r, So d := fun d hd => by
  obtain ⟨p, hp, rfl⟩ := List.mem_map.mp hd
  exact (prs_ok h p (List.mem_filter.mp hp).1).1
theorem rows_val {r : PyData} (h : Rw r) (T : Dk) : M_row_sorts [.dat r] T = some (.list ((prs r).map fun p => .tuple [p.1, .str p.2]), T) := by
  rcases h with ⟨s, x, rfl, h1, h2⟩ | ⟨s, x, y, rfl, h1, h2, h3⟩ <;> rfl
theorem sloop {th : Str} (ht : Tx 40 th) (x0 x2 : Option Sl) (T : Dk) : ∀ ps : List (PyData × Str), (∀ p ∈ ps, Tx 40 p.2) → mLoop (gtTup 2 (gtCons (gtName 3) (gtCons (gtName 4) gtNil))) (mQ (mBin gEq (mVar 4) (mVar 1))) (mVar 3) [x0, some (.dat (.str th)), x2, none, none] (ps.map fun p => .tuple [p.1, .str p.2]) T = some (pk th ps, T)
  | [], _ => rfl
  | p :: ps, h => by
    have ih := sloop ht x0 x2 T ps fun q hq => h q (List.mem_cons_of_mem _ hq)
    have g : (gtTup 2 (gtCons (gtName 3) (gtCons (gtName 4) gtNil))) (.tuple [p.1, .str p.2]) [x0, some (.dat (.str th)), x2, none, none] = some [x0, some (.dat (.str th)), x2, some (.dat (p.1)), some (.dat (.str p.2))] := rfl
    have t : (mQ (mBin gEq (mVar 4) (mVar 1))) [x0, some (.dat (.str th)), x2, some (.dat (p.1)), some (.dat (.str p.2))] T = some (p.2 == th, T) := by
      refine W_eq.mp ?_
      rw [W_mQ, W_mBin]
      exact W.of (r := (.str p.2, T)) rfl (W.of (r := (.str th, T)) rfl (W.of (eq_sv (h p List.mem_cons_self) ht) ⟨_, rfl, rfl⟩))
    have v : (mVar 3) [x0, some (.dat (.str th)), x2, some (.dat (p.1)), some (.dat (.str p.2))] T = some (p.1, T) := rfl
    simp only [List.map_cons]
    unfold mLoop
    rw [g]
    simp only [Option.bind_some, t, v, ih]
    unfold pk
    cases hc : (p.2 == th) with
    | false =>
      rw [List.filter_cons_of_neg (by simp only [hc]; decide)]
      rfl
    | true =>
      rw [List.filter_cons_of_pos (by simp only [hc])]
      rfl
theorem sorts_loop {th : Str} (ht : Tx 40 th) (x0 : PyData) (T : Dk) : ∀ (rs : List PyData), (∀ r ∈ rs, Rw r) → mLoop2 (gtName 2) mYes [3, 4] (mIt (mCf M_row_sorts (mAd (mVar 2) mN0))) (gtTup 2 (gtCons (gtName 3) (gtCons (gtName 4) gtNil))) (mQ (mBin gEq (mVar 4) (mVar 1))) (mVar 3) [some (.dat (x0)), some (.dat (.str th)), none, none, none] rs T = some (rs.flatMap (sr th), T)
  | [], _ => rfl
  | r :: rs, h => by
    have ih := sorts_loop ht x0 T rs fun q hq => h q (List.mem_cons_of_mem _ hq)
    have hr := h r List.mem_cons_self
    have g : gtName 2 r [some (.dat (x0)), some (.dat (.str th)), none, none, none] = some [some (.dat (x0)), some (.dat (.str th)), some (.dat (r)), none, none] := rfl
    have i : (mIt (mCf M_row_sorts (mAd (mVar 2) mN0))) [some (.dat (x0)), some (.dat (.str th)), some (.dat (r)), none, none] T = some ((prs r).map (fun p => .tuple [p.1, .str p.2]), T) := by
      show ((M_row_sorts [.dat r] T).bind fun p => (itemsD p.1).map fun ds => (ds, p.2)) = _
      rw [rows_val hr]
      rfl
    have w : wipeE [some (.dat (x0)), some (.dat (.str th)), some (.dat (r)), none, none] [3, 4] = [some (.dat (x0)), some (.dat (.str th)), some (.dat (r)), none, none] := rfl
    have e := sloop ht (some (.dat x0)) (some (.dat r)) T (prs r) fun p hp => (prs_ok hr p hp).2
    unfold mLoop2
    rw [g]
    simp only [Option.bind_some, mYes, if_true, i, w, e, ih, Option.map_some]
    simp [sr]
theorem sorts_val {rs : List PyData} (h : ∀ r ∈ rs, Rw r) {th : Str} (ht : Tx 40 th) {ss : List PyData} (e : gSortSet (rs.flatMap (sr th)) = some ss) (T : Dk) : M_sorts_of [.dat (.tuple rs), .dat (.str th)] T = some (.tuple ss, T) := by
  have e1 : (mSrtN (mLc2 [2, 3, 4] (mIt (mVar 0)) (gtName 2) mYes [3, 4] (mIt (mCf M_row_sorts (mAd (mVar 2) mN0))) (gtTup 2 (gtCons (gtName 3) (gtCons (gtName 4) gtNil))) (mQ (mBin gEq (mVar 4) (mVar 1))) (mVar 3))) [some (.dat (.tuple rs)), some (.dat (.str th)), none, none, none] T = some (ss, T) := by
    have i : (mIt (mVar 0)) [some (.dat (.tuple rs)), some (.dat (.str th)), none, none, none] T = some (rs, T) := rfl
    have w : wipeE [some (.dat (.tuple rs)), some (.dat (.str th)), none, none, none] [2, 3, 4] = [some (.dat (.tuple rs)), some (.dat (.str th)), none, none, none] := rfl
    unfold mSrtN mLc2
    rw [i]
    simp only [Option.bind_some]
    rw [w, sorts_loop ht (.tuple rs) T rs h]
    simp only [Option.bind_some]
    rw [e]
    rfl
  refine W_eq.mp (W_mFun ?_)
  unfold B_sorts_of
  rw [W_mRet, W_mTupOf, W_mL]
  exact W.of e1 ⟨_, rfl, _, _, rfl, rfl⟩
/-! ### the law's own -/
def SB : MS := (mIf (mAnd (mQ (mBin gEq (mBin ixD (mVar 3) (mVar 4)) (mVar 1))) (mQ (mBin gEq (mCall gLen (mCons (mVar 3) mNil)) (mC (PyData.int (2)))))) (mApp 2 (mTup (mCons (mBin ixD (mVar 3) (mC (PyData.int (0)))) mNil))) (mIf (mQ (mBin gEq (mBin ixD (mVar 3) (mVar 4)) (mVar 1))) (mApp 2 (mTup (mCons (mBin ixD (mVar 3) (mC (PyData.int (0)))) (mCons (mBin gSub (mVar 4) (mC (PyData.int (1)))) mNil)))) mNext))
def SF : MS := (mFor (mRng2 (mC (PyData.int (1))) (mCall gLen (mCons (mVar 3) mNil))) (gtName 4) SB)
theorem sb_val {th x : Str} (ht : Tx 40 th) (hx : Tx 40 x) {r : List PyData} {s : PyData} (hs : ixD (.tuple r) (.int 0) = some s) {j : Int} (hj : ixD (.tuple r) (.int j) = some (.str x)) {x0 : PyData} {fs : List PyData} (hl : fs.length < 1000) (T : Dk) :
    SB [some (.dat (x0)), some (.dat (.str th)), some (.own (fs)), some (.dat (.tuple r)), some (.dat (.int j))] T = some (.nx [some (.dat (x0)), some (.dat (.str th)), some (.own (fs ++ (if (x == th) = true then [if ((r.length : Nat) : Int) == 2 then .tuple [s] else .tuple [s, .int (j - 1)]] else []))), some (.dat (.tuple r)), some (.dat (.int j))] T) := by
  have e1 := eq_sv hx ht
  refine W_eq.mp ?_
  unfold SB
  simp only [W_mSet, W_mSetF, W_mIf, W_mRet, W_mCf, W_mAk0, W_mAk1, W_mAd, W_mN0, W_mC, W_mBin, W_mVar0, W_mVarS, W_mVarBd, W_mVarBo, W_mVarBS, W_mQ, W_mNot, W_mAnd, W_mOr, W_mL, W_mLst, W_mCons, W_mNil, W_mTup, W_mIt, W_mLc, W_mRng1, W_mCall, W_mNext, W_mAsg, W_mYes, W_mSl, W_mP0, W_mP, W_mSlF, W_mNeg, W_mRevT, W_mTupOf, W_mListT, W_mIfx, W_mAk2, W_mAc, W_mCst0, W_mCstS, W_mAndV, W_mOrV, W_mNotV, W_some, W_map, W_bind, seqQ_nx, seqQ_rt, List.set_cons_succ, List.set_cons_zero, List.map_cons, List.map_nil, List.length_cons, List.length_nil, List.nil_append, List.cons_append, List.replicate, wipeE, PyData.bool.injEq, PyData.int.injEq, exists_eq_left', exists_eq_left, and_true, true_and, eq_ints, ↓reduceIte, Option.bind_some, Option.map_some, Nat.reduceAdd, Nat.reduceLeDiff, PyData.list.injEq, PyData.tuple.injEq, add_ints, sub_ints, lt_ints, le_ints, gt_ints, ge_ints, glen_list, glen_tuple, reduceCtorEq, false_or, or_false, hj, e1, hs]
  cases hc : (x == th) with
  | false => simp [W_some, W_mSet, W_mSetF, W_mIf, W_mRet, W_mCf, W_mAk0, W_mAk1, W_mAd, W_mN0, W_mC, W_mBin, W_mVar0, W_mVarS, W_mVarBd, W_mVarBo, W_mVarBS, W_mQ, W_mNot, W_mAnd, W_mOr, W_mL, W_mLst, W_mCons, W_mNil, W_mTup, W_mIt, W_mLc, W_mRng1, W_mCall, W_mNext, W_mAsg, W_mYes, W_mSl, W_mP0, W_mP, W_mSlF, W_mNeg, W_mRevT, W_mTupOf, W_mListT, W_mIfx, W_mAk2, W_mAc, W_mCst0, W_mCstS, W_mAndV, W_mOrV, W_mNotV, W_some, W_map, W_bind, seqQ_nx, seqQ_rt, List.set_cons_succ, List.set_cons_zero, List.map_cons, List.map_nil, List.length_cons, List.length_nil, List.nil_append, List.cons_append, List.replicate, wipeE, PyData.bool.injEq, PyData.int.injEq, exists_eq_left', exists_eq_left, and_true, true_and, eq_ints, ↓reduceIte, Option.bind_some, Option.map_some, Nat.reduceAdd, Nat.reduceLeDiff, PyData.list.injEq, PyData.tuple.injEq, add_ints, sub_ints, lt_ints, le_ints, gt_ints, ge_ints, glen_list, glen_tuple, reduceCtorEq, false_or, or_false, hj, e1, hc]
  | true =>
    cases hd : (((r.length : Nat) : Int) == 2) with
    | false =>
      simp only [if_true, Bool.false_eq_true, if_false, W_mSet, W_mSetF, W_mIf, W_mRet, W_mCf, W_mAk0, W_mAk1, W_mAd, W_mN0, W_mC, W_mBin, W_mVar0, W_mVarS, W_mVarBd, W_mVarBo, W_mVarBS, W_mQ, W_mNot, W_mAnd, W_mOr, W_mL, W_mLst, W_mCons, W_mNil, W_mTup, W_mIt, W_mLc, W_mRng1, W_mCall, W_mNext, W_mAsg, W_mYes, W_mSl, W_mP0, W_mP, W_mSlF, W_mNeg, W_mRevT, W_mTupOf, W_mListT, W_mIfx, W_mAk2, W_mAc, W_mCst0, W_mCstS, W_mAndV, W_mOrV, W_mNotV, W_some, W_map, W_bind, seqQ_nx, seqQ_rt, List.set_cons_succ, List.set_cons_zero, List.map_cons, List.map_nil, List.length_cons, List.length_nil, List.nil_append, List.cons_append, List.replicate, wipeE, PyData.bool.injEq, PyData.int.injEq, exists_eq_left', exists_eq_left, and_true, true_and, eq_ints, ↓reduceIte, Option.bind_some, Option.map_some, Nat.reduceAdd, Nat.reduceLeDiff, PyData.list.injEq, PyData.tuple.injEq, add_ints, sub_ints, lt_ints, le_ints, gt_ints, ge_ints, glen_list, glen_tuple, reduceCtorEq, false_or, or_false, hj, e1, hc]
      rw [W_mApp (ds := fs) rfl]
      simp only [W_mSet, W_mSetF, W_mIf, W_mRet, W_mCf, W_mAk0, W_mAk1, W_mAd, W_mN0, W_mC, W_mBin, W_mVar0, W_mVarS, W_mVarBd, W_mVarBo, W_mVarBS, W_mQ, W_mNot, W_mAnd, W_mOr, W_mL, W_mLst, W_mCons, W_mNil, W_mTup, W_mIt, W_mLc, W_mRng1, W_mCall, W_mNext, W_mAsg, W_mYes, W_mSl, W_mP0, W_mP, W_mSlF, W_mNeg, W_mRevT, W_mTupOf, W_mListT, W_mIfx, W_mAk2, W_mAc, W_mCst0, W_mCstS, W_mAndV, W_mOrV, W_mNotV, W_some, W_map, W_bind, seqQ_nx, seqQ_rt, List.set_cons_succ, List.set_cons_zero, List.map_cons, List.map_nil, List.length_cons, List.length_nil, List.nil_append, List.cons_append, List.replicate, wipeE, PyData.bool.injEq, PyData.int.injEq, exists_eq_left', exists_eq_left, and_true, true_and, eq_ints, ↓reduceIte, Option.bind_some, Option.map_some, Nat.reduceAdd, Nat.reduceLeDiff, PyData.list.injEq, PyData.tuple.injEq, add_ints, sub_ints, lt_ints, le_ints, gt_ints, ge_ints, glen_list, glen_tuple, reduceCtorEq, false_or, or_false, hs]
      omega
    | true =>
      simp only [if_true]
      rw [W_mApp (ds := fs) rfl]
      simp only [W_mSet, W_mSetF, W_mIf, W_mRet, W_mCf, W_mAk0, W_mAk1, W_mAd, W_mN0, W_mC, W_mBin, W_mVar0, W_mVarS, W_mVarBd, W_mVarBo, W_mVarBS, W_mQ, W_mNot, W_mAnd, W_mOr, W_mL, W_mLst, W_mCons, W_mNil, W_mTup, W_mIt, W_mLc, W_mRng1, W_mCall, W_mNext, W_mAsg, W_mYes, W_mSl, W_mP0, W_mP, W_mSlF, W_mNeg, W_mRevT, W_mTupOf, W_mListT, W_mIfx, W_mAk2, W_mAc, W_mCst0, W_mCstS, W_mAndV, W_mOrV, W_mNotV, W_some, W_map, W_bind, seqQ_nx, seqQ_rt, List.set_cons_succ, List.set_cons_zero, List.map_cons, List.map_nil, List.length_cons, List.length_nil, List.nil_append, List.cons_append, List.replicate, wipeE, PyData.bool.injEq, PyData.int.injEq, exists_eq_left', exists_eq_left, and_true, true_and, eq_ints, ↓reduceIte, Option.bind_some, Option.map_some, Nat.reduceAdd, Nat.reduceLeDiff, PyData.list.injEq, PyData.tuple.injEq, add_ints, sub_ints, lt_ints, le_ints, gt_ints, ge_ints, glen_list, glen_tuple, reduceCtorEq, false_or, or_false, hs]
      omega
theorem rng2_to {m1 m2 : ME} {en : En} {T T1 T2 : Dk} {i j : Int} (h1 : m1 en T = some (.int i, T1)) (h2 : m2 en T1 = some (.int j, T2)) (hi : -1000 < i ∧ i < 1000) (hj : -1000 < j ∧ j < 1000) : mRng2 m1 m2 en T = some ((rng i (j - i).toNat).map PyData.int, T2) := by
  unfold mRng2
  rw [h1]
  simp only [Option.bind_some]
  rw [h2]
  simp only [Option.bind_some]
  rw [if_pos ⟨by omega, by omega, by omega, by omega⟩]
theorem sf_val {th : Str} (ht : Tx 40 th) {r : PyData} (h : Rw r) {x0 : PyData} {fs : List PyData} (hl : fs.length < 900) (a4 : Option Sl) (T : Dk) : ∃ b4, SF [some (.dat (x0)), some (.dat (.str th)), some (.own (fs)), some (.dat (r)), a4] T = some (.nx [some (.dat (x0)), some (.dat (.str th)), some (.own (fs ++ sr th r)), some (.dat (r)), b4] T) := by
  rcases h with ⟨s, x, rfl, h1, h2⟩ | ⟨s, x, y, rfl, h1, h2, h3⟩
  · have e := sb_val (x0 := x0) ht h2 (r := [.str s, .str x]) (s := .str s) (j := 1) rfl rfl (fs := fs) (by omega) T
    refine ⟨some (.dat (.int 1)), ?_⟩
    have i : (mRng2 (mC (PyData.int (1))) (mCall gLen (mCons (mVar 3) mNil))) [some (.dat (x0)), some (.dat (.str th)), some (.own (fs)), some (.dat (.tuple [.str s, .str x])), a4] T = some ([.int 1], T) := rng2_to (i := 1) (j := 2) rfl rfl (by decide) (by decide)
    have en : fs ++ (if (x == th) = true then [if (([PyData.str s, .str x].length : Nat) : Int) == 2 then PyData.tuple [.str s] else .tuple [.str s, .int (1 - 1)]] else []) = fs ++ sr th (.tuple [.str s, .str x]) := by
      cases hc : (x == th) <;> simp [sr, prs, pk, hc]
    rw [en] at e
    exact for_to i (fold_nx rfl e rfl)
  · have e := sb_val (x0 := x0) ht h2 (r := [.str s, .str x, .str y]) (s := .str s) (j := 1) rfl rfl (fs := fs) (by omega) T
    have i : (mRng2 (mC (PyData.int (1))) (mCall gLen (mCons (mVar 3) mNil))) [some (.dat (x0)), some (.dat (.str th)), some (.own (fs)), some (.dat (.tuple [.str s, .str x, .str y])), a4] T = some ([.int 1, .int 2], T) := rng2_to (i := 1) (j := 3) rfl rfl (by decide) (by decide)
    generalize hf1 : fs ++ (if (x == th) = true then [if (([PyData.str s, .str x, .str y].length : Nat) : Int) == 2 then PyData.tuple [.str s] else .tuple [.str s, .int (1 - 1)]] else []) = fs1 at e
    have l1 : fs1.length < 1000 := by
      rw [← hf1, List.length_append]
      split <;> simp <;> omega
    have e2 := sb_val (x0 := x0) ht h3 (r := [.str s, .str x, .str y]) (s := .str s) (j := 2) rfl rfl (fs := fs1) l1 T
    refine ⟨some (.dat (.int 2)), ?_⟩
    have en : fs1 ++ (if (y == th) = true then [if (([PyData.str s, .str x, .str y].length : Nat) : Int) == 2 then PyData.tuple [.str s] else .tuple [.str s, .int (2 - 1)]] else []) = fs ++ sr th (.tuple [.str s, .str x, .str y]) := by
      rw [← hf1, List.append_assoc]
      cases hc : (x == th) <;> cases hd : (y == th) <;> simp [sr, prs, pk, hc, hd]
    rw [en] at e2
    exact for_to i (fold_nx rfl e (fold_nx rfl e2 rfl))
theorem lsorts_fold {th : Str} (ht : Tx 40 th) (x0 : PyData) (T : Dk) : ∀ (us : List PyData) (fs : List PyData) (a3 a4 : Option Sl), (∀ r ∈ us, Rw r) → fs.length + 2 * us.length < 900 → ∃ b3 b4, mFold (gtName 3) SF us [some (.dat (x0)), some (.dat (.str th)), some (.own (fs)), a3, a4] T = some (.nx [some (.dat (x0)), some (.dat (.str th)), some (.own (fs ++ us.flatMap (sr th))), b3, b4] T)
  | [], fs, a3, a4, _, _ => ⟨a3, a4, by simp [mFold]⟩
  | r :: us, fs, a3, a4, h, hl => by
    simp only [List.length_cons] at hl
    obtain ⟨b4, e⟩ := sf_val ht (h r List.mem_cons_self) (x0 := x0) (fs := fs) (by omega) a4 T
    have := sr_len th r
    obtain ⟨c3, c4, y⟩ := lsorts_fold ht x0 T us (fs ++ sr th r) (some (.dat r)) b4 (fun q hq => h q (List.mem_cons_of_mem _ hq)) (by rw [List.length_append]; omega)
    refine ⟨c3, c4, ?_⟩
    rw [fold_nx rfl e y]
    simp
theorem lsorts_val {rs : List PyData} (h : ∀ r ∈ rs, Rw r) (hl : rs.length ≤ 13) {th : Str} (ht : Tx 40 th) {ss : List PyData} (e : gSortSet (rs.flatMap (sr th)) = some ss) (T : Dk) : M__law_sorts [.dat (.tuple rs), .dat (.str th)] T = some (.tuple ss, T) := by
  obtain ⟨b3, b4, y⟩ := lsorts_fold ht (.tuple rs) T rs [] none none h (by simp; omega)
  have e1 : (mSortSet (mVarB 2)) [some (.dat (.tuple rs)), some (.dat (.str th)), some (.own (rs.flatMap (sr th))), b3, b4] T = some (ss, T) := by
    show (gSortSet (rs.flatMap (sr th))).map (fun es => (es, T)) = _
    rw [e]
    rfl
  refine fun_rt ?_
  show (mSeq (mSetF 2 (mLst mNil)) (mSeq (mFor (mIt (mVar 0)) (gtName 3) SF) (mRet (mTupOf (mL (mSortSet (mVarB 2))))))) [some (.dat (.tuple rs)), some (.dat (.str th)), none, none, none] T = _
  refine seq_nx (en' := [some (.dat (.tuple rs)), some (.dat (.str th)), some (.own ([])), none, none]) (T' := T) rfl (seq_nx (for_to rfl y) ?_)
  refine W_eq.mp ?_
  rw [W_mRet, W_mTupOf, W_mL]
  exact W.of e1 ⟨_, rfl, rfl⟩
end K04

-- LQVA
set_option Elab.async false
set_option linter.all false
set_option maxRecDepth 100000
set_option maxHeartbeats 2000000
namespace K04
open PySem PySem.Spec PyProof.Rows L2 LQ
open PySem.W (alike alikeAll AllAlike)
theorem nks_len : ∀ {ds : List PyData} {ks : List NestedKey}, nks ds = some ks → ks.length = ds.length
  | [], ks, e => by cases e; rfl
  | d :: ds, ks, e => by
    simp only [nks] at e
    cases e1 : nk d with
    | none => rw [e1] at e; cases e
    | some k =>
      cases e2 : nks ds with
      | none => rw [e1, e2] at e; cases e
      | some l =>
        rw [e1, e2] at e
        cases e
        simp only [List.length_cons, nks_len e2]
theorem gSortSet_len {ds ss : List PyData} (h : gSortSet ds = some ss) : ss.length ≤ ds.length := by
  unfold gSortSet at h
  cases e : nks ds with
  | none => rw [e] at h; cases h
  | some ks =>
    rw [e] at h
    simp only at h
    split at h
    · cases h
      rw [sortD_len, List.length_map, ← nks_len e]
      exact ddK_le ks
    · cases h
theorem ddS_le : ∀ ks : List Str, (ddS ks).length ≤ ks.length
  | [] => Nat.le_refl _
  | k :: ks => by
    have := ddS_le ks
    unfold ddS
    split
    · simp only [List.length_cons]; omega
    · simp only [List.length_cons]; omega
theorem So.pd {d : PyData} (h : So d) : Pd 1 82 d := by
  rcases h with ⟨s, i, rfl, ts, hi⟩ | ⟨s, rfl, ts⟩
  · refine (Ps.mem (n := 0) (S := 40) (ds := [.str s, .int i]) (fun y hy => ?_) 2 (by simp)).up (by decide) (Nat.le_refl _)
    simp only [List.mem_cons, List.not_mem_nil, or_false] at hy
    rcases hy with rfl | rfl
    · exact pd_str ts (by decide)
    · exact (pd_int (by omega) (by omega)).up (by decide) (by decide)
  · refine (Ps.mem (n := 0) (S := 40) (ds := [.str s]) (fun y hy => ?_) 2 (by simp)).up (by decide) (Nat.le_refl _)
    rw [List.mem_singleton.mp hy]
    exact pd_str ts (by decide)
theorem repr_sos {ss : List PyData} (h : ∀ d ∈ ss, So d) (hl : ss.length ≤ 30) : gRepr [.tuple ss] = some (.str (PyData.tuple ss).shown) := (Ps.mem (fun d hd => So.pd (h d hd)) 30 hl).repr (by decide) (by decide)
theorem repr_things {rs : List PyData} (h : ∀ r ∈ rs, Rw r) (hl : rs.length ≤ 13) : gRepr [thingsD rs] = some (.str (thingsD rs).shown) := by
  refine (Ps.mem (n := 0) (S := 40) (fun d hd => ?_) 30 ?_).repr (by decide) (by decide)
  · obtain ⟨k, hk, rfl⟩ := List.mem_map.mp (sortD_mem.mp hd)
    obtain ⟨r, hr, hk⟩ := List.mem_flatMap.mp (mem_ddS.mp hk)
    exact pd_str (pt_tx (h r hr) k hk) (by decide)
  · have h1 := ddS_le (rs.flatMap pt)
    have h2 := flat_len pt_len rs
    rw [sortD_len, List.length_map]
    omega
theorem ne_self (s : Str) : (gS fun i j => .bool (!(i == j))) (.str s) (.str s) = some (.bool false) := by
  show some (PyData.bool (!(s == s))) = _
  rw [beq_self_eq_true]
  rfl
def RB : MS := (mSeq (mSet 3 (mCall gRepr (mCons (mCf M__law_sorts (mAd (mVar 0) (mAd (mVar 2) mN0))) mNil)))
  (mIf (mOr (mQ (mBin (gS fun i j => .bool (!(i == j))) (mCall gRepr (mCons (mCf M_sorts_of (mAd (mVar 0) (mAd (mVar 2) mN0))) mNil)) (mVar 3))) (mQ (mBin (gS fun i j => .bool (!(i == j))) (mCall gRepr (mCons (mCfK M_sorts_of [1, 0] (mAd (mVar 2) (mAd (mVar 0) mN0))) mNil)) (mVar 3)))) (mRet (mC (PyData.bool false))) mNext))
theorem rb_val {rs : List PyData} (h : ∀ r ∈ rs, Rw r) (hl : rs.length ≤ 13) {d : PyData} (hd : Nm d) (x1 : PyData) (a3 : Option Sl) (T : Dk) : ∃ b3, RB [some (.dat (.tuple rs)), some (.dat (x1)), some (.dat (d)), a3] T = some (.nx [some (.dat (.tuple rs)), some (.dat (x1)), some (.dat (d)), b3] T) := by
  obtain ⟨th, rfl, ht⟩ := hd
  have hlen := flat_len' (sr_len th) rs
  have hso : ∀ d ∈ rs.flatMap (sr th), So d := fun d hd => by
    obtain ⟨r, hr, hd⟩ := List.mem_flatMap.mp hd
    exact sr_so (h r hr) d hd
  obtain ⟨ss, e, hs⟩ := sortSet_so hso (by omega)
  have hsl := gSortSet_len e
  have v1 := lsorts_val h hl ht e T
  have v2 := sorts_val h ht e T
  have v3 : (mCfK M_sorts_of [1, 0] (mAd (mVar 2) (mAd (mVar 0) mN0))) [some (.dat (.tuple rs)), some (.dat (x1)), some (.dat (.str th)), some (.dat (.str (PyData.tuple ss).shown))] T = some (.tuple ss, T) := v2
  have rp := repr_sos hs (by omega)
  refine ⟨some (.dat (.str (PyData.tuple ss).shown)), W_eq.mp ?_⟩
  unfold RB
  rw [W_mSeq]
  simp only [W_mSet, W_mSetF, W_mIf, W_mRet, W_mCf, W_mAk0, W_mAk1, W_mAd, W_mN0, W_mC, W_mBin, W_mVar0, W_mVarS, W_mVarBd, W_mVarBo, W_mVarBS, W_mQ, W_mNot, W_mAnd, W_mOr, W_mL, W_mLst, W_mCons, W_mNil, W_mTup, W_mIt, W_mLc, W_mRng1, W_mCall, W_mNext, W_mAsg, W_mYes, W_mSl, W_mP0, W_mP, W_mSlF, W_mNeg, W_mRevT, W_mTupOf, W_mListT, W_mIfx, W_mAk2, W_mAc, W_mCst0, W_mCstS, W_mAndV, W_mOrV, W_mNotV, W_some, W_map, W_bind, seqQ_nx, seqQ_rt, List.set_cons_succ, List.set_cons_zero, List.map_cons, List.map_nil, List.length_cons, List.length_nil, List.nil_append, List.cons_append, List.replicate, wipeE, PyData.bool.injEq, PyData.int.injEq, exists_eq_left', exists_eq_left, and_true, true_and, eq_ints, ↓reduceIte, Option.bind_some, Option.map_some, Nat.reduceAdd, Nat.reduceLeDiff, PyData.list.injEq, PyData.tuple.injEq, add_ints, sub_ints, lt_ints, le_ints, gt_ints, ge_ints, glen_list, glen_tuple, reduceCtorEq, false_or, or_false, v1, rp]
  simp only [W_mSet, W_mSetF, W_mIf, W_mRet, W_mCf, W_mAk0, W_mAk1, W_mAd, W_mN0, W_mC, W_mBin, W_mVar0, W_mVarS, W_mVarBd, W_mVarBo, W_mVarBS, W_mQ, W_mNot, W_mAnd, W_mOr, W_mL, W_mLst, W_mCons, W_mNil, W_mTup, W_mIt, W_mLc, W_mRng1, W_mCall, W_mNext, W_mAsg, W_mYes, W_mSl, W_mP0, W_mP, W_mSlF, W_mNeg, W_mRevT, W_mTupOf, W_mListT, W_mIfx, W_mAk2, W_mAc, W_mCst0, W_mCstS, W_mAndV, W_mOrV, W_mNotV, W_some, W_map, W_bind, seqQ_nx, seqQ_rt, List.set_cons_succ, List.set_cons_zero, List.map_cons, List.map_nil, List.length_cons, List.length_nil, List.nil_append, List.cons_append, List.replicate, wipeE, PyData.bool.injEq, PyData.int.injEq, exists_eq_left', exists_eq_left, and_true, true_and, eq_ints, ↓reduceIte, Option.bind_some, Option.map_some, Nat.reduceAdd, Nat.reduceLeDiff, PyData.list.injEq, PyData.tuple.injEq, add_ints, sub_ints, lt_ints, le_ints, gt_ints, ge_ints, glen_list, glen_tuple, reduceCtorEq, false_or, or_false, v2, v3, rp, ne_self]
  first | done | simp
theorem right_val {rs some' : List PyData} (h : ∀ r ∈ rs, Rw r) (hl : rs.length ≤ 13) (hn : ∀ d ∈ some', Nm d) (T : Dk) : M__law_is_right [.dat (.tuple rs), .dat (.list some')] T = some (.bool true, T) := by
  have t1 := things_val h hl T
  have t2 := lthings_val h hl T
  have rp := repr_things h hl
  have f : ∀ us : List PyData, (∀ d ∈ us, Nm d) → ∀ a2 a3 : Option Sl, ∃ en', mFold (gtName 2) RB us [some (.dat (.tuple rs)), some (.dat (.list some')), a2, a3] T = some (.nx en' T) := fun us => by
    induction us with
    | nil => exact fun _ _ _ => ⟨_, rfl⟩
    | cons u us ih =>
      intro hu a2 a3
      obtain ⟨b3, x⟩ := rb_val h hl (hu u List.mem_cons_self) (.list some') a3 T
      obtain ⟨en', y⟩ := ih (fun d hd => hu d (List.mem_cons_of_mem _ hd)) (some (.dat u)) b3
      exact ⟨en', fold_nx rfl x y⟩
  obtain ⟨en', y⟩ := f some' hn none none
  refine fun_rt ?_
  show (mSeq (mIf (mQ (mBin (gS fun i j => .bool (!(i == j))) (mCall gRepr (mCons (mCf M_things_of (mAd (mVar 0) mN0)) mNil)) (mCall gRepr (mCons (mCf M__law_things (mAd (mVar 0) mN0)) mNil)))) (mRet (mC (PyData.bool false))) mNext)
    (mSeq (mFor (mIt (mVar 1)) (gtName 2) RB) (mRet (mC (PyData.bool true))))) [some (.dat (.tuple rs)), some (.dat (.list some')), none, none] T = _
  refine seq_nx (en' := [some (.dat (.tuple rs)), some (.dat (.list some')), none, none]) (T' := T) (if_f (T' := T) ?_ rfl) (seq_nx (for_to rfl y) rfl)
  refine W_eq.mp ?_
  simp only [W_mSet, W_mSetF, W_mIf, W_mRet, W_mCf, W_mAk0, W_mAk1, W_mAd, W_mN0, W_mC, W_mBin, W_mVar0, W_mVarS, W_mVarBd, W_mVarBo, W_mVarBS, W_mQ, W_mNot, W_mAnd, W_mOr, W_mL, W_mLst, W_mCons, W_mNil, W_mTup, W_mIt, W_mLc, W_mRng1, W_mCall, W_mNext, W_mAsg, W_mYes, W_mSl, W_mP0, W_mP, W_mSlF, W_mNeg, W_mRevT, W_mTupOf, W_mListT, W_mIfx, W_mAk2, W_mAc, W_mCst0, W_mCstS, W_mAndV, W_mOrV, W_mNotV, W_some, W_map, W_bind, seqQ_nx, seqQ_rt, List.set_cons_succ, List.set_cons_zero, List.map_cons, List.map_nil, List.length_cons, List.length_nil, List.nil_append, List.cons_append, List.replicate, wipeE, PyData.bool.injEq, PyData.int.injEq, exists_eq_left', exists_eq_left, and_true, true_and, eq_ints, ↓reduceIte, Option.bind_some, Option.map_some, Nat.reduceAdd, Nat.reduceLeDiff, PyData.list.injEq, PyData.tuple.injEq, add_ints, sub_ints, lt_ints, le_ints, gt_ints, ge_ints, glen_list, glen_tuple, reduceCtorEq, false_or, or_false, t1, t2, rp, ne_self]
/-! ### rows, drawn -/
theorem Rw.pd {d : PyData} (h : Rw d) : Pd 1 123 d := by
  rcases h with ⟨s, x, rfl, h1, h2⟩ | ⟨s, x, y, rfl, h1, h2, h3⟩
  · refine Ps.mem (n := 0) (S := 40) (ds := [.str s, .str x]) (fun y hy => ?_) 3 (by simp)
    simp only [List.mem_cons, List.not_mem_nil, or_false] at hy
    rcases hy with rfl | rfl
    · exact pd_str h1 (by decide)
    · exact pd_str h2 (by decide)
  · refine Ps.mem (n := 0) (S := 40) (ds := [.str s, .str x, .str y]) (fun y hy => ?_) 3 (by simp)
    simp only [List.mem_cons, List.not_mem_nil, or_false] at hy
    rcases hy with rfl | rfl | rfl
    · exact pd_str h1 (by decide)
    · exact pd_str h2 (by decide)
    · exact pd_str h3 (by decide)
theorem rw_nk {d : PyData} (h : Rw d) : ∃ k, nk d = some k ∧ k.depth ≤ 8 := by
  rcases h with ⟨s, x, rfl, _⟩ | ⟨s, x, y, rfl, _⟩
  · exact ⟨.tup [.text s, .text x], rfl, by simp [NestedKey.depth, NestedKey.depthAll]⟩
  · exact ⟨.tup [.text s, .text x, .text y], rfl, by simp [NestedKey.depth, NestedKey.depthAll]⟩
theorem nks_rw : ∀ {ds : List PyData}, (∀ d ∈ ds, Rw d) → ∃ ks, nks ds = some ks ∧ (ks.all fun k => decide (k.depth ≤ 8)) = true
  | [], _ => ⟨[], rfl, rfl⟩
  | d :: ds, h => by
    obtain ⟨k, e1, e2⟩ := rw_nk (h d List.mem_cons_self)
    obtain ⟨ks, e3, e4⟩ := nks_rw fun x hx => h x (List.mem_cons_of_mem _ hx)
    exact ⟨k :: ks, by simp only [nks, e1, e3, Option.bind_some, Option.map_some], by simp only [List.all_cons, e4, Bool.and_true, decide_eq_true_eq]; exact e2⟩
theorem gSortL_rw {ds : List PyData} (h : ∀ d ∈ ds, Rw d) (hl : ds.length ≤ 1000) : gSortL ds = some (sortD ds) := by
  obtain ⟨ks, e1, e2⟩ := nks_rw h
  have c : canSrt ds = true := by
    simp only [canSrt, Bool.and_eq_true, decide_eq_true_eq, List.all_eq_true]
    refine ⟨⟨⟨hl, fun d hd => ?_⟩, fun d hd e he => ?_⟩, fun d hd => Nat.le_trans (Rw.pd (h d hd)).dp (by decide)⟩
    · rcases h d hd with ⟨s, x, rfl, _⟩ | ⟨s, x, y, rfl, _⟩ <;> rfl
    · rcases h d hd with ⟨s, x, rfl, _⟩ | ⟨s, x, y, rfl, _⟩ <;> rcases h e he with ⟨t, u, rfl, _⟩ | ⟨t, u, v, rfl, _⟩ <;> simp [alike, alikeAll]
  unfold gSortL
  rw [e1]
  simp only
  rw [if_pos ⟨c, e2⟩]
theorem row_W {k : Nat} {T : Dk} {Q : PyData × Dk → Prop} {ks rs ts : List PyData} (g : Gd k T) (hk : k + 100 < 1000000000) (h1 : NL ks) (h2 : NL rs) (h3 : NL ts)
    (q : ∀ (d : PyData) (T' : Dk), Rw d → Gd (k + 4) T' → Q (d, T')) : W (M__law_row [.deck, .dat (.list [.list ks, .list rs, .list ts])] T) Q := by
  have i0 : ixD (.list [.list ks, .list rs, .list ts]) (.int 0) = some (.list ks) := atI_nat (xs := [PyData.list ks, .list rs, .list ts]) (j := 0) rfl
  have i1 : ixD (.list [.list ks, .list rs, .list ts]) (.int 1) = some (.list rs) := atI_nat (xs := [PyData.list ks, .list rs, .list ts]) (j := 1) rfl
  have i2 : ixD (.list [.list ks, .list rs, .list ts]) (.int 2) = some (.list ts) := atI_nat (xs := [PyData.list ks, .list rs, .list ts]) (j := 2) rfl
  refine W_mFun ?_
  unfold B__law_row
  simp only [W_mSeq, W_mSet, W_mSetF, W_mIf, W_mRet, W_mCf, W_mAk0, W_mAk1, W_mAd, W_mN0, W_mC, W_mBin, W_mVar0, W_mVarS, W_mVarBd, W_mVarBo, W_mVarBS, W_mQ, W_mNot, W_mAnd, W_mOr, W_mL, W_mLst, W_mCons, W_mNil, W_mTup, W_mIt, W_mLc, W_mRng1, W_mCall, W_mNext, W_mAsg, W_mFor, W_mYes, W_mSl, W_mP0, W_mP, W_mSlF, W_mNeg, W_mRevT, W_mTupOf, W_mListT, W_mIfx, W_mAk2, W_mAc, W_mCst0, W_mCstS, W_mAndV, W_mOrV, W_mNotV, W_some, W_map, W_bind, seqQ_nx, seqQ_rt, List.set_cons_succ, List.set_cons_zero, List.map_cons, List.map_nil, List.length_cons, List.length_nil, List.nil_append, List.cons_append, List.replicate, wipeE, PyData.bool.injEq, PyData.int.injEq, exists_eq_left', exists_eq_left, and_true, true_and, eq_ints, ↓reduceIte, Option.bind_some, Option.map_some, Nat.reduceAdd, Nat.reduceLeDiff, PyData.list.injEq, PyData.tuple.injEq, add_ints, sub_ints, lt_ints, le_ints, gt_ints, ge_ints, glen_list, glen_tuple, reduceCtorEq, false_or, or_false, e_take, e_pick]
  refine take_W g (by decide) (by decide) (by omega) fun v T2 v0 v1 g2 => ?_
  simp only [W_mSeq, W_mSet, W_mSetF, W_mIf, W_mRet, W_mCf, W_mAk0, W_mAk1, W_mAd, W_mN0, W_mC, W_mBin, W_mVar0, W_mVarS, W_mVarBd, W_mVarBo, W_mVarBS, W_mQ, W_mNot, W_mAnd, W_mOr, W_mL, W_mLst, W_mCons, W_mNil, W_mTup, W_mIt, W_mLc, W_mRng1, W_mCall, W_mNext, W_mAsg, W_mFor, W_mYes, W_mSl, W_mP0, W_mP, W_mSlF, W_mNeg, W_mRevT, W_mTupOf, W_mListT, W_mIfx, W_mAk2, W_mAc, W_mCst0, W_mCstS, W_mAndV, W_mOrV, W_mNotV, W_some, W_map, W_bind, seqQ_nx, seqQ_rt, List.set_cons_succ, List.set_cons_zero, List.map_cons, List.map_nil, List.length_cons, List.length_nil, List.nil_append, List.cons_append, List.replicate, wipeE, PyData.bool.injEq, PyData.int.injEq, exists_eq_left', exists_eq_left, and_true, true_and, eq_ints, ↓reduceIte, Option.bind_some, Option.map_some, Nat.reduceAdd, Nat.reduceLeDiff, PyData.list.injEq, PyData.tuple.injEq, add_ints, sub_ints, lt_ints, le_ints, gt_ints, ge_ints, glen_list, glen_tuple, reduceCtorEq, false_or, or_false, i0, i1, i2]
  split
  · refine pick_W g2 h1.1 (by have := h1.2.1; omega) (by omega) fun a ha T3 g3 => ?_
    simp only [W_mSeq, W_mSet, W_mSetF, W_mIf, W_mRet, W_mCf, W_mAk0, W_mAk1, W_mAd, W_mN0, W_mC, W_mBin, W_mVar0, W_mVarS, W_mVarBd, W_mVarBo, W_mVarBS, W_mQ, W_mNot, W_mAnd, W_mOr, W_mL, W_mLst, W_mCons, W_mNil, W_mTup, W_mIt, W_mLc, W_mRng1, W_mCall, W_mNext, W_mAsg, W_mFor, W_mYes, W_mSl, W_mP0, W_mP, W_mSlF, W_mNeg, W_mRevT, W_mTupOf, W_mListT, W_mIfx, W_mAk2, W_mAc, W_mCst0, W_mCstS, W_mAndV, W_mOrV, W_mNotV, W_some, W_map, W_bind, seqQ_nx, seqQ_rt, List.set_cons_succ, List.set_cons_zero, List.map_cons, List.map_nil, List.length_cons, List.length_nil, List.nil_append, List.cons_append, List.replicate, wipeE, PyData.bool.injEq, PyData.int.injEq, exists_eq_left', exists_eq_left, and_true, true_and, eq_ints, ↓reduceIte, Option.bind_some, Option.map_some, Nat.reduceAdd, Nat.reduceLeDiff, PyData.list.injEq, PyData.tuple.injEq, add_ints, sub_ints, lt_ints, le_ints, gt_ints, ge_ints, glen_list, glen_tuple, reduceCtorEq, false_or, or_false]
    refine pick_W g3 h3.1 (by have := h3.2.1; omega) (by omega) fun b hb T4 g4 => ?_
    simp only [W_mSeq, W_mSet, W_mSetF, W_mIf, W_mRet, W_mCf, W_mAk0, W_mAk1, W_mAd, W_mN0, W_mC, W_mBin, W_mVar0, W_mVarS, W_mVarBd, W_mVarBo, W_mVarBS, W_mQ, W_mNot, W_mAnd, W_mOr, W_mL, W_mLst, W_mCons, W_mNil, W_mTup, W_mIt, W_mLc, W_mRng1, W_mCall, W_mNext, W_mAsg, W_mFor, W_mYes, W_mSl, W_mP0, W_mP, W_mSlF, W_mNeg, W_mRevT, W_mTupOf, W_mListT, W_mIfx, W_mAk2, W_mAc, W_mCst0, W_mCstS, W_mAndV, W_mOrV, W_mNotV, W_some, W_map, W_bind, seqQ_nx, seqQ_rt, List.set_cons_succ, List.set_cons_zero, List.map_cons, List.map_nil, List.length_cons, List.length_nil, List.nil_append, List.cons_append, List.replicate, wipeE, PyData.bool.injEq, PyData.int.injEq, exists_eq_left', exists_eq_left, and_true, true_and, eq_ints, ↓reduceIte, Option.bind_some, Option.map_some, Nat.reduceAdd, Nat.reduceLeDiff, PyData.list.injEq, PyData.tuple.injEq, add_ints, sub_ints, lt_ints, le_ints, gt_ints, ge_ints, glen_list, glen_tuple, reduceCtorEq, false_or, or_false]
    obtain ⟨s, rfl, ts1⟩ := h1.2.2 a ha
    obtain ⟨x, rfl, tx1⟩ := h3.2.2 b hb
    exact ⟨_, _, rfl, q _ _ (.inl ⟨s, x, rfl, ts1, tx1⟩) (g4.up (by omega))⟩
  · refine pick_W g2 h2.1 (by have := h2.2.1; omega) (by omega) fun a ha T3 g3 => ?_
    simp only [W_mSeq, W_mSet, W_mSetF, W_mIf, W_mRet, W_mCf, W_mAk0, W_mAk1, W_mAd, W_mN0, W_mC, W_mBin, W_mVar0, W_mVarS, W_mVarBd, W_mVarBo, W_mVarBS, W_mQ, W_mNot, W_mAnd, W_mOr, W_mL, W_mLst, W_mCons, W_mNil, W_mTup, W_mIt, W_mLc, W_mRng1, W_mCall, W_mNext, W_mAsg, W_mFor, W_mYes, W_mSl, W_mP0, W_mP, W_mSlF, W_mNeg, W_mRevT, W_mTupOf, W_mListT, W_mIfx, W_mAk2, W_mAc, W_mCst0, W_mCstS, W_mAndV, W_mOrV, W_mNotV, W_some, W_map, W_bind, seqQ_nx, seqQ_rt, List.set_cons_succ, List.set_cons_zero, List.map_cons, List.map_nil, List.length_cons, List.length_nil, List.nil_append, List.cons_append, List.replicate, wipeE, PyData.bool.injEq, PyData.int.injEq, exists_eq_left', exists_eq_left, and_true, true_and, eq_ints, ↓reduceIte, Option.bind_some, Option.map_some, Nat.reduceAdd, Nat.reduceLeDiff, PyData.list.injEq, PyData.tuple.injEq, add_ints, sub_ints, lt_ints, le_ints, gt_ints, ge_ints, glen_list, glen_tuple, reduceCtorEq, false_or, or_false]
    refine pick_W g3 h3.1 (by have := h3.2.1; omega) (by omega) fun b hb T4 g4 => ?_
    simp only [W_mSeq, W_mSet, W_mSetF, W_mIf, W_mRet, W_mCf, W_mAk0, W_mAk1, W_mAd, W_mN0, W_mC, W_mBin, W_mVar0, W_mVarS, W_mVarBd, W_mVarBo, W_mVarBS, W_mQ, W_mNot, W_mAnd, W_mOr, W_mL, W_mLst, W_mCons, W_mNil, W_mTup, W_mIt, W_mLc, W_mRng1, W_mCall, W_mNext, W_mAsg, W_mFor, W_mYes, W_mSl, W_mP0, W_mP, W_mSlF, W_mNeg, W_mRevT, W_mTupOf, W_mListT, W_mIfx, W_mAk2, W_mAc, W_mCst0, W_mCstS, W_mAndV, W_mOrV, W_mNotV, W_some, W_map, W_bind, seqQ_nx, seqQ_rt, List.set_cons_succ, List.set_cons_zero, List.map_cons, List.map_nil, List.length_cons, List.length_nil, List.nil_append, List.cons_append, List.replicate, wipeE, PyData.bool.injEq, PyData.int.injEq, exists_eq_left', exists_eq_left, and_true, true_and, eq_ints, ↓reduceIte, Option.bind_some, Option.map_some, Nat.reduceAdd, Nat.reduceLeDiff, PyData.list.injEq, PyData.tuple.injEq, add_ints, sub_ints, lt_ints, le_ints, gt_ints, ge_ints, glen_list, glen_tuple, reduceCtorEq, false_or, or_false]
    refine pick_W g4 h3.1 (by have := h3.2.1; omega) (by omega) fun c hc T5 g5 => ?_
    simp only [W_mSeq, W_mSet, W_mSetF, W_mIf, W_mRet, W_mCf, W_mAk0, W_mAk1, W_mAd, W_mN0, W_mC, W_mBin, W_mVar0, W_mVarS, W_mVarBd, W_mVarBo, W_mVarBS, W_mQ, W_mNot, W_mAnd, W_mOr, W_mL, W_mLst, W_mCons, W_mNil, W_mTup, W_mIt, W_mLc, W_mRng1, W_mCall, W_mNext, W_mAsg, W_mFor, W_mYes, W_mSl, W_mP0, W_mP, W_mSlF, W_mNeg, W_mRevT, W_mTupOf, W_mListT, W_mIfx, W_mAk2, W_mAc, W_mCst0, W_mCstS, W_mAndV, W_mOrV, W_mNotV, W_some, W_map, W_bind, seqQ_nx, seqQ_rt, List.set_cons_succ, List.set_cons_zero, List.map_cons, List.map_nil, List.length_cons, List.length_nil, List.nil_append, List.cons_append, List.replicate, wipeE, PyData.bool.injEq, PyData.int.injEq, exists_eq_left', exists_eq_left, and_true, true_and, eq_ints, ↓reduceIte, Option.bind_some, Option.map_some, Nat.reduceAdd, Nat.reduceLeDiff, PyData.list.injEq, PyData.tuple.injEq, add_ints, sub_ints, lt_ints, le_ints, gt_ints, ge_ints, glen_list, glen_tuple, reduceCtorEq, false_or, or_false]
    obtain ⟨s, rfl, ts1⟩ := h2.2.2 a ha
    obtain ⟨x, rfl, tx1⟩ := h3.2.2 b hb
    obtain ⟨y, rfl, ty1⟩ := h3.2.2 c hc
    exact ⟨_, _, rfl, q _ _ (.inr ⟨s, x, y, rfl, ts1, tx1, ty1⟩) (g5.up (by omega))⟩
theorem rows_W {k m : Nat} {T : Dk} {Q : PyData × Dk → Prop} {ks rs ts : List PyData} (g : Gd k T) (hk : k + 300 < 1000000000) (hm : m ≤ 13) (h1 : NL ks) (h2 : NL rs) (h3 : NL ts)
    (q : ∀ (ds : List PyData) (T' : Dk), (∀ d ∈ ds, Rw d) → ds.length ≤ 13 → Gd (k + 52) T' → Q (.tuple ds, T')) : W (M__law_rows [.deck, .dat (.list [.list ks, .list rs, .list ts]), .dat (.int (m : Nat))] T) Q := by
  refine W_mFun ?_
  unfold B__law_rows
  refine W_seq_nx (en' := [some .deck, some (.dat (.list [.list ks, .list rs, .list ts])), some (.dat (.int (m : Nat))), some (.own ([])), none, none]) (T' := T) rfl ?_
  rw [W_mSeq, W_mFor]
  refine W.of (rng1_to (n := m) rfl (by omega)) ?_
  refine W_fold (fun ds en' T' => ∃ fs a4 a5, en' = [some .deck, some (.dat (.list [.list ks, .list rs, .list ts])), some (.dat (.int (m : Nat))), some (.own (fs)), a4, a5] ∧ (∀ r ∈ fs, Rw r) ∧ fs.length + ds.length ≤ m ∧ Gd (k + 4 * (m - ds.length)) T') (fun d ds en' T' hI => ?_) _ _ _ ⟨[], none, none, rfl, (fun _ h => by cases h), by simp [rng_len], g.up (by omega)⟩ fun en' T' hI => ?_
  · obtain ⟨fs, a4, a5, rfl, f1, f2, f3⟩ := hI
    simp only [List.length_cons] at f2 f3
    simp only [gtName, List.set_cons_succ, List.set_cons_zero, W_some]
    rw [W_mSeq]
    simp only [W_mSet, W_mSetF, W_mIf, W_mRet, W_mCf, W_mAk0, W_mAk1, W_mAd, W_mN0, W_mC, W_mBin, W_mVar0, W_mVarS, W_mVarBd, W_mVarBo, W_mVarBS, W_mQ, W_mNot, W_mAnd, W_mOr, W_mL, W_mLst, W_mCons, W_mNil, W_mTup, W_mIt, W_mLc, W_mRng1, W_mCall, W_mNext, W_mAsg, W_mYes, W_mSl, W_mP0, W_mP, W_mSlF, W_mNeg, W_mRevT, W_mTupOf, W_mListT, W_mIfx, W_mAk2, W_mAc, W_mCst0, W_mCstS, W_mAndV, W_mOrV, W_mNotV, W_some, W_map, W_bind, seqQ_nx, seqQ_rt, List.set_cons_succ, List.set_cons_zero, List.map_cons, List.map_nil, List.length_cons, List.length_nil, List.nil_append, List.cons_append, List.replicate, wipeE, PyData.bool.injEq, PyData.int.injEq, exists_eq_left', exists_eq_left, and_true, true_and, eq_ints, ↓reduceIte, Option.bind_some, Option.map_some, Nat.reduceAdd, Nat.reduceLeDiff, PyData.list.injEq, PyData.tuple.injEq, add_ints, sub_ints, lt_ints, le_ints, gt_ints, ge_ints, glen_list, glen_tuple, reduceCtorEq, false_or, or_false]
    refine row_W f3 (by omega) h1 h2 h3 fun ln T2 hl g2 => ?_
    simp only [W_mSet, W_mSetF, W_mIf, W_mRet, W_mCf, W_mAk0, W_mAk1, W_mAd, W_mN0, W_mC, W_mBin, W_mVar0, W_mVarS, W_mVarBd, W_mVarBo, W_mVarBS, W_mQ, W_mNot, W_mAnd, W_mOr, W_mL, W_mLst, W_mCons, W_mNil, W_mTup, W_mIt, W_mLc, W_mRng1, W_mCall, W_mNext, W_mAsg, W_mYes, W_mSl, W_mP0, W_mP, W_mSlF, W_mNeg, W_mRevT, W_mTupOf, W_mListT, W_mIfx, W_mAk2, W_mAc, W_mCst0, W_mCstS, W_mAndV, W_mOrV, W_mNotV, W_some, W_map, W_bind, seqQ_nx, seqQ_rt, List.set_cons_succ, List.set_cons_zero, List.map_cons, List.map_nil, List.length_cons, List.length_nil, List.nil_append, List.cons_append, List.replicate, wipeE, PyData.bool.injEq, PyData.int.injEq, exists_eq_left', exists_eq_left, and_true, true_and, eq_ints, ↓reduceIte, Option.bind_some, Option.map_some, Nat.reduceAdd, Nat.reduceLeDiff, PyData.list.injEq, PyData.tuple.injEq, add_ints, sub_ints, lt_ints, le_ints, gt_ints, ge_ints, glen_list, glen_tuple, reduceCtorEq, false_or, or_false]
    rw [in_sh true (Rw.pd hl).sh (fun x hx => (Rw.pd (f1 x hx)).sh) (by decide) (by decide), W_some]
    obtain ⟨b, hb⟩ : ∃ b : Bool, (true ^^ fs.any fun z => PyData.eqv z ln) = b := ⟨_, rfl⟩
    simp only [hb, W_mSet, W_mSetF, W_mIf, W_mRet, W_mCf, W_mAk0, W_mAk1, W_mAd, W_mN0, W_mC, W_mBin, W_mVar0, W_mVarS, W_mVarBd, W_mVarBo, W_mVarBS, W_mQ, W_mNot, W_mAnd, W_mOr, W_mL, W_mLst, W_mCons, W_mNil, W_mTup, W_mIt, W_mLc, W_mRng1, W_mCall, W_mNext, W_mAsg, W_mYes, W_mSl, W_mP0, W_mP, W_mSlF, W_mNeg, W_mRevT, W_mTupOf, W_mListT, W_mIfx, W_mAk2, W_mAc, W_mCst0, W_mCstS, W_mAndV, W_mOrV, W_mNotV, W_some, W_map, W_bind, seqQ_nx, seqQ_rt, List.set_cons_succ, List.set_cons_zero, List.map_cons, List.map_nil, List.length_cons, List.length_nil, List.nil_append, List.cons_append, List.replicate, wipeE, PyData.bool.injEq, PyData.int.injEq, exists_eq_left', exists_eq_left, and_true, true_and, eq_ints, ↓reduceIte, Option.bind_some, Option.map_some, Nat.reduceAdd, Nat.reduceLeDiff, PyData.list.injEq, PyData.tuple.injEq, add_ints, sub_ints, lt_ints, le_ints, gt_ints, ge_ints, glen_list, glen_tuple, reduceCtorEq, false_or, or_false]
    cases b
    · simp only [Bool.false_eq_true, if_false]
      exact ⟨_, _, rfl, fs, _, _, rfl, f1, by omega, g2.up (by omega)⟩
    · simp only [if_true]
      rw [W_mApp (ds := fs) rfl]
      simp only [W_mSet, W_mSetF, W_mIf, W_mRet, W_mCf, W_mAk0, W_mAk1, W_mAd, W_mN0, W_mC, W_mBin, W_mVar0, W_mVarS, W_mVarBd, W_mVarBo, W_mVarBS, W_mQ, W_mNot, W_mAnd, W_mOr, W_mL, W_mLst, W_mCons, W_mNil, W_mTup, W_mIt, W_mLc, W_mRng1, W_mCall, W_mNext, W_mAsg, W_mYes, W_mSl, W_mP0, W_mP, W_mSlF, W_mNeg, W_mRevT, W_mTupOf, W_mListT, W_mIfx, W_mAk2, W_mAc, W_mCst0, W_mCstS, W_mAndV, W_mOrV, W_mNotV, W_some, W_map, W_bind, seqQ_nx, seqQ_rt, List.set_cons_succ, List.set_cons_zero, List.map_cons, List.map_nil, List.length_cons, List.length_nil, List.nil_append, List.cons_append, List.replicate, wipeE, PyData.bool.injEq, PyData.int.injEq, exists_eq_left', exists_eq_left, and_true, true_and, eq_ints, ↓reduceIte, Option.bind_some, Option.map_some, Nat.reduceAdd, Nat.reduceLeDiff, PyData.list.injEq, PyData.tuple.injEq, add_ints, sub_ints, lt_ints, le_ints, gt_ints, ge_ints, glen_list, glen_tuple, reduceCtorEq, false_or, or_false]
      refine ⟨by omega, _, _, rfl, fs ++ [ln], _, _, rfl, fun x hx => ?_, by rw [List.length_append]; simp only [List.length_cons, List.length_nil]; omega, g2.up (by omega)⟩
      rcases List.mem_append.mp hx with h | h
      · exact f1 x h
      · rw [List.mem_singleton.mp h]
        exact hl
  · obtain ⟨fs, a4, a5, rfl, f1, f2, f3⟩ := hI
    simp only [List.length_nil, Nat.add_zero] at f2
    have e : (mSortL (mVarB 3)) [some .deck, some (.dat (.list [.list ks, .list rs, .list ts])), some (.dat (.int (m : Nat))), some (.own (fs)), a4, a5] T' = some (sortD fs, T') := by
      show (gSortL fs).map (fun es => (es, T')) = _
      rw [gSortL_rw f1 (by omega)]
      rfl
    rw [seqQ_nx, W_mRet, W_mTupOf, W_mL]
    refine W.of e ⟨_, rfl, _, _, rfl, q (sortD fs) T' (fun d hd => f1 d (sortD_mem.mp hd)) (by rw [sortD_len]; omega) (f3.up (by simp only [List.length_nil]; omega))⟩
theorem tx_nowhere : Tx 40 "nowhere" := ⟨by decide +kernel, canLay_cps (by decide +kernel)⟩
theorem tx_zzz : Tx 40 "zzz" := ⟨by decide +kernel, canLay_cps (by decide +kernel)⟩
theorem law_W (x : Option Sl) (T : Dk) (g : Gd 0 T) : W (B_law [x, some .deck, none, none, none, none] T) fun r => ∃ T', r = .rt (.bool true) T' := by
  unfold B_law
  refine W_cut (fun en' T' => ∃ ks rs ts : List PyData, NL ks ∧ NL rs ∧ NL ts ∧ Gd 42 T' ∧ en' = [x, some .deck, some (.dat (.list [.list ks, .list rs, .list ts])), none, none, none]) ?_ ?_
  · simp only [W_mSet, W_mSetF, W_mIf, W_mRet, W_mCf, W_mAk0, W_mAk1, W_mAd, W_mN0, W_mC, W_mBin, W_mVar0, W_mVarS, W_mVarBd, W_mVarBo, W_mVarBS, W_mQ, W_mNot, W_mAnd, W_mOr, W_mL, W_mLst, W_mCons, W_mNil, W_mTup, W_mIt, W_mLc, W_mRng1, W_mCall, W_mNext, W_mAsg, W_mYes, W_mSl, W_mP0, W_mP, W_mSlF, W_mNeg, W_mRevT, W_mTupOf, W_mListT, W_mIfx, W_mAk2, W_mAc, W_mCst0, W_mCstS, W_mAndV, W_mOrV, W_mNotV, W_some, W_map, W_bind, seqQ_nx, seqQ_rt, List.set_cons_succ, List.set_cons_zero, List.map_cons, List.map_nil, List.length_cons, List.length_nil, List.nil_append, List.cons_append, List.replicate, wipeE, PyData.bool.injEq, PyData.int.injEq, exists_eq_left', exists_eq_left, and_true, true_and, eq_ints, ↓reduceIte, Option.bind_some, Option.map_some, Nat.reduceAdd, Nat.reduceLeDiff, PyData.list.injEq, PyData.tuple.injEq, add_ints, sub_ints, lt_ints, le_ints, gt_ints, ge_ints, glen_list, glen_tuple, reduceCtorEq, false_or, or_false, e_words]
    refine wordsA_W g (by omega) fun ks rs ts T2 h1 h2 h3 g2 => ?_
    exact ⟨_, _, rfl, ks, rs, ts, h1, h2, h3, g2.up (by omega), rfl⟩
  rintro _ T2 ⟨ks, rs, ts, h1, h2, h3, g2, rfl⟩
  refine W_cut (fun en' T' => ∃ ds : List PyData, (∀ d ∈ ds, Rw d) ∧ ds.length ≤ 13 ∧ Gd 100 T' ∧ en' = [x, some .deck, some (.dat (.list [.list ks, .list rs, .list ts])), some (.dat (.tuple ds)), none, none]) ?_ ?_
  · simp only [W_mSet, W_mSetF, W_mIf, W_mRet, W_mCf, W_mAk0, W_mAk1, W_mAd, W_mN0, W_mC, W_mBin, W_mVar0, W_mVarS, W_mVarBd, W_mVarBo, W_mVarBS, W_mQ, W_mNot, W_mAnd, W_mOr, W_mL, W_mLst, W_mCons, W_mNil, W_mTup, W_mIt, W_mLc, W_mRng1, W_mCall, W_mNext, W_mAsg, W_mYes, W_mSl, W_mP0, W_mP, W_mSlF, W_mNeg, W_mRevT, W_mTupOf, W_mListT, W_mIfx, W_mAk2, W_mAc, W_mCst0, W_mCstS, W_mAndV, W_mOrV, W_mNotV, W_some, W_map, W_bind, seqQ_nx, seqQ_rt, List.set_cons_succ, List.set_cons_zero, List.map_cons, List.map_nil, List.length_cons, List.length_nil, List.nil_append, List.cons_append, List.replicate, wipeE, PyData.bool.injEq, PyData.int.injEq, exists_eq_left', exists_eq_left, and_true, true_and, eq_ints, ↓reduceIte, Option.bind_some, Option.map_some, Nat.reduceAdd, Nat.reduceLeDiff, PyData.list.injEq, PyData.tuple.injEq, add_ints, sub_ints, lt_ints, le_ints, gt_ints, ge_ints, glen_list, glen_tuple, reduceCtorEq, false_or, or_false, e_pick]
    refine pick_W g2 (by simp) (by simp) (by omega) fun n hn T4 g4 => ?_
    have : ∃ j : Nat, n = .int (j : Nat) ∧ j ≤ 13 := by
      simp only [List.mem_cons, List.not_mem_nil, or_false] at hn
      rcases hn with rfl | rfl | rfl | rfl | rfl
      · exact ⟨0, rfl, by decide⟩
      · exact ⟨1, rfl, by decide⟩
      · exact ⟨3, rfl, by decide⟩
      · exact ⟨7, rfl, by decide⟩
      · exact ⟨13, rfl, by decide⟩
    obtain ⟨j, rfl, hj⟩ := this
    simp only [W_mSet, W_mSetF, W_mIf, W_mRet, W_mCf, W_mAk0, W_mAk1, W_mAd, W_mN0, W_mC, W_mBin, W_mVar0, W_mVarS, W_mVarBd, W_mVarBo, W_mVarBS, W_mQ, W_mNot, W_mAnd, W_mOr, W_mL, W_mLst, W_mCons, W_mNil, W_mTup, W_mIt, W_mLc, W_mRng1, W_mCall, W_mNext, W_mAsg, W_mYes, W_mSl, W_mP0, W_mP, W_mSlF, W_mNeg, W_mRevT, W_mTupOf, W_mListT, W_mIfx, W_mAk2, W_mAc, W_mCst0, W_mCstS, W_mAndV, W_mOrV, W_mNotV, W_some, W_map, W_bind, seqQ_nx, seqQ_rt, List.set_cons_succ, List.set_cons_zero, List.map_cons, List.map_nil, List.length_cons, List.length_nil, List.nil_append, List.cons_append, List.replicate, wipeE, PyData.bool.injEq, PyData.int.injEq, exists_eq_left', exists_eq_left, and_true, true_and, eq_ints, ↓reduceIte, Option.bind_some, Option.map_some, Nat.reduceAdd, Nat.reduceLeDiff, PyData.list.injEq, PyData.tuple.injEq, add_ints, sub_ints, lt_ints, le_ints, gt_ints, ge_ints, glen_list, glen_tuple, reduceCtorEq, false_or, or_false]
    refine rows_W g4 (by omega) hj h1 h2 h3 fun ds T5 l1 l2 g5 => ?_
    exact ⟨_, _, rfl, ds, l1, l2, g5.up (by omega), rfl⟩
  rintro _ T3 ⟨ds, l1, l2, g3, rfl⟩
  have i2 : ixD (.list [.list ks, .list rs, .list ts]) (.int 2) = some (.list ts) := atI_nat (xs := [PyData.list ks, .list rs, .list ts]) (j := 2) rfl
  have hsm : ∀ d ∈ ts ++ [PyData.str "nowhere", .str "zzz"], Nm d := fun d hd => by
    rcases List.mem_append.mp hd with h | h
    · exact h3.2.2 d h
    · simp only [List.mem_cons, List.not_mem_nil, or_false] at h
      rcases h with rfl | rfl
      · exact ⟨_, rfl, tx_nowhere⟩
      · exact ⟨_, rfl, tx_zzz⟩
  refine W_seq_nx (en' := [x, some .deck, some (.dat (.list [.list ks, .list rs, .list ts])), some (.dat (.tuple ds)), some (.dat (.list (ts ++ [.str "nowhere", .str "zzz"]))), none]) (T' := T3) ?_ ?_
  · refine set_to (l_to ?_)
    have e3 : (mBin ixD (mVar 2) (mC (PyData.int (2)))) [x, some .deck, some (.dat (.list [.list ks, .list rs, .list ts])), some (.dat (.tuple ds)), none, none] T3 = some (.list ts, T3) := W_eq.mp (by simp only [W_mSet, W_mSetF, W_mIf, W_mRet, W_mCf, W_mAk0, W_mAk1, W_mAd, W_mN0, W_mC, W_mBin, W_mVar0, W_mVarS, W_mVarBd, W_mVarBo, W_mVarBS, W_mQ, W_mNot, W_mAnd, W_mOr, W_mL, W_mLst, W_mCons, W_mNil, W_mTup, W_mIt, W_mLc, W_mRng1, W_mCall, W_mNext, W_mAsg, W_mYes, W_mSl, W_mP0, W_mP, W_mSlF, W_mNeg, W_mRevT, W_mTupOf, W_mListT, W_mIfx, W_mAk2, W_mAc, W_mCst0, W_mCstS, W_mAndV, W_mOrV, W_mNotV, W_some, W_map, W_bind, seqQ_nx, seqQ_rt, List.set_cons_succ, List.set_cons_zero, List.map_cons, List.map_nil, List.length_cons, List.length_nil, List.nil_append, List.cons_append, List.replicate, wipeE, PyData.bool.injEq, PyData.int.injEq, exists_eq_left', exists_eq_left, and_true, true_and, eq_ints, ↓reduceIte, Option.bind_some, Option.map_some, Nat.reduceAdd, Nat.reduceLeDiff, PyData.list.injEq, PyData.tuple.injEq, add_ints, sub_ints, lt_ints, le_ints, gt_ints, ge_ints, glen_list, glen_tuple, reduceCtorEq, false_or, or_false, i2])
    unfold mCatE
    rw [e3]
    simp only [Option.bind_some]
    show (if ts.length + [PyData.str "nowhere", .str "zzz"].length ≤ 16777216 then some _ else none) = _
    rw [if_pos (by have := h3.2.1; simp; omega)]
  refine W_cut (fun en' T' => ∃ v : Int, en' = [x, some .deck, some (.dat (.list [.list ks, .list rs, .list ts])), some (.dat (.tuple ds)), some (.dat (.list (ts ++ [.str "nowhere", .str "zzz"]))), some (.dat (.int v))]) ?_ ?_
  · simp only [W_mSet, W_mSetF, W_mIf, W_mRet, W_mCf, W_mAk0, W_mAk1, W_mAd, W_mN0, W_mC, W_mBin, W_mVar0, W_mVarS, W_mVarBd, W_mVarBo, W_mVarBS, W_mQ, W_mNot, W_mAnd, W_mOr, W_mL, W_mLst, W_mCons, W_mNil, W_mTup, W_mIt, W_mLc, W_mRng1, W_mCall, W_mNext, W_mAsg, W_mYes, W_mSl, W_mP0, W_mP, W_mSlF, W_mNeg, W_mRevT, W_mTupOf, W_mListT, W_mIfx, W_mAk2, W_mAc, W_mCst0, W_mCstS, W_mAndV, W_mOrV, W_mNotV, W_some, W_map, W_bind, seqQ_nx, seqQ_rt, List.set_cons_succ, List.set_cons_zero, List.map_cons, List.map_nil, List.length_cons, List.length_nil, List.nil_append, List.cons_append, List.replicate, wipeE, PyData.bool.injEq, PyData.int.injEq, exists_eq_left', exists_eq_left, and_true, true_and, eq_ints, ↓reduceIte, Option.bind_some, Option.map_some, Nat.reduceAdd, Nat.reduceLeDiff, PyData.list.injEq, PyData.tuple.injEq, add_ints, sub_ints, lt_ints, le_ints, gt_ints, ge_ints, glen_list, glen_tuple, reduceCtorEq, false_or, or_false, e_take]
    refine take_W g3 (by omega) (by omega) (by omega) fun v T4 v0 v1 g4 => ?_
    exact ⟨_, _, rfl, v, rfl⟩
  rintro _ T4 ⟨v, rfl⟩
  have slT : ∀ lo hi, gSlT (.tuple ds) lo hi = some (.tuple (LQ.cutD ds lo hi)) := fun _ _ => rfl
  have sub : ∀ lo hi, (∀ r ∈ LQ.cutD ds lo hi, Rw r) ∧ (LQ.cutD ds lo hi).length ≤ 13 := fun lo hi => ⟨fun r hr => l1 r (mem_cutD hr), Nat.le_trans (len_cutD ds lo hi) l2⟩
  have r1 := right_val l1 l2 hsm T4
  have r2 := right_val (sub none (some v)).1 (sub none (some v)).2 hsm T4
  have r3 := right_val (sub (some v) none).1 (sub (some v) none).2 hsm T4
  have r4 := right_val (some' := (ts ++ [PyData.str "nowhere", .str "zzz"]).reverse) l1 l2 (fun d hd => hsm d (List.mem_reverse.mp hd)) T4
  have rv : (mL (mRevL (mVar 4))) [x, some .deck, some (.dat (.list [.list ks, .list rs, .list ts])), some (.dat (.tuple ds)), some (.dat (.list (ts ++ [.str "nowhere", .str "zzz"]))), some (.dat (.int v))] T4 = some (.list (ts ++ [PyData.str "nowhere", .str "zzz"]).reverse, T4) := rfl
  rw [W_mSeq]
  simp only [W_mSet, W_mSetF, W_mIf, W_mRet, W_mCf, W_mAk0, W_mAk1, W_mAd, W_mN0, W_mC, W_mBin, W_mVar0, W_mVarS, W_mVarBd, W_mVarBo, W_mVarBS, W_mQ, W_mNot, W_mAnd, W_mOr, W_mL, W_mLst, W_mCons, W_mNil, W_mTup, W_mIt, W_mLc, W_mRng1, W_mCall, W_mNext, W_mAsg, W_mYes, W_mSl, W_mP0, W_mP, W_mSlF, W_mNeg, W_mRevT, W_mTupOf, W_mListT, W_mIfx, W_mAk2, W_mAc, W_mCst0, W_mCstS, W_mAndV, W_mOrV, W_mNotV, W_some, W_map, W_bind, seqQ_nx, seqQ_rt, List.set_cons_succ, List.set_cons_zero, List.map_cons, List.map_nil, List.length_cons, List.length_nil, List.nil_append, List.cons_append, List.replicate, wipeE, PyData.bool.injEq, PyData.int.injEq, exists_eq_left', exists_eq_left, and_true, true_and, eq_ints, ↓reduceIte, Option.bind_some, Option.map_some, Nat.reduceAdd, Nat.reduceLeDiff, PyData.list.injEq, PyData.tuple.injEq, add_ints, sub_ints, lt_ints, le_ints, gt_ints, ge_ints, glen_list, glen_tuple, reduceCtorEq, false_or, or_false, r1, r2, slT]
  simp only [Bool.not_true, Bool.false_eq_true, if_false]
  simp only [W_mSet, W_mSetF, W_mIf, W_mRet, W_mCf, W_mAk0, W_mAk1, W_mAd, W_mN0, W_mC, W_mBin, W_mVar0, W_mVarS, W_mVarBd, W_mVarBo, W_mVarBS, W_mQ, W_mNot, W_mAnd, W_mOr, W_mL, W_mLst, W_mCons, W_mNil, W_mTup, W_mIt, W_mLc, W_mRng1, W_mCall, W_mNext, W_mAsg, W_mYes, W_mSl, W_mP0, W_mP, W_mSlF, W_mNeg, W_mRevT, W_mTupOf, W_mListT, W_mIfx, W_mAk2, W_mAc, W_mCst0, W_mCstS, W_mAndV, W_mOrV, W_mNotV, W_some, W_map, W_bind, seqQ_nx, seqQ_rt, List.set_cons_succ, List.set_cons_zero, List.map_cons, List.map_nil, List.length_cons, List.length_nil, List.nil_append, List.cons_append, List.replicate, wipeE, PyData.bool.injEq, PyData.int.injEq, exists_eq_left', exists_eq_left, and_true, true_and, eq_ints, ↓reduceIte, Option.bind_some, Option.map_some, Nat.reduceAdd, Nat.reduceLeDiff, PyData.list.injEq, PyData.tuple.injEq, add_ints, sub_ints, lt_ints, le_ints, gt_ints, ge_ints, glen_list, glen_tuple, reduceCtorEq, false_or, or_false, r3, slT, rv]
  refine W.of (r := ((ts ++ [PyData.str "nowhere", .str "zzz"]).reverse, T4)) rfl ?_
  rw [r4, W_some]
  exact ⟨_, rfl⟩
theorem law_val : ∀ ns : List Int, ns.length ≤ 63 → ∃ cs gs T', M__law_deck [.dat (.list (ns.map PyData.int))] ⟨[], [], 0, 0⟩ = some (cs, gs) ∧ B_law ((some (.dat (.list (ns.map PyData.int))) :: List.replicate 5 none).set 1 (some .deck)) ⟨cs, gs, 0, 0⟩ = some (.rt (.bool true) T') := by
  intro ns h
  obtain ⟨r, e, T', rfl⟩ := law_W (some (.dat (.list (ns.map PyData.int)))) _ (deck_good ns h)
  exact ⟨_, _, T', by rw [e_deck]; exact deck_val ns h _, e⟩
end K04

set_option Elab.async false
set_option linter.all false
set_option maxRecDepth 100000
set_option maxHeartbeats 2000000
namespace K04
open PySem PySem.Spec PyProof.Rows L2 LQ
theorem all_mk {P : Program} {w : World} {K : PySem.W.Frag} {h : Heap} {mg : Str → Option Value} {fa : Addr} (X : K.In h) (G : h.Ns mainGlobals mg) (hfa : mg "law" = some (.ref fa))
    {f_row_sorts : Addr} {oc_row_sorts kV_row_sorts dc_row_sorts pm_row_sorts cd_row_sorts ct_row_sorts : Value} {od_row_sorts an_row_sorts : Option Addr} {os_row_sorts : Array (Option Value)}
    {f_sorts_of : Addr} {oc_sorts_of kV_sorts_of dc_sorts_of pm_sorts_of cd_sorts_of ct_sorts_of : Value} {od_sorts_of an_sorts_of : Option Addr} {os_sorts_of : Array (Option Value)}
    {f_things_of : Addr} {oc_things_of kV_things_of dc_things_of pm_things_of cd_things_of ct_things_of : Value} {od_things_of an_things_of : Option Addr} {os_things_of : Array (Option Value)}
    {f__law_cell : Addr} {oc__law_cell kV__law_cell dc__law_cell pm__law_cell cd__law_cell ct__law_cell : Value} {od__law_cell an__law_cell : Option Addr} {os__law_cell : Array (Option Value)}
    {f__law_take : Addr} {oc__law_take kV__law_take dc__law_take pm__law_take cd__law_take ct__law_take : Value} {od__law_take an__law_take : Option Addr} {os__law_take : Array (Option Value)}
    {f__law_pick : Addr} {oc__law_pick kV__law_pick dc__law_pick pm__law_pick cd__law_pick ct__law_pick : Value} {od__law_pick an__law_pick : Option Addr} {os__law_pick : Array (Option Value)}
    {f__law_names : Addr} {oc__law_names kV__law_names dc__law_names pm__law_names cd__law_names ct__law_names : Value} {od__law_names an__law_names : Option Addr} {os__law_names : Array (Option Value)}
    {f__law_words : Addr} {oc__law_words kV__law_words dc__law_words pm__law_words cd__law_words ct__law_words : Value} {od__law_words an__law_words : Option Addr} {os__law_words : Array (Option Value)}
    {f__law_row : Addr} {oc__law_row kV__law_row dc__law_row pm__law_row cd__law_row ct__law_row : Value} {od__law_row an__law_row : Option Addr} {os__law_row : Array (Option Value)}
    {f__law_rows : Addr} {oc__law_rows kV__law_rows dc__law_rows pm__law_rows cd__law_rows ct__law_rows : Value} {od__law_rows an__law_rows : Option Addr} {os__law_rows : Array (Option Value)}
    {f__law_sorts : Addr} {oc__law_sorts kV__law_sorts dc__law_sorts pm__law_sorts cd__law_sorts ct__law_sorts : Value} {od__law_sorts an__law_sorts : Option Addr} {os__law_sorts : Array (Option Value)}
    {f__law_things : Addr} {oc__law_things kV__law_things dc__law_things pm__law_things cd__law_things ct__law_things : Value} {od__law_things an__law_things : Option Addr} {os__law_things : Array (Option Value)}
    {f__law_is_right : Addr} {oc__law_is_right kV__law_is_right dc__law_is_right pm__law_is_right cd__law_is_right ct__law_is_right : Value} {od__law_is_right an__law_is_right : Option Addr} {os__law_is_right : Array (Option Value)}
    {f__law_deck : Addr} {oc__law_deck kV__law_deck dc__law_deck pm__law_deck cd__law_deck ct__law_deck : Value} {od__law_deck an__law_deck : Option Addr} {os__law_deck : Array (Option Value)}
    {f_law : Addr} {oc_law kV_law dc_law pm_law cd_law ct_law : Value} {od_law an_law : Option Addr} {os_law : Array (Option Value)}
    (z_abs : PySem.W.nsIn K mainGlobals "abs" = some none)
    (z_int : PySem.W.nsIn K mainGlobals "int" = some none)
    (z_len : PySem.W.nsIn K mainGlobals "len" = some none)
    (z_list : PySem.W.nsIn K mainGlobals "list" = some none)
    (z_range : PySem.W.nsIn K mainGlobals "range" = some none)
    (z_repr : PySem.W.nsIn K mainGlobals "repr" = some none)
    (z_set : PySem.W.nsIn K mainGlobals "set" = some none)
    (z_sorted : PySem.W.nsIn K mainGlobals "sorted" = some none)
    (z_tuple : PySem.W.nsIn K mainGlobals "tuple" = some none)
    (a_row_sorts : PySem.W.nsIn K mainGlobals "row_sorts" = some (some (.ref f_row_sorts))) (l_row_sorts : K.lookup f_row_sorts = some ⟨oc_row_sorts, od_row_sorts, .func (PySem.W.fnOf "row_sorts" "row_sorts" (defArgs s_row_sorts) (defBody s_row_sorts) (defScope s_row_sorts) .none kV_row_sorts dc_row_sorts pm_row_sorts an_row_sorts cd_row_sorts ct_row_sorts), os_row_sorts⟩) (c_row_sorts : PySem.W.codeIn K cd_row_sorts "row_sorts" = true) (k_row_sorts : PySem.W.keepIn K (.ref f_row_sorts) = true)
    (a_sorts_of : PySem.W.nsIn K mainGlobals "sorts_of" = some (some (.ref f_sorts_of))) (l_sorts_of : K.lookup f_sorts_of = some ⟨oc_sorts_of, od_sorts_of, .func (PySem.W.fnOf "sorts_of" "sorts_of" (defArgs s_sorts_of) (defBody s_sorts_of) (defScope s_sorts_of) .none kV_sorts_of dc_sorts_of pm_sorts_of an_sorts_of cd_sorts_of ct_sorts_of), os_sorts_of⟩) (c_sorts_of : PySem.W.codeIn K cd_sorts_of "sorts_of" = true) (k_sorts_of : PySem.W.keepIn K (.ref f_sorts_of) = true)
    (a_things_of : PySem.W.nsIn K mainGlobals "things_of" = some (some (.ref f_things_of))) (l_things_of : K.lookup f_things_of = some ⟨oc_things_of, od_things_of, .func (PySem.W.fnOf "things_of" "things_of" (defArgs s_things_of) (defBody s_things_of) (defScope s_things_of) .none kV_things_of dc_things_of pm_things_of an_things_of cd_things_of ct_things_of), os_things_of⟩) (c_things_of : PySem.W.codeIn K cd_things_of "things_of" = true) (k_things_of : PySem.W.keepIn K (.ref f_things_of) = true)
    (a__law_cell : PySem.W.nsIn K mainGlobals "_law_cell" = some (some (.ref f__law_cell))) (l__law_cell : K.lookup f__law_cell = some ⟨oc__law_cell, od__law_cell, .func (PySem.W.fnOf "_law_cell" "_law_cell" (defArgs s__law_cell) (defBody s__law_cell) (defScope s__law_cell) .none kV__law_cell dc__law_cell pm__law_cell an__law_cell cd__law_cell ct__law_cell), os__law_cell⟩) (c__law_cell : PySem.W.codeIn K cd__law_cell "_law_cell" = true) (k__law_cell : PySem.W.keepIn K (.ref f__law_cell) = true)
    (a__law_take : PySem.W.nsIn K mainGlobals "_law_take" = some (some (.ref f__law_take))) (l__law_take : K.lookup f__law_take = some ⟨oc__law_take, od__law_take, .func (PySem.W.fnOf "_law_take" "_law_take" (defArgs s__law_take) (defBody s__law_take) (defScope s__law_take) .none kV__law_take dc__law_take pm__law_take an__law_take cd__law_take ct__law_take), os__law_take⟩) (c__law_take : PySem.W.codeIn K cd__law_take "_law_take" = true) (k__law_take : PySem.W.keepIn K (.ref f__law_take) = true)
    (a__law_pick : PySem.W.nsIn K mainGlobals "_law_pick" = some (some (.ref f__law_pick))) (l__law_pick : K.lookup f__law_pick = some ⟨oc__law_pick, od__law_pick, .func (PySem.W.fnOf "_law_pick" "_law_pick" (defArgs s__law_pick) (defBody s__law_pick) (defScope s__law_pick) .none kV__law_pick dc__law_pick pm__law_pick an__law_pick cd__law_pick ct__law_pick), os__law_pick⟩) (c__law_pick : PySem.W.codeIn K cd__law_pick "_law_pick" = true) (k__law_pick : PySem.W.keepIn K (.ref f__law_pick) = true)
    (a__law_names : PySem.W.nsIn K mainGlobals "_law_names" = some (some (.ref f__law_names))) (l__law_names : K.lookup f__law_names = some ⟨oc__law_names, od__law_names, .func (PySem.W.fnOf "_law_names" "_law_names" (defArgs s__law_names) (defBody s__law_names) (defScope s__law_names) .none kV__law_names dc__law_names pm__law_names an__law_names cd__law_names ct__law_names), os__law_names⟩) (c__law_names : PySem.W.codeIn K cd__law_names "_law_names" = true) (k__law_names : PySem.W.keepIn K (.ref f__law_names) = true)
    (a__law_words : PySem.W.nsIn K mainGlobals "_law_words" = some (some (.ref f__law_words))) (l__law_words : K.lookup f__law_words = some ⟨oc__law_words, od__law_words, .func (PySem.W.fnOf "_law_words" "_law_words" (defArgs s__law_words) (defBody s__law_words) (defScope s__law_words) .none kV__law_words dc__law_words pm__law_words an__law_words cd__law_words ct__law_words), os__law_words⟩) (c__law_words : PySem.W.codeIn K cd__law_words "_law_words" = true) (k__law_words : PySem.W.keepIn K (.ref f__law_words) = true)
    (a__law_row : PySem.W.nsIn K mainGlobals "_law_row" = some (some (.ref f__law_row))) (l__law_row : K.lookup f__law_row = some ⟨oc__law_row, od__law_row, .func (PySem.W.fnOf "_law_row" "_law_row" (defArgs s__law_row) (defBody s__law_row) (defScope s__law_row) .none kV__law_row dc__law_row pm__law_row an__law_row cd__law_row ct__law_row), os__law_row⟩) (c__law_row : PySem.W.codeIn K cd__law_row "_law_row" = true) (k__law_row : PySem.W.keepIn K (.ref f__law_row) = true)
    (a__law_rows : PySem.W.nsIn K mainGlobals "_law_rows" = some (some (.ref f__law_rows))) (l__law_rows : K.lookup f__law_rows = some ⟨oc__law_rows, od__law_rows, .func (PySem.W.fnOf "_law_rows" "_law_rows" (defArgs s__law_rows) (defBody s__law_rows) (defScope s__law_rows) .none kV__law_rows dc__law_rows pm__law_rows an__law_rows cd__law_rows ct__law_rows), os__law_rows⟩) (c__law_rows : PySem.W.codeIn K cd__law_rows "_law_rows" = true) (k__law_rows : PySem.W.keepIn K (.ref f__law_rows) = true)
    (a__law_sorts : PySem.W.nsIn K mainGlobals "_law_sorts" = some (some (.ref f__law_sorts))) (l__law_sorts : K.lookup f__law_sorts = some ⟨oc__law_sorts, od__law_sorts, .func (PySem.W.fnOf "_law_sorts" "_law_sorts" (defArgs s__law_sorts) (defBody s__law_sorts) (defScope s__law_sorts) .none kV__law_sorts dc__law_sorts pm__law_sorts an__law_sorts cd__law_sorts ct__law_sorts), os__law_sorts⟩) (c__law_sorts : PySem.W.codeIn K cd__law_sorts "_law_sorts" = true) (k__law_sorts : PySem.W.keepIn K (.ref f__law_sorts) = true)
    (a__law_things : PySem.W.nsIn K mainGlobals "_law_things" = some (some (.ref f__law_things))) (l__law_things : K.lookup f__law_things = some ⟨oc__law_things, od__law_things, .func (PySem.W.fnOf "_law_things" "_law_things" (defArgs s__law_things) (defBody s__law_things) (defScope s__law_things) .none kV__law_things dc__law_things pm__law_things an__law_things cd__law_things ct__law_things), os__law_things⟩) (c__law_things : PySem.W.codeIn K cd__law_things "_law_things" = true) (k__law_things : PySem.W.keepIn K (.ref f__law_things) = true)
    (a__law_is_right : PySem.W.nsIn K mainGlobals "_law_is_right" = some (some (.ref f__law_is_right))) (l__law_is_right : K.lookup f__law_is_right = some ⟨oc__law_is_right, od__law_is_right, .func (PySem.W.fnOf "_law_is_right" "_law_is_right" (defArgs s__law_is_right) (defBody s__law_is_right) (defScope s__law_is_right) .none kV__law_is_right dc__law_is_right pm__law_is_right an__law_is_right cd__law_is_right ct__law_is_right), os__law_is_right⟩) (c__law_is_right : PySem.W.codeIn K cd__law_is_right "_law_is_right" = true) (k__law_is_right : PySem.W.keepIn K (.ref f__law_is_right) = true)
    (a__law_deck : PySem.W.nsIn K mainGlobals "_law_deck" = some (some (.ref f__law_deck))) (l__law_deck : K.lookup f__law_deck = some ⟨oc__law_deck, od__law_deck, .func (PySem.W.fnOf "_law_deck" "_law_deck" (defArgs s__law_deck) (defBody s__law_deck) (defScope s__law_deck) .none kV__law_deck dc__law_deck pm__law_deck an__law_deck cd__law_deck ct__law_deck), os__law_deck⟩) (c__law_deck : PySem.W.codeIn K cd__law_deck "_law_deck" = true) (k__law_deck : PySem.W.keepIn K (.ref f__law_deck) = true)
    (a_law : PySem.W.nsIn K mainGlobals "law" = some (some (.ref f_law))) (l_law : K.lookup f_law = some ⟨oc_law, od_law, .func (PySem.W.fnOf "law" "law" (defArgs s_law) (defBody s_law) (defScope s_law) .none kV_law dc_law pm_law an_law cd_law ct_law), os_law⟩) (c_law : PySem.W.codeIn K cd_law "law" = true) (k_law : PySem.W.keepIn K (.ref f_law) = true)
    (hM : ∀ ns : List Int, ns.length ≤ 63 → ∃ cs gs T', M__law_deck [.dat (.list (ns.map PyData.int))] ⟨[], [], 0, 0⟩ = some (cs, gs) ∧ B_law ((some (.dat (.list (ns.map PyData.int))) :: List.replicate 5 none).set 1 (some .deck)) ⟨cs, gs, 0, 0⟩ = some (.rt (.bool true) T')) :
    ∃ fd : FuncData, (∀ (s : Shared) (v : Value), BindsTo s fd ⟨[v], []⟩ [("_law_script", v)]) ∧ ∀ base : Heap, K.In base → base.Ns mainGlobals mg → FnG P w K mg base CX0 6 fa fd ["_law_script"] (spLaw K) := by
  have T : Bt K mg := ⟨PySem.W.mg_none_of X G z_abs, PySem.W.mg_none_of X G z_int, PySem.W.mg_none_of X G z_len, PySem.W.mg_none_of X G z_list, PySem.W.mg_none_of X G z_range, PySem.W.mg_none_of X G z_repr, PySem.W.mg_none_of X G z_set, PySem.W.mg_none_of X G z_sorted, PySem.W.mg_none_of X G z_tuple⟩
  have D_row_sorts : Def K mg "row_sorts" s_row_sorts ["row"] := def_mk X G a_row_sorts l_row_sorts c_row_sorts k_row_sorts fun _ _ _ _ _ _ us hl => match us, hl with | [_], _ => rfl
  have D_sorts_of : Def K mg "sorts_of" s_sorts_of ["rows", "thing"] := def_mk X G a_sorts_of l_sorts_of c_sorts_of k_sorts_of fun _ _ _ _ _ _ us hl => match us, hl with | [_, _], _ => rfl
  have D_things_of : Def K mg "things_of" s_things_of ["rows"] := def_mk X G a_things_of l_things_of c_things_of k_things_of fun _ _ _ _ _ _ us hl => match us, hl with | [_], _ => rfl
  have D__law_cell : Def K mg "_law_cell" s__law_cell ["_law_script", "_law_k"] := def_mk X G a__law_cell l__law_cell c__law_cell k__law_cell fun _ _ _ _ _ _ us hl => match us, hl with | [_, _], _ => rfl
  have D__law_take : Def K mg "_law_take" s__law_take ["_law_deck_here", "_law_many"] := def_mk X G a__law_take l__law_take c__law_take k__law_take fun _ _ _ _ _ _ us hl => match us, hl with | [_, _], _ => rfl
  have D__law_pick : Def K mg "_law_pick" s__law_pick ["_law_deck_here", "_law_some"] := def_mk X G a__law_pick l__law_pick c__law_pick k__law_pick fun _ _ _ _ _ _ us hl => match us, hl with | [_, _], _ => rfl
  have D__law_names : Def K mg "_law_names" s__law_names ["_law_deck_here", "_law_many"] := def_mk X G a__law_names l__law_names c__law_names k__law_names fun _ _ _ _ _ _ us hl => match us, hl with | [_, _], _ => rfl
  have D__law_words : Def K mg "_law_words" s__law_words ["_law_deck_here"] := def_mk X G a__law_words l__law_words c__law_words k__law_words fun _ _ _ _ _ _ us hl => match us, hl with | [_], _ => rfl
  have D__law_row : Def K mg "_law_row" s__law_row ["_law_deck_here", "_law_words_here"] := def_mk X G a__law_row l__law_row c__law_row k__law_row fun _ _ _ _ _ _ us hl => match us, hl with | [_, _], _ => rfl
  have D__law_rows : Def K mg "_law_rows" s__law_rows ["_law_deck_here", "_law_words_here", "_law_many"] := def_mk X G a__law_rows l__law_rows c__law_rows k__law_rows fun _ _ _ _ _ _ us hl => match us, hl with | [_, _, _], _ => rfl
  have D__law_sorts : Def K mg "_law_sorts" s__law_sorts ["_law_mine", "_law_one"] := def_mk X G a__law_sorts l__law_sorts c__law_sorts k__law_sorts fun _ _ _ _ _ _ us hl => match us, hl with | [_, _], _ => rfl
  have D__law_things : Def K mg "_law_things" s__law_things ["_law_mine"] := def_mk X G a__law_things l__law_things c__law_things k__law_things fun _ _ _ _ _ _ us hl => match us, hl with | [_], _ => rfl
  have D__law_is_right : Def K mg "_law_is_right" s__law_is_right ["_law_mine", "_law_some"] := def_mk X G a__law_is_right l__law_is_right c__law_is_right k__law_is_right fun _ _ _ _ _ _ us hl => match us, hl with | [_, _], _ => rfl
  have D__law_deck : Def K mg "_law_deck" s__law_deck ["_law_script"] := def_mk X G a__law_deck l__law_deck c__law_deck k__law_deck fun _ _ _ _ _ _ us hl => match us, hl with | [_], _ => rfl
  have D_law : Def K mg "law" s_law ["_law_script"] := def_mk X G a_law l_law c_law k_law fun _ _ _ _ _ _ us hl => match us, hl with | [_], _ => rfl
  have D_sorts_of_kw : DefK K mg "sorts_of" s_sorts_of ["rows", "thing"] ["thing", "rows"] [1, 0] := defK_mk X G a_sorts_of l_sorts_of c_sorts_of k_sorts_of fun _ _ _ _ _ _ us hl => match us, hl with | [_, _], _ => rfl
  have e := hfa.symm.trans (PySem.W.mg_of X G a_law)
  cases e
  refine ⟨PySem.W.fnOf "law" "law" (defArgs s_law) (defBody s_law) (defScope s_law) .none kV_law dc_law pm_law an_law cd_law ct_law, fun s v => .of_eq rfl, fun base _ _ => ?_⟩
  have C_row_sorts := ok_row_sorts (P := P) (w := w) (base := base) T D_row_sorts 
  have C_sorts_of := ok_sorts_of (P := P) (w := w) (base := base) T D_sorts_of C_row_sorts
  have C_sorts_of_kw := ok_sorts_of_kw (P := P) (w := w) (base := base) T D_sorts_of_kw C_row_sorts
  have C_things_of := ok_things_of (P := P) (w := w) (base := base) T D_things_of 
  have C__law_cell := ok__law_cell (P := P) (w := w) (base := base) T D__law_cell 
  have C__law_take := ok__law_take (P := P) (w := w) (base := base) T D__law_take C__law_cell
  have C__law_pick := ok__law_pick (P := P) (w := w) (base := base) T D__law_pick C__law_take
  have C__law_names := ok__law_names (P := P) (w := w) (base := base) T D__law_names C__law_pick C__law_take
  have C__law_words := ok__law_words (P := P) (w := w) (base := base) T D__law_words C__law_names C__law_take
  have C__law_row := ok__law_row (P := P) (w := w) (base := base) T D__law_row C__law_pick C__law_take
  have C__law_rows := ok__law_rows (P := P) (w := w) (base := base) T D__law_rows C__law_row
  have C__law_sorts := ok__law_sorts (P := P) (w := w) (base := base) T D__law_sorts 
  have C__law_things := ok__law_things (P := P) (w := w) (base := base) T D__law_things 
  have C__law_is_right := ok__law_is_right (P := P) (w := w) (base := base) T D__law_is_right C__law_sorts C__law_things C_sorts_of C_sorts_of_kw C_things_of
  have C__law_deck := ok__law_deck (P := P) (w := w) (base := base) T D__law_deck 
  exact law_mkD (N := ["_law_script", "_law_deck_here", "_law_words_here", "_law_mine", "_law_some", "_law_at"]) (k := 5) (i := 1) (fun_mk l_law c_law k_law) sc_law (fun cdv A outer s H E hr gu => der_law T C__law_deck C__law_is_right C__law_pick C__law_rows C__law_take C__law_words cdv A outer s H E hr gu) hM
end K04
open PySem PySem.W PyProof.Rows
set_option maxRecDepth 100000 in
set_option maxHeartbeats 0 in
theorem PySem.Challenge.cw_ledquestions_k04_sorts_and_things_holds : PySem.Challenge.rw_ledquestions_k04_sorts_and_things.Holds := by
  w_on; o_law; k_head; (case hw => w_witness2)
  k_fill
  refine LQ.walk_ofG (l := PySem.Challenge.rw_ledquestions_k04_sorts_and_things) (n := 63) (k := 6) (x := "_law_script") (CX := L2.CX0) (sp := LQ.spLaw) rfl (by decide) rfl ⟨rfl, by decide, by decide⟩ (fun w h Y => PySem.W.kIn_of Y) ?F (fun _ _ a ns hl hO hS => ⟨a, ns, rfl, hO, hS, hl, fun _ => rfl⟩) (fun _ _ _ _ h => h)
  case F =>
    intro w mg fa h KX G hmg
    refine' K04.all_mk KX G hmg ?z_abs ?z_int ?z_len ?z_list ?z_range ?z_repr ?z_set ?z_sorted ?z_tuple ?a_row_sorts ?l_row_sorts ?c_row_sorts ?k_row_sorts ?a_sorts_of ?l_sorts_of ?c_sorts_of ?k_sorts_of ?a_things_of ?l_things_of ?c_things_of ?k_things_of ?a__law_cell ?l__law_cell ?c__law_cell ?k__law_cell ?a__law_take ?l__law_take ?c__law_take ?k__law_take ?a__law_pick ?l__law_pick ?c__law_pick ?k__law_pick ?a__law_names ?l__law_names ?c__law_names ?k__law_names ?a__law_words ?l__law_words ?c__law_words ?k__law_words ?a__law_row ?l__law_row ?c__law_row ?k__law_row ?a__law_rows ?l__law_rows ?c__law_rows ?k__law_rows ?a__law_sorts ?l__law_sorts ?c__law_sorts ?k__law_sorts ?a__law_things ?l__law_things ?c__law_things ?k__law_things ?a__law_is_right ?l__law_is_right ?c__law_is_right ?k__law_is_right ?a__law_deck ?l__law_deck ?c__law_deck ?k__law_deck ?a_law ?l_law ?c_law ?k_law K04.law_val
    (case z_abs => k_is)
    (case z_int => k_is)
    (case z_len => k_is)
    (case z_list => k_is)
    (case z_range => k_is)
    (case z_repr => k_is)
    (case z_set => k_is)
    (case z_sorted => k_is)
    (case z_tuple => k_is)
    (case a_row_sorts => k_is)
    (case l_row_sorts => k_is)
    (case c_row_sorts => k_is)
    (case k_row_sorts => k_is)
    (case a_sorts_of => k_is)
    (case l_sorts_of => k_is)
    (case c_sorts_of => k_is)
    (case k_sorts_of => k_is)
    (case a_things_of => k_is)
    (case l_things_of => k_is)
    (case c_things_of => k_is)
    (case k_things_of => k_is)
    (case a__law_cell => k_is)
    (case l__law_cell => k_is)
    (case c__law_cell => k_is)
    (case k__law_cell => k_is)
    (case a__law_take => k_is)
    (case l__law_take => k_is)
    (case c__law_take => k_is)
    (case k__law_take => k_is)
    (case a__law_pick => k_is)
    (case l__law_pick => k_is)
    (case c__law_pick => k_is)
    (case k__law_pick => k_is)
    (case a__law_names => k_is)
    (case l__law_names => k_is)
    (case c__law_names => k_is)
    (case k__law_names => k_is)
    (case a__law_words => k_is)
    (case l__law_words => k_is)
    (case c__law_words => k_is)
    (case k__law_words => k_is)
    (case a__law_row => k_is)
    (case l__law_row => k_is)
    (case c__law_row => k_is)
    (case k__law_row => k_is)
    (case a__law_rows => k_is)
    (case l__law_rows => k_is)
    (case c__law_rows => k_is)
    (case k__law_rows => k_is)
    (case a__law_sorts => k_is)
    (case l__law_sorts => k_is)
    (case c__law_sorts => k_is)
    (case k__law_sorts => k_is)
    (case a__law_things => k_is)
    (case l__law_things => k_is)
    (case c__law_things => k_is)
    (case k__law_things => k_is)
    (case a__law_is_right => k_is)
    (case l__law_is_right => k_is)
    (case c__law_is_right => k_is)
    (case k__law_is_right => k_is)
    (case a__law_deck => k_is)
    (case l__law_deck => k_is)
    (case c__law_deck => k_is)
    (case k__law_deck => k_is)
    (case a_law => k_is)
    (case l_law => k_is)
    (case c_law => k_is)
    (case k_law => k_is)

