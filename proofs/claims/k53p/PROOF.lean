import PyProof.Rows.All
import Wide.All
import OpenK.AllK
import Wide.FinOn
import HandS.ForMost
import HandS.WideBits
import HandS.Deep
import HandS.TupAny
import HandS.IsInst
import HandS.Conv
import HandS.StrMore
import KE.DataCmp
import HandS.Style
import HandS.More
import PyProof.Rows.ListStrD
import HandS.TupLen
import HandS.DictComp
import HandS.TupSets
import HandS.Strs
import HandS.Property
import HandS.Star
import HandS.Iter
import HandS.SlotsOwn
import HandS.Codes
import HandS.Defaults
import HandS.CallLocal
import HandS.TryOnly
import HandS.Text
import HandS.RaiseMore
import PyProof.InstNe
import PySem.Challenge.RW_sketchways_k53_texts_of_towns
set_option Elab.async false
set_option linter.all false
set_option maxRecDepth 100000
namespace L2.DL
open PySem PySem.Spec PyProof.Rows
/-! DA: data by value (D) over the hand layer's abstract heap: frozen nodes, the store of what still changes, the lift of readings. -/
/-- what kind of object a node is -/
inductive Nd where
  | tup | lst | flst
  | dK (ks : List Key) | dT (ks : List (List Key)) | fdK (ks : List Key)
  | ins (C : Addr) (ns : List Str)
  deriving DecidableEq
/-- a value, with all that hangs below it and stands still -/
inductive D where
  | non | bl (b : Bool) | int (i : Int) | str (x : Str) | ty (n : String) | ref (a : Addr)
  | nd (k : Nd) (ds : List D)
instance : Inhabited D := ⟨.non⟩
abbrev D.tup (ds : List D) : D := .nd .tup ds
abbrev D.lst (ds : List D) : D := .nd .lst ds
/-- the objects that may still change, by their content -/
abbrev DHp := Addr → Option (Nd × List D)
abbrev DSt := List (Option D)
abbrev DQ := D → DHp → Prop
abbrev DTE := DSt → DHp → DQ → Prop
abbrev DTT := DSt → DHp → (Bool → DHp → Prop) → Prop
abbrev DTA := DSt → DHp → (List D → DHp → Prop) → Prop
structure DEnds where
  nx : DSt → DHp → Prop
  rt : DQ
  bk : DSt → DHp → Prop := fun _ _ => False
  ct : DSt → DHp → Prop := fun _ _ => False
abbrev DTS := DEnds → DSt → DHp → Prop
abbrev DTG := D → DSt → DHp → (DSt → DHp → Prop) → Prop
abbrev DTGs := List D → DSt → DHp → (DSt → DHp → Prop) → Prop
/-- what a loop walks: the items; live: what must stand while it walks -/
structure Src where
  items : List D
  live : DHp → Prop
abbrev DTI := DSt → DHp → (Src → DHp → Prop) → Prop
/-- a def's promise -/
abbrev DSp := List D → DHp → DQ → Prop
def put (S : DHp) (a : Addr) (o : Nd × List D) : DHp := fun b => if b = a then some o else S b
def era (S : DHp) (a : Addr) : DHp := fun b => if b = a then none else S b
theorem put_same {S : DHp} {a : Addr} {o : Nd × List D} : put S a o a = some o := by unfold put; rw [if_pos rfl]
theorem put_ne {S : DHp} {a b : Addr} {o : Nd × List D} (h : b ≠ a) : put S a o b = S b := by unfold put; rw [if_neg h]
theorem era_same {S : DHp} {a : Addr} : era S a a = none := by unfold era; rw [if_pos rfl]
theorem era_ne {S : DHp} {a b : Addr} (h : b ≠ a) : era S a b = S b := by unfold era; rw [if_neg h]
theorem put_put {S : DHp} {a : Addr} {o u : Nd × List D} : put (put S a o) a u = put S a u := by
  funext b; unfold put; split <;> rfl
theorem era_put {S : DHp} {a : Addr} {o : Nd × List D} (h : S a = none) : era (put S a o) a = S := by
  funext b; unfold era put
  by_cases e : b = a
  · subst e; simp [h]
  · simp [e]
theorem era_none {S : DHp} {a : Addr} (h : S a = none) : era S a = S := by
  funext b; unfold era
  by_cases e : b = a
  · subst e; simp [h]
  · simp [e]
/-- how an object lies in the abstract heap -/
inductive Obj : Nd → List V → HO → Prop
  | tup {vs} : Obj .tup vs (.tup vs)
  | lst {vs} : Obj .lst vs (.lst vs)
  | flst {vs o} : Obj .flst vs (.frz o (.lst vs))
  | dK {ks vs} : ks.length = vs.length → Obj (.dK ks) vs (.dK (ks.zip vs))
  | dT {ks vs} : ks.length = vs.length → Obj (.dT ks) vs (.dT (ks.zip vs))
  | fdK {ks vs o} : ks.length = vs.length → Obj (.fdK ks) vs (.frz o (.dK (ks.zip vs)))
  | ins {C ns vs dx} : ns.length = vs.length → Obj (.ins C ns) vs (.ins C dx (ns.zip vs))
/-- an object of the written part: a tuple, a list -/
inductive Wr (K : PySem.W.Frag) (a : Addr) : Nd → List V → Prop
  | flst {vs} : (∀ H, SqL K H a vs) → Wr K a .flst vs
  | tup {vs} : vs.length ≤ 1 → (∀ H, SqT K H a vs) → Wr K a .tup vs
mutual
inductive Rep (K : PySem.W.Frag) (S : DHp) (H : Hp) : D → V → Prop
  | non : Rep K S H .non .non
  | bl {b} : Rep K S H (.bl b) (.bl b)
  | int {i} : Rep K S H (.int i) (.int i)
  | str {x} : Rep K S H (.str x) (.str x)
  | ty {n} : Rep K S H (.ty n) (.ty n)
  | ref {a} : Rep K S H (.ref a) (.ref a)
  | nd {k ds a vs ho} : S a = none → H a = some ho → Obj k vs ho → RepL K S H ds vs → Rep K S H (.nd k ds) (.ref a)
  | wr {k ds a vs} : Wr K a k vs → RepL K S H ds vs → Rep K S H (.nd k ds) (.ref a)
inductive RepL (K : PySem.W.Frag) (S : DHp) (H : Hp) : List D → List V → Prop
  | nil : RepL K S H [] []
  | cons {d v ds vs} : Rep K S H d v → RepL K S H ds vs → RepL K S H (d :: ds) (v :: vs)
end
/-- what is tracked and no more in the store stays -/
def Keep (S : DHp) (H : Hp) (S' : DHp) (H' : Hp) : Prop := ∀ b o, S b = none → H b = some o → S' b = none ∧ H' b = some o
theorem Keep.refl {S : DHp} {H : Hp} : Keep S H S H := fun _ _ a b => ⟨a, b⟩
theorem Keep.trans {S S1 S2 : DHp} {H H1 H2 : Hp} (a : Keep S H S1 H1) (b : Keep S1 H1 S2 H2) : Keep S H S2 H2 := fun c o x y =>
  let ⟨x1, y1⟩ := a c o x y
  b c o x1 y1
mutual
theorem Rep.keep {K : PySem.W.Frag} {S S' : DHp} {H H' : Hp} (k : Keep S H S' H') : ∀ {d : D} {v : V}, Rep K S H d v → Rep K S' H' d v
  | _, _, .non => .non
  | _, _, .bl => .bl
  | _, _, .int => .int
  | _, _, .str => .str
  | _, _, .ty => .ty
  | _, _, .ref => .ref
  | _, _, .nd n h o r => .nd (k _ _ n h).1 (k _ _ n h).2 o (RepL.keep k r)
  | _, _, .wr h r => .wr h (RepL.keep k r)
theorem RepL.keep {K : PySem.W.Frag} {S S' : DHp} {H H' : Hp} (k : Keep S H S' H') : ∀ {ds : List D} {vs : List V}, RepL K S H ds vs → RepL K S' H' ds vs
  | _, _, .nil => .nil
  | _, _, .cons r t => .cons (Rep.keep k r) (RepL.keep k t)
end
/-- a smaller store -/
def Less (S S' : DHp) : Prop := ∀ a o, S a = some o → S' a = some o
theorem Less.refl {S : DHp} : Less S S := fun _ _ h => h
theorem Less.none {S S' : DHp} (l : Less S S') {a : Addr} (h : S' a = none) : S a = none := by
  cases e : S a with
  | none => rfl
  | some o => rw [l a o e] at h; cases h
theorem Less.keep {S S' : DHp} {H : Hp} (l : Less S S') : Keep S' H S H := fun b o a c => ⟨l.none a, c⟩
theorem Less.era {S : DHp} {a : Addr} : Less (era S a) S := fun b o h => by
  by_cases e : b = a
  · subst e; rw [era_same] at h; cases h
  · rw [era_ne e] at h; exact h
theorem RepL.length {K : PySem.W.Frag} {S : DHp} {H : Hp} : ∀ {ds : List D} {vs : List V}, RepL K S H ds vs → ds.length = vs.length
  | _, _, .nil => rfl
  | _, _, .cons _ t => congrArg (· + 1) (RepL.length t)
theorem RepL.get {K : PySem.W.Frag} {S : DHp} {H : Hp} : ∀ {ds : List D} {vs : List V} {i : Nat} {d : D}, RepL K S H ds vs → ds[i]? = some d → ∃ v, vs[i]? = some v ∧ Rep K S H d v
  | _, _, _, _, .nil, e => by simp at e
  | _, _, 0, _, .cons r _, e => by simp at e; subst e; exact ⟨_, rfl, r⟩
  | _, _, i + 1, d, .cons _ t, e => by
    obtain ⟨v, h1, h2⟩ := RepL.get (i := i) (d := d) t (by simpa using e)
    exact ⟨v, by simpa using h1, h2⟩
theorem RepL.getV {K : PySem.W.Frag} {S : DHp} {H : Hp} : ∀ {ds : List D} {vs : List V} {i : Nat} {v : V}, RepL K S H ds vs → vs[i]? = some v → ∃ d, ds[i]? = some d ∧ Rep K S H d v
  | _, _, _, _, .nil, e => by simp at e
  | _, _, 0, _, .cons r _, e => by simp at e; subst e; exact ⟨_, rfl, r⟩
  | _, _, i + 1, d, .cons _ t, e => by
    obtain ⟨v, h1, h2⟩ := RepL.getV (i := i) (v := d) t (by simpa using e)
    exact ⟨v, by simpa using h1, h2⟩
theorem RepL.append {K : PySem.W.Frag} {S : DHp} {H : Hp} : ∀ {ds es : List D} {vs us : List V}, RepL K S H ds vs → RepL K S H es us → RepL K S H (ds ++ es) (vs ++ us)
  | _, _, _, _, .nil, q => q
  | _, _, _, _, .cons r t, q => .cons r (RepL.append t q)
theorem RepL.take {K : PySem.W.Frag} {S : DHp} {H : Hp} : ∀ {ds : List D} {vs : List V} (n : Nat), RepL K S H ds vs → RepL K S H (ds.take n) (vs.take n)
  | _, _, 0, _ => .nil
  | _, _, _ + 1, .nil => .nil
  | _, _, n + 1, .cons r t => .cons r (RepL.take n t)
theorem RepL.drop {K : PySem.W.Frag} {S : DHp} {H : Hp} : ∀ {ds : List D} {vs : List V} (n : Nat), RepL K S H ds vs → RepL K S H (ds.drop n) (vs.drop n)
  | _, _, 0, r => r
  | _, _, _ + 1, .nil => .nil
  | _, _, n + 1, .cons _ t => RepL.drop n t
theorem RepL.reverse {K : PySem.W.Frag} {S : DHp} {H : Hp} : ∀ {ds : List D} {vs : List V}, RepL K S H ds vs → RepL K S H ds.reverse vs.reverse
  | _, _, .nil => .nil
  | _, _, .cons r t => by
    rw [List.reverse_cons, List.reverse_cons]
    exact RepL.append (RepL.reverse t) (.cons r .nil)
theorem RepL.set {K : PySem.W.Frag} {S : DHp} {H : Hp} {d : D} {v : V} (r : Rep K S H d v) : ∀ {ds : List D} {vs : List V} (i : Nat), RepL K S H ds vs → RepL K S H (ds.set i d) (vs.set i v)
  | _, _, _, .nil => .nil
  | _, _, 0, .cons _ t => .cons r t
  | _, _, i + 1, .cons q t => .cons q (RepL.set r i t)
theorem RepL.eraseIdx {K : PySem.W.Frag} {S : DHp} {H : Hp} : ∀ {ds : List D} {vs : List V} (i : Nat), RepL K S H ds vs → RepL K S H (ds.eraseIdx i) (vs.eraseIdx i)
  | _, _, _, .nil => .nil
  | _, _, 0, .cons _ t => t
  | _, _, i + 1, .cons q t => .cons q (RepL.eraseIdx i t)
theorem RepL.dropLast {K : PySem.W.Frag} {S : DHp} {H : Hp} : ∀ {ds : List D} {vs : List V}, RepL K S H ds vs → RepL K S H ds.dropLast vs.dropLast
  | _, _, .nil => .nil
  | _, _, .cons _ .nil => .nil
  | _, _, .cons q (.cons r t) => .cons q (RepL.dropLast (.cons r t))
/-- the store is held -/
def RS (K : PySem.W.Frag) (S : DHp) (H : Hp) : Prop := ∀ a k ds, S a = some (k, ds) → ∃ vs ho, H a = some ho ∧ Obj k vs ho ∧ RepL K S H ds vs
/-- the slots are held (those that are told) -/
structure RepSt (K : PySem.W.Frag) (S : DHp) (H : Hp) (ρ : DSt) (σ : St) : Prop where
  len : ρ.length = σ.length
  at_ : ∀ (i : Nat) (d : D), ρ[i]? = some (some d) → ∃ v : V, σ[i]? = some (some v) ∧ Rep K S H d v
theorem RepSt.keep {K : PySem.W.Frag} {S S' : DHp} {H H' : Hp} {ρ : DSt} {σ : St} (k : Keep S H S' H') (r : RepSt K S H ρ σ) : RepSt K S' H' ρ σ :=
  ⟨r.len, fun i d e => let ⟨v, a, b⟩ := r.at_ i d e; ⟨v, a, b.keep k⟩⟩
theorem RepSt.set {K : PySem.W.Frag} {S : DHp} {H : Hp} {ρ : DSt} {σ : St} {i : Nat} {d : D} {v : V} (r : RepSt K S H ρ σ) (q : Rep K S H d v) : RepSt K S H (ρ.set i (some d)) (σ.set i (some v)) := by
  refine ⟨by rw [List.length_set, List.length_set]; exact r.len, fun j e h => ?_⟩
  by_cases hj : i = j
  · subst hj
    have hl : i < ρ.length := by
      have := (List.getElem?_eq_some_iff.mp h).1
      rwa [List.length_set] at this
    rw [List.getElem?_set_self hl] at h
    cases h
    exact ⟨v, List.getElem?_set_self (by rw [← r.len]; exact hl), q⟩
  · rw [List.getElem?_set_ne hj] at h
    rw [List.getElem?_set_ne hj]
    exact r.at_ j e h
theorem RS.less {K : PySem.W.Frag} {S S' : DHp} {H : Hp} (l : Less S S') (r : RS K S' H) : RS K S H := fun a k ds h =>
  let ⟨vs, ho, x, y, z⟩ := r a k ds (l a _ h)
  ⟨vs, ho, x, y, z.keep l.keep⟩
theorem RS.free {K : PySem.W.Frag} {S : DHp} {H : Hp} (r : RS K S H) {a : Addr} (h : H a = none) : S a = none := by
  cases e : S a with
  | none => rfl
  | some o =>
    obtain ⟨k, ds⟩ := o
    obtain ⟨vs, ho, x, _⟩ := r a k ds e
    rw [h] at x; cases x
/-- a new object, in the store -/
theorem keep_new {S : DHp} {H : Hp} {p : Addr} {o : Nd × List D} {ho : HO} (h : H p = none) : Keep S H (put S p o) (upd H p ho) := fun b u a e => by
  have n : b ≠ p := ne_of_none e h
  exact ⟨by rw [put_ne n]; exact a, by rw [upd_ne n]; exact e⟩
theorem rs_new {K : PySem.W.Frag} {S : DHp} {H : Hp} {p : Addr} {k : Nd} {ds : List D} {vs : List V} {ho : HO} (r : RS K S H) (h : H p = none) (o : Obj k vs ho) (q : RepL K S H ds vs)  : RS K (put S p (k, ds)) (upd H p ho) := fun a k' ds' e => by
  have K : Keep S H (put S p (k, ds)) (upd H p ho) := keep_new h
  by_cases n : a = p
  · subst n
    rw [put_same] at e; cases e
    exact ⟨vs, ho, upd_same, o, q.keep K⟩
  · rw [put_ne n] at e
    obtain ⟨vs', ho', x, y, z⟩ := r a k' ds' e
    exact ⟨vs', ho', by rw [upd_ne n]; exact x, y, z.keep K⟩
/-- a new object that stands still at once -/
theorem keep_newF {S : DHp} {H : Hp} {p : Addr} {ho : HO} (h : H p = none) : Keep S H S (upd H p ho) := fun b u a e => by
  have n : b ≠ p := ne_of_none e h
  exact ⟨a, by rw [upd_ne n]; exact e⟩
theorem rs_newF {K : PySem.W.Frag} {S : DHp} {H : Hp} {p : Addr} {ho : HO} (r : RS K S H) (h : H p = none) : RS K S (upd H p ho) := fun a k' ds' e => by
  obtain ⟨vs', ho', x, y, z⟩ := r a k' ds' e
  have n : a ≠ p := ne_of_none x h
  exact ⟨vs', ho', by rw [upd_ne n]; exact x, y, z.keep (keep_newF h)⟩
theorem rep_newF {K : PySem.W.Frag} {S : DHp} {H : Hp} {p : Addr} {k : Nd} {ds : List D} {vs : List V} {ho : HO} (r : RS K S H) (h : H p = none) (o : Obj k vs ho) (q : RepL K S H ds vs) : Rep K S (upd H p ho) (.nd k ds) (.ref p) :=
  .nd (r.free h) upd_same o (q.keep (keep_newF h))
/-- an object of the store is changed -/
theorem keep_put {S : DHp} {H : Hp} {p : Addr} {o : Nd × List D} {ho : HO} (h : S p ≠ none) : Keep S H (put S p o) (upd H p ho) := fun b u a e => by
  have n : b ≠ p := fun z => h (z ▸ a)
  exact ⟨by rw [put_ne n]; exact a, by rw [upd_ne n]; exact e⟩
theorem rs_put {K : PySem.W.Frag} {S : DHp} {H : Hp} {p : Addr} {k : Nd} {ds : List D} {vs : List V} {ho : HO} (r : RS K S H) (h : S p ≠ none) (o : Obj k vs ho) (q : RepL K S H ds vs)  : RS K (put S p (k, ds)) (upd H p ho) := fun a k' ds' e => by
  have K : Keep S H (put S p (k, ds)) (upd H p ho) := keep_put h
  by_cases n : a = p
  · subst n
    rw [put_same] at e; cases e
    exact ⟨vs, ho, upd_same, o, q.keep K⟩
  · rw [put_ne n] at e
    obtain ⟨vs', ho', x, y, z⟩ := r a k' ds' e
    exact ⟨vs', ho', by rw [upd_ne n]; exact x, y, z.keep K⟩
/-- an object of the store stands still from now on -/
theorem rep_freeze {K : PySem.W.Frag} {S : DHp} {H : Hp} {p : Addr} {k : Nd} {ds : List D} (r : RS K S H) (h : S p = some (k, ds))  : Rep K (era S p) H (.nd k ds) (.ref p) := by
  obtain ⟨vs, ho, x, y, z⟩ := r p k ds h
  exact .nd era_same x y (z.keep (Less.era).keep)
/-- a tuple, a list that stands still: how it is read -/
theorem Rep.seqT {K : PySem.W.Frag} {S : DHp} {H : Hp} {ds : List D} {v : V} (r : Rep K S H (.tup ds) v) : ∃ a vs, v = .ref a ∧ SqT K H a vs ∧ (∀ S' H', Keep S H S' H' → SqT K H' a vs) ∧ RepL K S H ds vs := by
  cases r with
  | nd n h o w => cases o; exact ⟨_, _, rfl, SqT.of h, fun S' H' k => SqT.of (k _ _ n h).2, w⟩
  | wr h w => cases h with | tup _ h => exact ⟨_, _, rfl, h _, fun S' H' _ => h _, w⟩
theorem Rep.seqL {K : PySem.W.Frag} {S : DHp} {H : Hp} {ds : List D} {v : V} (r : Rep K S H (.lst ds) v) : ∃ a vs, v = .ref a ∧ S a = none ∧ H a = some (.lst vs) ∧ RepL K S H ds vs := by
  cases r with
  | nd n h o w => cases o; exact ⟨_, _, rfl, n, h, w⟩
  | wr h w => cases h
/-- the script, locked or written -/
theorem Rep.seqF {K : PySem.W.Frag} {S : DHp} {H : Hp} {ds : List D} {v : V} (r : Rep K S H (.nd .flst ds) v) : ∃ a vs, v = .ref a ∧ SqL K H a vs ∧ (∀ S' H', Keep S H S' H' → SqL K H' a vs) ∧ RepL K S H ds vs := by
  cases r with
  | nd n h o w => cases o; exact ⟨_, _, rfl, .inl (.inr ⟨_, h⟩), fun S' H' k => .inl (.inr ⟨_, (k _ _ n h).2⟩), w⟩
  | wr h w => cases h with | flst h => exact ⟨_, _, rfl, h _, fun S' H' _ => h _, w⟩
/-- a list of the store -/
theorem RS.lst {K : PySem.W.Frag} {S : DHp} {H : Hp} {p : Addr} {ds : List D} (r : RS K S H) (h : S p = some (.lst, ds)) : ∃ vs, H p = some (.lst vs) ∧ RepL K S H ds vs := by
  obtain ⟨vs, ho, x, o, w⟩ := r p .lst ds h
  cases o
  exact ⟨vs, x, w⟩
/-! ### the lifts -/
def lift (K : PySem.W.Frag) (t : DTE) : TE := fun σ H Q => ∃ ρ S Qd, RepSt K S H ρ σ ∧ RS K S H ∧ t ρ S Qd ∧ ∀ d S' v H', Qd d S' → Keep S H S' H' → RS K S' H' → Rep K S' H' d v → Q v H'
def liftT (K : PySem.W.Frag) (t : DTT) : TT := fun σ H Q => ∃ ρ S Qd, RepSt K S H ρ σ ∧ RS K S H ∧ t ρ S Qd ∧ ∀ b S' H', Qd b S' → Keep S H S' H' → RS K S' H' → Q b H'
def liftA (K : PySem.W.Frag) (t : DTA) : TA := fun σ H Q => ∃ ρ S Qd, RepSt K S H ρ σ ∧ RS K S H ∧ t ρ S Qd ∧ ∀ ds S' vs H', Qd ds S' → Keep S H S' H' → RS K S' H' → RepL K S' H' ds vs → Q vs H'
def liftS (K : PySem.W.Frag) (t : DTS) : TS := fun D σ H => ∃ ρ S E, RepSt K S H ρ σ ∧ RS K S H ∧ t E ρ S ∧
  (∀ ρ' S' σ' H', E.nx ρ' S' → Keep S H S' H' → RS K S' H' → RepSt K S' H' ρ' σ' → D.nx σ' H') ∧
  (∀ d S' v H', E.rt d S' → Keep S H S' H' → RS K S' H' → Rep K S' H' d v → D.rt v H') ∧
  (∀ ρ' S' σ' H', E.bk ρ' S' → Keep S H S' H' → RS K S' H' → RepSt K S' H' ρ' σ' → D.bk σ' H') ∧
  (∀ ρ' S' σ' H', E.ct ρ' S' → Keep S H S' H' → RS K S' H' → RepSt K S' H' ρ' σ' → D.ct σ' H')
def liftG (K : PySem.W.Frag) (g : DTG) : TG := fun v σ H Q => ∃ d ρ S Qd, Rep K S H d v ∧ RepSt K S H ρ σ ∧ RS K S H ∧ g d ρ S Qd ∧ ∀ ρ' S' σ' H', Qd ρ' S' → Keep S H S' H' → RS K S' H' → RepSt K S' H' ρ' σ' → Q σ' H'
def liftGs (K : PySem.W.Frag) (g : DTGs) : TGs := fun vs σ H Q => ∃ ds ρ S Qd, RepL K S H ds vs ∧ RepSt K S H ρ σ ∧ RS K S H ∧ g ds ρ S Qd ∧ ∀ ρ' S' σ' H', Qd ρ' S' → Keep S H S' H' → RS K S' H' → RepSt K S' H' ρ' σ' → Q σ' H'
/-- J walks the items of src, from S, H on -/
structure Walks (K : PySem.W.Frag) (src : Src) (S0 : DHp) (H0 : Hp) (J : It) : Prop where
  go : ∀ i S H, i < src.items.length → Keep S0 H0 S H → RS K S H → src.live S → J.go i H
  stop : ∀ S H, Keep S0 H0 S H → RS K S H → src.live S → J.stop src.items.length H
  yld : ∀ i d S H x H', src.items[i]? = some d → Keep S0 H0 S H → RS K S H → src.live S → J.yld i H x H' → Keep S H S H' ∧ RS K S H' ∧ Rep K S H' d x
def liftI (K : PySem.W.Frag) (t : DTI) : TI := fun σ H R => ∃ ρ S Rd, RepSt K S H ρ σ ∧ RS K S H ∧ t ρ S Rd ∧ ∀ src S' J H', Rd src S' → Keep S H S' H' → RS K S' H' → Walks K src S' H' J → R J H'
/-- a def's promise: what it leaves may be forgotten -/
def liftF (K : PySem.W.Frag) (sp : DSp) : Sp := fun vs H Q _ => ∃ ds S Qd, RepL K S H ds vs ∧ RS K S H ∧ sp ds S Qd ∧ ∀ d S' v H', Qd d S' → Keep S H S' H' → RS K S' H' → Rep K S' H' d v → Q v H'
section
variable {X : Cx}
theorem PE.mono {e : Expr} {t t' : TE} (h : PE X e t) (i : ∀ σ H Q, t' σ H Q → t σ H Q) : PE X e t' := ⟨fun pins s σ H Q I q => h.run pins s σ H Q I (i σ H Q q)⟩
theorem PT.mono {e : Expr} {t t' : TT} (h : PT X e t) (i : ∀ σ H Q, t' σ H Q → t σ H Q) : PT X e t' := ⟨fun pins s σ H Q I q => h.run pins s σ H Q I (i σ H Q q)⟩
theorem PW.mono {e : Expr} {t t' : TT} (h : PW X e t) (i : ∀ σ H Q, t' σ H Q → t σ H Q) : PW X e t' := ⟨fun w pins s σ H Q I q => h.run w pins s σ H Q I (i σ H Q q)⟩
theorem PA.mono {e : List Expr} {t t' : TA} (h : PA X e t) (i : ∀ σ H Q, t' σ H Q → t σ H Q) : PA X e t' := ⟨fun p pins s σ H Q I q => h.run p pins s σ H Q I (i σ H Q q)⟩
theorem PS.mono {e : Stmt} {t t' : TS} (h : PS X e t) (i : ∀ D σ H, t' D σ H → t D σ H) : PS X e t' := ⟨fun pins s σ H D I q => h.run pins s σ H D I (i D σ H q)⟩
theorem PSs.mono {e : List Stmt} {t t' : TS} (h : PSs X e t) (i : ∀ D σ H, t' D σ H → t D σ H) : PSs X e t' := ⟨fun pins s σ H D I q => h.run pins s σ H D I (i D σ H q)⟩
theorem PG.mono {e : Expr} {t t' : TG} (h : PG X e t) (i : ∀ v σ H Q, t' v σ H Q → t v σ H Q) : PG X e t' := ⟨fun pins s σ H v u Q I r q => h.run pins s σ H v u Q I r (i v σ H Q q)⟩
theorem PGs.mono {e : List Expr} {t t' : TGs} (h : PGs X e t) (i : ∀ v σ H Q, t' v σ H Q → t v σ H Q) : PGs X e t' := ⟨fun pins s σ H v u Q I r q => h.run pins s σ H v u Q I r (i v σ H Q q)⟩
theorem PI.mono {tg e : Expr} {t t' : TI} (h : PI X tg e t) (i : ∀ σ H Q, t' σ H Q → t σ H Q) : PI X tg e t' := ⟨fun pins s σ H Q I q => h.run pins s σ H Q I (i σ H Q q)⟩
end
abbrev DE (X : Cx) (e : Expr) (t : DTE) : Prop := PE X e (lift X.K t)
abbrev DT (X : Cx) (e : Expr) (t : DTT) : Prop := PT X e (liftT X.K t)
abbrev DW (X : Cx) (e : Expr) (t : DTT) : Prop := PW X e (liftT X.K t)
abbrev DAs (X : Cx) (e : List Expr) (t : DTA) : Prop := PA X e (liftA X.K t)
abbrev DS (X : Cx) (e : Stmt) (t : DTS) : Prop := PS X e (liftS X.K t)
abbrev DSs (X : Cx) (e : List Stmt) (t : DTS) : Prop := PSs X e (liftS X.K t)
abbrev DG (X : Cx) (e : Expr) (t : DTG) : Prop := PG X e (liftG X.K t)
abbrev DGs (X : Cx) (e : List Expr) (t : DTGs) : Prop := PGs X e (liftGs X.K t)
abbrev DI (X : Cx) (tg e : Expr) (t : DTI) : Prop := PI X tg e (liftI X.K t)
/-! DB: names, constants, operators, tests, displays, blocks, targets, loops over data by value. -/
section
variable {X : Cx} {K : PySem.W.Frag} {e a b c : Expr} {pos : Pos}
/-! ### names, constants -/
def slot : DSt → Nat → Option D
  | [], _ => none
  | x :: _, 0 => x
  | _ :: r, i + 1 => slot r i
theorem slot_eq : ∀ {ρ : DSt} {i : Nat} {d : D}, slot ρ i = some d → ρ[i]? = some (some d)
  | [], _, _, h => by cases h
  | _ :: _, 0, _, h => by simpa [slot] using h
  | _ :: r, i + 1, d, h => by simpa using slot_eq (ρ := r) (i := i) (d := d) h
def dVar (i : Nat) : DTE := fun ρ S Q => match slot ρ i with
  | some d => Q d S
  | none => False
theorem de_var {i : Nat} (h : PE X e (tVar i)) : DE X e (dVar i) := PE.mono h fun σ H Q ⟨ρ, S, Qd, r, rs, q, k⟩ => by
  unfold dVar at q
  cases hs : slot ρ i with
  | none => rw [hs] at q; exact q.elim
  | some d =>
    rw [hs] at q
    obtain ⟨v, e, w⟩ := r.at_ i d (slot_eq hs)
    exact ⟨v, e, k d S v H q Keep.refl rs w⟩
def dC (d : D) : DTE := fun _ S Q => Q d S
theorem de_c {d : D} {v : V} (h : PE X e (tC v)) (r : ∀ S H, Rep X.K S H d v) : DE X e (dC d) := PE.mono h fun σ H Q ⟨ρ, S, Qd, _, rs, q, k⟩ => k d S v H q Keep.refl rs (r S H)
theorem de_int {i : Int} {j} : DE X (.Constant (.int i) j pos) (dC (.int i)) := de_c pe_int fun _ _ => .int
theorem de_bl {i : Bool} {j} : DE X (.Constant (.bool i) j pos) (dC (.bl i)) := de_c pe_bl fun _ _ => .bl
theorem de_non {j} : DE X (.Constant .none j pos) (dC .non) := de_c pe_non fun _ _ => .non
theorem de_str {x : Str} {j} : DE X (.Constant (.str x) j pos) (dC (.str x)) := de_c pe_str fun _ _ => .str
/-! ### operators -/
abbrev DOp := D → D → DHp → DQ → Prop
/-- what an operation's rule is asked, by data -/
def rD (K : PySem.W.Frag) (r : DOp) : R2 := fun x y H Q => ∃ d e S Qd, Rep K S H d x ∧ Rep K S H e y ∧ RS K S H ∧ r d e S Qd ∧ ∀ z S' v H', Qd z S' → Keep S H S' H' → RS K S' H' → Rep K S' H' z v → Q v H'
def rU1 (K : PySem.W.Frag) (r : D → DHp → DQ → Prop) : V → Hp → VK → Prop := fun x H Q => ∃ d S Qd, Rep K S H d x ∧ RS K S H ∧ r d S Qd ∧ ∀ z S' v H', Qd z S' → Keep S H S' H' → RS K S' H' → Rep K S' H' z v → Q v H'
def rLs (K : PySem.W.Frag) (r : List D → DHp → DQ → Prop) : List V → Hp → VK → Prop := fun xs H Q => ∃ ds S Qd, RepL K S H ds xs ∧ RS K S H ∧ r ds S Qd ∧ ∀ z S' v H', Qd z S' → Keep S H S' H' → RS K S' H' → Rep K S' H' z v → Q v H'
def dOp (r : DOp) (ta tb : DTE) : DTE := fun ρ S Q => ta ρ S fun x S1 => tb ρ S1 fun y S2 => r x y S2 Q
def dUn (r : D → DHp → DQ → Prop) (ta : DTE) : DTE := fun ρ S Q => ta ρ S fun x S1 => r x S1 Q
theorem dOp_lift {r : DOp} {ta tb : DTE} {σ : St} {H : Hp} {Q : VK} (h : lift K (dOp r ta tb) σ H Q) : tOp (rD K r) (lift K ta) (lift K tb) σ H Q := by
  obtain ⟨ρ, S, Qd, r0, rs, q, k⟩ := h
  refine ⟨ρ, S, _, r0, rs, q, fun d S1 v H1 q1 k1 rs1 w1 => ?_⟩
  refine ⟨ρ, S1, _, r0.keep k1, rs1, q1, fun e S2 u H2 q2 k2 rs2 w2 => ?_⟩
  exact ⟨d, e, S2, Qd, w1.keep k2, w2, rs2, q2, fun z S' v H' qz kz rsz wz => k z S' v H' qz ((k1.trans k2).trans kz) rsz wz⟩
theorem dUn_lift {r : D → DHp → DQ → Prop} {ta : DTE} {σ : St} {H : Hp} {Q : VK} (h : lift K (dUn r ta) σ H Q) : tUn (rU1 K r) (lift K ta) σ H Q := by
  obtain ⟨ρ, S, Qd, r0, rs, q, k⟩ := h
  refine ⟨ρ, S, _, r0, rs, q, fun d S1 v H1 q1 k1 rs1 w1 => ?_⟩
  exact ⟨d, S1, Qd, w1, rs1, q1, fun z S' v H' qz kz rsz wz => k z S' v H' qz (k1.trans kz) rsz wz⟩
theorem de_op {op : Operator} {r : DOp} {ta tb : DTE} (ho : OpR X (binaryOp op) (rD X.K r)) (ha : DE X a ta) (hb : DE X b tb) : DE X (.BinOp a op b pos) (dOp r ta tb) :=
  PE.mono (pe_op ho ha hb) fun _ _ _ => dOp_lift
theorem de_un {op : UnaryOp} {r : D → DHp → DQ → Prop} {ta : DTE} (ho : UnR X (unaryOp op) (rU1 X.K r)) (ha : DE X a ta) : DE X (.UnaryOp op a pos) (dUn r ta) :=
  PE.mono (pe_un ho ha) fun _ _ _ => dUn_lift
theorem de_cmp {op : CmpOp} {r : DOp} {ta tb : DTE} (ho : OpR X (compareOp op) (rD X.K r)) (ha : DE X a ta) (hb : DE X b tb) (hm : behindInMarks op b = false) : DE X (.Compare a [op] [b] pos) (dOp r ta tb) :=
  PE.mono (pe_cmpR ho ha hb hm) fun _ _ _ => dOp_lift
theorem OpR.mono {f : Value → Value → Sem Value} {r r' : R2} (h : OpR X f r) (i : ∀ x y H Q, r' x y H Q → r x y H Q) : OpR X f r' :=
  fun pins s σ H x y v u Q I rx ry q => h pins s σ H x y v u Q I rx ry (i x y H Q q)
theorem UnR.mono {f : Value → Sem Value} {r r' : V → Hp → VK → Prop} (h : UnR X f r) (i : ∀ x H Q, r' x H Q → r x H Q) : UnR X f r' :=
  fun pins s σ H x v Q I rx q => h pins s σ H x v Q I rx (i x H Q q)
theorem CallR.mono {f : Value} {r r' : List V → Hp → VK → Prop} (h : CallR X f r) (i : ∀ x H Q, r' x H Q → r x H Q) : CallR X f r' :=
  fun pins s σ H x v Q I rx q => h pins s σ H x v Q I rx (i x H Q q)
theorem OpR.or {f : Value → Value → Sem Value} {r r' : R2} (h : OpR X f r) (h' : OpR X f r') : OpR X f (fun x y H Q => r x y H Q ∨ r' x y H Q) :=
  fun pins s σ H x y v u Q I rx ry q => q.elim (h pins s σ H x y v u Q I rx ry) (h' pins s σ H x y v u Q I rx ry)
theorem CallR.or {f : Value} {r r' : List V → Hp → VK → Prop} (h : CallR X f r) (h' : CallR X f r') : CallR X f (fun x H Q => r x H Q ∨ r' x H Q) :=
  fun pins s σ H x v Q I rx q => q.elim (h pins s σ H x v Q I rx) (h' pins s σ H x v Q I rx)
/-! ### argument lists, displays -/
def dNil : DTA := fun _ S Q => Q [] S
def dCons (ta : DTE) (tr : DTA) : DTA := fun ρ S Q => ta ρ S fun x S1 => tr ρ S1 fun xs S2 => Q (x :: xs) S2
variable {es : List Expr}
theorem da_nil : DAs X [] dNil := PA.mono pa_nil fun σ H Q ⟨ρ, S, Qd, r, rs, q, k⟩ => k [] S [] H q Keep.refl rs .nil
theorem da_cons {ta : DTE} {tr : DTA} (ha : DE X e ta) (hr : DAs X es tr) (hs : starEach (e :: es) X.env = (false, eval e X.env) :: starEach es X.env := by rfl) : DAs X (e :: es) (dCons ta tr) :=
  PA.mono (pa_cons ha hr hs) fun σ H Q ⟨ρ, S, Qd, r0, rs, q, k⟩ => by
    refine ⟨ρ, S, _, r0, rs, q, fun d S1 v H1 q1 k1 rs1 w1 => ?_⟩
    refine ⟨ρ, S1, _, r0.keep k1, rs1, q1, fun ds S2 vs H2 q2 k2 rs2 w2 => ?_⟩
    exact k _ S2 _ H2 q2 (k1.trans k2) rs2 (.cons (w1.keep k2) w2)
def dTup (t : DTA) : DTE := fun ρ S Q => t ρ S fun ds S1 => ds.length ≤ sizeLine ∧ Q (.tup ds) S1
theorem de_tup {t : DTA} {x1} (h : DAs X es t) : DE X (.Tuple es x1 pos) (dTup t) := PE.mono (pe_tup h) fun σ H Q ⟨ρ, S, Qd, r0, rs, q, k⟩ => by
  refine ⟨ρ, S, _, r0, rs, q, fun ds S1 vs H1 ⟨z, q1⟩ k1 rs1 w1 => ⟨by rw [← w1.length]; exact z, fun p hp => ?_⟩⟩
  exact k _ S1 _ _ q1 (k1.trans (keep_newF hp)) (rs_newF rs1 hp) (rep_newF rs1 hp .tup w1)
/-- a written list that stands still -/
def dLstF (t : DTA) : DTE := fun ρ S Q => t ρ S fun ds S1 => ds.length ≤ sizeLine ∧ Q (.lst ds) S1
theorem de_lstF {t : DTA} (h : DAs X es t) : DE X (.List es pos) (dLstF t) := PE.mono (pe_lst h) fun σ H Q ⟨ρ, S, Qd, r0, rs, q, k⟩ => by
  refine ⟨ρ, S, _, r0, rs, q, fun ds S1 vs H1 ⟨z, q1⟩ k1 rs1 w1 => ⟨by rw [← w1.length]; exact z, fun p hp => ?_⟩⟩
  exact k _ S1 _ _ q1 (k1.trans (keep_newF hp)) (rs_newF rs1 hp) (rep_newF rs1 hp .lst w1)
/-- a written list that may change -/
def dLst (t : DTA) : DTE := fun ρ S Q => t ρ S fun ds S1 => ds.length ≤ sizeLine ∧ ∀ p, S1 p = none → Q (.ref p) (put S1 p (.lst, ds))
theorem de_lst {t : DTA} (h : DAs X es t) : DE X (.List es pos) (dLst t) := PE.mono (pe_lst h) fun σ H Q ⟨ρ, S, Qd, r0, rs, q, k⟩ => by
  refine ⟨ρ, S, _, r0, rs, q, fun ds S1 vs H1 ⟨z, q1⟩ k1 rs1 w1 => ⟨by rw [← w1.length]; exact z, fun p hp => ?_⟩⟩
  exact k _ _ _ _ (q1 p (rs1.free hp)) (k1.trans (keep_new hp)) (rs_new rs1 hp .lst w1) .ref
/-- what an expression gives stands still from now on -/
def dFrz (t : DTE) : DTE := fun ρ S Q => t ρ S fun d S1 => ∃ p k ds, d = .ref p ∧ S1 p = some (k, ds) ∧ Q (.nd k ds) (era S1 p)
theorem de_frz {t : DTE} (h : DE X e t) : DE X e (dFrz t) := PE.mono h fun σ H Q ⟨ρ, S, Qd, r0, rs, q, k⟩ => by
  refine ⟨ρ, S, _, r0, rs, q, fun d S1 v H1 ⟨p, kk, ds, e1, e2, q1⟩ k1 rs1 w1 => ?_⟩
  subst e1
  cases w1
  exact k _ _ _ _ q1 (k1.trans Less.era.keep) (rs1.less Less.era) (rep_freeze rs1 e2)
/-! ### tests -/
def dTst (t : DTE) : DTT := fun ρ S Q => t ρ S fun d S1 => match d with
  | .bl b => Q b S1
  | _ => False
theorem dTst_lift {t : DTE} {σ : St} {H : Hp} {Q : Bool → Hp → Prop} (h : liftT K (dTst t) σ H Q) : tB (lift K t) σ H Q := by
  obtain ⟨ρ, S, Qd, r0, rs, q, k⟩ := h
  refine ⟨ρ, S, _, r0, rs, q, fun d S1 v H1 q1 k1 rs1 w1 => ?_⟩
  cases w1 with
  | bl => exact ⟨_, rfl, k _ S1 H1 q1 k1 rs1⟩
  | _ => exact q1.elim
theorem dt_val {t : DTE} (h : DE X e t) (he : ∀ whole, isTrue e X.env whole = (do let v ← whole; standAt e.pos; holding [v] (truthy v)) := by intro _; rfl) : DT X e (dTst t) :=
  PT.mono (pt_val h he) fun _ _ _ => dTst_lift
theorem dt_cmp {op : CmpOp} {r : DOp} {ta tb : DTE} (ho : OpR X (compareOp op) (rD X.K r)) (ha : DE X a ta) (hb : DE X b tb) (hm : behindInMarks op b = false) : DT X (.Compare a [op] [b] pos) (dTst (dOp r ta tb)) :=
  PT.mono (pt_cmpR ho ha hb hm) fun σ H Q h => by
    obtain ⟨ρ, S, Qd, r0, rs, q, k⟩ := h
    refine ⟨ρ, S, _, r0, rs, q, fun d S1 v H1 q1 k1 rs1 w1 => ?_⟩
    refine ⟨ρ, S1, _, r0.keep k1, rs1, q1, fun e S2 u H2 q2 k2 rs2 w2 => ?_⟩
    refine ⟨d, e, S2, _, w1.keep k2, w2, rs2, q2, fun z S' v H' qz kz rsz wz => ?_⟩
    cases wz with
    | bl => exact ⟨_, rfl, k _ S' H' qz ((k1.trans k2).trans kz) rsz⟩
    | _ => exact qz.elim
def dAnd (t u : DTT) : DTT := fun ρ S Q => t ρ S fun b S1 => if b = true then u ρ S1 Q else Q false S1
def dOr (t u : DTT) : DTT := fun ρ S Q => t ρ S fun b S1 => if b = true then Q true S1 else u ρ S1 Q
def dNot (t : DTT) : DTT := fun ρ S Q => t ρ S fun b S1 => Q (!b) S1
theorem dw_and1 {t : DTT} (h : DT X a t) : DW X (.BoolOp .And [a] pos) t := pw_and1 h
theorem dw_or1 {t : DTT} (h : DT X a t) : DW X (.BoolOp .Or [a] pos) t := pw_or1 h
variable {rest : List Expr}
theorem dw_and {t u : DTT} (ha : DT X a t) (hb : DW X (.BoolOp .And (b :: rest) pos) u) : DW X (.BoolOp .And (a :: b :: rest) pos) (dAnd t u) :=
  PW.mono (pw_and ha hb) fun σ H Q ⟨ρ, S, Qd, r0, rs, q, k⟩ => by
    refine ⟨ρ, S, _, r0, rs, q, fun b S1 H1 q1 k1 rs1 => ?_⟩
    cases b with
    | true => exact ⟨ρ, S1, _, r0.keep k1, rs1, q1, fun b S2 H2 q2 k2 rs2 => k b S2 H2 q2 (k1.trans k2) rs2⟩
    | false => exact k false S1 H1 q1 k1 rs1
theorem dw_or {t u : DTT} (ha : DT X a t) (hb : DW X (.BoolOp .Or (b :: rest) pos) u) : DW X (.BoolOp .Or (a :: b :: rest) pos) (dOr t u) :=
  PW.mono (pw_or ha hb) fun σ H Q ⟨ρ, S, Qd, r0, rs, q, k⟩ => by
    refine ⟨ρ, S, _, r0, rs, q, fun b S1 H1 q1 k1 rs1 => ?_⟩
    cases b with
    | true => exact k true S1 H1 q1 k1 rs1
    | false => exact ⟨ρ, S1, _, r0.keep k1, rs1, q1, fun b S2 H2 q2 k2 rs2 => k b S2 H2 q2 (k1.trans k2) rs2⟩
theorem dt_not {t : DTT} (h : DT X a t) : DT X (.UnaryOp .Not a pos) (dNot t) :=
  PT.mono (pt_not h) fun σ H Q ⟨ρ, S, Qd, r0, rs, q, k⟩ => ⟨ρ, S, _, r0, rs, q, fun b S1 H1 q1 k1 rs1 => k _ S1 H1 q1 k1 rs1⟩
def dAndV (ta tb : DTE) : DTE := fun ρ S Q => ta ρ S fun x S1 => match x with
  | .bl true => tb ρ S1 Q
  | .bl false => Q (.bl false) S1
  | _ => False
def dOrV (ta tb : DTE) : DTE := fun ρ S Q => ta ρ S fun x S1 => match x with
  | .bl true => Q (.bl true) S1
  | .bl false => tb ρ S1 Q
  | _ => False
def dNotV (ta : DTE) : DTE := fun ρ S Q => ta ρ S fun x S1 => match x with
  | .bl b => Q (.bl (!b)) S1
  | _ => False
theorem de_one {op} {t : DTE} (h : DE X a t) : DE X (.BoolOp op [a] pos) t := pe_one h
theorem de_and {ta tb : DTE} (ha : DE X a ta) (hb : DE X (.BoolOp .And (b :: rest) pos) tb) : DE X (.BoolOp .And (a :: b :: rest) pos) (dAndV ta tb) :=
  PE.mono (pe_and ha hb) fun σ H Q ⟨ρ, S, Qd, r0, rs, q, k⟩ => by
    refine ⟨ρ, S, _, r0, rs, q, fun d S1 v H1 q1 k1 rs1 w1 => ?_⟩
    cases w1 with
    | @bl b =>
      refine ⟨b, rfl, ?_⟩
      cases b with
      | true => exact ⟨ρ, S1, _, r0.keep k1, rs1, q1, fun b S2 v H2 q2 k2 rs2 w2 => k b S2 v H2 q2 (k1.trans k2) rs2 w2⟩
      | false => exact k _ S1 _ H1 q1 k1 rs1 .bl
    | _ => exact q1.elim
theorem de_or {ta tb : DTE} (ha : DE X a ta) (hb : DE X (.BoolOp .Or (b :: rest) pos) tb) : DE X (.BoolOp .Or (a :: b :: rest) pos) (dOrV ta tb) :=
  PE.mono (pe_or ha hb) fun σ H Q ⟨ρ, S, Qd, r0, rs, q, k⟩ => by
    refine ⟨ρ, S, _, r0, rs, q, fun d S1 v H1 q1 k1 rs1 w1 => ?_⟩
    cases w1 with
    | @bl b =>
      refine ⟨b, rfl, ?_⟩
      cases b with
      | true => exact k _ S1 _ H1 q1 k1 rs1 .bl
      | false => exact ⟨ρ, S1, _, r0.keep k1, rs1, q1, fun b S2 v H2 q2 k2 rs2 w2 => k b S2 v H2 q2 (k1.trans k2) rs2 w2⟩
    | _ => exact q1.elim
theorem de_not {ta : DTE} (ha : DE X a ta) : DE X (.UnaryOp .Not a pos) (dNotV ta) :=
  PE.mono (pe_not ha) fun σ H Q ⟨ρ, S, Qd, r0, rs, q, k⟩ => by
    refine ⟨ρ, S, _, r0, rs, q, fun d S1 v H1 q1 k1 rs1 w1 => ?_⟩
    cases w1 with
    | @bl b => exact ⟨b, rfl, k _ S1 _ H1 q1 k1 rs1 .bl⟩
    | _ => exact q1.elim
def dIf (t : DTT) (ta tb : DTE) : DTE := fun ρ S Q => t ρ S fun b S1 => if b = true then ta ρ S1 Q else tb ρ S1 Q
theorem de_if {t : DTT} {ta tb : DTE} (hc : DT X c t) (ha : DE X a ta) (hb : DE X b tb) : DE X (.IfExp c a b pos) (dIf t ta tb) :=
  PE.mono (pe_ifExp hc ha hb) fun σ H Q ⟨ρ, S, Qd, r0, rs, q, k⟩ => by
    refine ⟨ρ, S, _, r0, rs, q, fun b S1 H1 q1 k1 rs1 => ?_⟩
    cases b with
    | true => exact ⟨ρ, S1, _, r0.keep k1, rs1, q1, fun b S2 v H2 q2 k2 rs2 w2 => k b S2 v H2 q2 (k1.trans k2) rs2 w2⟩
    | false => exact ⟨ρ, S1, _, r0.keep k1, rs1, q1, fun b S2 v H2 q2 k2 rs2 w2 => k b S2 v H2 q2 (k1.trans k2) rs2 w2⟩
/-! ### blocks -/
variable {st : Stmt} {sts : List Stmt}
/-- the ends of a lifted statement -/
structure Fits (K : PySem.W.Frag) (E : DEnds) (S : DHp) (H : Hp) (D : Ends) : Prop where
  nx : ∀ ρ' S' σ' H', E.nx ρ' S' → Keep S H S' H' → RS K S' H' → RepSt K S' H' ρ' σ' → D.nx σ' H'
  rt : ∀ d S' v H', E.rt d S' → Keep S H S' H' → RS K S' H' → Rep K S' H' d v → D.rt v H'
  bk : ∀ ρ' S' σ' H', E.bk ρ' S' → Keep S H S' H' → RS K S' H' → RepSt K S' H' ρ' σ' → D.bk σ' H'
  ct : ∀ ρ' S' σ' H', E.ct ρ' S' → Keep S H S' H' → RS K S' H' → RepSt K S' H' ρ' σ' → D.ct σ' H'
theorem Fits.keep {E : DEnds} {S S1 : DHp} {H H1 : Hp} {D : Ends} (f : Fits K E S H D) (k : Keep S H S1 H1) : Fits K E S1 H1 D :=
  ⟨fun ρ' S' σ' H' q k1 => f.nx ρ' S' σ' H' q (k.trans k1), fun d S' v H' q k1 => f.rt d S' v H' q (k.trans k1), fun ρ' S' σ' H' q k1 => f.bk ρ' S' σ' H' q (k.trans k1), fun ρ' S' σ' H' q k1 => f.ct ρ' S' σ' H' q (k.trans k1)⟩
theorem liftS_mk {t : DTS} {D : Ends} {σ : St} {H : Hp} {ρ : DSt} {S : DHp} {E : DEnds} (r : RepSt K S H ρ σ) (rs : RS K S H) (q : t E ρ S) (f : Fits K E S H D) : liftS K t D σ H := ⟨ρ, S, E, r, rs, q, f.nx, f.rt, f.bk, f.ct⟩
theorem liftS_el {t : DTS} {D : Ends} {σ : St} {H : Hp} (h : liftS K t D σ H) : ∃ ρ S E, RepSt K S H ρ σ ∧ RS K S H ∧ t E ρ S ∧ Fits K E S H D := by
  obtain ⟨ρ, S, E, r, rs, q, f1, f2, f3, f4⟩ := h
  exact ⟨ρ, S, E, r, rs, q, ⟨f1, f2, f3, f4⟩⟩
def dNext : DTS := fun E ρ S => E.nx ρ S
def dSeq (t u : DTS) : DTS := fun E ρ S => t { E with nx := u E } ρ S
theorem dss_nil : DSs X [] dNext := PSs.mono pss_nil fun D σ H h => by
  obtain ⟨ρ, S, E, r, rs, q, f⟩ := liftS_el h
  exact f.nx ρ S σ H q Keep.refl rs r
theorem dss_cons {t u : DTS} (h1 : DS X st t) (h2 : DSs X sts u) : DSs X (st :: sts) (dSeq t u) := PSs.mono (pss_cons h1 h2) fun D σ H h => by
  obtain ⟨ρ, S, E, r, rs, q, f⟩ := liftS_el h
  refine liftS_mk (D := { D with nx := liftS X.K u D }) r rs q ⟨fun ρ' S' σ' H' q1 k1 rs1 r1 => ?_, f.rt, f.bk, f.ct⟩
  exact liftS_mk r1 rs1 q1 (f.keep k1)
theorem dss_one {t : DTS} (h1 : DS X st t) : DSs X [st] t := pss_one h1
def dBreak : DTS := fun E ρ S => E.bk ρ S
def dCont : DTS := fun E ρ S => E.ct ρ S
theorem ds_pass : DS X (.Pass pos) dNext := PS.mono ps_pass fun D σ H h => by
  obtain ⟨ρ, S, E, r, rs, q, f⟩ := liftS_el h
  exact f.nx ρ S σ H q Keep.refl rs r
theorem ds_break : DS X (.Break pos) dBreak := PS.mono ps_break fun D σ H h => by
  obtain ⟨ρ, S, E, r, rs, q, f⟩ := liftS_el h
  exact f.bk ρ S σ H q Keep.refl rs r
theorem ds_cont : DS X (.Continue pos) dCont := PS.mono ps_continue fun D σ H h => by
  obtain ⟨ρ, S, E, r, rs, q, f⟩ := liftS_el h
  exact f.ct ρ S σ H q Keep.refl rs r
def dDrop (t : DTE) : DTS := fun E ρ S => t ρ S fun _ S1 => E.nx ρ S1
theorem ds_expr {t : DTE} (he : DE X e t) (hs : swapsWith e none pos.line X.env = pure false := by rfl) : DS X (.Expr e pos) (dDrop t) := PS.mono (ps_expr he hs) fun D σ H h => by
  obtain ⟨ρ, S, E, r, rs, q, f⟩ := liftS_el h
  exact ⟨ρ, S, _, r, rs, q, fun d S1 v H1 q1 k1 rs1 w1 => f.nx ρ S1 σ H1 q1 k1 rs1 (r.keep k1)⟩
def dRet (t : DTE) : DTS := fun E ρ S => t ρ S E.rt
theorem ds_ret {t : DTE} (he : DE X e t) : DS X (.Return (some e) pos) (dRet t) := PS.mono (ps_ret he) fun D σ H h => by
  obtain ⟨ρ, S, E, r, rs, q, f⟩ := liftS_el h
  exact ⟨ρ, S, _, r, rs, q, fun d S1 v H1 q1 k1 rs1 w1 => f.rt d S1 v H1 q1 k1 rs1 w1⟩
def dRetN : DTS := fun E ρ S => E.rt .non S
theorem ds_retN : DS X (.Return none pos) dRetN := PS.mono ps_retN fun D σ H h => by
  obtain ⟨ρ, S, E, r, rs, q, f⟩ := liftS_el h
  exact f.rt _ S _ H q Keep.refl rs .non
def dIfS (c : DTT) (t u : DTS) : DTS := fun E ρ S => c ρ S fun b S1 => if b = true then t E ρ S1 else u E ρ S1
theorem ds_if {tc : DTT} {t u : DTS} {la lb : List Stmt} (hc : DT X c tc) (ha : DSs X la t) (hb : DSs X lb u) : DS X (.If c la lb pos) (dIfS tc t u) := PS.mono (ps_if hc ha hb) fun D σ H h => by
  obtain ⟨ρ, S, E, r, rs, q, f⟩ := liftS_el h
  refine ⟨ρ, S, _, r, rs, q, fun b S1 H1 q1 k1 rs1 => ?_⟩
  cases b with
  | true => exact liftS_mk (r.keep k1) rs1 q1 (f.keep k1)
  | false => exact liftS_mk (r.keep k1) rs1 q1 (f.keep k1)
def dNever : DTS := fun _ _ _ => False
theorem ds_never : DS X st dNever := PS.mono ps_never fun D σ H ⟨_, _, _, _, _, q, _⟩ => q
theorem dss_never : DSs X sts dNever := PSs.mono pss_never fun D σ H ⟨_, _, _, _, _, q, _⟩ => q
/-! ### targets -/
def dgName (i : Nat) : DTG := fun d ρ S Q => Q (ρ.set i (some d)) S
theorem dg_of {i : Nat} (h : PG X e (gName i)) : DG X e (dgName i) := PG.mono h fun v σ H Q ⟨d, ρ, S, Qd, w, r, rs, q, k⟩ => k _ S _ H q Keep.refl rs (r.set w)
def dgNil : DTGs := fun ds ρ S Q => match ds with
  | [] => Q ρ S
  | _ => False
def dgCons (t : DTG) (u : DTGs) : DTGs := fun ds ρ S Q => match ds with
  | d :: r => t d ρ S fun ρ' S' => u r ρ' S' Q
  | [] => False
theorem dgs_nil : DGs X [] dgNil := PGs.mono pgs_nil fun vs σ H Q ⟨ds, ρ, S, Qd, w, r, rs, q, k⟩ => by
  cases w with
  | nil => exact ⟨rfl, k _ S _ H q Keep.refl rs r⟩
  | cons _ _ => exact q.elim
theorem dgs_cons {t : DTG} {u : DTGs} (h1 : DG X e t) (h2 : DGs X es u) (hs : (assignEach (e :: es) X.env).map (·.2) = assign e X.env :: (assignEach es X.env).map (·.2) := by rfl) : DGs X (e :: es) (dgCons t u) :=
  PGs.mono (pgs_cons h1 h2 hs) fun vs σ H Q ⟨ds, ρ, S, Qd, w, r, rs, q, k⟩ => by
    cases w with
    | nil => exact q.elim
    | cons w1 w2 =>
      refine ⟨_, _, rfl, ?_⟩
      refine ⟨_, ρ, S, _, w1, r, rs, q, fun ρ' S' σ' H' q1 k1 rs1 r1 => ?_⟩
      exact ⟨_, ρ', S', _, w2.keep k1, r1, rs1, q1, fun ρ2 S2 σ2 H2 q2 k2 rs2 r2 => k ρ2 S2 σ2 H2 q2 (k1.trans k2) rs2 r2⟩
/-- (a, b, ..) = a tuple -/
def dgTup (n : Nat) (t : DTGs) : DTG := fun d ρ S Q => match d with
  | .nd .tup ds => ds.length = n ∧ t ds ρ S Q
  | _ => False
theorem dg_tup {k : Nat} {t : DTGs} {n : Nat} (hc : X.calm = true) (h : DGs X es t) (hn : (assignEach es X.env).length = n := by rfl) (hst : (assignEach es X.env).findIdx? (·.1) = none := by rfl) : DG X (.Tuple es k pos) (dgTup n t) :=
  PG.mono (pg_tup hc h hn hst) fun v σ H Q ⟨d, ρ, S, Qd, w, r, rs, q, k⟩ => by
    match d, q with
    | .nd .tup ds, q =>
      obtain ⟨a, vs, rfl, h0, _, w0⟩ := w.seqT
      exact ⟨_, _, rfl, h0, by rw [← w0.length]; exact q.1, ⟨_, ρ, S, Qd, w0, r, rs, q.2, k⟩⟩
/-- target = value -/
def dAsg (t : DTE) (g : DTG) : DTS := fun E ρ S => t ρ S fun d S1 => g d ρ S1 E.nx
theorem dAsg_lift {t : DTE} {g : DTG} {D : Ends} {σ : St} {H : Hp} (h : liftS K (dAsg t g) D σ H) : tAsg (lift K t) (liftG K g) D σ H := by
  obtain ⟨ρ, S, E, r, rs, q, f⟩ := liftS_el h
  refine ⟨ρ, S, _, r, rs, q, fun d S1 v H1 q1 k1 rs1 w1 => ?_⟩
  exact ⟨d, ρ, S1, _, w1, r.keep k1, rs1, q1, fun ρ' S' σ' H' q2 k2 rs2 r2 => f.nx ρ' S' σ' H' q2 (k1.trans k2) rs2 r2⟩
theorem ds_asg {tg : Expr} {t : DTE} {g : DTG} (he : DE X e t) (hg : DG X tg g) (hs : swapsWithSole [tg] e pos.line X.env = pure false := by rfl) (hw : swappedStores [tg] e X.env = pure none := by rfl)
    (h1 : (assignEach [tg] X.env).map (·.2) = [assign tg X.env] := by rfl) : DS X (.Assign [tg] e pos) (dAsg t g) := PS.mono (ps_asg he hg hs hw h1) fun _ _ _ => dAsg_lift
theorem ds_set {i : Nat} {x : Str} {t : DTE} {pos' : Pos} (hN : X.N.Nodup) (hi : X.N[i]? = some x) (hx : Loc X.env.scope x) (he : DE X e t) (hs : swapsWith e (some (.Name x pos')) pos.line X.env = pure false := by rfl) (hf : X.fn x = true ∨ X.env.scope.names.lookup x = some .local := by first | exact .inl rfl | exact .inr rfl | assumption) :
    DS X (.Assign [.Name x pos'] e pos) (dAsg t (dgName i)) := PS.mono (ps_set hN hi hx he hs hf) fun D σ H h => by
  obtain ⟨ρ, S, E, r, rs, q, f⟩ := liftS_el h
  exact ⟨ρ, S, _, r, rs, q, fun d S1 v H1 q1 k1 rs1 w1 => f.nx _ S1 _ H1 q1 k1 rs1 ((r.keep k1).set w1)⟩
/-! ### loops -/
/-- the body over the items, one by one -/
def forD (live : DHp → Prop) (g : DTG) (tb : DTS) (E : DEnds) : List D → DSt → DHp → Prop
  | [], ρ, S => live S ∧ E.nx ρ S
  | d :: ds, ρ, S => live S ∧ g d ρ S fun ρ' S' => tb { E with nx := forD live g tb E ds, ct := forD live g tb E ds, bk := E.nx } ρ' S'
def dFor (ti : DTI) (g : DTG) (tb : DTS) : DTS := fun E ρ S => ti ρ S fun src S1 => forD src.live g tb E src.items ρ S1
theorem forD_live {live : DHp → Prop} {g : DTG} {tb : DTS} {E : DEnds} {l : List D} {ρ : DSt} {S : DHp} (h : forD live g tb E l ρ S) : live S := by
  cases l with
  | nil => exact h.1
  | cons _ _ => exact h.1
theorem ds_for {iter tg : Expr} {body : List Stmt} {ti : DTI} {g : DTG} {tb : DTS} (hp : PassesOwn (model X.prog X.w) X.A X.env X.xe) (hc : X.calm = true) (hi : DI X tg iter ti) (hg : DG X tg g) (hb : DSs X body tb)
    (hs : ∀ x, foldedSetIterable iter X.env x = pure x := by intro _; rfl) : DS X (.For tg iter body [] pos) (dFor ti g tb) := PS.mono (ps_for hp hc hi hg hb hs) fun D σ H h => by
  obtain ⟨ρ, S, E, r, rs, q, f⟩ := liftS_el h
  refine ⟨ρ, S, _, r, rs, q, fun src S1 J H1 q1 k1 rs1 w1 => ?_⟩
  refine ⟨fun i m σ' H' => ∃ ρ' S', Keep S1 H1 S' H' ∧ RS X.K S' H' ∧ RepSt X.K S' H' ρ' σ' ∧ m = src.items.length - i ∧ i ≤ src.items.length ∧ forD src.live g tb E (src.items.drop i) ρ' S',
    ⟨_, ρ, S1, Keep.refl, rs1, r.keep k1, rfl, Nat.zero_le _, by simpa using q1⟩, ?_⟩
  rintro i m σ' H' ⟨ρ', S', k2, rs2, r2, rfl, hi, q2⟩
  have lv := forD_live q2
  by_cases hlt : i < src.items.length
  · refine .inr ⟨w1.go i S' H' hlt k2 rs2 lv, fun σ3 H3 => ∃ ρ3 S3, Keep S1 H1 S3 H3 ∧ RS X.K S3 H3 ∧ RepSt X.K S3 H3 ρ3 σ3 ∧ forD src.live g tb E (src.items.drop (i + 1)) ρ3 S3, fun σ3 H3 ⟨ρ3, S3, a1, a2, a3, a4⟩ => ⟨src.items.length - (i + 1), by omega, ρ3, S3, a1, a2, a3, rfl, hlt, a4⟩, fun x H4 y => ?_⟩
    have ed : src.items.drop i = src.items[i] :: src.items.drop (i + 1) := List.drop_eq_getElem_cons hlt
    rw [ed] at q2
    obtain ⟨_, q2⟩ := q2
    obtain ⟨k4, rs4, w4⟩ := w1.yld i src.items[i] S' H' x H4 (by simp [hlt]) k2 rs2 lv y
    refine ⟨_, ρ', S', _, w4, r2.keep k4, rs4, q2, fun ρ5 S5 σ5 H5 q5 k5 rs5 r5 => ?_⟩
    have k15 : Keep S1 H1 S5 H5 := (k2.trans k4).trans k5
    refine liftS_mk r5 rs5 q5 ⟨fun ρ6 S6 σ6 H6 q6 k6 rs6 r6 => ⟨ρ6, S6, k15.trans k6, rs6, r6, q6⟩, fun d S6 v H6 q6 k6 => f.rt d S6 v H6 q6 (k1.trans (k15.trans k6)), fun ρ6 S6 σ6 H6 q6 k6 rs6 r6 => f.nx ρ6 S6 σ6 H6 q6 (k1.trans (k15.trans k6)) rs6 r6, fun ρ6 S6 σ6 H6 q6 k6 rs6 r6 => ⟨ρ6, S6, k15.trans k6, rs6, r6, q6⟩⟩
  · have e : i = src.items.length := by omega
    subst e
    have ed : src.items.drop src.items.length = [] := List.drop_eq_nil_of_le (Nat.le_refl _)
    rw [ed] at q2
    exact .inl ⟨w1.stop S' H' k2 rs2 lv, f.nx ρ' S' σ' H' q2.2 (k1.trans k2) rs2 r2⟩
/-- while, unrolled so often -/
def whileD (c : DTT) (tb : DTS) (E : DEnds) : Nat → DSt → DHp → Prop
  | 0, _, _ => False
  | n + 1, ρ, S => c ρ S fun b S1 => if b = true then tb { E with nx := whileD c tb E n, ct := whileD c tb E n, bk := E.nx } ρ S1 else E.nx ρ S1
def dWhile (c : DTT) (tb : DTS) : DTS := fun E ρ S => ∃ n, whileD c tb E n ρ S
theorem ds_while {cc : Expr} {body : List Stmt} {tc : DTT} {tb : DTS} (hp : PassesOwn (model X.prog X.w) X.A X.env X.xe) (hc : DT X cc tc) (hb : DSs X body tb) : DS X (.While cc body [] pos) (dWhile tc tb) := PS.mono (ps_while hp hc hb) fun D σ H h => by
  obtain ⟨ρ, S, E, r, rs, ⟨n, q⟩, f⟩ := liftS_el h
  refine ⟨fun m σ' H' => ∃ ρ' S', Keep S H S' H' ∧ RS X.K S' H' ∧ RepSt X.K S' H' ρ' σ' ∧ whileD tc tb E m ρ' S', ⟨n, ρ, S, Keep.refl, rs, r, q⟩, ?_⟩
  rintro m σ' H' ⟨ρ', S', k1, rs1, r1, q1⟩
  cases m with
  | zero => exact q1.elim
  | succ m =>
    refine ⟨ρ', S', _, r1, rs1, q1, fun b S2 H2 q2 k2 rs2 => ?_⟩
    cases b with
    | true =>
      refine ⟨fun σ3 H3 => ∃ ρ3 S3, Keep S H S3 H3 ∧ RS X.K S3 H3 ∧ RepSt X.K S3 H3 ρ3 σ3 ∧ whileD tc tb E m ρ3 S3, fun σ3 H3 ⟨ρ3, S3, a1, a2, a3, a4⟩ => ⟨m, Nat.lt_succ_self m, ρ3, S3, a1, a2, a3, a4⟩, ?_⟩
      have k12 := k1.trans k2
      exact liftS_mk (r1.keep k2) rs2 q2 ⟨fun ρ6 S6 σ6 H6 q6 k6 rs6 r6 => ⟨ρ6, S6, k12.trans k6, rs6, r6, q6⟩, fun d S6 v H6 q6 k6 => f.rt d S6 v H6 q6 (k12.trans k6), fun ρ6 S6 σ6 H6 q6 k6 rs6 r6 => f.nx ρ6 S6 σ6 H6 q6 (k12.trans k6) rs6 r6, fun ρ6 S6 σ6 H6 q6 k6 rs6 r6 => ⟨ρ6, S6, k12.trans k6, rs6, r6, q6⟩⟩
    | false => exact f.nx ρ' S2 σ' H2 q2 (k1.trans k2) rs2 (r1.keep k2)
end
/-! DC: what is walked, list comprehensions, calls, a def's body. -/
section
variable {X : Cx} {K : PySem.W.Frag} {e a b c tg : Expr} {pos : Pos} {es : List Expr}
/-! ### what is walked -/
/-- the items of a list or tuple that stands still, or of a list of the store -/
def itemsOf (S : DHp) : D → Option Src
  | .nd .tup ds => some ⟨ds, fun _ => True⟩
  | .nd .lst ds => some ⟨ds, fun _ => True⟩
  | .nd .flst ds => some ⟨ds, fun _ => True⟩
  | .ref p => match S p with
    | some (.lst, ds) => some ⟨ds, fun S' => S' p = some (.lst, ds)⟩
    | _ => none
  | _ => none
def dSeqI (t : DTE) : DTI := fun ρ S R => t ρ S fun d S1 => match itemsOf S1 d with
  | some src => R src S1
  | none => False
theorem walks_lst {K : PySem.W.Frag} {S : DHp} {H : Hp} {a : Addr} {ds : List D} {vs : List V} (at_ : ∀ S' H', Keep S H S' H' → SqL K H' a vs) (r : RepL K S H ds vs) : Walks K ⟨ds, fun _ => True⟩ S H (Itl K a) := by
  refine ⟨fun i S' H' hi k rs _ => ?_, fun S' H' k rs _ => ?_, fun i d S' H1 x H2 hd k rs _ y => ?_⟩
  · obtain ⟨v, e, _⟩ := r.get (i := i) (d := ds[i]) (by simp)
    exact ⟨vs, v, at_ S' H' k, e⟩
  · exact ⟨vs, at_ S' H' k, Nat.le_of_eq r.length.symm⟩
  · obtain ⟨e, z⟩ := y
    subst e
    obtain ⟨v, e, w⟩ := r.get hd
    have q := z vs (at_ _ _ k)
    rw [e] at q; cases q
    exact ⟨Keep.refl, rs, w.keep k⟩
theorem walks_tup {K : PySem.W.Frag} {S : DHp} {H : Hp} {a : Addr} {ds : List D} {vs : List V} (at_ : ∀ S' H', Keep S H S' H' → SqT K H' a vs) (r : RepL K S H ds vs) : Walks K ⟨ds, fun _ => True⟩ S H (Itt K a) := by
  refine ⟨fun i S' H' hi k rs _ => ?_, fun S' H' k rs _ => ?_, fun i d S' H1 x H2 hd k rs _ y => ?_⟩
  · obtain ⟨v, e, _⟩ := r.get (i := i) (d := ds[i]) (by simp)
    exact ⟨vs, v, at_ S' H' k, e⟩
  · exact ⟨vs, at_ S' H' k, Nat.le_of_eq r.length.symm⟩
  · obtain ⟨e, z⟩ := y
    subst e
    obtain ⟨v, e, w⟩ := r.get hd
    have q := z vs (at_ _ _ k)
    rw [e] at q; cases q
    exact ⟨Keep.refl, rs, w.keep k⟩
theorem walks_live {K : PySem.W.Frag} {S : DHp} {H : Hp} {a : Addr} {ds : List D} : Walks K ⟨ds, fun S' => S' a = some (.lst, ds)⟩ S H (Itl K a) := by
  have at_ : ∀ S' H', RS K S' H' → S' a = some (Nd.lst, ds) → ∃ vs, H' a = some (.lst vs) ∧ RepL K S' H' ds vs := fun S' H' rs lv => by
    exact rs.lst lv
  refine ⟨fun i S' H' hi k rs lv => ?_, fun S' H' k rs lv => ?_, fun i d S' H1 x H2 hd k rs lv y => ?_⟩
  · obtain ⟨vs, h, r⟩ := at_ S' H' rs lv
    obtain ⟨v, e, _⟩ := r.get (i := i) (d := ds[i]) (by simp)
    exact ⟨vs, v, SqL.of h, e⟩
  · obtain ⟨vs, h, r⟩ := at_ S' H' rs lv
    exact ⟨vs, SqL.of h, Nat.le_of_eq r.length.symm⟩
  · obtain ⟨e, z⟩ := y
    subst e
    obtain ⟨vs, h, r⟩ := at_ S' H2 rs lv
    obtain ⟨v, e, w⟩ := r.get hd
    have q := z vs (SqL.of h)
    rw [e] at q; cases q
    exact ⟨Keep.refl, rs, w⟩
/-- either walk: the value's own kind decides -/
def iAny (K : PySem.W.Frag) (tl : TE) : TI := fun σ H R => tl σ H fun x H1 => ∃ a, x = .ref a ∧ (((∃ xs, SqL K H1 a xs) ∧ R (Itl K a) H1) ∨ ((∃ xs, SqT K H1 a xs) ∧ R (Itt K a) H1))
theorem pi_any {l : Expr} {tl : TE} (hl : PE X l tl) : PI X tg l (iAny X.K tl) := by
  constructor
  intro pins s σ H R I h
  apply thn (hl.run pins s σ H _ I h)
  rintro v s1 ⟨x, H1, I1, r1, a, rfl, q1⟩
  cases r1
  have fp : ∀ b ∈ [s1.heap.objs.size], FpOk X pins H1 b := fun b hb => by
    rw [List.mem_singleton] at hb
    rw [hb]
    exact I1.fpOk (Nat.le_refl _) (I1.hok.fresh (Nat.le_refl _))
  rcases q1 with ⟨⟨xs, hq⟩, q⟩ | ⟨⟨xs, hq⟩, q⟩
  · obtain ⟨its, _, p, _⟩ := I1.list hq
    apply wpAny_pyIter_list p.isList
    exact ⟨s1.heap.objs.size, [s1.heap.objs.size], _, _, H1, rfl, I1.kept (t' := s1.toks) (fun b o e => Heap.get?_push_of_some _ e), turn_list a _, ⟨_, Heap.get?_push_size _ rfl, rfl, rfl⟩, fp, q⟩
  · obtain ⟨its, _, p, _⟩ := I1.tuple hq
    apply wpAny_pyIter_tuple (show s1.heap.IsTuple a its.toArray from p)
    exact ⟨s1.heap.objs.size, [s1.heap.objs.size], _, _, H1, rfl, I1.kept (t' := s1.toks) (fun b o e => Heap.get?_push_of_some _ e), turn_tuple a _, ⟨_, Heap.get?_push_size _ rfl, rfl, rfl⟩, fp, q⟩
theorem di_seq {t : DTE} (h : DE X e t) : DI X tg e (dSeqI t) := PI.mono (pi_any h) fun σ H R ⟨ρ, S, Rd, r, rs, q, k⟩ => by
  refine ⟨ρ, S, _, r, rs, q, fun d S1 v H1 q1 k1 rs1 w1 => ?_⟩
  match d, q1 with
  | .ref p, q1 =>
    cases w1
    unfold itemsOf at q1
    cases e : S1 p with
    | none => simp only [e] at q1
    | some o =>
      obtain ⟨kk, ds⟩ := o
      cases kk with
      | lst =>
        simp only [e] at q1
        obtain ⟨vs, x, w⟩ := rs1.lst e
        exact ⟨p, rfl, .inl ⟨⟨vs, SqL.of x⟩, k _ S1 _ H1 q1 k1 rs1 walks_live⟩⟩
      | _ => simp only [e] at q1
  | .nd .tup ds, q1 =>
    obtain ⟨a, vs, rfl, h, h2, w⟩ := w1.seqT
    exact ⟨_, rfl, .inr ⟨⟨_, h⟩, k _ S1 _ H1 q1 k1 rs1 (walks_tup h2 w)⟩⟩
  | .nd .lst ds, q1 =>
    obtain ⟨a, vs, rfl, n, h, w⟩ := w1.seqL
    exact ⟨_, rfl, .inl ⟨⟨_, SqL.of h⟩, k _ S1 _ H1 q1 k1 rs1 (walks_lst (fun S' H' k => SqL.of (k _ _ n h).2) w)⟩⟩
  | .nd .flst ds, q1 =>
    obtain ⟨a, vs, rfl, h, h2, w⟩ := w1.seqF
    exact ⟨_, rfl, .inl ⟨⟨_, h⟩, k _ S1 _ H1 q1 k1 rs1 (walks_lst h2 w)⟩⟩
/-- lo, lo + 1, .. (n of them) -/
def intsD (lo : Int) (n : Nat) : List D := (List.range n).map fun (i : Nat) => D.int (lo + (i : Int))
theorem intsD_get {lo : Int} {n i : Nat} {d : D} (h : (intsD lo n)[i]? = some d) : i < n ∧ d = .int (lo + i) := by
  unfold intsD at h
  rw [List.getElem?_map] at h
  cases e : (List.range n)[i]? with
  | none => rw [e] at h; cases h
  | some j =>
    rw [e] at h
    have hi : i < n := by
      have := (List.getElem?_eq_some_iff.mp e).1
      simpa using this
    rw [List.getElem?_range hi] at e
    cases e
    exact ⟨hi, by simpa using h.symm⟩
theorem intsD_len {lo : Int} {n : Nat} : (intsD lo n).length = n := by simp [intsD]
theorem walks_rng {K : PySem.W.Frag} {S : DHp} {H : Hp} {lo : Int} {n : Nat} : Walks K ⟨intsD lo n, fun _ => True⟩ S H (Itr lo n) := by
  refine ⟨fun i S' H' hi k rs _ => ?_, fun S' H' k rs _ => ?_, fun i d S' H1 x H2 hd k rs _ y => ?_⟩
  · have hi : i < (intsD lo n).length := hi
    rw [intsD_len] at hi
    exact hi
  · show n ≤ (intsD lo n).length
    rw [intsD_len]
    exact Nat.le_refl _
  · obtain ⟨e, z⟩ := y
    subst e z
    obtain ⟨_, rfl⟩ := intsD_get hd
    exact ⟨Keep.refl, rs, .int⟩
def dRng1 (t : DTA) : DTI := fun ρ S R => t ρ S fun ds S1 => match ds with
  | [.int n] => -(2 ^ 62) ≤ n ∧ n < 2 ^ 62 ∧ R ⟨intsD 0 n.toNat, fun _ => True⟩ S1
  | _ => False
def dRng2 (t : DTA) : DTI := fun ρ S R => t ρ S fun ds S1 => match ds with
  | [.int i, .int j] => (-(2 ^ 62) ≤ i ∧ i < 2 ^ 62 ∧ -(2 ^ 62) ≤ j ∧ j < 2 ^ 62) ∧ R ⟨intsD i (j - i).toNat, fun _ => True⟩ S1
  | _ => False
theorem di_rng1 {t : DTA} {p : Pos} (hg : Gl X "range") (hm : X.mg "range" = none) (ha : DAs X [a] t) (hs : starEach [a] X.env = [(false, eval a X.env)] := by rfl) : DI X tg (.Call (.Name "range" p) [a] [] pos) (dRng1 t) :=
  PI.mono (pi_range1 hg hm ha hs) fun σ H R ⟨ρ, S, Rd, r, rs, q, k⟩ => by
    refine ⟨ρ, S, _, r, rs, q, fun ds S1 vs H1 q1 k1 rs1 w1 => ?_⟩
    cases w1 with
    | nil => exact q1.elim
    | cons w w2 =>
      cases w2 with
      | nil =>
        cases w with
        | int => exact ⟨_, rfl, q1.1, q1.2.1, k _ S1 _ H1 q1.2.2 k1 rs1 walks_rng⟩
        | _ => exact q1.elim
      | cons _ _ => cases w <;> exact q1.elim
theorem di_rng2 {t : DTA} {p : Pos} (hg : Gl X "range") (hm : X.mg "range" = none) (ha : DAs X [a, b] t) (hs : starEach [a, b] X.env = [(false, eval a X.env), (false, eval b X.env)] := by rfl) (hs2 : starEach [b] X.env = [(false, eval b X.env)] := by rfl) :
    DI X tg (.Call (.Name "range" p) [a, b] [] pos) (dRng2 t) :=
  PI.mono (pi_range2 hg hm ha hs hs2) fun σ H R ⟨ρ, S, Rd, r, rs, q, k⟩ => by
    refine ⟨ρ, S, _, r, rs, q, fun ds S1 vs H1 q1 k1 rs1 w1 => ?_⟩
    cases w1 with
    | nil => exact q1.elim
    | cons w w2 =>
      cases w2 with
      | nil => cases w <;> exact q1.elim
      | cons w' w3 =>
        cases w3 with
        | nil =>
          cases w with
          | int =>
            cases w' with
            | int => exact ⟨_, _, rfl, q1.1, k _ S1 _ H1 q1.2 k1 rs1 walks_rng⟩
            | _ => exact q1.elim
          | _ => cases w' <;> exact q1.elim
        | cons _ _ => cases w <;> cases w' <;> exact q1.elim
/-! ### list comprehensions -/
def wipeD (ρ : DSt) : List Nat → DSt
  | [] => ρ
  | v :: vs => (wipeD ρ vs).set v none
theorem RepSt.wipe1 {K : PySem.W.Frag} {S : DHp} {H : Hp} {ρ : DSt} {σ : St} {i : Nat} (r : RepSt K S H ρ σ) : RepSt K S H (ρ.set i none) (σ.set i none) := by
  refine ⟨by rw [List.length_set, List.length_set]; exact r.len, fun j e h => ?_⟩
  by_cases hj : i = j
  · subst hj
    have hl : i < ρ.length := by
      have := (List.getElem?_eq_some_iff.mp h).1
      rwa [List.length_set] at this
    rw [List.getElem?_set_self hl] at h
    cases h
  · rw [List.getElem?_set_ne hj] at h ⊢
    exact r.at_ j e h
theorem RepSt.wipe {K : PySem.W.Frag} {S : DHp} {H : Hp} {ρ : DSt} {σ : St} (r : RepSt K S H ρ σ) : ∀ vs, RepSt K S H (wipeD ρ vs) (L2.wipe σ vs)
  | [] => r
  | v :: vs => (RepSt.wipe r vs).wipe1
/-- a target of a comprehension: it stores at vs alone -/
def liftGv (K : PySem.W.Frag) (vs : List Nat) (g : DTG) : TG := fun v σ H Q => ∃ d ρ S Qd, Rep K S H d v ∧ RepSt K S H ρ σ ∧ RS K S H ∧ g d ρ S Qd ∧ ∀ ρ' S' σ' H', Qd ρ' S' → Keep S H S' H' → RS K S' H' → RepSt K S' H' ρ' σ' → L2.wipe σ' vs = L2.wipe σ vs → Q σ' H'
abbrev DGv (X : Cx) (e : Expr) (vs : List Nat) (t : DTG) : Prop := PG X e (liftGv X.K vs t)
theorem wipe_set {σ : St} {i : Nat} {x : Option V} : ∀ {vs : List Nat}, i ∈ vs → L2.wipe (σ.set i x) vs = L2.wipe σ vs
  | [], h => by simp at h
  | v :: vs, h => by
    show (L2.wipe (σ.set i x) vs).set v none = (L2.wipe σ vs).set v none
    by_cases hv : i ∈ vs
    · rw [wipe_set hv]
    · have e : v = i := by
        rcases List.mem_cons.mp h with z | z
        · exact z.symm
        · exact absurd z hv
      subst e
      have : ∀ (us : List Nat), v ∉ us → L2.wipe (σ.set v x) us = (L2.wipe σ us).set v x := by
        intro us
        induction us with
        | nil => intro _; rfl
        | cons u us ih =>
          intro hu
          have h1 : v ≠ u := fun z => hu (by rw [z]; exact List.mem_cons_self)
          show (L2.wipe (σ.set v x) us).set u none = ((L2.wipe σ us).set u none).set v x
          rw [ih fun z => hu (List.mem_cons_of_mem _ z), List.set_comm _ _ h1]
      rw [this vs hv, List.set_set]
theorem wipe_sub {σ : St} {vs : List Nat} : ∀ us : List Nat, (∀ u ∈ us, u ∈ vs) → L2.wipe (L2.wipe σ us) vs = L2.wipe σ vs
  | [], _ => rfl
  | u :: us, h => by
    show L2.wipe ((L2.wipe σ us).set u none) vs = L2.wipe σ vs
    rw [wipe_set (h u List.mem_cons_self), wipe_sub us fun x hx => h x (List.mem_cons_of_mem _ hx)]
theorem wipe_twice {σ : St} {vs : List Nat} : L2.wipe (L2.wipe σ vs) vs = L2.wipe σ vs := wipe_sub vs fun _ h => h
theorem dgv_of {i : Nat} {vs : List Nat} (h : PG X e (gName i)) (hi : i ∈ vs) : DGv X e vs (dgName i) := PG.mono h fun v σ H Q ⟨d, ρ, S, Qd, w, r, rs, q, k⟩ => k _ S _ H q Keep.refl rs (r.set w) (wipe_set hi)
/-- two names out of a pair -/
theorem dgv_tup2 {e1 e2 : Expr} {i j k : Nat} {vs : List Nat} (hc : X.calm = true) (h1 : PG X e1 (gName i)) (h2 : PG X e2 (gName j)) (hi : i ∈ vs) (hj : j ∈ vs) (hs1 : (assignEach [e1, e2] X.env).map (·.2) = assign e1 X.env :: (assignEach [e2] X.env).map (·.2) := by rfl)
    (hs2 : (assignEach [e2] X.env).map (·.2) = assign e2 X.env :: (assignEach [] X.env).map (·.2) := by rfl) (hn : (assignEach [e1, e2] X.env).length = 2 := by rfl) (hst : (assignEach [e1, e2] X.env).findIdx? (·.1) = none := by rfl) :
    DGv X (.Tuple [e1, e2] k pos) vs (dgTup 2 (dgCons (dgName i) (dgCons (dgName j) dgNil))) :=
  PG.mono (pg_tup hc (pgs_cons h1 (pgs_cons h2 pgs_nil hs2) hs1) hn hst) fun v σ H Q ⟨d, ρ, S, Qd, w, r, rs, q, k⟩ => by
    match d, q with
    | .nd .tup ds, q =>
      obtain ⟨a, vs, rfl, h0, _, w0⟩ := w.seqT
      obtain ⟨hl, q⟩ := q
      match ds, hl, q with
      | [d1, d2], _, q =>
        cases w0 with
        | cons a1 a2 =>
          cases a2 with
          | cons b1 b2 =>
            cases b2
            exact ⟨_, _, rfl, h0, rfl, _, _, rfl, _, _, rfl, rfl, k _ S _ H q Keep.refl rs ((r.set a1).set b1) (by rw [wipe_set hj, wipe_set hi])⟩
abbrev DTsts (X : Cx) (e : List Expr) (t : DTT) : Prop := PTs X e (liftT X.K t)
def dYes : DTT := fun _ S Q => Q true S
theorem PTs.mono {l : List Expr} {t t' : TT} (h : PTs X l t) (i : ∀ σ H Q, t' σ H Q → t σ H Q) : PTs X l t' := ⟨fun pins s σ H Q I q => h.run pins s σ H Q I (i σ H Q q)⟩
theorem dts_nil : DTsts X [] dYes := PTs.mono pts_nil fun σ H Q ⟨ρ, S, Qd, r, rs, q, k⟩ => k true S H q Keep.refl rs
theorem dts_one {t : DTT} (h : DT X c t) : DTsts X [c] t := pts_one h
def compD (p : Addr) (live : DHp → Prop) (g : DTG) (tt : DTT) (te : DTE) (ρ : DSt) (Kf : List D → DHp → Prop) : List D → List D → DHp → Prop
  | [], acc, S => live S ∧ S p = some (.lst, acc) ∧ Kf acc S
  | d :: ds, acc, S => live S ∧ g d ρ S fun ρ2 S2 => tt ρ2 S2 fun b S3 => if b = true then te ρ2 S3 fun y S4 => S4 p = some (.lst, acc) ∧ acc.length < sizeLine ∧ compD p live g tt te ρ Kf ds (acc ++ [y]) (put S4 p (.lst, acc ++ [y]))
      else compD p live g tt te ρ Kf ds acc S3
theorem compD_live {p : Addr} {live : DHp → Prop} {g : DTG} {tt : DTT} {te : DTE} {ρ : DSt} {Kf : List D → DHp → Prop} {l acc : List D} {S : DHp} (h : compD p live g tt te ρ Kf l acc S) : live S := by
  cases l with
  | nil => exact h.1
  | cons _ _ => exact h.1
def dLcG (ti : DTI) (g : DTG) (tt : DTT) (te : DTE) (vs : List Nat) (fin : Addr → DQ → List D → DHp → Prop) : DTE := fun ρ S Q => ti ρ S fun src S1 => ∀ p, S1 p = none → compD p src.live g tt te (wipeD ρ vs) (fin p Q) src.items [] (put S1 p (.lst, []))
/-- the new list stands still -/
abbrev dLc (ti : DTI) (g : DTG) (tt : DTT) (te : DTE) (vs : List Nat) : DTE := dLcG ti g tt te vs fun p Q acc S' => Q (.lst acc) (era S' p)
/-- the new list may change -/
abbrev dLcM (ti : DTI) (g : DTG) (tt : DTT) (te : DTE) (vs : List Nat) : DTE := dLcG ti g tt te vs fun p Q _ S' => Q (.ref p) S'
theorem lc_lift {ti : DTI} {g : DTG} {tt : DTT} {te : DTE} {vs : List Nat} {fin : Addr → DQ → List D → DHp → Prop} {σ : St} {H : Hp} {Q : VK}
    (hf : ∀ (p : Addr) (Qd : DQ) (acc : List D) (S : DHp) (H : Hp), S p = some (.lst, acc) → RS K S H → fin p Qd acc S → ∃ d S', Qd d S' ∧ Keep S H S' H ∧ RS K S' H ∧ Rep K S' H d (.ref p))
    (h : lift K (dLcG ti g tt te vs fin) σ H Q) : tLc (liftI K ti) (liftGv K vs g) (liftT K tt) (lift K te) vs σ H Q := by
  obtain ⟨ρ, S, Qd, r, rs, q, k⟩ := h
  refine ⟨ρ, S, _, r, rs, q, fun src S1 J H1 q1 k1 rs1 w1 => ?_⟩
  intro p hp
  have hpS : S1 p = none := rs1.free hp
  have q2 := q1 p hpS
  have kn : Keep S1 H1 (put S1 p (.lst, [])) (upd H1 p (.lst [])) := keep_new hp
  refine ⟨fun i m H' => ∃ S' acc, Keep S1 H1 S' H' ∧ RS K S' H' ∧ m = src.items.length - i ∧ i ≤ src.items.length ∧ compD p src.live g tt te (wipeD ρ vs) (fin p Qd) (src.items.drop i) acc S',
    ⟨_, _, [], kn, rs_new rs1 hp .lst .nil, rfl, Nat.zero_le _, by simpa using q2⟩, ?_⟩
  rintro i m H' ⟨S', acc, k2, rs2, rfl, hi, q3⟩
  have lv := compD_live q3
  by_cases hlt : i < src.items.length
  · have ed : src.items.drop i = src.items[i] :: src.items.drop (i + 1) := List.drop_eq_getElem_cons hlt
    rw [ed] at q3
    obtain ⟨_, q3⟩ := q3
    refine .inr ⟨w1.go i S' H' hlt k2 rs2 lv, fun H3 => ∃ S3 acc3, Keep S1 H1 S3 H3 ∧ RS K S3 H3 ∧ compD p src.live g tt te (wipeD ρ vs) (fin p Qd) (src.items.drop (i + 1)) acc3 S3, fun H3 ⟨S3, acc3, b1, b2, b3⟩ => ⟨src.items.length - (i + 1), by omega, S3, acc3, b1, b2, rfl, hlt, b3⟩, fun x H4 y => ?_⟩
    obtain ⟨k4, rs4, w4⟩ := w1.yld i src.items[i] S' H' x H4 (by simp [hlt]) k2 rs2 lv y
    have k04 : Keep S H S' H4 := (k1.trans k2).trans k4
    refine ⟨_, wipeD ρ vs, S', _, w4, (r.keep k04).wipe vs, rs4, q3, fun ρ5 S5 σ5 H5 q5 k5 rs5 r5 hw => ?_⟩
    refine ⟨?_, ρ5, S5, _, r5, rs5, q5, fun b S6 H6 q6 k6 rs6 => ?_⟩
    · rw [hw, wipe_twice]
    · have k16 : Keep S1 H1 S6 H6 := ((k2.trans k4).trans k5).trans k6
      cases b with
      | false => exact ⟨S6, acc, k16, rs6, q6⟩
      | true =>
        refine ⟨ρ5, S6, _, r5.keep k6, rs6, q6, fun d S7 v H7 ⟨q7, hz, q8⟩ k7 rs7 w7 => ?_⟩
        obtain ⟨us, x7, w8⟩ := rs7.lst q7
        refine ⟨us, x7, by rw [← w8.length]; exact hz, _, acc ++ [d], (k16.trans k7).trans (keep_put (by rw [q7]; simp)), rs_put rs7 (by rw [q7]; simp) .lst (w8.append (.cons w7 .nil)), q8⟩
  · have e : i = src.items.length := by omega
    subst e
    have ed : src.items.drop src.items.length = [] := List.drop_eq_nil_of_le (Nat.le_refl _)
    rw [ed] at q3
    obtain ⟨_, hpa, q3⟩ := q3
    obtain ⟨d, S3, qd, k3, rs3, w3⟩ := hf p Qd acc S' H' hpa rs2 q3
    exact .inl ⟨w1.stop S' H' k2 rs2 lv, k d S3 _ H' qd ((k1.trans k2).trans k3) rs3 w3⟩
theorem fin_F {p : Addr} {Qd : DQ} {acc : List D} {S : DHp} {H : Hp} (h : S p = some (.lst, acc)) (rs : RS K S H) (q : Qd (.lst acc) (era S p)) : ∃ d S', Qd d S' ∧ Keep S H S' H ∧ RS K S' H ∧ Rep K S' H d (.ref p) :=
  ⟨_, _, q, Less.era.keep, rs.less Less.era, rep_freeze rs h⟩
theorem fin_M {p : Addr} {Qd : DQ} {acc : List D} {S : DHp} {H : Hp} (h : S p = some (.lst, acc)) (rs : RS K S H) (q : Qd (.ref p) S) : ∃ d S', Qd d S' ∧ Keep S H S' H ∧ RS K S' H ∧ Rep K S' H d (.ref p) :=
  ⟨_, _, q, Keep.refl, rs, .ref⟩
section
variable {elt iter : Expr} {ifs : List Expr} {scope : Scope} {own : List (Str × Nat)} {ti : DTI} {g : DTG} {tt : DTT} {te : DTE}
theorem de_lc (hc : X.calm = true) (hN : X.N.Nodup) (hi : DI X tg iter ti) (ok : BlkOk X.N X.env.scope scope own)
    (hg : ∀ (s : Shared) (H : Hp) (C : Addr) (cl : List (Str × Addr)) (fp : List Addr), DGv (X.blk s H scope (compEnvC scope cl C X.env) fp) tg (own.map (·.2)) g) (ht : ∀ (s : Shared) (H : Hp) (C : Addr) (cl : List (Str × Addr)) (fp : List Addr), DTsts (X.blk s H scope (compEnvC scope cl C X.env) fp) ifs tt)
    (he : ∀ (s : Shared) (H : Hp) (C : Addr) (cl : List (Str × Addr)) (fp : List Addr), DE (X.blk s H scope (compEnvC scope cl C X.env) fp) elt te) (hs : ∀ x, foldedSetIterable iter X.env x = pure x := by intro _; rfl) :
    DE X (.ListComp elt [⟨tg, iter, ifs, 0⟩] scope pos) (dLc ti g tt te (own.map (·.2))) :=
  PE.mono (pe_lc hc hN hi ok hg ht he hs) fun _ _ _ => lc_lift fun p Qd acc S H h rs q => fin_F h rs q
theorem de_lcM (hc : X.calm = true) (hN : X.N.Nodup) (hi : DI X tg iter ti) (ok : BlkOk X.N X.env.scope scope own)
    (hg : ∀ (s : Shared) (H : Hp) (C : Addr) (cl : List (Str × Addr)) (fp : List Addr), DGv (X.blk s H scope (compEnvC scope cl C X.env) fp) tg (own.map (·.2)) g) (ht : ∀ (s : Shared) (H : Hp) (C : Addr) (cl : List (Str × Addr)) (fp : List Addr), DTsts (X.blk s H scope (compEnvC scope cl C X.env) fp) ifs tt)
    (he : ∀ (s : Shared) (H : Hp) (C : Addr) (cl : List (Str × Addr)) (fp : List Addr), DE (X.blk s H scope (compEnvC scope cl C X.env) fp) elt te) (hs : ∀ x, foldedSetIterable iter X.env x = pure x := by intro _; rfl) :
    DE X (.ListComp elt [⟨tg, iter, ifs, 0⟩] scope pos) (dLcM ti g tt te (own.map (·.2))) :=
  PE.mono (pe_lc hc hN hi ok hg ht he hs) fun _ _ _ => lc_lift fun p Qd acc S H h rs q => fin_M h rs q
variable {i : Nat} {y : Str} {py spos : Pos}
theorem asg_lift {t : DTE} {t' : TE} {i : Nat} (h : ∀ σ H Q, lift K t σ H Q → t' σ H Q) {D : Ends} {σ : St} {H : Hp} (q : liftS K (dAsg t (dgName i)) D σ H) : tAsg t' (gName i) D σ H := by
  obtain ⟨ρ, S, E, r, rs, q, f⟩ := liftS_el q
  refine h σ H _ ⟨ρ, S, _, r, rs, q, fun d S1 v H1 q1 k1 rs1 w1 => ?_⟩
  exact f.nx _ S1 _ H1 q1 k1 rs1 ((r.keep k1).set w1)
theorem ds_setLc (hc : X.calm = true) (hN : X.N.Nodup) (hy : X.N[i]? = some y) (hyl : X.env.scope.names.lookup y = some .local)
    (hsw : swapsWith (.ListComp elt [⟨tg, iter, ifs, 0⟩] scope pos) (some (.Name y py)) spos.line X.env = pure true) (hi : DI X tg iter ti) (ok : BlkOk X.N X.env.scope scope own)
    (hg : ∀ (s : Shared) (H : Hp) (C : Addr) (cl : List (Str × Addr)) (fp : List Addr), DGv (X.blk s H scope (compEnvC scope cl C X.env) fp) tg (own.map (·.2)) g) (ht : ∀ (s : Shared) (H : Hp) (C : Addr) (cl : List (Str × Addr)) (fp : List Addr), DTsts (X.blk s H scope (compEnvC scope cl C X.env) fp) ifs tt)
    (he : ∀ (s : Shared) (H : Hp) (C : Addr) (cl : List (Str × Addr)) (fp : List Addr), DE (X.blk s H scope (compEnvC scope cl C X.env) fp) elt te) (hs : ∀ x, foldedSetIterable iter X.env x = pure x := by intro _; rfl) :
    DS X (.Assign [.Name y py] (.ListComp elt [⟨tg, iter, ifs, 0⟩] scope pos) spos) (dAsg (dLc ti g tt te (own.map (·.2))) (dgName i)) :=
  PS.mono (ps_setLc hc hN hy hyl hsw hi ok hg ht he hs) fun _ _ _ => asg_lift fun _ _ _ => lc_lift fun p Qd acc S H h rs q => fin_F h rs q
theorem ds_setLcM (hc : X.calm = true) (hN : X.N.Nodup) (hy : X.N[i]? = some y) (hyl : X.env.scope.names.lookup y = some .local)
    (hsw : swapsWith (.ListComp elt [⟨tg, iter, ifs, 0⟩] scope pos) (some (.Name y py)) spos.line X.env = pure true) (hi : DI X tg iter ti) (ok : BlkOk X.N X.env.scope scope own)
    (hg : ∀ (s : Shared) (H : Hp) (C : Addr) (cl : List (Str × Addr)) (fp : List Addr), DGv (X.blk s H scope (compEnvC scope cl C X.env) fp) tg (own.map (·.2)) g) (ht : ∀ (s : Shared) (H : Hp) (C : Addr) (cl : List (Str × Addr)) (fp : List Addr), DTsts (X.blk s H scope (compEnvC scope cl C X.env) fp) ifs tt)
    (he : ∀ (s : Shared) (H : Hp) (C : Addr) (cl : List (Str × Addr)) (fp : List Addr), DE (X.blk s H scope (compEnvC scope cl C X.env) fp) elt te) (hs : ∀ x, foldedSetIterable iter X.env x = pure x := by intro _; rfl) :
    DS X (.Assign [.Name y py] (.ListComp elt [⟨tg, iter, ifs, 0⟩] scope pos) spos) (dAsg (dLcM ti g tt te (own.map (·.2))) (dgName i)) :=
  PS.mono (ps_setLc hc hN hy hyl hsw hi ok hg ht he hs) fun _ _ _ => asg_lift fun _ _ _ => lc_lift fun p Qd acc S H h rs q => fin_M h rs q
end
/-! ### calls -/
def dCall (sp : DSp) (t : DTA) : DTE := fun ρ S Q => t ρ S fun ds S1 => sp ds S1 Q
/-- a def of the module that may be called by its name -/
structure DCal (P : Program) (w : World) (K : PySem.W.Frag) (mg : Str → Option Value) (base : Heap) (k : Nat) (x : Str) (sp : DSp) : Prop where
  ex : ∃ (f : Addr) (fd : FuncData) (ps : List Str), FnOk P w K mg base CX0 k f fd ps (liftF K sp) ∧ mg x = some (.ref f) ∧ PySem.W.keepIn K (.ref f) = true ∧ Binds K fd ps []
theorem DCal.mono {P : Program} {w : World} {K : PySem.W.Frag} {mg : Str → Option Value} {base : Heap} {j k : Nat} {x : Str} {sp : DSp} (c : DCal P w K mg base j x sp) (h : j ≤ k) : DCal P w K mg base k x sp :=
  let ⟨f, fd, ps, F, r⟩ := c.ex
  ⟨f, fd, ps, F.mono h, r⟩
theorem de_call {k j : Nat} {x : Str} {sp : DSp} {p : Pos} {t : DTA} (cl : DCal X.prog X.w X.K X.mg X.base k x sp) (hr : Room j X.A) (hk : k ≤ j) (hg : Gl X x) (ha : DAs X (e :: es) t)
    (hdb : (x == ("__debug__" : Str)) = false := by decide) (he : starEach (e :: es) X.env = (false, eval e X.env) :: starEach es X.env := by rfl) (hpl : (backTo pos (starEach es X.env)).any (·.1) = false := by rfl) :
    DE X (.Call (.Name x p) (e :: es) [] pos) (dCall sp t) := by
  obtain ⟨f, fd, ps, F, hm, kp, bi⟩ := cl.ex
  refine PE.mono (pe_call F (hr.mono hk) hg hm kp bi .nil pass0 ha hdb he hpl) fun σ H Q ⟨ρ, S, Qd, r, rs, q, k0⟩ => ?_
  refine ⟨ρ, S, _, r, rs, q, fun ds S1 vs H1 q1 k1 rs1 w1 => ?_⟩
  refine ⟨ds, S1, Qd, by rw [List.append_nil]; exact w1, rs1, q1, fun d S2 v H2 q2 k2 rs2 w2 => k0 d S2 v H2 q2 (k1.trans k2) rs2 w2⟩
/-- f() -/
def dCall0 (sp : DSp) : DTE := fun ρ S Q => sp [] S Q
theorem de_call0 {k j : Nat} {x : Str} {sp : DSp} {p : Pos} (cl : DCal X.prog X.w X.K X.mg X.base k x sp) (hr : Room j X.A) (hk : k ≤ j) (hg : Gl X x)
    (hdb : (x == ("__debug__" : Str)) = false := by decide) : DE X (.Call (.Name x p) [] [] pos) (dCall0 sp) := by
  obtain ⟨f, fd, ps, F, hm, kp, bi⟩ := cl.ex
  exact PE.mono (pe_call0 F (hr.mono hk) hg hm kp bi .nil pass0 hdb) fun σ H Q ⟨ρ, S, Qd, r, rs, q, k0⟩ => ⟨[], S, Qd, .nil, rs, q, k0⟩
end
/-! ### a def's body -/
/-- what a body leaves may be forgotten -/
def endsF (Q : DQ) : DEnds := { nx := fun _ S' => ∃ S'', Less S'' S' ∧ Q .non S'', rt := fun d S' => ∃ S'', Less S'' S' ∧ Q d S'' }
def startD (n : Nat) (ds : List D) : DSt := ds.map some ++ List.replicate (n - ds.length) none
theorem start_rep {K : PySem.W.Frag} {S : DHp} {H : Hp} {N : List Str} {ds : List D} {vs : List V} (w : RepL K S H ds vs) : RepSt K S H (startD N.length ds) (start N vs) := by
  refine ⟨by simp [startD, start, w.length], fun i d h => ?_⟩
  unfold startD at h
  unfold start
  by_cases hi : i < ds.length
  · rw [List.getElem?_append_left (by simpa using hi), List.getElem?_map] at h
    cases e : ds[i]? with
    | none => rw [e] at h; cases h
    | some d' =>
      rw [e] at h
      have e2 : d' = d := Option.some.inj (Option.some.inj h)
      subst e2
      obtain ⟨v, ev, r⟩ := w.get e
      refine ⟨v, ?_, r⟩
      rw [List.getElem?_append_left (by rw [List.length_map, ← w.length]; exact hi), List.getElem?_map, ev]
      rfl
  · rw [List.getElem?_append_right (by simpa using hi), List.getElem?_replicate] at h
    split at h <;> cases h
section
variable {P : Program} {w : World} {K : PySem.W.Frag} {mg : Str → Option Value} {base : Heap}
theorem body_lift {K : PySem.W.Frag} {t : DTS} {sp : DSp} {N : List Str} {vs : List V} {H : Hp} {Q : VK} {E : XK} (hd : ∀ ds S Q, sp ds S Q → t (endsF Q) (startD N.length ds) S) (h : liftF K sp vs H Q E) : liftS K t { nx := fun _ H' => Q .non H', rt := Q } (start N vs) H := by
  obtain ⟨ds, S, Qd, w, rs, q, k⟩ := h
  refine liftS_mk (start_rep w) rs (hd ds S Qd q) ⟨fun ρ' S' σ' H' ⟨S2, l, q2⟩ k2 rs2 _ => k _ S2 _ H' q2 (k2.trans l.keep) (rs2.less l) .non, fun d S' v H' ⟨S2, l, q2⟩ k2 rs2 w2 => k d S2 v H' q2 (k2.trans l.keep) (rs2.less l) (w2.keep l.keep), fun _ _ _ _ z => z.elim, fun _ _ _ _ z => z.elim⟩
theorem fn_D {x qual : Str} {st : Stmt} {f : Addr} {fd : FuncData} {N ps : List Str} {k : Nat} {sp : DSp} {t : DTS} (F : L2.Fun K x qual st f fd) (S : FnScope N ps (defScope st)) (len : ∀ ds S Q, sp ds S Q → ds.length = ps.length)
    (hbody : ∀ (cdv : Value) (A : Around) (outer : List Env) (s : Shared) (H : Hp) (E : XK), Room k (A.deeper (envOfC qual (defScope st) s.heap.objs.size f cdv)) → DSs (cxOf CX0 P w K mg base N qual (defScope st) f cdv A outer s H E).nox (defBody st) t)
    (hd : ∀ ds S Q, sp ds S Q → t (endsF Q) (startD N.length ds) S) : FnOk P w K mg base CX0 (k + 1) f fd ps (liftF K sp) := by
  refine F.ok S (fun vs H Q E ⟨ds, S, Qd, w, rs, q, _⟩ => by rw [← w.length]; exact len ds S Qd q) fun cdv A outer s H vs Q E hr h => ⟨_, hbody cdv A outer s H E hr, body_lift hd h⟩
theorem cal_D {x : Str} {st : Stmt} {f : Addr} {fd : FuncData} {N ps : List Str} {k : Nat} {sp : DSp} {t : DTS} (F : L2.Fun K x x st f fd) (hm : mg x = some (.ref f)) (b : Binds K fd ps []) (S : FnScope N ps (defScope st)) (len : ∀ ds S Q, sp ds S Q → ds.length = ps.length)
    (hbody : ∀ (cdv : Value) (A : Around) (outer : List Env) (s : Shared) (H : Hp) (E : XK), Room k (A.deeper (envOfC x (defScope st) s.heap.objs.size f cdv)) → DSs (cxOf CX0 P w K mg base N x (defScope st) f cdv A outer s H E).nox (defBody st) t)
    (hd : ∀ ds S Q, sp ds S Q → t (endsF Q) (startD N.length ds) S) : DCal P w K mg base (k + 1) x sp :=
  ⟨f, fd, ps, fn_D F S len hbody hd, hm, F.kp, b⟩
end
/-! DD: operators, comparisons, built-ins over data by value. -/
/-! ### data that compare -/
mutual
def D.py : D → Option PyData
  | .non => some .none
  | .bl b => some (.bool b)
  | .int i => some (.int i)
  | .str x => some (.str x)
  | .nd .tup ds => (D.pyL ds).map .tuple
  | .nd .lst ds => (D.pyL ds).map .list
  | _ => none
def D.pyL : List D → Option (List PyData)
  | [] => some []
  | d :: ds => match D.py d, D.pyL ds with
    | some p, some ps => some (p :: ps)
    | _, _ => none
end
mutual
theorem Rep.dp {K : PySem.W.Frag} {S : DHp} {H : Hp} : ∀ {d : D} {v : V} {p : PyData}, Rep K S H d v → d.py = some p → Dp K H v p
  | _, _, p, .non, h => by
    rw [D.py] at h; cases h; exact .non
  | _, _, p, .bl, h => by
    rw [D.py] at h; cases h; exact .bl _
  | _, _, p, .int, h => by
    rw [D.py] at h; cases h; exact .int _
  | _, _, p, .str, h => by
    rw [D.py] at h; cases h; exact .str _
  | _, _, p, .ty, h => by simp [D.py] at h
  | _, _, p, .ref, h => by simp [D.py] at h
  | .nd k ds, _, p, .wr z w, h => by
    cases z with
    | flst z => simp [D.py] at h
    | tup _ z =>
      rw [D.py] at h
      cases q : D.pyL ds with
      | none => rw [q] at h; cases h
      | some ps => rw [q] at h; cases h; exact .tup (z _) (RepL.dp w q)
  | .nd k ds, _, p, .nd n e o w, h => by
    cases o with
    | tup =>
      rw [D.py] at h
      cases q : D.pyL ds with
      | none => rw [q] at h; cases h
      | some ps => rw [q] at h; cases h; exact .tup (SqT.of e) (RepL.dp w q)
    | lst =>
      rw [D.py] at h
      cases q : D.pyL ds with
      | none => rw [q] at h; cases h
      | some ps => rw [q] at h; cases h; exact .lst (SqL.of e) (RepL.dp w q)
    | _ => simp [D.py] at h
theorem RepL.dp {K : PySem.W.Frag} {S : DHp} {H : Hp} : ∀ {ds : List D} {vs : List V} {ps : List PyData}, RepL K S H ds vs → D.pyL ds = some ps → DpAll K H vs ps
  | _, _, ps, .nil, h => by
    rw [D.pyL] at h; cases h; exact .nil
  | d :: ds, _, ps, .cons r t, h => by
    rw [D.pyL] at h
    cases q : D.py d with
    | none => rw [q] at h; cases h
    | some p1 =>
      cases q2 : D.pyL ds with
      | none => rw [q, q2] at h; cases h
      | some p2 => rw [q, q2] at h; cases h; exact .cons (Rep.dp r q) (RepL.dp t q2)
end
def isNon : D → Bool
  | .non => true
  | _ => false
/-! ### equality, order of data, as Python has them -/
mutual
def eqD : D → D → Bool
  | .non, .non => true
  | .bl a, .bl b => a == b
  | .bl a, .int j => (if a then 1 else 0) == j
  | .int i, .bl b => i == (if b then 1 else 0)
  | .int i, .int j => i == j
  | .str x, .str y => x == y
  | .nd .tup xs, .nd .tup ys => eqL xs ys
  | .nd .lst xs, .nd .lst ys => eqL xs ys
  | _, _ => false
def eqL : List D → List D → Bool
  | [], [] => true
  | x :: xs, y :: ys => eqD x y && eqL xs ys
  | _, _ => false
end
mutual
def ltD : D → D → Bool
  | .bl a, .bl b => !a && b
  | .int i, .int j => decide (i < j)
  | .str x, .str y => decide (x.cps.toList < y.cps.toList)
  | .nd .tup xs, .nd .tup ys => ltL xs ys
  | .nd .lst xs, .nd .lst ys => ltL xs ys
  | _, _ => false
def ltL : List D → List D → Bool
  | x :: xs, y :: ys => if eqD x y = true then ltL xs ys else ltD x y
  | [], _ :: _ => true
  | _, _ => false
end
mutual
def alikeD : D → D → Bool
  | .non, .non => true
  | .bl _, .bl _ => true
  | .int _, .int _ => true
  | .str _, .str _ => true
  | .nd .tup xs, .nd .tup ys => (D.pyL xs).isSome && (D.pyL ys).isSome && alikeL xs ys
  | .nd .lst xs, .nd .lst ys => (D.pyL xs).isSome && (D.pyL ys).isSome && alikeL xs ys
  | _, _ => false
def alikeL : List D → List D → Bool
  | x :: xs, y :: ys => alikeD x y && alikeL xs ys
  | _, _ => true
end
mutual
def okD : D → Bool
  | .non | .bl _ | .int _ => true
  | .str x => PyData.strOk x
  | .nd .tup ds => okL ds
  | .nd .lst ds => okL ds
  | _ => false
def okL : List D → Bool
  | [] => true
  | d :: ds => okD d && okL ds
end
mutual
def dep : D → Nat
  | .nd _ ds => depL ds + 1
  | _ => 0
def depL : List D → Nat
  | [] => 0
  | d :: ds => max (dep d) (depL ds)
end
theorem pyL_cons {d : D} {ds : List D} {ps : List PyData} (h : D.pyL (d :: ds) = some ps) : ∃ p qs, ps = p :: qs ∧ d.py = some p ∧ D.pyL ds = some qs := by
  rw [D.pyL] at h
  cases q : D.py d with
  | none => rw [q] at h; cases h
  | some p1 =>
    cases q2 : D.pyL ds with
    | none => rw [q, q2] at h; cases h
    | some p2 => rw [q, q2] at h; cases h; exact ⟨_, _, rfl, rfl, rfl⟩
theorem py_tup {ds : List D} {p : PyData} (h : (D.nd .tup ds).py = some p) : ∃ ps, p = .tuple ps ∧ D.pyL ds = some ps := by
  rw [D.py] at h
  cases q : D.pyL ds with
  | none => rw [q] at h; cases h
  | some ps => rw [q] at h; cases h; exact ⟨ps, rfl, rfl⟩
theorem py_lst {ds : List D} {p : PyData} (h : (D.nd .lst ds).py = some p) : ∃ ps, p = .list ps ∧ D.pyL ds = some ps := by
  rw [D.py] at h
  cases q : D.pyL ds with
  | none => rw [q] at h; cases h
  | some ps => rw [q] at h; cases h; exact ⟨ps, rfl, rfl⟩
/-- what a datum is -/
theorem py_inv {d : D} {p : PyData} (h : d.py = some p) : (d = .non ∧ p = .none) ∨ (∃ b, d = .bl b ∧ p = .bool b) ∨ (∃ i, d = .int i ∧ p = .int i) ∨ (∃ x, d = .str x ∧ p = .str x) ∨
    (∃ ds ps, d = .nd .tup ds ∧ p = .tuple ps ∧ D.pyL ds = some ps) ∨ ∃ ds ps, d = .nd .lst ds ∧ p = .list ps ∧ D.pyL ds = some ps := by
  cases d with
  | non => rw [D.py] at h; cases h; exact .inl ⟨rfl, rfl⟩
  | bl b => rw [D.py] at h; cases h; exact .inr (.inl ⟨b, rfl, rfl⟩)
  | int b => rw [D.py] at h; cases h; exact .inr (.inr (.inl ⟨b, rfl, rfl⟩))
  | str b => rw [D.py] at h; cases h; exact .inr (.inr (.inr (.inl ⟨b, rfl, rfl⟩)))
  | ty _ => simp [D.py] at h
  | ref _ => simp [D.py] at h
  | nd k ds =>
    cases k with
    | tup => obtain ⟨ps, e, q⟩ := py_tup h; exact .inr (.inr (.inr (.inr (.inl ⟨ds, ps, rfl, e, q⟩))))
    | lst => obtain ⟨ps, e, q⟩ := py_lst h; exact .inr (.inr (.inr (.inr (.inr ⟨ds, ps, rfl, e, q⟩))))
    | _ => simp [D.py] at h
mutual
theorem eqv_D (d e : D) (p q : PyData) (h1 : d.py = some p) (h2 : e.py = some q) : PyData.eqv p q = eqD d e := by
  rcases py_inv h1 with ⟨rfl, rfl⟩ | ⟨x, rfl, rfl⟩ | ⟨x, rfl, rfl⟩ | ⟨x, rfl, rfl⟩ | ⟨ds, ps, rfl, rfl, a⟩ | ⟨ds, ps, rfl, rfl, a⟩ <;>
    rcases py_inv h2 with ⟨rfl, rfl⟩ | ⟨y, rfl, rfl⟩ | ⟨y, rfl, rfl⟩ | ⟨y, rfl, rfl⟩ | ⟨es, qs, rfl, rfl, b⟩ | ⟨es, qs, rfl, rfl, b⟩ <;> first
    | (rw [PyData.eqv, eqD]; exact eqv_L ds es ps qs a b)
    | (rw [PyData.eqv, eqD]; done)
    | simp [PyData.eqv, eqD]
termination_by sizeOf d
theorem eqv_L (ds es : List D) (ps qs : List PyData) (h1 : D.pyL ds = some ps) (h2 : D.pyL es = some qs) : PyData.eqvAll ps qs = eqL ds es := by
  match ds, es, h1, h2 with
  | [], [], h1, h2 => rw [D.pyL] at h1 h2; cases h1; cases h2; rw [PyData.eqvAll, eqL]
  | [], e :: es, h1, h2 =>
    obtain ⟨q, qs, rfl, b, b2⟩ := pyL_cons h2
    rw [D.pyL] at h1; cases h1; simp [PyData.eqvAll, eqL]
  | d :: ds, [], h1, h2 =>
    obtain ⟨q, qs, rfl, b, b2⟩ := pyL_cons h1
    rw [D.pyL] at h2; cases h2; simp [PyData.eqvAll, eqL]
  | d :: ds, e :: es, h1, h2 =>
    obtain ⟨p, ps, rfl, a, a2⟩ := pyL_cons h1
    obtain ⟨q, qs, rfl, b, b2⟩ := pyL_cons h2
    rw [PyData.eqvAll, eqL, eqv_D d e p q a b, eqv_L ds es ps qs a2 b2]
termination_by sizeOf ds
end
theorem okD_py : ∀ {d : D}, okD d = true → ∃ p, d.py = some p := by
  have L : ∀ n : Nat, (∀ d : D, sizeOf d ≤ n → okD d = true → ∃ p, d.py = some p) ∧ ∀ ds : List D, sizeOf ds ≤ n → okL ds = true → ∃ ps, D.pyL ds = some ps := by
    intro n
    induction n with
    | zero =>
      refine ⟨fun d h => ?_, fun ds h => ?_⟩
      · cases d <;> simp at h
      · cases ds <;> simp at h
    | succ n ih =>
      refine ⟨fun d h k => ?_, fun ds h k => ?_⟩
      · cases d with
        | nd kd ds =>
          have hs : sizeOf ds ≤ n := by simp at h; omega
          cases kd with
          | tup =>
            rw [okD] at k
            obtain ⟨ps, e⟩ := ih.2 ds hs k
            exact ⟨.tuple ps, by rw [D.py, e]; rfl⟩
          | lst =>
            rw [okD] at k
            obtain ⟨ps, e⟩ := ih.2 ds hs k
            exact ⟨.list ps, by rw [D.py, e]; rfl⟩
          | _ => simp [okD] at k
        | ty _ => simp [okD] at k
        | ref _ => simp [okD] at k
        | _ => exact ⟨_, by rw [D.py]⟩
      · cases ds with
        | nil => exact ⟨[], by rw [D.pyL]⟩
        | cons d ds =>
          rw [okL, Bool.and_eq_true] at k
          obtain ⟨p, e⟩ := ih.1 d (by simp at h; omega) k.1
          obtain ⟨ps, e2⟩ := ih.2 ds (by simp at h; omega) k.2
          exact ⟨p :: ps, by rw [D.pyL, e, e2]⟩
  exact fun {d} h => (L (sizeOf d)).1 d (Nat.le_refl _) h
mutual
theorem dep_D (d : D) (p : PyData) (h : d.py = some p) : p.depth = dep d := by
  rcases py_inv h with ⟨rfl, rfl⟩ | ⟨x, rfl, rfl⟩ | ⟨x, rfl, rfl⟩ | ⟨x, rfl, rfl⟩ | ⟨ds, ps, rfl, rfl, a⟩ | ⟨ds, ps, rfl, rfl, a⟩
  all_goals first
    | (rw [PyData.depth, dep, dep_L ds ps a]; done)
    | simp [PyData.depth, dep]
termination_by sizeOf d
theorem dep_L (ds : List D) (ps : List PyData) (h : D.pyL ds = some ps) : PyData.depthAll ps = depL ds := by
  match ds, h with
  | [], h => rw [D.pyL] at h; cases h; rw [PyData.depthAll, depL]
  | d :: ds, h =>
    obtain ⟨p, ps, rfl, a, a2⟩ := pyL_cons h
    rw [PyData.depthAll, depL, dep_D d p a, dep_L ds ps a2]
termination_by sizeOf ds
end
mutual
theorem lay_D (d : D) (p : PyData) (h : d.py = some p) : p.canLay0 = okD d := by
  rcases py_inv h with ⟨rfl, rfl⟩ | ⟨x, rfl, rfl⟩ | ⟨x, rfl, rfl⟩ | ⟨x, rfl, rfl⟩ | ⟨ds, ps, rfl, rfl, a⟩ | ⟨ds, ps, rfl, rfl, a⟩
  all_goals first
    | (rw [PyData.canLay0, okD, lay_L ds ps a]; done)
    | simp [PyData.canLay0, okD]
termination_by sizeOf d
theorem lay_L (ds : List D) (ps : List PyData) (h : D.pyL ds = some ps) : PyData.canLayAll0 ps = okL ds := by
  match ds, h with
  | [], h => rw [D.pyL] at h; cases h; rw [PyData.canLayAll0, okL]
  | d :: ds, h =>
    obtain ⟨p, ps, rfl, a, a2⟩ := pyL_cons h
    rw [PyData.canLayAll0, okL, lay_D d p a, lay_L ds ps a2]
termination_by sizeOf ds
end
theorem shaped_D {d : D} {p : PyData} (h : d.py = some p) (k : okD d = true) (hd : dep d ≤ 64) : SeqAt.shaped p = true := by
  unfold SeqAt.shaped
  rw [lay_D d p h, k, dep_D d p h, decide_eq_true hd]
  rfl
mutual
theorem lt_Dpy (d e : D) (p q : PyData) (h1 : d.py = some p) (h2 : e.py = some q) (h : PySem.W.alike p q = true) : PySem.W.dataLt p q = ltD d e := by
  rcases py_inv h1 with ⟨rfl, rfl⟩ | ⟨x, rfl, rfl⟩ | ⟨x, rfl, rfl⟩ | ⟨x, rfl, rfl⟩ | ⟨ds, ps, rfl, rfl, a⟩ | ⟨ds, ps, rfl, rfl, a⟩ <;>
    rcases py_inv h2 with ⟨rfl, rfl⟩ | ⟨y, rfl, rfl⟩ | ⟨y, rfl, rfl⟩ | ⟨y, rfl, rfl⟩ | ⟨es, qs, rfl, rfl, b⟩ | ⟨es, qs, rfl, rfl, b⟩ <;>
    first
    | (simp [PySem.W.alike] at h; done)
    | skip
  · rfl
  · rw [PySem.W.dataLt_bool, ltD]
    cases x <;> cases y <;> rfl
  · rw [PySem.W.dataLt_int, ltD]
  · rw [PySem.W.dataLt_str, ltD]
  · rw [PySem.W.dataLt_tuple, ltD]
    exact lt_Lpy ds es ps qs a b (by simpa [PySem.W.alike] using h)
  · rw [PySem.W.dataLt_list, ltD]
    exact lt_Lpy ds es ps qs a b (by simpa [PySem.W.alike] using h)
termination_by sizeOf d
theorem lt_Lpy (ds es : List D) (ps qs : List PyData) (h1 : D.pyL ds = some ps) (h2 : D.pyL es = some qs) (h : PySem.W.alikeAll ps qs = true) :
    PyProof.Rows.lexLt PyProof.Rows.itemOrd (PySem.W.keyToksAll ps) (PySem.W.keyToksAll qs) = ltL ds es := by
  match ds, es, h1, h2 with
  | [], [], h1, h2 =>
    rw [D.pyL] at h1 h2; cases h1; cases h2
    simp only [PySem.W.keyToksAll, ltL]
    exact PyProof.Rows.lex_self (O := PyProof.Rows.itemOrd) _ _ _
  | [], e :: es, h1, h2 =>
    obtain ⟨q, qs, rfl, b, b2⟩ := pyL_cons h2
    rw [D.pyL] at h1; cases h1
    simp only [PySem.W.keyToksAll, ltL]
    exact PyProof.Rows.lex_diff (O := PyProof.Rows.itemOrd) (by simp)
  | d :: ds, [], h1, h2 =>
    obtain ⟨q, qs, rfl, b, b2⟩ := pyL_cons h1
    rw [D.pyL] at h2; cases h2
    simp only [PySem.W.keyToksAll, ltL]
    exact PyProof.Rows.lex_diff (O := PyProof.Rows.itemOrd) (by simp)
  | d :: ds, e :: es, h1, h2 =>
    obtain ⟨p, ps, rfl, a, a2⟩ := pyL_cons h1
    obtain ⟨q, qs, rfl, b, b2⟩ := pyL_cons h2
    obtain ⟨hx, hxs⟩ := PySem.W.alike_all_cons h
    rw [ltL, ← eqv_D d e p q a b]
    cases c : PyData.eqv p q with
    | true => rw [PySem.W.dataLt_all_yes hx c, if_pos rfl, lt_Lpy ds es ps qs a2 b2 hxs]
    | false => rw [PySem.W.dataLt_all_no hx c, if_neg Bool.false_ne_true, lt_Dpy d e p q a b hx]
termination_by sizeOf ds
end
mutual
theorem alike_D (d e : D) (h : alikeD d e = true) : ∃ p q, d.py = some p ∧ e.py = some q ∧ PySem.W.alike p q = true := by
  match d, e, h with
  | .non, .non, h => exact ⟨_, _, by rw [D.py], by rw [D.py], rfl⟩
  | .bl _, .bl _, h => exact ⟨_, _, by rw [D.py], by rw [D.py], rfl⟩
  | .int _, .int _, h => exact ⟨_, _, by rw [D.py], by rw [D.py], rfl⟩
  | .str _, .str _, h => exact ⟨_, _, by rw [D.py], by rw [D.py], rfl⟩
  | .nd .tup xs, .nd .tup ys, h =>
    rw [alikeD, Bool.and_eq_true, Bool.and_eq_true, Option.isSome_iff_exists, Option.isSome_iff_exists] at h
    obtain ⟨⟨⟨ps, e1⟩, qs, e2⟩, h⟩ := h
    exact ⟨.tuple ps, .tuple qs, by rw [D.py, e1]; rfl, by rw [D.py, e2]; rfl, by rw [PySem.W.alike]; exact alike_L xs ys ps qs e1 e2 h⟩
  | .nd .lst xs, .nd .lst ys, h =>
    rw [alikeD, Bool.and_eq_true, Bool.and_eq_true, Option.isSome_iff_exists, Option.isSome_iff_exists] at h
    obtain ⟨⟨⟨ps, e1⟩, qs, e2⟩, h⟩ := h
    exact ⟨.list ps, .list qs, by rw [D.py, e1]; rfl, by rw [D.py, e2]; rfl, by rw [PySem.W.alike]; exact alike_L xs ys ps qs e1 e2 h⟩
termination_by sizeOf d
theorem alike_L (xs ys : List D) (ps qs : List PyData) (e1 : D.pyL xs = some ps) (e2 : D.pyL ys = some qs) (h : alikeL xs ys = true) : PySem.W.alikeAll ps qs = true := by
  match xs, ys, e1, e2, h with
  | [], ys, e1, e2, h => rw [D.pyL] at e1; cases e1; cases qs <;> simp [PySem.W.alikeAll]
  | x :: xs, [], e1, e2, h => rw [D.pyL] at e2; cases e2; cases ps <;> simp [PySem.W.alikeAll]
  | x :: xs, y :: ys, e1, e2, h =>
    obtain ⟨p, ps, rfl, a, a2⟩ := pyL_cons e1
    obtain ⟨q, qs, rfl, b, b2⟩ := pyL_cons e2
    rw [alikeL, Bool.and_eq_true] at h
    obtain ⟨p', q', a', b', c⟩ := alike_D x y h.1
    rw [a] at a'; rw [b] at b'
    cases a'; cases b'
    rw [PySem.W.alikeAll, c, alike_L xs ys ps qs a2 b2 h.2]
    rfl
termination_by sizeOf xs
end
section
variable {X : Cx} {K : PySem.W.Frag} {e a b c tg : Expr} {pos : Pos} {es : List Expr}
/-! ### operators on numbers -/
def oI (C : Int → Int → Prop) (g : Int → Int → D) : DOp := fun x y S Q => match x, y with
  | .int i, .int j => C i j ∧ Q (g i j) S
  | _, _ => False
theorem op_I {f : Value → Value → Sem Value} {C C' : Int → Int → Prop} {g : Int → Int → V} {g' : Int → Int → D} (h : OpR X f (rI C g)) (i : ∀ x y, C' x y → C x y) (r : ∀ x y S H, Rep X.K S H (g' x y) (g x y)) : OpR X f (rD X.K (oI C' g')) := by
  refine OpR.mono h fun x y H Q ⟨d, e, S, Qd, wd, we, rs, q, k⟩ => ?_
  match d, e, q with
  | .int n, .int m, q =>
    cases wd; cases we
    exact ⟨n, m, rfl, rfl, i n m q.1, k _ S _ H q.2 Keep.refl rs (r n m S H)⟩
theorem op_I0 {f : Value → Value → Sem Value} {g : Int → Int → V} {g' : Int → Int → D} (h : OpR X f (rI0 g)) (r : ∀ x y S H, Rep X.K S H (g' x y) (g x y)) : OpR X f (rD X.K (oI (fun _ _ => True) g')) := by
  refine OpR.mono h fun x y H Q ⟨d, e, S, Qd, wd, we, rs, q, k⟩ => ?_
  match d, e, q with
  | .int n, .int m, q =>
    cases wd; cases we
    exact ⟨n, m, rfl, rfl, k _ S _ H q.2 Keep.refl rs (r n m S H)⟩
def oSub : DOp := fun x y S Q => match x, y with
  | .int i, .int j => Q (.int (i - j)) S
  | _, _ => False
theorem o_sub : OpR X (binaryOp .Sub) (rD X.K oSub) := OpR.mono op_sub fun x y H Q ⟨d, e, S, Qd, wd, we, rs, q, k⟩ => by
  match d, e, q with
  | .int n, .int m, q =>
    cases wd; cases we
    exact ⟨n, m, rfl, rfl, k _ S _ H q Keep.refl rs .int⟩
def oMul : DOp := fun x y S Q => match x, y with
  | .int i, .int j => CMulX i j ∧ Q (.int (i * j)) S
  | _, _ => False
theorem o_mul : OpR X (binaryOp .Mult) (rD X.K oMul) := OpR.mono op_mulX fun x y H Q ⟨d, e, S, Qd, wd, we, rs, q, k⟩ => by
  match d, e, q with
  | .int n, .int m, q =>
    cases wd; cases we
    exact ⟨n, m, rfl, rfl, q.1, k _ S _ H q.2 Keep.refl rs .int⟩
def oFdiv : DOp := fun x y S Q => match x, y with
  | .int i, .int j => CDivW i j ∧ Q (.int (i / j)) S
  | _, _ => False
theorem o_fdiv : OpR X (binaryOp .FloorDiv) (rD X.K oFdiv) := OpR.mono op_fdivW fun x y H Q ⟨d, e, S, Qd, wd, we, rs, q, k⟩ => by
  match d, e, q with
  | .int n, .int m, q =>
    cases wd; cases we
    exact ⟨n, m, rfl, rfl, q.1, k _ S _ H q.2 Keep.refl rs .int⟩
def oMod : DOp := fun x y S Q => match x, y with
  | .int i, .int j => 0 < j ∧ Q (.int (i % j)) S
  | _, _ => False
theorem o_mod : OpR X (binaryOp .Mod) (rD X.K oMod) := OpR.mono op_mod fun x y H Q ⟨d, e, S, Qd, wd, we, rs, q, k⟩ => by
  match d, e, q with
  | .int n, .int m, q =>
    cases wd; cases we
    exact ⟨n, m, rfl, rfl, q.1, k _ S _ H q.2 Keep.refl rs .int⟩
def oPow : DOp := fun x y S Q => match x, y with
  | .int i, .int j => (0 ≤ j ∧ (Builtin.Int.intBits i : Int) * j ≤ 2 ^ 27) ∧ Q (.int (i ^ j.toNat)) S
  | _, _ => False
theorem o_pow : OpR X (binaryOp .Pow) (rD X.K oPow) :=
  OpR.mono (opI (C := fun i j => 0 ≤ j ∧ (Builtin.Int.intBits i : Int) * j ≤ 2 ^ 27) fun _ _ _ _ _ _ _ hc q => pow_int hc.1 hc.2 q) fun x y H Q ⟨d, e, S, Qd, wd, we, rs, q, k⟩ => by
  match d, e, q with
  | .int n, .int m, q =>
    cases wd; cases we
    exact ⟨n, m, rfl, rfl, q.1, k _ S _ H q.2 Keep.refl rs .int⟩
/-- the list that stands still, or of the store -/
def lstOf (S : DHp) : D → Option (List D)
  | .nd .lst ds => some ds
  | .ref p => match S p with
    | some (.lst, ds) => some ds
    | _ => none
  | _ => none
theorem lstOf_at {K : PySem.W.Frag} {S : DHp} {H : Hp} {d : D} {v : V} {ds : List D} (rs : RS K S H) (w : Rep K S H d v) (h : lstOf S d = some ds) : ∃ a vs, v = .ref a ∧ H a = some (.lst vs) ∧ RepL K S H ds vs := by
  match d, h with
  | .nd .lst es, h =>
    have e : es = ds := Option.some.inj h
    subst e
    obtain ⟨a, vs, rfl, _, x, y⟩ := w.seqL
    exact ⟨a, vs, rfl, x, y⟩
  | .ref p, h =>
    cases w
    unfold lstOf at h
    cases e : S p with
    | none => simp only [e] at h; cases h
    | some o =>
      obtain ⟨kk, es⟩ := o
      cases kk with
      | lst =>
        simp only [e] at h
        cases h
        obtain ⟨vs, x, y⟩ := rs.lst e
        exact ⟨p, vs, rfl, x, y⟩
      | _ => simp only [e] at h; cases h
def oAdd : DOp := fun x y S Q => match x, y with
  | .int i, .int j => Q (.int (i + j)) S
  | .str i, .str j => i.length + j.length ≤ sizeLine ∧ Q (.str (i ++ j)) S
  | .nd .tup i, .nd .tup j => i.length + j.length ≤ sizeLine ∧ Q (.tup (i ++ j)) S
  | x, y => match lstOf S x, lstOf S y with
    | some i, some j => i.length + j.length ≤ sizeLine ∧ Q (.lst (i ++ j)) S
    | _, _ => False
theorem oAdd_lst {x y : D} {S : DHp} {Q : DQ} {i j : List D} (hx : lstOf S x = some i) (hy : lstOf S y = some j) (hl : i.length + j.length ≤ sizeLine) (q : Q (.lst (i ++ j)) S) : oAdd x y S Q := by
  unfold oAdd
  split
  · cases hx
  · cases hx
  · cases hx
  · rw [hx, hy]; exact ⟨hl, q⟩
theorem o_add : OpR X (binaryOp .Add) (rD X.K oAdd) := by
  have h := OpR.or (OpR.or op_add op_add_str) (OpR.or (op_catA (X := X)) op_cat)
  refine OpR.mono h fun x y H Q ⟨d, e, S, Qd, wd, we, rs, q, k⟩ => ?_
  unfold oAdd at q
  split at q
  · cases wd; cases we
    exact .inl (.inl ⟨_, _, rfl, rfl, k _ S _ H q Keep.refl rs .int⟩)
  · cases wd; cases we
    exact .inl (.inr ⟨_, _, rfl, rfl, q.1, k _ S _ H q.2 Keep.refl rs .str⟩)
  · rename_i i j
    obtain ⟨a, vs, rfl, x, _, w⟩ := wd.seqT
    obtain ⟨a', vs', rfl, x', _, w'⟩ := we.seqT
    refine .inr (.inl ⟨a, a', vs, vs', rfl, rfl, x, x', by rw [← w.length, ← w'.length]; exact q.1, fun e => ?_, fun _ e => ?_, fun _ _ p hp => ?_⟩)
    · subst e
      cases w
      exact k _ S _ H q.2 Keep.refl rs we
    · subst e
      cases w'
      rw [List.append_nil] at q
      exact k _ S _ H q.2 Keep.refl rs wd
    · exact k _ S _ _ q.2 (keep_newF hp) (rs_newF rs hp) (rep_newF rs hp .tup (w.append w'))
  · split at q
    · rename_i i j hi hj
      obtain ⟨a, vs, rfl, x, w⟩ := lstOf_at rs wd hi
      obtain ⟨a', vs', rfl, x', w'⟩ := lstOf_at rs we hj
      exact .inr (.inr ⟨a, a', vs, vs', rfl, rfl, x, x', by rw [← w.length, ← w'.length]; exact q.1, fun p hp => k _ S _ _ q.2 (keep_newF hp) (rs_newF rs hp) (rep_newF rs hp .lst (w.append w'))⟩)
    · exact q.elim
def oNeg : D → DHp → DQ → Prop := fun x S Q => match x with
  | .int i => Q (.int (-i)) S
  | _ => False
theorem o_neg : UnR X (unaryOp .USub) (rU1 X.K oNeg) := UnR.mono un_neg fun x H Q ⟨d, S, Qd, wd, rs, q, k⟩ => by
  match d, q with
  | .int n, q =>
    cases wd
    exact ⟨n, rfl, k _ S _ H q Keep.refl rs .int⟩
/-! ### comparisons -/
def scalD : D → D → Bool
  | .non, .non | .non, .int _ | .int _, .non | .non, .bl _ | .bl _, .non | .non, .str _ | .str _, .non | .int _, .int _ | .bl _, .bl _ | .str _, .str _ | .int _, .str _ | .str _, .int _ | .bl _, .str _ | .str _, .bl _ => true
  | _, _ => false
def oEq (neg : Bool) : DOp := fun x y S Q => (scalD x y = true ∨ (okD x = true ∧ okD y = true ∧ dep x ≤ 64 ∧ dep y ≤ 64)) ∧ Q (.bl (if neg then !eqD x y else eqD x y)) S
theorem scal_V {S : DHp} {H : Hp} {d e : D} {x y : V} (wd : Rep K S H d x) (we : Rep K S H e y) (h : scalD d e = true) : scal x y = true ∧ decide (x = y) = eqD d e := by
  cases wd <;> cases we <;> simp [scalD, scal, eqD] at h ⊢ <;> first
    | exact Bool.eq_iff_iff.mpr (by simp)
    | skip
theorem o_eq (hu : X.A.units + 64 < cLine) : OpR X (compareOp .Eq) (rD X.K (oEq false)) := OpR.mono (OpR.or op_eq (op_eqD hu)) fun x y H Q ⟨d, e, S, Qd, wd, we, rs, q, k⟩ => by
  obtain ⟨c, q⟩ := q
  rcases c with c | ⟨c1, c2, c3, c4⟩
  · obtain ⟨a, b⟩ := scal_V wd we c
    exact .inl ⟨a, by rw [b]; exact k _ S _ H q Keep.refl rs .bl⟩
  · obtain ⟨p, hp⟩ := okD_py c1
    obtain ⟨p', hp'⟩ := okD_py c2
    refine .inr ⟨p, p', wd.dp hp, we.dp hp', shaped_D hp c1 c3, shaped_D hp' c2 c4, ?_⟩
    rw [eqv_D _ _ _ _ hp hp']
    exact k _ S _ H q Keep.refl rs .bl
theorem o_ne (hu : X.A.units + 64 < cLine) : OpR X (compareOp .NotEq) (rD X.K (oEq true)) := OpR.mono (OpR.or op_ne (op_neD hu)) fun x y H Q ⟨d, e, S, Qd, wd, we, rs, q, k⟩ => by
  obtain ⟨c, q⟩ := q
  rcases c with c | ⟨c1, c2, c3, c4⟩
  · obtain ⟨a, b⟩ := scal_V wd we c
    exact .inl ⟨a, by rw [b]; exact k _ S _ H q Keep.refl rs .bl⟩
  · obtain ⟨p, hp⟩ := okD_py c1
    obtain ⟨p', hp'⟩ := okD_py c2
    refine .inr ⟨p, p', wd.dp hp, we.dp hp', shaped_D hp c1 c3, shaped_D hp' c2 c4, ?_⟩
    rw [eqv_D _ _ _ _ hp hp']
    exact k _ S _ H q Keep.refl rs .bl
/-- <, <=, >, >= of data that are alike: f of (x < y, y < x) -/
def oCmp (f : Bool → Bool → Bool) : DOp := fun x y S Q => (alikeD x y = true ∧ isNon x = false ∧ dep x ≤ 64) ∧ Q (.bl (f (ltD x y) (ltD y x))) S
abbrev oLt : DOp := oCmp fun a _ => a
abbrev oLe : DOp := oCmp fun _ b => !b
abbrev oGt : DOp := oCmp fun _ b => b
abbrev oGe : DOp := oCmp fun a _ => !a
theorem o_cmp {op : CmpOp} {f : Bool → Bool → Bool} (hu : X.A.units + 64 < cLine)
    (rule : ∀ (da db : PyData) (a b : Value) (as bs : List Addr) (s : Shared) (Q : Value → Shared → Prop), Reads s.heap a da as → Reads s.heap b db bs → PySem.W.alike da db = true → da ≠ .none → X.A.units + min da.depth db.depth < cLine → Q (.bool (f (PySem.W.dataLt da db) (PySem.W.dataLt db da))) s →
      wpAny (model X.prog X.w) X.A (compareOp op a b) Q X.xe s) : OpR X (compareOp op) (rD X.K (oCmp f)) := by
  rintro pins s σ H x y v u Q I rx ry ⟨d, e, S, Qd, wd, we, rs, ⟨⟨c1, c2, c3⟩, q⟩, k⟩
  obtain ⟨p, p', hp, hp', ha⟩ := alike_D _ _ c1
  obtain ⟨as, r1⟩ := Dp.reads I p x v (wd.dp hp) rx
  obtain ⟨bs, r2⟩ := Dp.reads I p' y u (we.dp hp') ry
  have hd := dep_D _ _ hp
  refine rule p p' v u as bs s _ r1 r2 ha (fun z => ?_) (by have : min p.depth p'.depth ≤ p.depth := Nat.min_le_left _ _; omega) ?_
  · subst z
    cases d with
    | non => cases c2
    | nd kk ds => cases kk <;> simp [D.py] at hp
    | _ => simp [D.py] at hp
  · rw [lt_Dpy _ _ _ _ hp hp' ha, lt_Dpy _ _ _ _ hp' hp (by rw [PySem.W.alike_comm]; exact ha)]
    exact ⟨.bl _, H, I, rfl, k _ S _ H q Keep.refl rs .bl⟩
theorem o_lt (hu : X.A.units + 64 < cLine) : OpR X (compareOp .Lt) (rD X.K oLt) := o_cmp hu fun _ _ _ _ _ _ _ _ r1 r2 h n u q => PySem.W.lt_data r1 r2 h n u q
theorem o_le (hu : X.A.units + 64 < cLine) : OpR X (compareOp .LtE) (rD X.K oLe) := o_cmp hu fun _ _ _ _ _ _ _ _ r1 r2 h n u q => PySem.W.le_data r1 r2 h n u q
theorem o_gt (hu : X.A.units + 64 < cLine) : OpR X (compareOp .Gt) (rD X.K oGt) := o_cmp hu fun _ _ _ _ _ _ _ _ r1 r2 h n u q => PySem.W.gt_data r1 r2 h n u q
theorem o_ge (hu : X.A.units + 64 < cLine) : OpR X (compareOp .GtE) (rD X.K oGe) := o_cmp hu fun _ _ _ _ _ _ _ _ r1 r2 h n u q => PySem.W.ge_data r1 r2 h n u q
def oIs (neg : Bool) : DOp := fun x y S Q => match y with
  | .non => Q (.bl (if neg then !isNon x else isNon x)) S
  | _ => False
theorem rep_non {K : PySem.W.Frag} {S : DHp} {H : Hp} {d : D} {v : V} (w : Rep K S H d v) : decide (v = .non) = isNon d := by
  cases w <;> simp [isNon]
theorem o_is : OpR X (compareOp .Is) (rD X.K (oIs false)) := OpR.mono op_isN fun x y H Q ⟨d, e, S, Qd, wd, we, rs, q, k⟩ => by
  match e, q with
  | .non, q =>
    cases we
    exact ⟨rfl, by rw [rep_non wd]; exact k _ S _ H q Keep.refl rs .bl⟩
theorem o_isnot : OpR X (compareOp .IsNot) (rD X.K (oIs true)) := OpR.mono op_notN fun x y H Q ⟨d, e, S, Qd, wd, we, rs, q, k⟩ => by
  match e, q with
  | .non, q =>
    cases we
    exact ⟨rfl, by rw [rep_non wd]; exact k _ S _ H q Keep.refl rs .bl⟩
/-- a comparison of three, b asked once -/
def dChain (r r' : DOp) (ta tb tc : DTE) : DTE := fun ρ S Q => ta ρ S fun x S1 => tb ρ S1 fun y S2 => r x y S2 fun z S3 => match z with
  | .bl true => tc ρ S3 fun w S4 => r' y w S4 Q
  | .bl false => Q (.bl false) S3
  | _ => False
/-! ### built-ins by their names -/
def dBlt (r : List D → DHp → DQ → Prop) (t : DTA) : DTE := fun ρ S Q => t ρ S fun ds S1 => r ds S1 Q
theorem dBlt_lift {r : List D → DHp → DQ → Prop} {t : DTA} {σ : St} {H : Hp} {Q : VK} (h : lift K (dBlt r t) σ H Q) : tCB (rLs K r) (liftA K t) σ H Q := by
  obtain ⟨ρ, S, Qd, r0, rs, q, k⟩ := h
  refine ⟨ρ, S, _, r0, rs, q, fun ds S1 vs H1 q1 k1 rs1 w1 => ?_⟩
  exact ⟨ds, S1, Qd, w1, rs1, q1, fun z S' v H' qz kz rsz wz => k z S' v H' qz (k1.trans kz) rsz wz⟩
theorem de_blt {x : Str} {id : String} {p : Pos} {r : List D → DHp → DQ → Prop} {t : DTA} (hc : CallR X (.builtin id) (rLs X.K r)) (hg : Gl X x) (hm : X.mg x = none) (hv : bootBuiltins x = some (.builtin id)) (ha : DAs X (e :: es) t) (hn : x ≠ "__name__" := by decide) (hdb : (x == ("__debug__" : Str)) = false := by decide)
    (he : starEach (e :: es) X.env = (false, eval e X.env) :: starEach es X.env := by rfl) (hpl : (backTo pos (starEach es X.env)).any (·.1) = false := by rfl) : DE X (.Call (.Name x p) (e :: es) [] pos) (dBlt r t) :=
  PE.mono (pe_callB hc hg hm hv ha hn hdb he hpl) fun _ _ _ => dBlt_lift
theorem de_bty {x : Str} {id : String} {p : Pos} {r : List D → DHp → DQ → Prop} {t : DTA} (hc : CallR X (.type id) (rLs X.K r)) (hg : Gl X x) (hm : X.mg x = none) (hv : bootBuiltins x = some (.type id)) (ha : DAs X (e :: es) t) (hn : x ≠ "__name__" := by decide) (hdb : (x == ("__debug__" : Str)) = false := by decide)
    (he : starEach (e :: es) X.env = (false, eval e X.env) :: starEach es X.env := by rfl) (hpl : (backTo pos (starEach es X.env)).any (·.1) = false := by rfl) : DE X (.Call (.Name x p) (e :: es) [] pos) (dBlt r t) :=
  PE.mono (pe_callTy hc hg hm hv ha hn hdb he hpl) fun _ _ _ => dBlt_lift
/-- how long a text, list, tuple is -/
def lenOf (S : DHp) : D → Option Nat
  | .str x => if x.length ≤ sizeLine then some x.length else none
  | d => (itemsOf S d).map (·.items.length)
def bLen : List D → DHp → DQ → Prop := fun ds S Q => match ds with
  | [d] => match lenOf S d with
    | some n => Q (.int n) S
    | none => False
  | _ => False
theorem itemsOf_at {K : PySem.W.Frag} {S : DHp} {H : Hp} {d : D} {v : V} {src : Src} (rs : RS K S H) (w : Rep K S H d v) (h : itemsOf S d = some src) : ∃ a vs, v = .ref a ∧ (SqL K H a vs ∨ SqT K H a vs) ∧ RepL K S H src.items vs := by
  match d, h with
  | .nd .tup es, h =>
    cases h
    obtain ⟨a, vs, rfl, x, _, y⟩ := w.seqT
    exact ⟨a, vs, rfl, .inr x, y⟩
  | .nd .lst es, h =>
    cases h
    obtain ⟨a, vs, rfl, _, x, y⟩ := w.seqL
    exact ⟨a, vs, rfl, .inl (SqL.of x), y⟩
  | .nd .flst es, h =>
    cases h
    obtain ⟨a, vs, rfl, x, _, y⟩ := w.seqF
    exact ⟨a, vs, rfl, .inl x, y⟩
  | .ref p, h =>
    cases w
    unfold itemsOf at h
    cases e : S p with
    | none => simp only [e] at h; cases h
    | some o =>
      obtain ⟨kk, es⟩ := o
      cases kk with
      | lst =>
        simp only [e] at h
        cases h
        obtain ⟨vs, x, y⟩ := rs.lst e
        exact ⟨p, vs, rfl, .inl (SqL.of x), y⟩
      | _ => simp only [e] at h; cases h
theorem b_len : CallR X (.builtin "len") (rLs X.K bLen) := CallR.mono call_len fun xs H Q ⟨ds, S, Qd, w, rs, q, k⟩ => by
  match ds, q with
  | [d], q =>
    cases w with
    | cons w w2 =>
      cases w2
      unfold bLen at q
      cases e : lenOf S d with
      | none => simp only [e] at q
      | some n =>
        simp only [e] at q
        refine ⟨_, n, rfl, ?_, k _ S _ H q Keep.refl rs .int⟩
        unfold lenOf at e
        split at e
        · cases w
          split at e
          · cases e; exact ⟨by assumption, rfl⟩
          · cases e
        · cases e2 : itemsOf S d with
          | none => rw [e2] at e; cases e
          | some src =>
            rw [e2] at e
            cases e
            obtain ⟨a, vs, rfl, h, r⟩ := itemsOf_at (K := X.K) rs w e2
            rcases h with h | h
            · exact .inl ⟨vs, h, r.length⟩
            · exact .inr ⟨vs, h, r.length⟩
def bInt : List D → DHp → DQ → Prop := fun ds S Q => match ds with
  | [.int i] => Q (.int i) S
  | [.bl b] => Q (.int (if b then 1 else 0)) S
  | _ => False
theorem b_int : CallR X (.type "int") (rLs X.K bInt) := CallR.mono call_int1 fun xs H Q ⟨ds, S, Qd, w, rs, q, k⟩ => by
  match ds, q with
  | [.int i], q =>
    cases w with
    | cons w w2 =>
      cases w2; cases w
      exact .inl ⟨i, rfl, k _ S _ H q Keep.refl rs .int⟩
  | [.bl i], q =>
    cases w with
    | cons w w2 =>
      cases w2; cases w
      exact .inr ⟨i, rfl, k _ S _ H q Keep.refl rs .int⟩
def bAbs : List D → DHp → DQ → Prop := fun ds S Q => match ds with
  | [.int i] => Q (.int (if i < 0 then -i else i)) S
  | _ => False
theorem b_abs : CallR X (.builtin "abs") (rLs X.K bAbs) := CallR.mono call_abs fun xs H Q ⟨ds, S, Qd, w, rs, q, k⟩ => by
  match ds, q with
  | [.int i], q =>
    cases w with
    | cons w w2 =>
      cases w2; cases w
      exact ⟨i, rfl, k _ S _ H q Keep.refl rs .int⟩
def bI2 (g : Int → Int → Int) : List D → DHp → DQ → Prop := fun ds S Q => match ds with
  | [.int i, .int j] => Q (.int (g i j)) S
  | _ => False
theorem b_I2 {f : Value} {g : Int → Int → Int} (h : CallR X f (fun xs H Q => ∃ i j, xs = [.int i, .int j] ∧ Q (.int (g i j)) H)) : CallR X f (rLs X.K (bI2 g)) := CallR.mono h fun xs H Q ⟨ds, S, Qd, w, rs, q, k⟩ => by
  match ds, q with
  | [.int i, .int j], q =>
    cases w with
    | cons w w2 =>
      cases w2 with
      | cons w' w3 =>
        cases w3; cases w; cases w'
        exact ⟨i, j, rfl, k _ S _ H q Keep.refl rs .int⟩
abbrev bMax : List D → DHp → DQ → Prop := bI2 fun i j => if j > i then j else i
abbrev bMin : List D → DHp → DQ → Prop := bI2 fun i j => if j < i then j else i
theorem b_max (hc : X.calm = true) : CallR X (.builtin "max") (rLs X.K bMax) := b_I2 (call_max2 hc)
theorem b_min (hc : X.calm = true) : CallR X (.builtin "min") (rLs X.K bMin) := b_I2 (call_min2 hc)
/-- list(x), tuple(x) of a list or tuple -/
def bLst : List D → DHp → DQ → Prop := fun ds S Q => match ds with
  | [d] => match itemsOf S d with
    | some src => ∀ p, S p = none → Q (.ref p) (put S p (.lst, src.items))
    | none => False
  | _ => False
def bLstF : List D → DHp → DQ → Prop := fun ds S Q => match ds with
  | [d] => match itemsOf S d with
    | some src => Q (.lst src.items) S
    | none => False
  | _ => False
def bTup : List D → DHp → DQ → Prop := fun ds S Q => match ds with
  | [d] => match itemsOf S d with
    | some src => Q (.tup src.items) S
    | none => False
  | _ => False
theorem b_lst : CallR X (.type "list") (rLs X.K bLst) := CallR.mono call_list_of fun xs H Q ⟨ds, S, Qd, w, rs, q, k⟩ => by
  match ds, q with
  | [d], q =>
    cases w with
    | cons w w2 =>
      cases w2
      unfold bLst at q
      cases e : itemsOf S d with
      | none => simp only [e] at q
      | some src =>
        simp only [e] at q
        obtain ⟨a, vs, rfl, h, r⟩ := itemsOf_at (K := X.K) rs w e
        exact ⟨a, vs, rfl, h, fun p hp => k _ _ _ _ (q p (rs.free hp)) (keep_new hp) (rs_new rs hp .lst r) .ref⟩
theorem b_lstF : CallR X (.type "list") (rLs X.K bLstF) := CallR.mono call_list_of fun xs H Q ⟨ds, S, Qd, w, rs, q, k⟩ => by
  match ds, q with
  | [d], q =>
    cases w with
    | cons w w2 =>
      cases w2
      unfold bLstF at q
      cases e : itemsOf S d with
      | none => simp only [e] at q
      | some src =>
        simp only [e] at q
        obtain ⟨a, vs, rfl, h, r⟩ := itemsOf_at (K := X.K) rs w e
        exact ⟨a, vs, rfl, h, fun p hp => k _ _ _ _ q (keep_newF hp) (rs_newF rs hp) (rep_newF rs hp .lst r)⟩
/-- a tuple's items need not be new: a tuple of a tuple is the same -/
theorem b_tup : CallR X (.type "tuple") (rLs X.K bTup) := CallR.mono call_tuple_of fun xs H Q ⟨ds, S, Qd, w, rs, q, k⟩ => by
  match ds, q with
  | [d], q =>
    cases w with
    | cons w w2 =>
      cases w2
      unfold bTup at q
      cases e : itemsOf S d with
      | none => simp only [e] at q
      | some src =>
        simp only [e] at q
        match d, e with
        | .nd .tup es, e =>
          cases e
          obtain ⟨a, vs, rfl, x, _, y⟩ := w.seqT
          exact ⟨a, vs, rfl, .inr ⟨x, k _ _ _ _ q Keep.refl rs w⟩⟩
        | .nd .lst es, e =>
          cases e
          obtain ⟨a, vs, rfl, n, x, y⟩ := w.seqL
          exact ⟨a, vs, rfl, .inl ⟨SqL.of x, fun p hp => k _ _ _ _ q (keep_newF hp) (rs_newF rs hp) (rep_newF rs hp .tup y)⟩⟩
        | .nd .flst es, e =>
          cases e
          obtain ⟨a, vs, rfl, x, _, y⟩ := w.seqF
          exact ⟨a, vs, rfl, .inl ⟨x, fun p hp => k _ _ _ _ q (keep_newF hp) (rs_newF rs hp) (rep_newF rs hp .tup y)⟩⟩
        | .ref p0, e =>
          cases w
          unfold itemsOf at e
          cases e3 : S p0 with
          | none => simp only [e3] at e; cases e
          | some o =>
            obtain ⟨kk, es⟩ := o
            cases kk with
            | lst =>
              simp only [e3] at e
              cases e
              obtain ⟨vs, x, y⟩ := rs.lst e3
              exact ⟨p0, vs, rfl, .inl ⟨SqL.of x, fun p hp => k _ _ _ _ q (keep_newF hp) (rs_newF rs hp) (rep_newF rs hp .tup y)⟩⟩
            | _ => simp only [e3] at e; cases e
/-- bools -/
def D.bls : List D → Option (List Bool)
  | [] => some []
  | .bl b :: ds => (D.bls ds).map (b :: ·)
  | _ => none
theorem RepL.bls {K : PySem.W.Frag} {S : DHp} {H : Hp} : ∀ {ds : List D} {vs : List V} {bs : List Bool}, RepL K S H ds vs → D.bls ds = some bs → vs = bs.map V.bl
  | _, _, _, .nil, h => by cases h; rfl
  | .bl b :: ds, _, bs, .cons .bl t, h => by
    rw [D.bls] at h
    cases q : D.bls ds with
    | none => rw [q] at h; cases h
    | some cs => rw [q] at h; cases h; rw [RepL.bls t q]; rfl
  | .non :: _, _, _, _, h => by cases h
  | .int _ :: _, _, _, _, h => by cases h
  | .str _ :: _, _, _, _, h => by cases h
  | .ty _ :: _, _, _, _, h => by cases h
  | .ref _ :: _, _, _, _, h => by cases h
  | .nd _ _ :: _, _, _, _, h => by cases h
def bQuant (f : List Bool → Bool) : List D → DHp → DQ → Prop := fun ds S Q => match ds with
  | [d] => match lstOf S d with
    | some es => match D.bls es with
      | some bs => Q (.bl (f bs)) S
      | none => False
    | none => False
  | _ => False
theorem b_quant {fv : Value} {f : List Bool → Bool} (h : CallR X fv (fun vs H Q => ∃ (a : Addr) (bs : List Bool), vs = [V.ref a] ∧ SqL X.K H a (bs.map V.bl) ∧ Q (.bl (f bs)) H)) : CallR X fv (rLs X.K (bQuant f)) := CallR.mono h fun xs H Q ⟨ds, S, Qd, w, rs, q, k⟩ => by
  match ds, q with
  | [d], q =>
    cases w with
    | cons w w2 =>
      cases w2
      unfold bQuant at q
      cases e : lstOf S d with
      | none => simp only [e] at q
      | some es =>
        simp only [e] at q
        cases e2 : D.bls es with
        | none => simp only [e2] at q
        | some bs =>
          simp only [e2] at q
          obtain ⟨a, vs, rfl, x, r⟩ := lstOf_at rs w e
          rw [r.bls e2] at x
          exact ⟨a, bs, rfl, SqL.of x, k _ S _ H q Keep.refl rs .bl⟩
abbrev bAll : List D → DHp → DQ → Prop := bQuant fun bs => bs.all id
abbrev bAny : List D → DHp → DQ → Prop := bQuant fun bs => bs.any id
theorem b_all (hc : X.calm = true) : CallR X (.builtin "all") (rLs X.K bAll) := b_quant (cr_all hc)
theorem b_any (hc : X.calm = true) : CallR X (.builtin "any") (rLs X.K bAny) := b_quant (cr_any hc)
/-! ### subscripts -/
theorem atI_get {α : Type} {xs : List α} {i : Int} {v : α} (h : atI xs i = some v) : ∃ j : Nat, xs[j]? = some v ∧ ixN xs.length i = some j := by
  unfold atI at h
  cases e : ixN xs.length i with
  | none => rw [e] at h; cases h
  | some j => rw [e] at h; exact ⟨j, h, rfl⟩
theorem atI_of {α : Type} {xs : List α} {i : Int} {j : Nat} {v : α} (e : ixN xs.length i = some j) (h : xs[j]? = some v) : atI xs i = some v := by
  unfold atI; rw [e]; exact h
theorem RepL.atI {K : PySem.W.Frag} {S : DHp} {H : Hp} {ds : List D} {vs : List V} {i : Int} {d : D} (w : RepL K S H ds vs) (h : L2.atI ds i = some d) : ∃ v, L2.atI vs i = some v ∧ Rep K S H d v := by
  obtain ⟨j, h1, h2⟩ := atI_get h
  obtain ⟨v, e, r⟩ := w.get h1
  exact ⟨v, atI_of (by rw [← w.length]; exact h2) e, r⟩
/-- x[i] -/
def oIx : DOp := fun x y S Q => match y with
  | .int i => match x with
    | .str z => z.length ≤ sizeLine ∧ match L2.atI z.cps.toList i with
      | some c => Q (.str ⟨#[c]⟩) S
      | none => False
    | x => match itemsOf S x with
      | some src => match L2.atI src.items i with
        | some d => Q d S
        | none => False
      | none => False
  | _ => False
theorem ix_any : IxR X (rD X.K oIx) := by
  intro va sl pins s σ H x y v u Q I rx ry ⟨d, e, S, Qd, wd, we, rs, q, k⟩ hs
  match e, q with
  | .int i, q =>
    cases we
    have com : ∀ d : D, Rep X.K S H d x → (match itemsOf S d with
        | some src => match L2.atI src.items i with
          | some d => Qd d S
          | none => False
        | none => False) → wpAny (model X.prog X.w) X.A (subscriptTail va sl v u) (EP X pins σ Q) X.xe s := fun d wd q => by
      cases e : itemsOf S d with
      | none => simp only [e] at q
      | some src =>
        simp only [e] at q
        cases e2 : L2.atI src.items i with
        | none => simp only [e2] at q
        | some d2 =>
          simp only [e2] at q
          obtain ⟨a, vs, rfl, h, r⟩ := itemsOf_at (K := X.K) rs wd e
          obtain ⟨v2, h2, r2⟩ := r.atI e2
          rcases h with h | h
          · exact ix_list va sl pins s σ H _ _ v u Q I rx ry ⟨a, vs, i, v2, rfl, rfl, h, h2, k _ S _ H q Keep.refl rs r2⟩ hs
          · exact ix_tup va sl pins s σ H _ _ v u Q I rx ry ⟨a, vs, i, v2, rfl, rfl, h, h2, k _ S _ H q Keep.refl rs r2⟩ hs
    cases d with
    | str z =>
      cases wd
      have q : z.length ≤ sizeLine ∧ (match L2.atI z.cps.toList i with
        | some c => Qd (.str ⟨#[c]⟩) S
        | none => False) := q
      obtain ⟨hz, q⟩ := q
      cases e : L2.atI z.cps.toList i with
      | none => simp only [e] at q
      | some c =>
        simp only [e] at q
        exact ix_str va sl pins s σ H _ _ v u Q I rx ry ⟨z, i, c, rfl, rfl, hz, e, k _ S _ H q Keep.refl rs .str⟩ hs
    | _ => exact com _ wd q
theorem de_ix {r : DOp} {ta tb : DTE} (hr : IxR X (rD X.K r)) (ha : DE X a ta) (hb : DE X b tb) (hs : PlainIx b := by exact fun _ _ => rfl) : DE X (.Subscript a b pos) (dOp r ta tb) :=
  PE.mono (pe_ix hr ha hb hs) fun _ _ _ => dOp_lift
/-- x[i] = v, a list of the store -/
def dgIx (ta tb : DTE) : DTG := fun d ρ S Q => ta ρ S fun x S1 => tb ρ S1 fun y S2 => match x, y with
  | .ref p, .int i => ∃ ds j, S2 p = some (.lst, ds) ∧ ixN ds.length i = some j ∧ Q ρ (put S2 p (.lst, ds.set j d))
  | _, _ => False
theorem dg_ix {ta tb : DTE} (ha' : DE X a ta) (hb : DE X b tb)
    (ha : ∀ v, assign (.Subscript a b pos) X.env v = (do
      let ov ← holding [v] (eval a X.env)
      let iv ← holding [v, ov] (eval b X.env)
      standAt pos
      holding [v, ov, iv] (setItem ov iv v)
      release [v, ov, iv] []) := by intro _; rfl) : DG X (.Subscript a b pos) (dgIx ta tb) :=
  PG.mono (pg_sub ha' hb set_list ha) fun v σ H Q ⟨d, ρ, S, Qd, w, r, rs, q, k⟩ => by
    refine ⟨ρ, S, _, r, rs, q, fun x S1 xv H1 q1 k1 rs1 w1 => ?_⟩
    refine ⟨ρ, S1, _, r.keep k1, rs1, q1, fun y S2 yv H2 q2 k2 rs2 w2 => ?_⟩
    match x, y, q2 with
    | .ref p, .int i, q2 =>
      cases w1; cases w2
      obtain ⟨ds, j, e, hj, q2⟩ := q2
      obtain ⟨vs, x, rr⟩ := rs2.lst e
      have wv := (w.keep k1).keep k2
      refine ⟨p, vs, i, j, rfl, rfl, x, by rw [← rr.length]; exact hj, ?_⟩
      have hne : S2 p ≠ none := by rw [e]; simp
      exact k ρ _ _ _ q2 ((k1.trans k2).trans (keep_put hne)) (rs_put rs2 hne .lst (rr.set wv j)) (((r.keep k1).keep k2).keep (keep_put hne))
end
/-! DM: methods, list(range(..)), list of a text, several targets, slices. -/
section
variable {X : Cx} {K : PySem.W.Frag} {o e a b c tg : Expr} {pos : Pos} {es : List Expr}
/-! ### methods of built-in types -/
abbrev DMt := D → List D → DHp → DQ → Prop
/-- of what type a value is, for its methods -/
def mtyp (S : DHp) (T : String) : D → Prop
  | .str _ => T = "str"
  | .int _ => T = "int"
  | d => T = "list" ∧ ∃ ds, lstOf S d = some ds
def dBm0 (T : String) (r : DMt) (to : DTE) : DTE := fun ρ S Q => to ρ S fun x S1 => mtyp S1 T x ∧ r x [] S1 Q
def dBm (T : String) (r : DMt) (to : DTE) (t : DTA) : DTE := fun ρ S Q => to ρ S fun x S1 => mtyp S1 T x ∧ t ρ S1 fun xs S2 => r x xs S2 Q
def rMt (K : PySem.W.Frag) (r : DMt) : V → List V → Hp → VK → Prop := fun x xs H Q => ∃ d ds S Qd, Rep K S H d x ∧ RepL K S H ds xs ∧ RS K S H ∧ r d ds S Qd ∧ ∀ z S' v H', Qd z S' → Keep S H S' H' → RS K S' H' → Rep K S' H' z v → Q v H'
theorem mtyp_V {S : DHp} {H : Hp} {T : String} {d : D} {x : V} (rs : RS K S H) (w : Rep K S H d x) (h : mtyp S T d) : tyV K T x H := by
  have com : (T = "list" ∧ ∃ ds, lstOf S d = some ds) → tyV K T x H := fun ⟨e, ds, h⟩ => by
    obtain ⟨a, vs, rfl, x, _⟩ := lstOf_at rs w h
    exact .inl ⟨e, vs, SqL.of x⟩
  cases d with
  | str z => cases w; exact h
  | int z => cases w; exact h
  | _ => exact com h
variable {to : DTE} {t : DTA} {name : Str} {apos cpos : Pos} {T id : String} {r : DMt}
theorem de_bm0 (pa : PlainAttrs T) (sl : Slot T name id) (hty : typeOf (.builtin id) = pure (.type "method_descriptor")) (hm : MtR X id (rMt X.K r)) (ho : DE X o to)
    (hbase : attributeBase o name X.env (eval o X.env) = eval o X.env := by rfl) (hline : (apos.endLine == cpos.line) = true := by rfl) : DE X (.Call (.Attribute o name apos) [] [] cpos) (dBm0 T r to) :=
  PE.mono (pe_bm0 pa sl hty hm ho hbase hline) fun σ H Q ⟨ρ, S, Qd, r0, rs, q, k⟩ => by
    refine ⟨ρ, S, _, r0, rs, q, fun d S1 v H1 ⟨ty, q1⟩ k1 rs1 w1 => ⟨mtyp_V rs1 w1 ty, ?_⟩⟩
    exact ⟨d, [], S1, Qd, w1, .nil, rs1, q1, fun z S' v H' qz kz rsz wz => k z S' v H' qz (k1.trans kz) rsz wz⟩
theorem de_bm (pa : PlainAttrs T) (sl : Slot T name id) (hty : typeOf (.builtin id) = pure (.type "method_descriptor")) (hm : MtR X id (rMt X.K r)) (ho : DE X o to) (ha : DAs X (e :: es) t)
    (hbase : attributeBase o name X.env (eval o X.env) = eval o X.env := by rfl)
    (hfew : ((backTo cpos (starEach (e :: es) X.env)).all (fun x => !x.1) && (backToKw cpos (keywordEach [] X.env)).all (fun x => x.1.isSome)
      && decide ((e :: es).length + ([] : List Keyword).length + (if ([] : List Keyword).isEmpty then 0 else 1) < 30)) = true := by rfl)
    (hline : (apos.endLine == cpos.line) = true := by rfl) (hs : starEach (e :: es) X.env = (false, eval e X.env) :: starEach es X.env := by rfl) (hplain : (backTo cpos (starEach es X.env)).any (·.1) = false := by rfl) :
    DE X (.Call (.Attribute o name apos) (e :: es) [] cpos) (dBm T r to t) :=
  PE.mono (pe_bm pa sl hty hm ho ha hbase hfew hline hs hplain) fun σ H Q ⟨ρ, S, Qd, r0, rs, q, k⟩ => by
    refine ⟨ρ, S, _, r0, rs, q, fun d S1 v H1 ⟨ty, q1⟩ k1 rs1 w1 => ⟨mtyp_V rs1 w1 ty, ?_⟩⟩
    refine ⟨ρ, S1, _, r0.keep k1, rs1, q1, fun ds S2 vs H2 q2 k2 rs2 w2 => ?_⟩
    exact ⟨d, ds, S2, Qd, w1.keep k2, w2, rs2, q2, fun z S' v H' qz kz rsz wz => k z S' v H' qz ((k1.trans k2).trans kz) rsz wz⟩
theorem MtR.mono {id : String} {r r' : V → List V → Hp → VK → Prop} (h : MtR X id r) (i : ∀ x xs H Q, r' x xs H Q → r x xs H Q) : MtR X id r' :=
  fun pins s σ H x xs v us Q I rx rs q => h pins s σ H x xs v us Q I rx rs (i x xs H Q q)
def mAppend : DMt := fun x xs S Q => match x, xs with
  | .ref p, [d] => match S p with
    | some (.lst, ds) => ds.length < sizeLine ∧ Q .non (put S p (.lst, ds ++ [d]))
    | _ => False
  | _, _ => False
theorem m_append : MtR X "list.append" (rMt X.K mAppend) := MtR.mono mt_append fun x xs H Q ⟨d, ds, S, Qd, w, ws, rs, q, k⟩ => by
  match d, ds, q with
  | .ref p, [y], q =>
    cases w
    cases ws with
    | cons wy w2 =>
      cases w2
      unfold mAppend at q
      cases e : S p with
      | none => simp only [e] at q
      | some ob =>
        obtain ⟨kk, es⟩ := ob
        cases kk with
        | lst =>
          simp only [e] at q
          obtain ⟨vs, x, r⟩ := rs.lst e
          have hne : S p ≠ none := by rw [e]; simp
          exact ⟨p, vs, _, rfl, rfl, x, by rw [← r.length]; exact q.1, k _ _ _ _ q.2 (keep_put hne) (rs_put rs hne .lst (r.append (.cons wy .nil))) .non⟩
        | _ => simp only [e] at q
def mExtend : DMt := fun x xs S Q => match x, xs with
  | .ref p, [d] => match S p, lstOf S d with
    | some (.lst, ds), some es => ds.length + es.length ≤ sizeLine ∧ Q .non (put S p (.lst, ds ++ es))
    | _, _ => False
  | _, _ => False
theorem m_extend : MtR X "list.extend" (rMt X.K mExtend) := MtR.mono mt_extend fun x xs H Q ⟨d, ds, S, Qd, w, ws, rs, q, k⟩ => by
  match d, ds, q with
  | .ref p, [y], q =>
    cases w
    cases ws with
    | cons wy w2 =>
      cases w2
      unfold mExtend at q
      cases e : S p with
      | none => simp only [e] at q
      | some ob =>
        obtain ⟨kk, es⟩ := ob
        cases kk with
        | lst =>
          cases e2 : lstOf S y with
          | none => simp only [e, e2] at q
          | some fs =>
            simp only [e, e2] at q
            obtain ⟨vs, x, r⟩ := rs.lst e
            obtain ⟨a, us, rfl, x2, r2⟩ := lstOf_at rs wy e2
            have hne : S p ≠ none := by rw [e]; simp
            exact ⟨p, a, vs, us, rfl, rfl, x, x2, by rw [← r.length, ← r2.length]; exact q.1, k _ _ _ _ q.2 (keep_put hne) (rs_put rs hne .lst (r.append r2)) .non⟩
        | _ => simp only [e] at q
def mInsert : DMt := fun x xs S Q => match x, xs with
  | .ref p, [.int i, d] => match S p with
    | some (.lst, ds) => (ds.length < sizeLine ∧ 0 ≤ i ∧ i < 2 ^ 63) ∧ Q .non (put S p (.lst, ds.take i.toNat ++ [d] ++ ds.drop i.toNat))
    | _ => False
  | _, _ => False
theorem m_insert : MtR X "list.insert" (rMt X.K mInsert) := MtR.mono mt_insert fun x xs H Q ⟨d, ds, S, Qd, w, ws, rs, q, k⟩ => by
  match d, ds, q with
  | .ref p, [.int i, y], q =>
    cases w
    cases ws with
    | cons wi w2 =>
      cases wi
      cases w2 with
      | cons wy w3 =>
        cases w3
        unfold mInsert at q
        cases e : S p with
        | none => simp only [e] at q
        | some ob =>
          obtain ⟨kk, es⟩ := ob
          cases kk with
          | lst =>
            simp only [e] at q
            obtain ⟨vs, x, r⟩ := rs.lst e
            have hne : S p ≠ none := by rw [e]; simp
            exact ⟨p, vs, i, _, rfl, rfl, x, by rw [← r.length]; exact q.1.1, q.1.2.1, q.1.2.2, k _ _ _ _ q.2 (keep_put hne) (rs_put rs hne .lst (((r.take _).append (.cons wy .nil)).append (r.drop _))) .non⟩
          | _ => simp only [e] at q
def mPop : DMt := fun x xs S Q => match x, xs with
  | .ref p, [] => match S p with
    | some (.lst, ds) => match ds[ds.length - 1]? with
      | some d => Q d (put S p (.lst, ds.dropLast))
      | none => False
    | _ => False
  | _, _ => False
theorem m_pop : MtR X "list.pop" (rMt X.K mPop) := MtR.mono mt_pop fun x xs H Q ⟨d, ds, S, Qd, w, ws, rs, q, k⟩ => by
  match d, ds, q with
  | .ref p, [], q =>
    cases w
    cases ws
    unfold mPop at q
    cases e : S p with
    | none => simp only [e] at q
    | some ob =>
      obtain ⟨kk, es⟩ := ob
      cases kk with
      | lst =>
        simp only [e] at q
        cases e2 : es[es.length - 1]? with
        | none => simp only [e2] at q
        | some d2 =>
          simp only [e2] at q
          obtain ⟨vs, x, r⟩ := rs.lst e
          obtain ⟨v2, h2, r2⟩ := r.get e2
          have hne : S p ≠ none := by rw [e]; simp
          exact ⟨p, vs, v2, rfl, rfl, x, by rw [← r.length]; exact h2, k _ _ _ _ q (keep_put hne) (rs_put rs hne .lst r.dropLast) (r2.keep (keep_put hne))⟩
      | _ => simp only [e] at q
def mPopAt : DMt := fun x xs S Q => match x, xs with
  | .ref p, [.int i] => match S p with
    | some (.lst, ds) => (0 ≤ i ∧ i < 2 ^ 63) ∧ match ds[i.toNat]? with
      | some d => Q d (put S p (.lst, ds.eraseIdx i.toNat))
      | none => False
    | _ => False
  | _, _ => False
theorem m_popAt : MtR X "list.pop" (rMt X.K mPopAt) := MtR.mono mt_popAt fun x xs H Q ⟨d, ds, S, Qd, w, ws, rs, q, k⟩ => by
  match d, ds, q with
  | .ref p, [.int i], q =>
    cases w
    cases ws with
    | cons wi w2 =>
      cases wi; cases w2
      unfold mPopAt at q
      cases e : S p with
      | none => simp only [e] at q
      | some ob =>
        obtain ⟨kk, es⟩ := ob
        cases kk with
        | lst =>
          simp only [e] at q
          cases e2 : es[i.toNat]? with
          | none => simp only [e2] at q; exact q.2.elim
          | some d2 =>
            simp only [e2] at q
            obtain ⟨vs, x, r⟩ := rs.lst e
            obtain ⟨v2, h2, r2⟩ := r.get e2
            have hne : S p ≠ none := by rw [e]; simp
            have hl := (List.getElem?_eq_some_iff.mp h2).1
            exact ⟨p, vs, i, i.toNat, v2, rfl, rfl, x, by omega, by omega, seqIndex_of q.1.1 (by omega), h2, k _ _ _ _ q.2 (keep_put hne) (rs_put rs hne .lst (r.eraseIdx _)) (r2.keep (keep_put hne))⟩
        | _ => simp only [e] at q
/-- texts -/
def D.strs : List D → Option (List Str)
  | [] => some []
  | .str b :: ds => (D.strs ds).map (b :: ·)
  | _ => none
theorem RepL.strs {S : DHp} {H : Hp} : ∀ {ds : List D} {vs : List V} {bs : List Str}, RepL K S H ds vs → D.strs ds = some bs → vs = bs.map V.str
  | _, _, _, .nil, h => by cases h; rfl
  | .str b :: ds, _, bs, .cons .str t, h => by
    rw [D.strs] at h
    cases q : D.strs ds with
    | none => rw [q] at h; cases h
    | some cs => rw [q] at h; cases h; rw [RepL.strs t q]; rfl
  | .non :: _, _, _, _, h => by cases h
  | .int _ :: _, _, _, _, h => by cases h
  | .bl _ :: _, _, _, _, h => by cases h
  | .ty _ :: _, _, _, _, h => by cases h
  | .ref _ :: _, _, _, _, h => by cases h
  | .nd _ _ :: _, _, _, _, h => by cases h
def mJoin : DMt := fun x xs S Q => match x, xs with
  | .str z, [d] => match itemsOf S d with
    | some src => match D.strs src.items with
      | some ys => (ys.map (·.length)).sum + ys.length * z.length ≤ 16777216 ∧ Q (.str (Txt.join z ys)) S
      | none => False
    | none => False
  | _, _ => False
theorem m_join : MtR X "str.join" (rMt X.K mJoin) := MtR.mono mt_join fun x xs H Q ⟨d, ds, S, Qd, w, ws, rs, q, k⟩ => by
  match d, ds, q with
  | .str z, [y], q =>
    cases w
    cases ws with
    | cons wy w2 =>
      cases w2
      unfold mJoin at q
      cases e : itemsOf S y with
      | none => simp only [e] at q
      | some src =>
        simp only [e] at q
        cases e2 : D.strs src.items with
        | none => simp only [e2] at q
        | some ys =>
          simp only [e2] at q
          obtain ⟨a, vs, rfl, h, r⟩ := itemsOf_at (K := X.K) rs wy e
          rw [r.strs e2] at h
          exact ⟨z, a, ys, rfl, rfl, h, q.1, k _ _ _ _ q.2 Keep.refl rs .str⟩
def mStr0 (f : Str → D) : DMt := fun x xs S Q => match x, xs with
  | .str z, [] => Q (f z) S
  | _, _ => False
theorem m_str0 {f : Str → D} {g : Str → V} (h : MtR X id (fun x xs H Q => ∃ a, x = .str a ∧ xs = [] ∧ True ∧ Q (g a) H)) (r : ∀ z S H, Rep X.K S H (f z) (g z)) : MtR X id (rMt X.K (mStr0 f)) := MtR.mono h fun x xs H Q ⟨d, ds, S, Qd, w, ws, rs, q, k⟩ => by
  match d, ds, q with
  | .str z, [], q =>
    cases w
    cases ws
    exact ⟨z, rfl, rfl, trivial, k _ _ _ _ q Keep.refl rs (r z _ _)⟩
abbrev mIsAscii : DMt := mStr0 fun z => .bl (Txt.isascii z)
abbrev mIsAlpha : DMt := mStr0 fun z => .bl (Txt.isalpha z)
abbrev mIsLower : DMt := mStr0 fun z => .bl (Txt.islower z)
theorem m_isascii : MtR X "str.isascii" (rMt X.K mIsAscii) := m_str0 mt_isascii fun _ _ _ => .bl
theorem m_isalpha : MtR X "str.isalpha" (rMt X.K mIsAlpha) := m_str0 mt_isalpha fun _ _ _ => .bl
theorem m_islower : MtR X "str.islower" (rMt X.K mIsLower) := m_str0 mt_islower fun _ _ _ => .bl
/-! ### list(range(..)) -/
theorem rep_ints {S : DHp} {H : Hp} (i j : Int) : RepL K S H (intsD i (j - i).toNat) (rgV i j) := by
  unfold intsD rgV
  generalize List.range (j - i).toNat = l
  induction l with
  | nil => exact .nil
  | cons x l ih => exact .cons .int ih
def dLrng1 (ta : DTE) : DTE := fun ρ S Q => ta ρ S fun x S1 => match x with
  | .int n => RgOk 0 n ∧ Q (.lst (intsD 0 (n - 0).toNat)) S1
  | _ => False
def dLrng1M (ta : DTE) : DTE := fun ρ S Q => ta ρ S fun x S1 => match x with
  | .int n => RgOk 0 n ∧ ∀ p, S1 p = none → Q (.ref p) (put S1 p (.lst, intsD 0 (n - 0).toNat))
  | _ => False
theorem de_lrng1 {ta : DTE} {p p2 pos2 : Pos} (hc : X.calm = true) (hg : Gl X "list") (hm : X.mg "list" = none) (hg2 : Gl X "range") (hm2 : X.mg "range" = none) (ha : DE X a ta) (na : starEach [a] X.env = (false, eval a X.env) :: starEach [] X.env := by rfl)
    (nb : starEach [.Call (.Name "range" p2) [a] [] pos2] X.env = (false, eval (.Call (.Name "range" p2) [a] [] pos2) X.env) :: starEach [] X.env := by rfl) : DE X (.Call (.Name "list" p) [.Call (.Name "range" p2) [a] [] pos2] [] pos) (dLrng1 ta) :=
  PE.mono (pe_listRg hc hg hm (prg_1 hg2 hm2 ha na) nb) fun σ H Q ⟨ρ, S, Qd, r, rs, q, k⟩ => by
    refine ⟨ρ, S, _, r, rs, q, fun x S1 v H1 q1 k1 rs1 w1 => ?_⟩
    match x, q1 with
    | .int n, q1 =>
      cases w1
      exact ⟨n, rfl, q1.1, fun p hp => k _ _ _ _ q1.2 (k1.trans (keep_newF hp)) (rs_newF rs1 hp) (rep_newF rs1 hp .lst (rep_ints 0 n))⟩
theorem de_lrng1M {ta : DTE} {p p2 pos2 : Pos} (hc : X.calm = true) (hg : Gl X "list") (hm : X.mg "list" = none) (hg2 : Gl X "range") (hm2 : X.mg "range" = none) (ha : DE X a ta) (na : starEach [a] X.env = (false, eval a X.env) :: starEach [] X.env := by rfl)
    (nb : starEach [.Call (.Name "range" p2) [a] [] pos2] X.env = (false, eval (.Call (.Name "range" p2) [a] [] pos2) X.env) :: starEach [] X.env := by rfl) : DE X (.Call (.Name "list" p) [.Call (.Name "range" p2) [a] [] pos2] [] pos) (dLrng1M ta) :=
  PE.mono (pe_listRg hc hg hm (prg_1 hg2 hm2 ha na) nb) fun σ H Q ⟨ρ, S, Qd, r, rs, q, k⟩ => by
    refine ⟨ρ, S, _, r, rs, q, fun x S1 v H1 q1 k1 rs1 w1 => ?_⟩
    match x, q1 with
    | .int n, q1 =>
      cases w1
      exact ⟨n, rfl, q1.1, fun p hp => k _ _ _ _ (q1.2 p (rs1.free hp)) (k1.trans (keep_new hp)) (rs_new rs1 hp .lst (rep_ints 0 n)) .ref⟩
/-! ### a, b = x, y -/
def dPar2 (i j : Nat) (t : DTA) : DTS := fun E ρ S => t ρ S fun ds S1 => match ds with
  | [d, e] => E.nx ((ρ.set i (some d)).set j (some e)) S1
  | _ => False
theorem ds_par2 (i j : Nat) {x y : Str} {t : DTA} {px py pt : Pos} {kt k2 pt2} (hN : X.N.Nodup) (ha : DAs X [a, b] t) (hc : X.calm = true := by rfl) (hi : X.N[i]? = some x := by rfl) (hj : X.N[j]? = some y := by rfl) (hij : i ≠ j := by decide)
    (hx : X.env.scope.names.lookup x = some .local := by rfl) (hy : X.env.scope.names.lookup y = some .local := by rfl)
    (hw : swappedStores [.Tuple [.Name x px, .Name y py] kt pt] (.Tuple [a, b] k2 pt2) X.env = pure (some [x, y]) := by rfl)
    (hs : swapsWithSole [.Tuple [.Name x px, .Name y py] kt pt] (.Tuple [a, b] k2 pt2) pos.line X.env = pure false := by rfl) :
    DS X (.Assign [.Tuple [.Name x px, .Name y py] kt pt] (.Tuple [a, b] k2 pt2) pos) (dPar2 i j t) := PS.mono (ps_par hc hN hi hj hij hx hy ha hw hs) fun D σ H h => by
  obtain ⟨ρ, S, E, r, rs, q, f⟩ := liftS_el h
  refine ⟨ρ, S, _, r, rs, q, fun ds S1 vs H1 q1 k1 rs1 w1 => ?_⟩
  match ds, q1 with
  | [d, e], q1 =>
    cases w1 with
    | cons w w2 =>
      cases w2 with
      | cons w' w3 =>
        cases w3
        exact ⟨_, _, rfl, f.nx _ S1 _ H1 q1 k1 rs1 (((r.keep k1).set w).set w')⟩
def dPar3 (i j l : Nat) (t : DTA) : DTS := fun E ρ S => t ρ S fun ds S1 => match ds with
  | [d, e, f] => E.nx (((ρ.set i (some d)).set j (some e)).set l (some f)) S1
  | _ => False
theorem ds_par3 (i j l : Nat) {x y z : Str} {t : DTA} {px py pz pt : Pos} {kt k2 pt2} (hN : X.N.Nodup) (ha : DAs X [a, b, c] t) (hc : X.calm = true := by rfl) (hi : X.N[i]? = some x := by rfl) (hj : X.N[j]? = some y := by rfl) (hl : X.N[l]? = some z := by rfl) (hij : i ≠ j := by decide) (hil : i ≠ l := by decide) (hjl : j ≠ l := by decide)
    (hx : X.env.scope.names.lookup x = some .local := by rfl) (hy : X.env.scope.names.lookup y = some .local := by rfl) (hz : X.env.scope.names.lookup z = some .local := by rfl)
    (hw : swappedStores [.Tuple [.Name x px, .Name y py, .Name z pz] kt pt] (.Tuple [a, b, c] k2 pt2) X.env = pure (some [x, y, z]) := by rfl)
    (hs : swapsWithSole [.Tuple [.Name x px, .Name y py, .Name z pz] kt pt] (.Tuple [a, b, c] k2 pt2) pos.line X.env = pure false := by rfl) :
    DS X (.Assign [.Tuple [.Name x px, .Name y py, .Name z pz] kt pt] (.Tuple [a, b, c] k2 pt2) pos) (dPar3 i j l t) := PS.mono (ps_par3 hc hN hi hj hl hij hil hjl hx hy hz ha hw hs) fun D σ H h => by
  obtain ⟨ρ, S, E, r, rs, q, f⟩ := liftS_el h
  refine ⟨ρ, S, _, r, rs, q, fun ds S1 vs H1 q1 k1 rs1 w1 => ?_⟩
  match ds, q1 with
  | [d, e, g], q1 =>
    cases w1 with
    | cons w w2 =>
      cases w2 with
      | cons w' w3 =>
        cases w3 with
        | cons w4 w5 =>
          cases w5
          exact ⟨_, _, _, rfl, f.nx _ S1 _ H1 q1 k1 rs1 ((((r.keep k1).set w).set w').set w4)⟩
end
section
variable {X : Cx}
/-- list(text): its signs -/
def signsD (z : Str) : List D := z.cps.toList.map fun c => D.str ⟨#[c]⟩
def bLstS : List D → DHp → DQ → Prop := fun ds S Q => match ds with
  | [.str z] => z.length ≤ sizeLine ∧ Q (.lst (signsD z)) S
  | _ => False
theorem rep_signs {K : PySem.W.Frag} {S : DHp} {H : Hp} : ∀ l : List Nat, RepL K S H (l.map fun c => D.str ⟨#[c]⟩) (l.map fun c => V.str ⟨#[c]⟩)
  | [] => .nil
  | _ :: r => .cons .str (rep_signs r)
theorem vals_get {f : Nat → V} {us : List Value} {l : List Nat} (hl : us.length = l.length) (h : ∀ (j : Nat) (u : Value) (c : Nat), us[j]? = some u → l[j]? = some c → RelV (f c) u) : Vals (l.map f) us := by
  induction l generalizing us with
  | nil =>
    cases us with
    | nil => exact .nil
    | cons _ _ => cases hl
  | cons c l ih =>
    cases us with
    | nil => cases hl
    | cons u us => exact .cons (h 0 u c rfl rfl) (ih (by simpa using hl) fun j v d e1 e2 => h (j + 1) v d (by simpa using e1) (by simpa using e2))
theorem b_lstS (hc : X.calm = true) : CallR X (.type "list") (rLs X.K bLstS) := by
  rintro pins s σ H xs us Q I r ⟨ds, S, Qd, w, rs, q, k⟩
  match ds, q with
  | [.str z], q =>
    cases w with
    | cons w w2 =>
      cases w; cases w2
      cases r with
      | cons r r2 =>
        cases r2
        obtain ⟨t, rfl⟩ := r
        refine call_list_str (I.ok.hd hc) z t (hn := q.1) fun h' tk acc' c' hk hS' hacc => ?_
        have hp : H s.heap.objs.size = none := I.hok.fresh (Nat.le_refl _)
        refine ⟨.ref s.heap.objs.size, upd H s.heap.objs.size (.lst (z.cps.toList.map fun c => V.str ⟨#[c]⟩)), I.laid (t' := tk) hk (Nat.le_refl _) ?_, rfl, k _ _ _ _ q.2 (keep_newF hp) (rs_newF rs hp) (rep_newF rs hp .lst (rep_signs _))⟩
        refine ⟨by rw [List.length_map]; exact q.1, acc'.toList, c', vals_get ?_ fun j u c e1 e2 => ?_, by simpa using hS'⟩
        · rw [Array.length_toList, Array.length_toList]; exact hacc.1
        · rw [Array.getElem?_toList] at e1 e2
          obtain ⟨c2, t2, e3, e4⟩ := hacc.2 j u e1
          have e5 : z.cps[j]? = some c := e2
          rw [e3] at e5
          cases e5
          exact ⟨t2, e4⟩
end
/-! DN: in, dicts, slices, chains, isinstance. -/
section
variable {X : Cx} {K : PySem.W.Frag} {o e a b c tg : Expr} {pos : Pos} {es : List Expr}
/-! ### keys -/
def keyD : D → Option Key
  | .int i => some (.inl i)
  | .str x => some (.inr x)
  | _ => none
def keyR : List D → Option (List Key)
  | [] => some []
  | d :: ds => match keyD d, keyR ds with
    | some k, some ks => some (k :: ks)
    | _, _ => none
/-- the key of a tuple: of two items or more -/
def keyL : List D → Option (List Key)
  | d :: e :: ds => keyR (d :: e :: ds)
  | _ => none
theorem keyL_two {ds : List D} {ks : List Key} (h : keyL ds = some ks) : 2 ≤ ds.length ∧ keyR ds = some ks := by
  match ds, h with
  | _ :: _ :: _, h => exact ⟨by simp, h⟩
theorem rep_key {S : DHp} {H : Hp} {d : D} {v : V} {k : Key} (w : Rep K S H d v) (h : keyD d = some k) : v = kV k := by
  cases w <;> simp [keyD] at h <;> subst h <;> rfl
theorem rep_keyR {S : DHp} {H : Hp} : ∀ {ds : List D} {vs : List V} {ks : List Key}, RepL K S H ds vs → keyR ds = some ks → vs = ks.map kV
  | _, _, _, .nil, h => by cases h; rfl
  | d :: ds, _, ks, .cons w t, h => by
    unfold keyR at h
    cases e1 : keyD d with
    | none => simp only [e1] at h; cases h
    | some k =>
      cases e2 : keyR ds with
      | none => simp only [e1, e2] at h; cases h
      | some ks2 =>
        simp only [e1, e2] at h
        cases h
        rw [rep_key w e1, rep_keyR t e2]
        rfl
theorem rep_keys {S : DHp} {H : Hp} {ds : List D} {vs : List V} {ks : List Key} (w : RepL K S H ds vs) (h : keyL ds = some ks) : vs = ks.map kV := rep_keyR w (keyL_two h).2
def lookD {κ β : Type} [DecidableEq κ] (ks : List κ) (ds : List β) (k : κ) : Option β := ((ks.zip ds).find? fun p => decide (p.1 = k)).map (·.2)
theorem look_nil {κ β : Type} [DecidableEq κ] {ds : List β} {k : κ} : lookD ([] : List κ) ds k = none := rfl
theorem look_cons {κ β : Type} [DecidableEq κ] {j k : κ} {ks : List κ} {d : β} {ds : List β} : lookD (j :: ks) (d :: ds) k = if j = k then some d else lookD ks ds k := by
  unfold lookD
  rw [List.zip_cons_cons, List.find?_cons]
  by_cases h : j = k <;> simp [h]
theorem look_rep {κ : Type} [DecidableEq κ] {S : DHp} {H : Hp} {k : κ} : ∀ {ks : List κ} {ds : List D} {vs : List V}, RepL K S H ds vs → (lookD ks ds k = none → valV (ks.zip vs) k = none) ∧ ∀ d, lookD ks ds k = some d → ∃ v, valV (ks.zip vs) k = some v ∧ Rep K S H d v
  | [], ds, vs, _ => ⟨fun _ => rfl, fun d h => by cases h⟩
  | _ :: _, _, _, .nil => ⟨fun _ => rfl, fun d h => by cases h⟩
  | j :: ks, _, _, .cons w t => by
    rw [look_cons]
    by_cases h : j = k
    · rw [if_pos h]
      refine ⟨(fun z => nomatch z), fun d z => ?_⟩
      cases z
      exact ⟨_, valV_pos h, w⟩
    · rw [if_neg h, List.zip_cons_cons, valV_neg (p := (j, _)) h]
      exact look_rep t
def putD {κ β : Type} [DecidableEq κ] (ks : List κ) (ds : List β) (k : κ) (d : β) : List κ × List β :=
  if k ∈ ks then (ks, List.zipWith (fun j x => if j = k then d else x) ks ds) else (ks ++ [k], ds ++ [d])
theorem put_zip {κ : Type} [DecidableEq κ] {k : κ} {v : V} {ks : List κ} {vs : List V} (hl : ks.length = vs.length) : putK (ks.zip vs) k v = (putD ks vs k v).1.zip (putD ks vs k v).2 := by
  have hany : ((ks.zip vs).any fun kv => decide (kv.1 = k)) = decide (k ∈ ks) := by
    induction ks generalizing vs with
    | nil => rfl
    | cons j ks ih =>
      cases vs with
      | nil => cases hl
      | cons v vs =>
        rw [List.zip_cons_cons, List.any_cons, ih (by simpa using hl)]
        by_cases h : j = k
        · simp [h]
        · have h2 : ¬ k = j := fun z => h z.symm
          simp [h, h2]
  unfold putK putD
  rw [hany]
  by_cases h : k ∈ ks
  · rw [if_pos (decide_eq_true h), if_pos h]
    clear hany h
    induction ks generalizing vs with
    | nil => rfl
    | cons j ks ih =>
      cases vs with
      | nil => cases hl
      | cons v vs =>
        rw [List.zip_cons_cons, List.map_cons, ih (by simpa using hl)]
        show _ = (j :: ks).zip ((if j = k then _ else v) :: List.zipWith _ ks vs)
        rw [List.zip_cons_cons]
        by_cases h : j = k <;> simp [h]
  · rw [if_neg (by simp [h]), if_neg h]
    show _ = (ks ++ [k]).zip (vs ++ [v])
    rw [List.zip_append hl]
    rfl
theorem put_rep {κ : Type} [DecidableEq κ] {S : DHp} {H : Hp} {k : κ} {ks : List κ} {ds : List D} {vs : List V} {d : D} {v : V} (w : Rep K S H d v) (r : RepL K S H ds vs) : (putD ks ds k d).1 = (putD ks vs k v).1 ∧ RepL K S H (putD ks ds k d).2 (putD ks vs k v).2 := by
  unfold putD
  by_cases h : k ∈ ks
  · rw [if_pos h, if_pos h]
    refine ⟨rfl, ?_⟩
    clear h
    induction ks generalizing ds vs with
    | nil => exact .nil
    | cons j ks ih =>
      cases r with
      | nil => exact .nil
      | cons w2 t =>
        refine .cons ?_ (ih t)
        by_cases h : j = k
        · simp only [h, if_true]; exact w
        · simp only [h, if_false]; exact w2
  · rw [if_neg h, if_neg h]
    exact ⟨rfl, r.append (.cons w .nil)⟩
theorem put_len {κ β : Type} [DecidableEq κ] {k : κ} {ks : List κ} {ds : List β} {d : β} (h : ks.length = ds.length) : (putD ks ds k d).1.length = (putD ks ds k d).2.length := by
  unfold putD
  by_cases h2 : k ∈ ks
  · rw [if_pos h2]
    show ks.length = (List.zipWith _ ks ds).length
    rw [List.length_zipWith]; omega
  · rw [if_neg h2]
    show (ks ++ [k]).length = (ds ++ [d]).length
    rw [List.length_append, List.length_append, h]
    rfl
/-- what a dict that stands still, or of the store, has at a key: none if the key is not of its kind -/
def dictOf (S : DHp) : D → Option (Nd × List D)
  | .nd (.dK ks) ds => some (.dK ks, ds)
  | .nd (.dT ks) ds => some (.dT ks, ds)
  | .ref p => match S p with
    | some (.dK ks, ds) => some (.dK ks, ds)
    | some (.dT ks, ds) => some (.dT ks, ds)
    | _ => none
  | _ => none
def atKey : Nd × List D → D → Option (Option D)
  | (.dK ks, ds), y => match keyD y with
    | some k => some (lookD ks ds k)
    | none => none
  | (.dT ks, ds), .nd .tup zs => match keyL zs with
    | some k => some (lookD ks ds k)
    | none => none
  | _, _ => none
theorem dictOf_at {S : DHp} {H : Hp} {d : D} {v : V} {kd : Nd} {ds : List D} (rs : RS K S H) (w : Rep K S H d v) (h : dictOf S d = some (kd, ds)) : ∃ a vs ho, v = .ref a ∧ H a = some ho ∧ Obj kd vs ho ∧ RepL K S H ds vs ∧ ((∃ ks, kd = .dK ks) ∨ ∃ ks, kd = .dT ks) := by
  match d, h with
  | .nd (.dK ks) es, h =>
    cases h
    cases w with
    | nd n x o r => exact ⟨_, _, _, rfl, x, o, r, .inl ⟨_, rfl⟩⟩
    | wr z => cases z
  | .nd (.dT ks) es, h =>
    cases h
    cases w with
    | nd n x o r => exact ⟨_, _, _, rfl, x, o, r, .inr ⟨_, rfl⟩⟩
    | wr z => cases z
  | .ref p, h =>
    cases w
    unfold dictOf at h
    cases e : S p with
    | none => simp only [e] at h; cases h
    | some ob =>
      obtain ⟨kk, es⟩ := ob
      obtain ⟨vs, ho, x, o, r⟩ := rs p kk es e
      cases kk <;> simp only [e] at h <;> cases h
      · exact ⟨p, vs, ho, rfl, x, o, r, .inl ⟨_, rfl⟩⟩
      · exact ⟨p, vs, ho, rfl, x, o, r, .inr ⟨_, rfl⟩⟩
theorem rep_tupH {S : DHp} {H : Hp} {ds : List D} {v : V} (w : Rep K S H (.tup ds) v) (l : 2 ≤ ds.length) : ∃ a vs, v = .ref a ∧ S a = none ∧ H a = some (.tup vs) ∧ RepL K S H ds vs := by
  cases w with
  | nd n h o r => cases o; exact ⟨_, _, rfl, n, h, r⟩
  | wr z r => cases z with
    | tup l1 _ => rw [← r.length] at l1; omega
theorem atKey_get {S : DHp} {H : Hp} {a : Addr} {kd : Nd} {vs : List V} {ds : List D} {ho : HO} {y : D} {yv : V} {r : Option D} (x : H a = some ho) (o : Obj kd vs ho) (rr : RepL K S H ds vs) (wy : Rep K S H y yv) (h : atKey (kd, ds) y = some r) :
    ∃ ov, DGet H a yv ov ∧ (r = none → ov = none) ∧ ∀ d, r = some d → ∃ v, ov = some v ∧ Rep K S H d v := by
  cases o with
  | dK hl =>
    rename_i ks
    unfold atKey at h
    cases e : keyD y with
    | none => simp only [e] at h; cases h
    | some k =>
      simp only [e] at h
      cases h
      rw [rep_key wy e]
      exact ⟨_, DGet.k x, (look_rep rr).1, (look_rep rr).2⟩
  | dT hl =>
    rename_i ks
    match y, h with
    | .nd .tup zs, h =>
      unfold atKey at h
      cases e : keyL zs with
      | none => simp only [e] at h; cases h
      | some k =>
        simp only [e] at h
        cases h
        obtain ⟨b, us, rfl, _, hb, ru⟩ := rep_tupH wy (keyL_two e).1
        rw [rep_keys ru e] at hb
        exact ⟨_, DGet.t x hb, (look_rep rr).1, (look_rep rr).2⟩
  | _ => unfold atKey at h; cases h
/-! ### x in y -/
def oIn (neg : Bool) : DOp := fun x y S Q => match dictOf S y with
  | some o => match atKey o x with
    | some r => Q (.bl (if neg then !r.isSome else r.isSome)) S
    | none => False
  | none => match itemsOf S y with
    | some src => (okD x = true ∧ okL src.items = true ∧ dep x ≤ 64 ∧ depL src.items ≤ 63) ∧ Q (.bl (if neg then !(src.items.any fun z => eqD z x) else src.items.any fun z => eqD z x)) S
    | none => False
theorem any_eqv {x : D} {p : PyData} (hp : x.py = some p) : ∀ {ds : List D} {ps : List PyData}, D.pyL ds = some ps → (ps.any fun z => PyData.eqv z p) = ds.any fun z => eqD z x
  | [], ps, h => by rw [D.pyL] at h; cases h; rfl
  | d :: ds, ps, h => by
    obtain ⟨q, qs, rfl, a1, a2⟩ := pyL_cons h
    rw [List.any_cons, List.any_cons, eqv_D d x q p a1 hp, any_eqv hp a2]
theorem okL_py {ds : List D} (h : okL ds = true) : ∃ ps, D.pyL ds = some ps := by
  obtain ⟨p, e⟩ := okD_py (d := .nd .lst ds) (by rw [okD]; exact h)
  obtain ⟨ps, _, q⟩ := py_lst e
  exact ⟨ps, q⟩
theorem in_any (neg : Bool) {op : CmpOp} (hu : X.A.units + 65 < cLine)
    (h1 : OpR X (compareOp op) (fun x y H Q => ∃ d ds, Dp X.K H x d ∧ Dp X.K H y (.list ds) ∧ SeqAt.shaped d = true ∧ SeqAt.shaped (.list ds) = true ∧ Q (.bl (if neg then !ds.any fun z => PyData.eqv z d else ds.any fun z => PyData.eqv z d)) H))
    (h2 : OpR X (compareOp op) (fun x y H Q => ∃ d ds, Dp X.K H x d ∧ Dp X.K H y (.tuple ds) ∧ SeqAt.shaped d = true ∧ SeqAt.shaped (.tuple ds) = true ∧ Q (.bl (if neg then !ds.any fun z => PyData.eqv z d else ds.any fun z => PyData.eqv z d)) H))
    (h3 : OpR X (compareOp op) (fun y x H Q => ∃ a r, x = V.ref a ∧ DGet H a y r ∧ Q (.bl (if neg then !r.isSome else r.isSome)) H)) : OpR X (compareOp op) (rD X.K (oIn neg)) := by
  rintro pins s σ H x y v u Q I rx ry ⟨d, e, S, Qd, wd, we, rs, q, k⟩
  unfold oIn at q
  cases e1 : dictOf S e with
  | some ob =>
    simp only [e1] at q
    obtain ⟨kd, ds⟩ := ob
    cases e2 : atKey (kd, ds) d with
    | none => simp only [e2] at q
    | some r =>
      simp only [e2] at q
      obtain ⟨a, vs, ho, rfl, xh, o, rr, _⟩ := dictOf_at rs we e1
      obtain ⟨ov, g, g1, g2⟩ := atKey_get xh o rr wd e2
      have hs : ov.isSome = r.isSome := by
        cases r with
        | none => rw [g1 rfl]; rfl
        | some z => obtain ⟨w, e3, _⟩ := g2 z rfl; rw [e3]; rfl
      exact h3 pins s σ H x _ v u Q I rx ry ⟨a, ov, rfl, g, by rw [hs]; exact k _ S _ H q Keep.refl rs .bl⟩
  | none =>
    simp only [e1] at q
    cases e2 : itemsOf S e with
    | none => simp only [e2] at q
    | some src =>
      simp only [e2] at q
      obtain ⟨⟨c1, c2, c3, c4⟩, q⟩ := q
      obtain ⟨p, hp⟩ := okD_py c1
      obtain ⟨ps, hps⟩ := okL_py c2
      have sl : SeqAt.shaped (.list ps) = true := shaped_D (d := .nd .lst src.items) (by rw [D.py, hps]; rfl) (by rw [okD]; exact c2) (by rw [dep]; omega)
      have st : SeqAt.shaped (.tuple ps) = true := shaped_D (d := .nd .tup src.items) (by rw [D.py, hps]; rfl) (by rw [okD]; exact c2) (by rw [dep]; omega)
      obtain ⟨a, vs, rfl, hh, rr⟩ := itemsOf_at (K := X.K) rs we e2
      have sd := shaped_D hp c1 c3
      rcases hh with hh | hh
      · exact h1 pins s σ H x _ v u Q I rx ry ⟨p, ps, wd.dp hp, .lst hh (rr.dp hps), sd, sl, by rw [any_eqv hp hps]; exact k _ S _ H q Keep.refl rs .bl⟩
      · exact h2 pins s σ H x _ v u Q I rx ry ⟨p, ps, wd.dp hp, .tup hh (rr.dp hps), sd, st, by rw [any_eqv hp hps]; exact k _ S _ H q Keep.refl rs .bl⟩
theorem in_tupD (hu : X.A.units + 65 < cLine) : OpR X (compareOp .In) (fun x y H Q => ∃ d ds, Dp X.K H x d ∧ Dp X.K H y (.tuple ds) ∧ SeqAt.shaped d = true ∧ SeqAt.shaped (.tuple ds) = true ∧ Q (.bl (ds.any fun z => PyData.eqv z d)) H) := by
  rintro pins s σ H x y v u Q I rx ry ⟨d, ds, hd, he, sd, se, q⟩
  obtain ⟨as, r1⟩ := Dp.reads I d x v hd rx
  obtain ⟨bs, r2⟩ := Dp.reads I (.tuple ds) y u he ry
  have room : X.A.units + 1 + min (PyData.depthAll ds) d.depth < cLine := room_in_shaped sd hu
  exact SeqAt.in_tuple_reads r2 r1 (SeqAt.canLay_of_shaped se) (SeqAt.canLay_of_shaped sd) room ⟨.bl _, H, I, rfl, q⟩
theorem notin_tupD (hu : X.A.units + 65 < cLine) : OpR X (compareOp .NotIn) (fun x y H Q => ∃ d ds, Dp X.K H x d ∧ Dp X.K H y (.tuple ds) ∧ SeqAt.shaped d = true ∧ SeqAt.shaped (.tuple ds) = true ∧ Q (.bl (!ds.any fun z => PyData.eqv z d)) H) := by
  rintro pins s σ H x y v u Q I rx ry ⟨d, ds, hd, he, sd, se, q⟩
  obtain ⟨as, r1⟩ := Dp.reads I d x v hd rx
  obtain ⟨bs, r2⟩ := Dp.reads I (.tuple ds) y u he ry
  have room : X.A.units + 1 + min (PyData.depthAll ds) d.depth < cLine := room_in_shaped sd hu
  exact SeqAt.notIn_tuple_reads r2 r1 (SeqAt.canLay_of_shaped se) (SeqAt.canLay_of_shaped sd) room ⟨.bl _, H, I, rfl, q⟩
theorem o_in (hu : X.A.units + 65 < cLine) : OpR X (compareOp .In) (rD X.K (oIn false)) :=
  in_any false hu (op_inD hu) (in_tupD hu) fun pins s σ H x y v u Q I rx ry ⟨a, r, e, g, q⟩ => by
    subst e
    cases ry
    exact d_in (by omega) I g rx fun s3 I3 => ⟨.bl r.isSome, H, I3, rfl, q⟩
theorem o_notin (hu : X.A.units + 65 < cLine) : OpR X (compareOp .NotIn) (rD X.K (oIn true)) :=
  in_any true hu (op_notInD hu) (notin_tupD hu) fun pins s σ H x y v u Q I rx ry ⟨a, r, e, g, q⟩ => by
    subst e
    cases ry
    exact d_notIn (by omega) I g rx fun s3 I3 => ⟨.bl (!r.isSome), H, I3, rfl, q⟩
/-! ### d[k], d[k] = v, {} -/
def dDget (td ty : DTE) : DTE := fun ρ S Q => td ρ S fun x S1 => ty ρ S1 fun y S2 => match dictOf S2 x with
  | some o => match atKey o y with
    | some (some d) => Q d S2
    | _ => False
  | none => False
theorem de_dget {td ty : DTE} (hu : X.A.units + 1 < cLine) (ho : DE X a td) (hi : DE X b ty) (hs : NoSl b := by exact fun _ _ => rfl) : DE X (.Subscript a b pos) (dDget td ty) :=
  PE.mono (pe_dget hu ho hi hs) fun σ H Q ⟨ρ, S, Qd, r, rs, q, k⟩ => by
    refine ⟨ρ, S, _, r, rs, q, fun x S1 xv H1 q1 k1 rs1 w1 => ?_⟩
    refine ⟨ρ, S1, _, r.keep k1, rs1, q1, fun y S2 yv H2 q2 k2 rs2 w2 => ?_⟩
    cases e1 : dictOf S2 x with
    | none => simp only [e1] at q2
    | some ob =>
      simp only [e1] at q2
      obtain ⟨kd, ds⟩ := ob
      obtain ⟨a, vs, ho, rfl, xh, o, rr, _⟩ := dictOf_at rs2 (w1.keep k2) e1
      cases e2 : atKey (kd, ds) y with
      | none => simp only [e2] at q2
      | some r =>
        obtain ⟨ov, g, g1, g2⟩ := atKey_get xh o rr w2 e2
        cases r with
        | none => simp only [e2] at q2
        | some d =>
          simp only [e2] at q2
          obtain ⟨v, rfl, wv⟩ := g2 d rfl
          exact ⟨a, v, rfl, g, k d S2 v H2 q2 (k1.trans k2) rs2 wv⟩
/-- {}, of keys that are ints and texts, or tuples -/
def dNewK : DTE := fun _ S Q => ∀ p, S p = none → Q (.ref p) (put S p (.dK [], []))
def dNewT : DTE := fun _ S Q => ∀ p, S p = none → Q (.ref p) (put S p (.dT [], []))
theorem de_newK : DE X (.Dict [] [] pos) dNewK := PE.mono pe_dnewK fun σ H Q ⟨ρ, S, Qd, r, rs, q, k⟩ p hp =>
  k _ _ _ _ (q p (rs.free hp)) (keep_new hp) (rs_new rs hp (.dK (vs := []) rfl) .nil) .ref
theorem de_newT : DE X (.Dict [] [] pos) dNewT := PE.mono pe_dnewT fun σ H Q ⟨ρ, S, Qd, r, rs, q, k⟩ p hp =>
  k _ _ _ _ (q p (rs.free hp)) (keep_new hp) (rs_new rs hp (.dT (vs := []) rfl) .nil) .ref
/-- d[y] = v, d of the store -/
def sDput (td ty tv : DTE) : DTS := fun E ρ S => tv ρ S fun v S1 => td ρ S1 fun x S2 => ty ρ S2 fun y S3 => match x with
  | .ref p => match S3 p with
    | some (.dK ks, ds) => match keyD y with
      | some k => ks.length < sizeLine ∧ E.nx ρ (put S3 p (.dK (putD ks ds k v).1, (putD ks ds k v).2))
      | none => False
    | some (.dT ks, ds) => match y with
      | .nd .tup zs => match keyL zs with
        | some k => ks.length < sizeLine ∧ E.nx ρ (put S3 p (.dT (putD ks ds k v).1, (putD ks ds k v).2))
        | none => False
      | _ => False
    | _ => False
  | _ => False
theorem ds_dput {td ty tv : DTE} {pos' : Pos} (hu : X.A.units + 1 < cLine) (ho : DE X a td) (hi : DE X b ty) (hv : DE X c tv) (hs : swapsWith c (some (.Subscript a b pos')) pos.line X.env = pure false := by rfl) :
    DS X (.Assign [.Subscript a b pos'] c pos) (sDput td ty tv) := PS.mono (ps_dput hu ho hi hv hs) fun D σ H h => by
  obtain ⟨ρ, S, E, r, rs, q, f⟩ := liftS_el h
  refine ⟨ρ, S, _, r, rs, q, fun v S1 vv H1 q1 k1 rs1 w1 => ?_⟩
  refine ⟨ρ, S1, _, r.keep k1, rs1, q1, fun x S2 xv H2 q2 k2 rs2 w2 => ?_⟩
  refine ⟨ρ, S2, _, (r.keep k1).keep k2, rs2, q2, fun y S3 yv H3 q3 k3 rs3 w3 => ?_⟩
  have wv := (w1.keep k2).keep k3
  have rr := ((r.keep k1).keep k2).keep k3
  have kk := (k1.trans k2).trans k3
  match x, q3 with
  | .ref p, q3 =>
    cases w2
    cases e : S3 p with
    | none => simp only [e] at q3
    | some ob =>
      obtain ⟨kd, ds⟩ := ob
      obtain ⟨vs, ho, xh, o, rv⟩ := rs3 p kd ds e
      have hne : S3 p ≠ none := by rw [e]; simp
      cases o with
      | dK hl =>
        rename_i ks
        simp only [e] at q3
        cases e2 : keyD y with
        | none => simp only [e2] at q3
        | some key =>
          simp only [e2] at q3
          rw [rep_key w3 e2]
          refine ⟨p, _, rfl, DPut.k xh (by rw [List.length_zip, ← hl, Nat.min_self]; exact q3.1), ?_⟩
          rw [put_zip hl]
          obtain ⟨p1, p2⟩ := put_rep (ks := ks) (k := key) wv rv
          refine f.nx _ _ _ _ q3.2 (kk.trans (keep_put hne)) (rs_put rs3 hne ?_ p2) (rr.keep (keep_put hne))
          rw [p1]
          exact .dK (put_len hl)
      | dT hl =>
        rename_i ks
        simp only [e] at q3
        match y, q3 with
        | .nd .tup zs, q3 =>
          cases e2 : keyL zs with
          | none => simp only [e2] at q3
          | some key =>
            simp only [e2] at q3
            obtain ⟨b, us, rfl, _, hb, ru⟩ := rep_tupH w3 (keyL_two e2).1
            rw [rep_keys ru e2] at hb
            refine ⟨p, _, rfl, DPut.t xh hb (by rw [List.length_zip, ← hl, Nat.min_self]; exact q3.1), ?_⟩
            rw [put_zip hl]
            obtain ⟨p1, p2⟩ := put_rep (ks := ks) (k := key) wv rv
            refine f.nx _ _ _ _ q3.2 (kk.trans (keep_put hne)) (rs_put rs3 hne ?_ p2) (rr.keep (keep_put hne))
            rw [p1]
            exact .dT (put_len hl)
      | _ => simp only [e] at q3
/-- len(d) -/
def bLenD : List D → DHp → DQ → Prop := fun ds S Q => match ds with
  | [d] => match dictOf S d with
    | some (.dK ks, _) => Q (.int ks.length) S
    | some (.dT ks, _) => Q (.int ks.length) S
    | _ => False
  | _ => False
theorem b_lenD : CallR X (.builtin "len") (rLs X.K bLenD) := CallR.mono (CallR.or call_lenD call_len_dT) fun xs H Q ⟨ds, S, Qd, w, rs, q, k⟩ => by
  match ds, q with
  | [d], q =>
    cases w with
    | cons w w2 =>
      cases w2
      unfold bLenD at q
      cases e : dictOf S d with
      | none => simp only [e] at q
      | some ob =>
        obtain ⟨kd, ds⟩ := ob
        obtain ⟨a, vs, ho, rfl, xh, o, rr, hk⟩ := dictOf_at rs w e
        cases o with
        | dK hl =>
          simp only [e] at q
          exact .inl ⟨a, _, rfl, xh, by rw [List.length_zip, ← hl, Nat.min_self]; exact k _ S _ H q Keep.refl rs .int⟩
        | dT hl =>
          simp only [e] at q
          exact .inr ⟨a, _, rfl, xh, by rw [List.length_zip, ← hl, Nat.min_self]; exact k _ S _ H q Keep.refl rs .int⟩
        | _ => simp only [e] at q
/-! ### slices -/
abbrev DTO := DSt → DHp → (Option Int → DHp → Prop) → Prop
def liftO (K : PySem.W.Frag) (t : DTO) : TO := fun σ H Q => ∃ ρ S Qd, RepSt K S H ρ σ ∧ RS K S H ∧ t ρ S Qd ∧ ∀ i S' H', Qd i S' → Keep S H S' H' → RS K S' H' → Q i H'
abbrev DOpt (X : Cx) (e : Option Expr) (t : DTO) : Prop := PO X e (liftO X.K t)
def dNoPart : DTO := fun _ S Q => Q none S
def dPart (t : DTE) : DTO := fun ρ S Q => t ρ S fun d S1 => match d with
  | .int i => Q (some i) S1
  | _ => False
theorem PO.mono {e : Option Expr} {t t' : TO} (h : PO X e t) (i : ∀ σ H Q, t' σ H Q → t σ H Q) : PO X e t' := ⟨fun pins s σ H Q I q => h.run pins s σ H Q I (i σ H Q q)⟩
theorem do_none : DOpt X none dNoPart := PO.mono po_none fun σ H Q ⟨ρ, S, Qd, r, rs, q, k⟩ => k none S H q Keep.refl rs
theorem do_some {t : DTE} (h : DE X e t) : DOpt X (some e) (dPart t) := PO.mono (po_some h) fun σ H Q ⟨ρ, S, Qd, r, rs, q, k⟩ => by
  refine ⟨ρ, S, _, r, rs, q, fun d S1 v H1 q1 k1 rs1 w1 => ?_⟩
  match d, q1 with
  | .int i, q1 => cases w1; exact ⟨i, rfl, k _ _ _ q1 k1 rs1⟩
def cutD (xs : List D) (lo hi : Option Int) : List D := (xs.drop (HT.sIx xs.length 0 lo)).take (HT.sIx xs.length xs.length hi - HT.sIx xs.length 0 lo)
/-- x[lo:hi], of a list or tuple -/
def dSl (te : DTE) (tl th : DTO) : DTE := fun ρ S Q => te ρ S fun x S1 => tl ρ S1 fun lo S2 => th ρ S2 fun hi S3 => match x with
  | .nd .tup ds => Q (.tup (cutD ds lo hi)) S3
  | .nd .lst ds => Q (.lst (cutD ds lo hi)) S3
  | .ref p => match S3 p with
    | some (.lst, ds) => Q (.lst (cutD ds lo hi)) S3
    | _ => False
  | _ => False
theorem SlR.mono {r r' : V → Option Int → Option Int → Hp → VK → Prop} (h : SlR X r) (i : ∀ x lo hi H Q, r' x lo hi H Q → r x lo hi H Q) : SlR X r' :=
  fun pins s σ H x v vl vu lo hi sl Q I rx hs pl pu q => h pins s σ H x v vl vu lo hi sl Q I rx hs pl pu (i x lo hi H Q q)
theorem SlR.or {r r' : V → Option Int → Option Int → Hp → VK → Prop} (h : SlR X r) (h' : SlR X r') : SlR X (fun x lo hi H Q => r x lo hi H Q ∨ r' x lo hi H Q) :=
  fun pins s σ H x v vl vu lo hi sl Q I rx hs pl pu q => q.elim (h pins s σ H x v vl vu lo hi sl Q I rx hs pl pu) (h' pins s σ H x v vl vu lo hi sl Q I rx hs pl pu)
theorem cut_rep {S : DHp} {H : Hp} {ds : List D} {vs : List V} {lo hi : Option Int} (r : RepL K S H ds vs) : RepL K S H (cutD ds lo hi) (cutV vs lo hi) := by
  unfold cutD cutV
  rw [r.length]
  exact (r.drop _).take _
theorem de_slice {te : DTE} {tl th : DTO} {lo hi : Option Expr} {p2 : Pos} (he : DE X e te) (hl : DOpt X lo tl) (hh : DOpt X hi th) : DE X (.Subscript e (.Slice lo hi none p2) pos) (dSl te tl th) :=
  PE.mono (pe_slice (SlR.or (sl_tupA (X := X)) sl_list) he hl hh) fun σ H Q ⟨ρ, S, Qd, r, rs, q, k⟩ => by
    refine ⟨ρ, S, _, r, rs, q, fun x S1 xv H1 q1 k1 rs1 w1 => ?_⟩
    refine ⟨ρ, S1, _, r.keep k1, rs1, q1, fun lo S2 H2 q2 k2 rs2 => ?_⟩
    refine ⟨ρ, S2, _, (r.keep k1).keep k2, rs2, q2, fun hi S3 H3 q3 k3 rs3 => ?_⟩
    have w3 := (w1.keep k2).keep k3
    have kk := (k1.trans k2).trans k3
    match x, q3 with
    | .nd .tup ds, q3 =>
      obtain ⟨a, vs, rfl, h, _, rr⟩ := w3.seqT
      refine .inl ⟨a, vs, rfl, h, fun hw => ?_, fun _ p hp => k _ _ _ _ q3 (kk.trans (keep_newF hp)) (rs_newF rs3 hp) (rep_newF rs3 hp .tup (cut_rep rr))⟩
      have e : cutD ds lo hi = ds := by
        unfold cutD
        rw [rr.length, hw.1, hw.2, List.drop_zero, Nat.sub_zero, ← rr.length, List.take_length]
      have q4 : Qd (.tup (cutD ds lo hi)) S3 := q3
      rw [e] at q4
      exact k _ _ _ _ q4 kk rs3 w3
    | .nd .lst ds, q3 =>
      obtain ⟨a, vs, rfl, n, h, rr⟩ := w3.seqL
      exact .inr ⟨a, vs, rfl, SqL.of h, fun p hp => k _ _ _ _ q3 (kk.trans (keep_newF hp)) (rs_newF rs3 hp) (rep_newF rs3 hp .lst (cut_rep rr))⟩
    | .ref p0, q3 =>
      cases w3
      cases e : S3 p0 with
      | none => simp only [e] at q3
      | some ob =>
        obtain ⟨kd, ds⟩ := ob
        cases kd with
        | lst =>
          simp only [e] at q3
          obtain ⟨vs, h, rr⟩ := rs3.lst e
          exact .inr ⟨p0, vs, rfl, SqL.of h, fun p hp => k _ _ _ _ q3 (kk.trans (keep_newF hp)) (rs_newF rs3 hp) (rep_newF rs3 hp .lst (cut_rep rr))⟩
        | _ => simp only [e] at q3
end
/-! DS: the readings evaluated: one row a form, for simp only. -/
section
variable {t u : DTS} {E : DEnds} {ρ : DSt} {S : DHp} {Q : DQ} {R : DSt → DHp → Prop}
/-- a block's first statement, the rest a letter -/
theorem seq_g (h : ∀ K, K = u E → t { nx := K, rt := E.rt, bk := E.bk, ct := E.ct } ρ S) : dSeq t u E ρ S := h _ rfl
theorem ifs_g {c : DTT} (h : ∀ T U, T = t E → U = u E → c ρ S fun b S1 => if b = true then T ρ S1 else U ρ S1) : dIfS c t u E ρ S := h _ _ rfl rfl
theorem asg_e {te : DTE} {g : DTG} : dAsg te g E ρ S = te ρ S fun d S1 => g d ρ S1 E.nx := rfl
theorem ret_e {te : DTE} : dRet te E ρ S = te ρ S E.rt := rfl
theorem drop_e {te : DTE} : dDrop te E ρ S = te ρ S fun _ S1 => E.nx ρ S1 := rfl
theorem next_e : dNext E ρ S = E.nx ρ S := rfl
theorem gname_e {i : Nat} {d : D} : dgName i d ρ S R = R (ρ.set i (some d)) S := rfl
theorem var_e {i : Nat} : dVar i ρ S Q = match slot ρ i with
  | some d => Q d S
  | none => False := rfl
theorem slot0 {x : Option D} {r : DSt} : slot (x :: r) 0 = x := rfl
theorem slotS {x : Option D} {r : DSt} {i : Nat} : slot (x :: r) (i + 1) = slot r i := rfl
theorem c_e {d : D} : dC d ρ S Q = Q d S := rfl
theorem op_e {r : DOp} {ta tb : DTE} : dOp r ta tb ρ S Q = ta ρ S fun x S1 => tb ρ S1 fun y S2 => r x y S2 Q := rfl
theorem un_e {r : D → DHp → DQ → Prop} {ta : DTE} : dUn r ta ρ S Q = ta ρ S fun x S1 => r x S1 Q := rfl
theorem tst_e {te : DTE} {F : Bool → DHp → Prop} : dTst te ρ S F = te ρ S fun d S1 => match d with
  | .bl b => F b S1
  | _ => False := rfl
theorem and_e {a b : DTT} {F : Bool → DHp → Prop} : dAnd a b ρ S F = a ρ S fun c S1 => if c = true then b ρ S1 F else F false S1 := rfl
theorem or_e {a b : DTT} {F : Bool → DHp → Prop} : dOr a b ρ S F = a ρ S fun c S1 => if c = true then F true S1 else b ρ S1 F := rfl
theorem not_e {a : DTT} {F : Bool → DHp → Prop} : dNot a ρ S F = a ρ S fun c S1 => F (!c) S1 := rfl
theorem andV_e {ta tb : DTE} : dAndV ta tb ρ S Q = ta ρ S fun x S1 => match x with
  | .bl true => tb ρ S1 Q
  | .bl false => Q (.bl false) S1
  | _ => False := rfl
theorem orV_e {ta tb : DTE} : dOrV ta tb ρ S Q = ta ρ S fun x S1 => match x with
  | .bl true => Q (.bl true) S1
  | .bl false => tb ρ S1 Q
  | _ => False := rfl
theorem notV_e {ta : DTE} : dNotV ta ρ S Q = ta ρ S fun x S1 => match x with
  | .bl b => Q (.bl (!b)) S1
  | _ => False := rfl
theorem if_e {c : DTT} {ta tb : DTE} : dIf c ta tb ρ S Q = c ρ S fun b S1 => if b = true then ta ρ S1 Q else tb ρ S1 Q := rfl
theorem nil_e {F : List D → DHp → Prop} : dNil ρ S F = F [] S := rfl
theorem cons_e {ta : DTE} {tr : DTA} {F : List D → DHp → Prop} : dCons ta tr ρ S F = ta ρ S fun x S1 => tr ρ S1 fun xs S2 => F (x :: xs) S2 := rfl
theorem tup_e {ta : DTA} : dTup ta ρ S Q = ta ρ S fun ds S1 => ds.length ≤ sizeLine ∧ Q (.tup ds) S1 := rfl
theorem lstF_e {ta : DTA} : dLstF ta ρ S Q = ta ρ S fun ds S1 => ds.length ≤ sizeLine ∧ Q (.lst ds) S1 := rfl
theorem lst_e {ta : DTA} : dLst ta ρ S Q = ta ρ S fun ds S1 => ds.length ≤ sizeLine ∧ ∀ p, S1 p = none → Q (.ref p) (put S1 p (.lst, ds)) := rfl
theorem blt_e {r : List D → DHp → DQ → Prop} {ta : DTA} : dBlt r ta ρ S Q = ta ρ S fun ds S1 => r ds S1 Q := rfl
theorem call_e {sp : DSp} {ta : DTA} : dCall sp ta ρ S Q = ta ρ S fun ds S1 => sp ds S1 Q := rfl
theorem call0_e {sp : DSp} : dCall0 sp ρ S Q = sp [] S Q := rfl
theorem bm_e {T : String} {r : DMt} {te : DTE} {ta : DTA} : dBm T r te ta ρ S Q = te ρ S fun x S1 => mtyp S1 T x ∧ ta ρ S1 fun xs S2 => r x xs S2 Q := rfl
theorem bm0_e {T : String} {r : DMt} {te : DTE} : dBm0 T r te ρ S Q = te ρ S fun x S1 => mtyp S1 T x ∧ r x [] S1 Q := rfl
theorem frz_i {te : DTE} {p : Addr} {k : Nd} {ds : List D} (h : te ρ S fun d S1 => d = .ref p ∧ S1 p = some (k, ds) ∧ Q (.nd k ds) (era S1 p)) (m : ∀ F G : DQ, (∀ d S, F d S → G d S) → te ρ S F → te ρ S G) : dFrz te ρ S Q :=
  m _ _ (fun d S' ⟨a, b, c⟩ => ⟨p, k, ds, a, b, c⟩) h
theorem frzv_i {i : Nat} {p : Addr} {k : Nd} {ds : List D} (h1 : slot ρ i = some (.ref p)) (h2 : S p = some (k, ds)) (h : Q (.nd k ds) (era S p)) : dFrz (dVar i) ρ S Q := by
  unfold dFrz
  rw [var_e, h1]
  exact ⟨p, k, ds, rfl, h2, h⟩
theorem lrng_e {ta : DTE} : dLrng1 ta ρ S Q = ta ρ S fun x S1 => match x with
  | .int n => RgOk 0 n ∧ Q (.lst (intsD 0 (n - 0).toNat)) S1
  | _ => False := rfl
theorem par2_e {i j : Nat} {ta : DTA} : dPar2 i j ta E ρ S = ta ρ S fun ds S1 => match ds with
  | [d, e] => E.nx ((ρ.set i (some d)).set j (some e)) S1
  | _ => False := rfl
theorem set0 {α : Type} {x y : α} {r : List α} : (x :: r).set 0 y = y :: r := rfl
theorem setS {α : Type} {x y : α} {r : List α} {i : Nat} : (x :: r).set (i + 1) y = x :: r.set i y := rfl
theorem ixl_0 {x y z : D} : ixN [x, y, z].length 0 = some 0 := rfl
theorem ixl_1 {x y z : D} : ixN [x, y, z].length 1 = some 1 := rfl
theorem ixl_2 {x y z : D} : ixN [x, y, z].length 2 = some 2 := rfl
/-! operators, by the kinds of their operands -/
section
variable {i j : Int} {x y : Str} {as bs : List D}
theorem add_ii : oAdd (.int i) (.int j) S Q = Q (.int (i + j)) S := rfl
theorem add_ss : oAdd (.str x) (.str y) S Q = (x.length + y.length ≤ sizeLine ∧ Q (.str (x ++ y)) S) := rfl
theorem add_tt : oAdd (.nd .tup as) (.nd .tup bs) S Q = (as.length + bs.length ≤ sizeLine ∧ Q (.tup (as ++ bs)) S) := rfl
theorem add_ll : oAdd (.nd .lst as) (.nd .lst bs) S Q = (as.length + bs.length ≤ sizeLine ∧ Q (.lst (as ++ bs)) S) := rfl
theorem sub_ii : oSub (.int i) (.int j) S Q = Q (.int (i - j)) S := rfl
theorem mul_ii : oMul (.int i) (.int j) S Q = (CMulX i j ∧ Q (.int (i * j)) S) := rfl
theorem fdiv_ii : oFdiv (.int i) (.int j) S Q = (CDivW i j ∧ Q (.int (i / j)) S) := rfl
theorem mod_ii : oMod (.int i) (.int j) S Q = (0 < j ∧ Q (.int (i % j)) S) := rfl
theorem pow_ii : oPow (.int i) (.int j) S Q = ((0 ≤ j ∧ (Builtin.Int.intBits i : Int) * j ≤ 2 ^ 27) ∧ Q (.int (i ^ j.toNat)) S) := rfl
theorem neg_i : oNeg (.int i) S Q = Q (.int (-i)) S := rfl
theorem cmp_ii {f : Bool → Bool → Bool} : oCmp f (.int i) (.int j) S Q = Q (.bl (f (decide (i < j)) (decide (j < i)))) S := by
  unfold oCmp
  simp only [alikeD, isNon, dep, ltD, Nat.zero_le, and_self, true_and]
theorem cmp_ss {f : Bool → Bool → Bool} : oCmp f (.str x) (.str y) S Q = Q (.bl (f (decide (x.cps.toList < y.cps.toList)) (decide (y.cps.toList < x.cps.toList)))) S := by
  unfold oCmp
  simp only [alikeD, isNon, dep, ltD, Nat.zero_le, and_self, true_and]
theorem cmp_tt {f : Bool → Bool → Bool} : oCmp f (.nd .tup as) (.nd .tup bs) S Q = ((alikeD (.nd .tup as) (.nd .tup bs) = true ∧ dep (.nd .tup as) ≤ 64) ∧ Q (.bl (f (ltL as bs) (ltL bs as))) S) := by
  unfold oCmp
  simp only [isNon, ltD, true_and]
theorem eq_ii {n : Bool} : oEq n (.int i) (.int j) S Q = Q (.bl (if n then !(i == j) else i == j)) S := by
  unfold oEq
  simp only [scalD, eqD, true_or, true_and]
theorem eq_ss {n : Bool} : oEq n (.str x) (.str y) S Q = Q (.bl (if n then !(x == y) else x == y)) S := by
  unfold oEq
  simp only [scalD, eqD, true_or, true_and]
theorem eq_bb {n : Bool} {p q : Bool} : oEq n (.bl p) (.bl q) S Q = Q (.bl (if n then !(p == q) else p == q)) S := by
  unfold oEq
  simp only [scalD, eqD, true_or, true_and]
theorem eq_is {n : Bool} : oEq n (.int i) (.str x) S Q = Q (.bl n) S := by
  unfold oEq
  cases n <;> simp [scalD, eqD]
theorem eq_si {n : Bool} : oEq n (.str x) (.int i) S Q = Q (.bl n) S := by
  unfold oEq
  cases n <;> simp [scalD, eqD]
theorem eq_ni {n : Bool} : oEq n .non (.int i) S Q = Q (.bl n) S := by
  unfold oEq
  cases n <;> simp [scalD, eqD]
theorem eq_in {n : Bool} : oEq n (.int i) .non S Q = Q (.bl n) S := by
  unfold oEq
  cases n <;> simp [scalD, eqD]
theorem eq_tt {n : Bool} : oEq n (.nd .tup as) (.nd .tup bs) S Q = ((okL as = true ∧ okL bs = true ∧ dep (.nd .tup as) ≤ 64 ∧ dep (.nd .tup bs) ≤ 64) ∧ Q (.bl (if n then !eqL as bs else eqL as bs)) S) := by
  unfold oEq
  simp only [scalD, eqD, okD, Bool.false_eq_true, false_or]
theorem is_e {neg : Bool} {d : D} : oIs neg d .non S Q = Q (.bl (if neg then !isNon d else isNon d)) S := rfl
theorem ix_t : oIx (.nd .tup as) (.int i) S Q = match L2.atI as i with
  | some d => Q d S
  | none => False := rfl
theorem ix_l : oIx (.nd .lst as) (.int i) S Q = match L2.atI as i with
  | some d => Q d S
  | none => False := rfl
theorem ix_f : oIx (.nd .flst as) (.int i) S Q = match L2.atI as i with
  | some d => Q d S
  | none => False := rfl
theorem ix_r {p : Addr} : oIx (.ref p) (.int i) S Q = match S p with
  | some (.lst, as) => match L2.atI as i with
    | some d => Q d S
    | none => False
  | _ => False := by
  unfold oIx itemsOf
  cases hS : S p with
  | none => simp only [hS]
  | some o =>
    obtain ⟨k, ds⟩ := o
    cases k with
    | lst =>
      simp only [hS]
      try (cases L2.atI ds i <;> rfl)
    | _ => simp only [hS]
theorem int_i : bInt [.int i] S Q = Q (.int i) S := rfl
theorem int_b {b : Bool} : bInt [.bl b] S Q = Q (.int (if b then 1 else 0)) S := rfl
theorem abs_i : bAbs [.int i] S Q = Q (.int (if i < 0 then -i else i)) S := rfl
theorem i2_e {g : Int → Int → Int} : bI2 g [.int i, .int j] S Q = Q (.int (g i j)) S := rfl
theorem len_t : bLen [.nd .tup as] S Q = Q (.int as.length) S := rfl
theorem len_l : bLen [.nd .lst as] S Q = Q (.int as.length) S := rfl
theorem len_f : bLen [.nd .flst as] S Q = Q (.int as.length) S := rfl
theorem len_s (h : x.length ≤ sizeLine) : bLen [.str x] S Q = Q (.int x.length) S := by
  unfold bLen lenOf
  simp only [h, if_true]
theorem len_r {p : Addr} : bLen [.ref p] S Q = match S p with
  | some (.lst, as) => Q (.int as.length) S
  | _ => False := by
  unfold bLen lenOf itemsOf
  cases hS : S p with
  | none => simp only [hS, Option.map]
  | some o =>
    obtain ⟨k, ds⟩ := o
    cases k with
    | lst =>
      simp only [hS, Option.map]
    | _ => simp only [hS, Option.map]
theorem lstF_t : bLstF [.nd .tup as] S Q = Q (.lst as) S := rfl
theorem lstF_l : bLstF [.nd .lst as] S Q = Q (.lst as) S := rfl
theorem lst_t : bLst [.nd .tup as] S Q = ∀ p, S p = none → Q (.ref p) (put S p (.lst, as)) := rfl
theorem lst_l : bLst [.nd .lst as] S Q = ∀ p, S p = none → Q (.ref p) (put S p (.lst, as)) := rfl
theorem tup_t : bTup [.nd .tup as] S Q = Q (.tup as) S := rfl
theorem tup_l : bTup [.nd .lst as] S Q = Q (.tup as) S := rfl
theorem tup_r {p : Addr} : bTup [.ref p] S Q = match S p with
  | some (.lst, as) => Q (.tup as) S
  | _ => False := by
  unfold bTup itemsOf
  cases hS : S p with
  | none => simp only [hS]
  | some o =>
    obtain ⟨k, ds⟩ := o
    cases k with
    | lst =>
      simp only [hS]
    | _ => simp only [hS]
theorem lstS_s : bLstS [.str x] S Q = (x.length ≤ sizeLine ∧ Q (.lst (signsD x)) S) := rfl
theorem append_r {p : Addr} {d : D} : mAppend (.ref p) [d] S Q = match S p with
  | some (.lst, as) => as.length < sizeLine ∧ Q .non (put S p (.lst, as ++ [d]))
  | _ => False := by
  unfold mAppend
  cases hS : S p with
  | none => simp only [hS]
  | some o =>
    obtain ⟨k, ds⟩ := o
    cases k with
    | lst =>
      simp only [hS]
    | _ => simp only [hS]
theorem insert_r {p : Addr} {d : D} : mInsert (.ref p) [.int i, d] S Q = match S p with
  | some (.lst, as) => (as.length < sizeLine ∧ 0 ≤ i ∧ i < 2 ^ 63) ∧ Q .non (put S p (.lst, as.take i.toNat ++ [d] ++ as.drop i.toNat))
  | _ => False := by
  unfold mInsert
  cases hS : S p with
  | none => simp only [hS]
  | some o =>
    obtain ⟨k, ds⟩ := o
    cases k with
    | lst =>
      simp only [hS]
    | _ => simp only [hS]
theorem extend_r {p : Addr} : mExtend (.ref p) [.nd .lst bs] S Q = match S p with
  | some (.lst, as) => as.length + bs.length ≤ sizeLine ∧ Q .non (put S p (.lst, as ++ bs))
  | _ => False := by
  unfold mExtend lstOf
  cases hS : S p with
  | none => simp only [hS]
  | some o =>
    obtain ⟨k, ds⟩ := o
    cases k with
    | lst =>
      simp only [hS]
    | _ => simp only [hS]
theorem popAt_r {p : Addr} : mPopAt (.ref p) [.int i] S Q = match S p with
  | some (.lst, as) => (0 ≤ i ∧ i < 2 ^ 63) ∧ match as[i.toNat]? with
    | some d => Q d (put S p (.lst, as.eraseIdx i.toNat))
    | none => False
  | _ => False := by
  unfold mPopAt
  cases hS : S p with
  | none => simp only [hS]
  | some o =>
    obtain ⟨k, ds⟩ := o
    cases k with
    | lst =>
      simp only [hS]
      try (cases ds[i.toNat]? <;> rfl)
    | _ => simp only [hS]
theorem pop_r {p : Addr} : mPop (.ref p) [] S Q = match S p with
  | some (.lst, as) => match as[as.length - 1]? with
    | some d => Q d (put S p (.lst, as.dropLast))
    | none => False
  | _ => False := by
  unfold mPop
  cases hS : S p with
  | none => simp only [hS]
  | some o =>
    obtain ⟨k, ds⟩ := o
    cases k with
    | lst =>
      simp only [hS]
      try (cases ds[ds.length - 1]? <;> rfl)
    | _ => simp only [hS]
theorem mtyp_r {p : Addr} : mtyp S "list" (.ref p) = match S p with
  | some (.lst, _) => True
  | _ => False := by
  unfold mtyp lstOf
  cases hS : S p with
  | none => simp [hS]
  | some o =>
    obtain ⟨k, ds⟩ := o
    cases k with
    | lst =>
      simp [hS]
    | _ => simp [hS]
theorem mtyp_l : mtyp S "list" (.nd .lst as) = True := by
  unfold mtyp lstOf
  simp
theorem mtyp_s : mtyp S "str" (.str x) = True := by
  unfold mtyp
  simp
theorem gix_v {iv : Nat} {d : D} : dgIx (dVar iv) (dC (.int i)) d ρ S R = match slot ρ iv with
  | some (.ref p) => match S p with
    | some (.lst, as) => match ixN as.length i with
      | some jx => R ρ (put S p (.lst, as.set jx d))
      | none => False
    | _ => False
  | _ => False := by
  unfold dgIx
  rw [var_e]
  rcases slot ρ iv with _ | (_ | _ | _ | _ | _ | p | _) <;> try rfl
  show (∃ ds j, S p = some (Nd.lst, ds) ∧ ixN ds.length i = some j ∧ R ρ (put S p (Nd.lst, ds.set j d))) = _
  apply propext
  constructor
  · rintro ⟨ds, j', e1, e2, r⟩
    simp only [e1, e2]
    exact r
  · intro r
    cases hS : S p with
    | none => simp only [hS] at r
    | some o =>
      obtain ⟨k, as⟩ := o
      cases k with
      | lst =>
        simp only [hS] at r
        cases e2 : ixN as.length i with
        | none => simp only [e2] at r
        | some jx => simp only [e2] at r; exact ⟨as, jx, rfl, e2, r⟩
      | _ => simp only [hS] at r
end
theorem at_0 {d : D} {r : List D} : L2.atI (d :: r) 0 = some d := by
  unfold L2.atI L2.ixN
  rw [if_pos (by decide), if_pos (by simp)]
  rfl
theorem at_1 {d e : D} {r : List D} : L2.atI (d :: e :: r) 1 = some e := by
  unfold L2.atI L2.ixN
  rw [if_pos (by decide), if_pos (by simp; omega)]
  rfl
theorem at_2 {d e f : D} {r : List D} : L2.atI (d :: e :: f :: r) 2 = some f := by
  unfold L2.atI L2.ixN
  rw [if_pos (by decide), if_pos (by simp; omega)]
  rfl
theorem at_nat {l : List D} {n : Nat} : L2.atI l (n : Int) = l[n]? := by
  unfold L2.atI L2.ixN
  rw [if_pos (Int.natCast_nonneg _)]
  split
  · rfl
  · rename_i h
    rw [List.getElem?_eq_none (by omega)]
    rfl
theorem at_pos {l : List D} {i : Int} (h : 0 ≤ i) : L2.atI l i = l[i.toNat]? := by
  obtain ⟨n, rfl⟩ := Int.eq_ofNat_of_zero_le h
  exact at_nat
end
/-! DO: loops by an invariant. -/
theorem units65 {k : Nat} {A : Around} (h : L2.Room k A) : A.units + 65 < cLine := by
  have := h.un
  omega
theorem units1 {k : Nat} {A : Around} (h : L2.Room k A) : A.units + 1 < cLine := by
  have := h.un
  omega
/-- == of a list of the store with a value that stands still -/
def oEqR (neg : Bool) : DOp := fun x y S Q => match x with
  | .ref p => match S p with
    | some (.lst, ds) => (okL ds = true ∧ okD y = true ∧ depL ds ≤ 63 ∧ dep y ≤ 64) ∧ Q (.bl (if neg then !eqD (.lst ds) y else eqD (.lst ds) y)) S
    | _ => False
  | _ => False
theorem eqR_at {K : PySem.W.Frag} {x y : V} {neg : Bool} {H : Hp} {Q : VK} (h : rD K (oEqR neg) x y H Q) : ∃ p p', Dp K H x p ∧ Dp K H y p' ∧ SeqAt.shaped p = true ∧ SeqAt.shaped p' = true ∧ Q (.bl (if neg then !PyData.eqv p p' else PyData.eqv p p')) H := by
  obtain ⟨d, e, S, Qd, wd, we, rs, q, k⟩ := h
  match d, q with
  | .ref p, q =>
    cases wd
    unfold oEqR at q
    cases e1 : S p with
    | none => simp only [e1] at q
    | some ob =>
      obtain ⟨kd, ds⟩ := ob
      cases kd with
      | lst =>
        simp only [e1] at q
        obtain ⟨⟨c1, c2, c3, c4⟩, q⟩ := q
        obtain ⟨vs, xh, rr⟩ := rs.lst e1
        obtain ⟨ps, hps⟩ := okL_py c1
        obtain ⟨p', hp'⟩ := okD_py c2
        have hl : (D.nd .lst ds).py = some (.list ps) := by rw [D.py, hps]; rfl
        refine ⟨.list ps, p', .lst (SqL.of xh) (rr.dp hps), we.dp hp', shaped_D hl (by rw [okD]; exact c1) (by rw [dep]; omega), shaped_D hp' c2 c4, ?_⟩
        rw [eqv_D _ _ _ _ hl hp']
        exact k _ S _ H q Keep.refl rs .bl
      | _ => simp only [e1] at q
theorem o_eqR {X : Cx} (hu : X.A.units + 64 < cLine) : OpR X (compareOp .Eq) (rD X.K (oEqR false)) := OpR.mono (op_eqD hu) fun x y H Q h => eqR_at h
theorem o_neR {X : Cx} (hu : X.A.units + 64 < cLine) : OpR X (compareOp .NotEq) (rD X.K (oEqR true)) := OpR.mono (op_neD hu) fun x y H Q h => eqR_at h
/-- a for: P tells what holds ahead of the items that are still to come -/
theorem forD_ind {live : DHp → Prop} {g : DTG} {tb : DTS} {E : DEnds} (P : List D → DSt → DHp → Prop)
    (hl : ∀ l ρ S, P l ρ S → live S) (hn : ∀ ρ S, P [] ρ S → E.nx ρ S)
    (hs : ∀ d l ρ S, P (d :: l) ρ S → ∀ K : DSt → DHp → Prop, (∀ ρ S, P l ρ S → K ρ S) → g d ρ S fun ρ' S' => tb { nx := K, rt := E.rt, bk := E.nx, ct := K } ρ' S') :
    ∀ {l : List D} {ρ : DSt} {S : DHp}, P l ρ S → forD live g tb E l ρ S
  | [], ρ, S, h => ⟨hl _ _ _ h, hn _ _ h⟩
  | d :: l, ρ, S, h => ⟨hl _ _ _ h, hs d l ρ S h (forD live g tb E l) fun ρ' S' h' => forD_ind P hl hn hs h'⟩
/-- a while: P n holds ahead of the test, with at most n - 1 passes to come -/
theorem while_ind {c : DTT} {tb : DTS} {E : DEnds} (P : Nat → DSt → DHp → Prop) (h0 : ∀ ρ S, ¬ P 0 ρ S)
    (hs : ∀ n ρ S, P (n + 1) ρ S → ∀ K : DSt → DHp → Prop, (∀ ρ S, P n ρ S → K ρ S) → c ρ S fun b S1 => if b = true then tb { nx := K, rt := E.rt, bk := E.nx, ct := K } ρ S1 else E.nx ρ S1) {n : Nat} {ρ : DSt} {S : DHp} (h : P n ρ S) : dWhile c tb E ρ S := by
  refine ⟨n, ?_⟩
  induction n generalizing ρ S with
  | zero => exact (h0 _ _ h).elim
  | succ n ih => exact hs n ρ S h _ fun ρ' S' h' => ih h'
/-- a list comprehension: P tells what holds ahead of the items to come, with the list so far -/
theorem compD_ind {p : Addr} {live : DHp → Prop} {g : DTG} {tt : DTT} {te : DTE} {ρ : DSt} {Kf : List D → DHp → Prop} (P : List D → List D → DHp → Prop)
    (hl : ∀ l acc S, P l acc S → live S) (hn : ∀ acc S, P [] acc S → S p = some (.lst, acc) ∧ Kf acc S)
    (hs : ∀ d l acc S, P (d :: l) acc S → ∀ K : List D → DHp → Prop, (∀ acc S, P l acc S → K acc S) → g d ρ S fun ρ2 S2 => tt ρ2 S2 fun b S3 => if b = true then te ρ2 S3 fun y S4 => S4 p = some (.lst, acc) ∧ acc.length < sizeLine ∧ K (acc ++ [y]) (put S4 p (.lst, acc ++ [y])) else K acc S3) :
    ∀ {l acc : List D} {S : DHp}, P l acc S → compD p live g tt te ρ Kf l acc S
  | [], acc, S, h => ⟨hl _ _ _ h, (hn _ _ h).1, (hn _ _ h).2⟩
  | d :: l, acc, S, h => ⟨hl _ _ _ h, hs d l acc S h (fun a S => compD p live g tt te ρ Kf l a S) fun a S' h' => compD_ind P hl hn hs h'⟩
/-- one that changes nothing: each item gives what f says, or is left out -/
theorem lc_pure {ti : DTI} {g : DTG} {tt : DTT} {te : DTE} {vs : List Nat} {ρ : DSt} {S : DHp} {Q : DQ} (f : D → Option D) {l : List D} {live : DHp → Prop}
    (hi : ∀ R : Src → DHp → Prop, R ⟨l, live⟩ S → ti ρ S R) (hv : ∀ p o, S p = none → live (put S p o)) (hz : l.length ≤ sizeLine)
    (hs : ∀ d ∈ l, ∀ S', (∀ q o, S q = some o → S' q = some o) → ∀ (Y : DQ) (N : DHp → Prop), (match f d with
      | some y => Y y S'
      | none => N S') → g d (wipeD ρ vs) S' fun ρ2 S2 => tt ρ2 S2 fun b S3 => if b = true then te ρ2 S3 Y else N S3)
    (hq : Q (.lst (l.filterMap f)) S) : dLc ti g tt te vs ρ S Q := by
  refine hi _ fun p hp => ?_
  refine compD_ind (fun l2 acc S' => S' = put S p (.lst, acc) ∧ ∃ l1, l = l1 ++ l2 ∧ acc = l1.filterMap f) (fun l2 acc S' h => ?_) (fun acc S' h => ?_) (fun d l2 acc S' h K hK => ?_) ⟨rfl, [], rfl, rfl⟩
  · rw [h.1]; exact hv p _ hp
  · obtain ⟨rfl, l1, e, rfl⟩ := h
    rw [List.append_nil] at e
    subst e
    refine ⟨put_same, ?_⟩
    show Q _ (era (put S p _) p)
    rw [era_put hp]
    exact hq
  · obtain ⟨rfl, l1, e, rfl⟩ := h
    have hlen : (l1.filterMap f).length < sizeLine := by
      have h1 := List.length_filterMap_le f l1
      have h2 : l.length = l1.length + (l2.length + 1) := by rw [e]; simp
      omega
    have hsub : ∀ q o, S q = some o → put S p (.lst, l1.filterMap f) q = some o := fun q o hq => by
      have : q ≠ p := fun z => by subst z; rw [hp] at hq; cases hq
      rw [put_ne this]; exact hq
    refine hs d (by rw [e]; simp) _ hsub _ _ ?_
    cases hf : f d with
    | some y =>
      refine ⟨put_same, hlen, ?_⟩
      rw [put_put]
      exact hK _ _ ⟨rfl, l1 ++ [d], by rw [e]; simp, by rw [List.filterMap_append]; simp [hf]⟩
    | none => exact hK _ _ ⟨rfl, l1 ++ [d], by rw [e]; simp, by rw [List.filterMap_append]; simp [hf]⟩
/-- one without a test -/
theorem lc_map {ti : DTI} {g : DTG} {te : DTE} {vs : List Nat} {ρ : DSt} {S : DHp} {Q : DQ} (f : D → D) {l : List D} {live : DHp → Prop}
    (hi : ∀ R : Src → DHp → Prop, R ⟨l, live⟩ S → ti ρ S R) (hv : ∀ p o, S p = none → live (put S p o)) (hz : l.length ≤ sizeLine)
    (hs : ∀ d ∈ l, ∀ S', (∀ q o, S q = some o → S' q = some o) → ∀ Y : DQ, Y (f d) S' → g d (wipeD ρ vs) S' fun ρ2 S2 => te ρ2 S2 Y)
    (hq : Q (.lst (l.map f)) S) : dLc ti g dYes te vs ρ S Q := by
  refine lc_pure (fun d => some (f d)) hi hv hz (fun d hd S' hsub Y N h => ?_) (by
    show Q (.lst (l.filterMap (some ∘ f))) S
    rw [List.filterMap_eq_map]
    exact hq)
  exact hs d hd S' hsub Y h
/-! ### _law_pot -/
abbrev N__law_pot : List Str := ["_law_script", "_law_place", "_law_cell", "_law_own", "_law_small"]
def t__law_pot : DTS := (dSeq (dAsg (dIf (dTst (dOp oLt (dVar 1) (dBlt bLen (dCons (dVar 0) dNil)))) (dOp oIx (dVar 0) (dVar 1)) (dOp oAdd (dOp oMul (dC (.int 31)) (dVar 1)) (dC (.int 13)))) (dgName 2))
    (dSeq (dAsg (dOp oMul (dOp oMod (dBlt bInt (dCons (dBlt bAbs (dCons (dVar 2) dNil)) dNil)) (dOp oPow (dOp oPow (dC (.int 10)) (dC (.int 60))) (dC (.int 5)))) (dBlt bInt (dCons (dOp oGe (dBlt bAbs (dCons (dVar 2) dNil)) (dOp oPow (dC (.int 10)) (dC (.int 18)))) dNil))) (dgName 3))
    (dSeq (dAsg (dOp oMod (dBlt bInt (dCons (dVar 2) dNil)) (dC (.int 2305843009213693951))) (dgName 4))
    (dRet (dLst (dCons (dVar 3) (dCons (dOp oMod (dBlt bInt (dCons (dOp oAdd (dOp oAdd (dOp oMul (dVar 4) (dC (.int 60013))) (dOp oMul (dOp oMul (dC (.int 8209)) (dVar 1)) (dVar 1))) (dC (.int 101))) dNil)) (dC (.int 2305843009213693921))) (dCons (dC (.int 0)) dNil))))))))
/-! ### _law_take -/
abbrev N__law_take : List Str := ["_law_pot_here", "_law_upto", "_law_digit", "_law_prime", "_law_mixed"]
def t__law_take : DTS := (dSeq (dIfS (dTst (dOp oGt (dOp oIx (dVar 0) (dC (.int 0))) (dC (.int 0))))
    (dSeq (dAsg (dOp oMod (dBlt bInt (dCons (dOp oIx (dVar 0) (dC (.int 0))) dNil)) (dVar 1)) (dgName 2))
    (dSeq (dAsg (dOp oFdiv (dOp oIx (dVar 0) (dC (.int 0))) (dVar 1)) (dgIx (dVar 0) (dC (.int 0))))
    (dRet (dVar 2))))
    dNext)
    (dSeq (dAsg (dOp oAdd (dOp oIx (dVar 0) (dC (.int 2))) (dC (.int 1))) (dgIx (dVar 0) (dC (.int 2))))
    (dSeq (dAsg (dOp oIx (dLstF (dCons (dC (.int 2147483647)) (dCons (dC (.int 2147483629)) (dCons (dC (.int 2147483587)) (dCons (dC (.int 2147483579)) (dCons (dC (.int 2147483563)) dNil)))))) (dOp oMod (dBlt bInt (dCons (dOp oIx (dVar 0) (dC (.int 2))) dNil)) (dC (.int 5)))) (dgName 3))
    (dSeq (dAsg (dOp oMod (dBlt bInt (dCons (dOp oPow (dBlt bInt (dCons (dOp oAdd (dOp oAdd (dOp oIx (dVar 0) (dC (.int 1))) (dOp oMul (dOp oMul (dC (.int 102647)) (dOp oIx (dVar 0) (dC (.int 2)))) (dOp oIx (dVar 0) (dC (.int 2))))) (dC (.int 31))) dNil)) (dC (.int 3))) dNil)) (dVar 3)) (dgName 4))
    (dSeq (dAsg (dOp oMod (dBlt bInt (dCons (dOp oMul (dVar 4) (dOp oAdd (dOp oMod (dBlt bInt (dCons (dVar 4) dNil)) (dC (.int 10037))) (dOp oMul (dC (.int 89)) (dOp oIx (dVar 0) (dC (.int 2)))))) dNil)) (dC (.int 2305843009213693907))) (dgName 4))
    (dRet (dOp oMod (dBlt bInt (dCons (dOp oFdiv (dVar 4) (dC (.int 127))) dNil)) (dVar 1))))))))
/-! ### _law_of -/
abbrev N__law_of : List Str := ["_law_pot_here", "_law_some_here"]
def t__law_of (sp__law_take : DSp) : DTS := (dRet (dOp oIx (dVar 1) (dCall sp__law_take (dCons (dVar 0) (dCons (dBlt bLen (dCons (dVar 1) dNil)) dNil)))))
/-! ### _law_some -/
abbrev N__law_some : List Str := ["_law_pot_here", "_law_pool", "_law_many", "_law_left", "_law_found", "_law_lap"]
def t__law_some (sp__law_take : DSp) : DTS := (dSeq (dPar2 3 4 (dCons (dBlt bLst (dCons (dVar 1) dNil)) (dCons (dLst dNil) dNil)))
    (dSeq (dFor (dRng1 (dCons (dVar 2) dNil)) (dgName 5)
    (dDrop (dBm "list" mAppend (dVar 4) (dCons (dBm "list" mPopAt (dVar 3) (dCons (dCall sp__law_take (dCons (dVar 0) (dCons (dBlt bLen (dCons (dVar 3) dNil)) dNil))) dNil)) dNil))))
    (dRet (dFrz (dVar 4)))))
/-! ### _law_cells -/
abbrev N__law_cells : List Str := ["_law_script", "_law_most"]
def t__law_cells : DTS := (dRet (dLrng1 (dBlt bMax (dCons (dC (.int 1)) (dCons (dBlt bMin (dCons (dVar 1) (dCons (dBlt bLen (dCons (dVar 0) dNil)) dNil))) dNil)))))
/-! ### _law_ordered -/
abbrev N__law_ordered : List Str := ["_law_rows", "_law_found", "_law_row", "_law_at"]
def t__law_ordered : DTS := (dSeq (dAsg (dLst dNil) (dgName 1))
    (dSeq (dFor (dSeqI (dVar 0)) (dgName 2)
    (dSeq (dAsg (dC (.int 0)) (dgName 3))
    (dSeq (dWhile (dAnd (dTst (dOp oLt (dVar 3) (dBlt bLen (dCons (dVar 1) dNil)))) (dTst (dOp oLt (dOp oIx (dVar 1) (dVar 3)) (dVar 2))))
    (dAsg (dOp oAdd (dVar 3) (dC (.int 1))) (dgName 3)))
    (dIfS (dOr (dTst (dOp (oEq false) (dVar 3) (dBlt bLen (dCons (dVar 1) dNil)))) (dTst (dOp (oEq true) (dOp oIx (dVar 1) (dVar 3)) (dVar 2))))
    (dDrop (dBm "list" mInsert (dVar 1) (dCons (dVar 3) (dCons (dVar 2) dNil))))
    dNext))))
    (dRet (dFrz (dVar 1)))))
/-! ### _law_two -/
abbrev N__law_two : List Str := ["_law_one", "_law_other"]
def t__law_two : DTS := (dRet (dIf (dTst (dOp oLt (dVar 0) (dVar 1))) (dTup (dCons (dVar 0) (dCons (dVar 1) dNil))) (dTup (dCons (dVar 1) (dCons (dVar 0) dNil)))))
/-! ### _law_signs -/
abbrev N__law_signs : List Str := []
def t__law_signs : DTS := (dRet (dLstF (dCons (dC (.str "inn")) (dCons (dC (.str "left")) (dCons (dC (.str "bread")) (dCons (dC (.str "q")) dNil))))))
/-! ### _law_a_name -/
abbrev N__law_a_name : List Str := ["_law_pot_here", "_law_way", "_law_many", "_law_lap"]
def t__law_a_name (sp__law_take : DSp) (sp__law_of : DSp) : DTS := (dSeq (dAsg (dCall sp__law_take (dCons (dVar 0) (dCons (dC (.int 4)) dNil))) (dgName 1))
    (dSeq (dIfS (dTst (dOp oLt (dVar 1) (dC (.int 2))))
    (dRet (dCall sp__law_of (dCons (dVar 0) (dCons (dBlt bLstS (dCons (dC (.str "abcdefghijklmnopqrstuvwxyz")) dNil)) dNil))))
    dNext)
    (dSeq (dIfS (dTst (dOp (oEq false) (dVar 1) (dC (.int 2))))
    (dRet (dCall sp__law_of (dCons (dVar 0) (dCons (dLstF (dCons (dC (.str "bridge")) (dCons (dC (.str "orders")) (dCons (dC (.str "street")) (dCons (dC (.str "step")) (dCons (dC (.str "start")) (dCons (dC (.str "crossing")) (dCons (dC (.str "go")) (dCons (dC (.str "only")) (dCons (dC (.str "zzzzzzzz")) (dCons (dC (.str "aa")) dNil))))))))))) dNil))))
    dNext)
    (dSeq (dAsg (dOp oAdd (dC (.int 2)) (dCall sp__law_take (dCons (dVar 0) (dCons (dC (.int 7)) dNil)))) (dgName 2))
    (dRet (dBm "str" mJoin (dC (.str "")) (dCons (dLc (dRng1 (dCons (dVar 2) dNil)) (dgName 3) dYes (dCall sp__law_of (dCons (dVar 0) (dCons (dBlt bLstS (dCons (dC (.str "abcdefghijklmnopqrstuvwxyz")) dNil)) dNil))) [3]) dNil)))))))
/-! ### _law_many_names -/
abbrev N__law_many_names : List Str := ["_law_pot_here", "_law_many", "_law_found", "_law_lap", "_law_name", "_law_one"]
def t__law_many_names (sp__law_a_name : DSp) : DTS := (dSeq (dAsg (dLst dNil) (dgName 2))
    (dSeq (dFor (dRng1 (dCons (dVar 1) dNil)) (dgName 3)
    (dSeq (dAsg (dCall sp__law_a_name (dCons (dVar 0) dNil)) (dgName 4))
    (dSeq (dIfS (dTst (dOp (oIn false) (dVar 4) (dVar 2)))
    (dAsg (dOp oIx (dLc (dSeqI (dBlt bLstS (dCons (dC (.str "abcdefghijklmnopqrstuvwxyz")) dNil))) (dgName 5) (dTst (dOp (oIn true) (dVar 5) (dVar 2))) (dVar 5) [5]) (dC (.int 0))) (dgName 4))
    dNext)
    (dDrop (dBm "list" mAppend (dVar 2) (dCons (dVar 4) dNil))))))
    (dRet (dFrz (dVar 2)))))
/-! ### _law_free_row -/
abbrev N__law_free_row : List Str := ["_law_pot_here", "_law_name", "_law_ends", "_law_signs_here", "_law_many", "_law_order", "_law_pairs", "_law_lap", "_law_some_here", "_law_sign"]
def t__law_free_row (sp__law_of : DSp) (sp__law_some : DSp) (sp__law_take : DSp) (sp__law_two : DSp) (sp__law_ordered : DSp) : DTS := (dSeq (dAsg (dCall sp__law_of (dCons (dVar 0) (dCons (dVar 2) dNil))) (dgName 4))
    (dSeq (dPar2 5 6 (dCons (dCall sp__law_some (dCons (dVar 0) (dCons (dLrng1 (dVar 4)) (dCons (dVar 4) dNil)))) (dCons (dLst dNil) dNil)))
    (dSeq (dFor (dRng1 (dCons (dCall sp__law_take (dCons (dVar 0) (dCons (dOp oAdd (dOp oFdiv (dVar 4) (dC (.int 2))) (dC (.int 1))) dNil))) dNil)) (dgName 7)
    (dDrop (dBm "list" mAppend (dVar 6) (dCons (dCall sp__law_two (dCons (dOp oIx (dVar 5) (dOp oMul (dC (.int 2)) (dVar 7))) (dCons (dOp oIx (dVar 5) (dOp oAdd (dOp oMul (dC (.int 2)) (dVar 7)) (dC (.int 1)))) dNil))) dNil))))
    (dSeq (dAsg (dLc (dSeqI (dVar 3)) (dgName 9) (dTst (dOp (oEq false) (dCall sp__law_take (dCons (dVar 0) (dCons (dC (.int 4)) dNil))) (dC (.int 0)))) (dVar 9) [9]) (dgName 8))
    (dRet (dTup (dCons (dVar 1) (dCons (dVar 4) (dCons (dBlt bTup (dCons (dCall sp__law_ordered (dCons (dVar 6) dNil)) dNil)) (dCons (dBlt bTup (dCons (dCall sp__law_ordered (dCons (dVar 8) dNil)) dNil)) dNil))))))))))
/-! ### _law_each_stop -/
abbrev N__law_each_stop : List Str := ["_law_town", "_law_found", "_law_row", "_law_end"]
def t__law_each_stop : DTS := (dSeq (dAsg (dLst dNil) (dgName 1))
    (dSeq (dFor (dSeqI (dOp oIx (dVar 0) (dC (.int 0)))) (dgName 2)
    (dDrop (dBm "list" mExtend (dVar 1) (dCons (dLc (dRng1 (dCons (dOp oIx (dVar 2) (dC (.int 1))) dNil)) (dgName 3) dYes (dTup (dCons (dOp oIx (dVar 2) (dC (.int 0))) (dCons (dVar 3) dNil))) [3]) dNil))))
    (dRet (dVar 1))))
/-! ### _law_free_town -/
abbrev N__law_free_town : List Str := ["_law_pot_here", "_law_most", "_law_ends", "_law_names", "_law_rows", "_law_left", "_law_lanes", "_law_far", "_law_one", "_law_name"]
def t__law_free_town (sp__law_many_names : DSp) (sp__law_take : DSp) (sp__law_free_row : DSp) (sp__law_signs : DSp) (sp__law_each_stop : DSp) (sp__law_two : DSp) (sp__law_ordered : DSp) : DTS := (dSeq (dAsg (dCall sp__law_many_names (dCons (dVar 0) (dCons (dOp oAdd (dC (.int 1)) (dCall sp__law_take (dCons (dVar 0) (dCons (dVar 1) dNil)))) dNil))) (dgName 3))
    (dSeq (dAsg (dLcM (dSeqI (dVar 3)) (dgName 9) dYes (dCall sp__law_free_row (dCons (dVar 0) (dCons (dVar 9) (dCons (dVar 2) (dCons (dCall0 sp__law_signs) dNil))))) [9]) (dgName 4))
    (dSeq (dPar2 5 6 (dCons (dCall sp__law_each_stop (dCons (dTup (dCons (dVar 4) dNil)) dNil)) (dCons (dLst dNil) dNil)))
    (dSeq (dIfS (dTst (dOp (oEq false) (dOp oMod (dBlt bLen (dCons (dVar 5) dNil)) (dC (.int 2))) (dC (.int 1))))
    (dSeq (dAsg (dOp oIx (dLc (dSeqI (dBlt bLstS (dCons (dC (.str "abcdefghijklmnopqrstuvwxyz")) dNil))) (dgName 8) (dTst (dOp (oIn true) (dVar 8) (dVar 3))) (dVar 8) [8]) (dUn oNeg (dC (.int 1)))) (dgName 7))
    (dSeq (dDrop (dBm "list" mAppend (dVar 4) (dCons (dTup (dCons (dVar 7) (dCons (dC (.int 1)) (dCons (dTup dNil) (dCons (dTup dNil) dNil))))) dNil)))
    (dDrop (dBm "list" mAppend (dVar 5) (dCons (dTup (dCons (dVar 7) (dCons (dC (.int 0)) dNil))) dNil)))))
    dNext)
    (dSeq (dWhile (dTst (dOp (oEqR true) (dVar 5) (dLstF dNil)))
    (dSeq (dAsg (dBm0 "list" mPop (dVar 5) ) (dgName 8))
    (dDrop (dBm "list" mAppend (dVar 6) (dCons (dCall sp__law_two (dCons (dVar 8) (dCons (dBm "list" mPopAt (dVar 5) (dCons (dCall sp__law_take (dCons (dVar 0) (dCons (dBlt bLen (dCons (dVar 5) dNil)) dNil))) dNil)) dNil))) dNil)))))
    (dRet (dTup (dCons (dBlt bTup (dCons (dCall sp__law_ordered (dCons (dVar 4) dNil)) dNil)) (dCons (dBlt bTup (dCons (dCall sp__law_ordered (dCons (dVar 6) dNil)) dNil)) dNil)))))))))
/-! DP: isinstance, chains of comparisons, dict comprehensions. -/
section
variable {X : Cx} {K : PySem.W.Frag} {e a b c tg : Expr} {pos : Pos}
/-- the name of a value's type -/
def tyN : D → Option String
  | .non => some "NoneType"
  | .bl _ => some "bool"
  | .int _ => some "int"
  | .str _ => some "str"
  | .nd .tup _ => some "tuple"
  | .nd .lst _ => some "list"
  | _ => none
theorem tyX_sqT {H : Hp} {a : Addr} {vs : List V} (h : SqT K H a vs) : TyX K H (.ref a) (.type "tuple") := by
  rcases h with h | ⟨o, its, n, e, c, _⟩
  · rcases h with h | ⟨o, h⟩
    · exact .base (.tup h)
    · exact .fTuple h
  · exact .kTuple e c
theorem tyN_at {S : DHp} {H : Hp} {d : D} {v : V} {t : String} (w : Rep K S H d v) (h : tyN d = some t) : TyX K H v (.type t) := by
  cases w with
  | nd n x o r => cases o <;> simp [tyN] at h <;> subst h
                  · exact .base (.tup x)
                  · exact .base (.lst x)
  | wr z r => cases z with
    | flst z => simp [tyN] at h
    | tup _ z => simp [tyN] at h; subst h; exact tyX_sqT (z H)
  | ty => simp [tyN] at h
  | ref => simp [tyN] at h
  | non => simp [tyN] at h; subst h; exact .base .non
  | bl => simp [tyN] at h; subst h; exact .base (.bl _)
  | int => simp [tyN] at h; subst h; exact .base (.int _)
  | str => simp [tyN] at h; subst h; exact .base (.str _)
def bIsi : List D → DHp → DQ → Prop := fun ds S Q => match ds with
  | [d, .ty n] => match tyN d with
    | some t => match kitB t n with
      | some r => Q (.bl r) S
      | none => False
    | none => False
  | _ => False
theorem b_isi : CallR X (.builtin "isinstance") (rLs X.K bIsi) := CallR.mono call_isi fun xs H Q ⟨ds, S, Qd, w, rs, q, k⟩ => by
  match ds, q with
  | [d, .ty n], q =>
    cases w with
    | cons w w2 =>
      cases w2 with
      | cons w2 w3 =>
        cases w3
        cases w2
        unfold bIsi at q
        cases e1 : tyN d with
        | none => simp only [e1] at q
        | some t =>
          simp only [e1] at q
          cases e2 : kitB t n with
          | none => simp only [e2] at q
          | some r =>
            simp only [e2] at q
            exact ⟨_, _, _, _, r, rfl, .ty n, tyN_at w e1, kit_ty e2, k _ S _ H q Keep.refl rs .bl⟩
def dChain2 (r r' : DOp) (ta tb tc : DTE) : DTE := fun ρ S Q => ta ρ S fun x S1 => tb ρ S1 fun y S2 => r x y S2 fun z S3 => match z with
  | .bl true => tc ρ S3 fun w S4 => r' y w S4 Q
  | .bl false => Q (.bl false) S3
  | _ => False
theorem chain_lift {r r' : DOp} {ta tb tc : DTE} {σ : St} {H : Hp} {Q : VK} (h : lift K (dChain2 r r' ta tb tc) σ H Q) : tChain (rD K r) (rD K r') (lift K ta) (lift K tb) (lift K tc) σ H Q := by
  obtain ⟨ρ, S, Qd, r0, rs, q, k⟩ := h
  refine ⟨ρ, S, _, r0, rs, q, fun d S1 v H1 q1 k1 rs1 w1 => ?_⟩
  refine ⟨ρ, S1, _, r0.keep k1, rs1, q1, fun e S2 u H2 q2 k2 rs2 w2 => ?_⟩
  refine ⟨d, e, S2, _, w1.keep k2, w2, rs2, q2, fun z S3 v3 H3 q3 k3 rs3 w3 => ?_⟩
  have kk := (k1.trans k2).trans k3
  match z, q3 with
  | .bl true, q3 =>
    cases w3
    refine ⟨true, rfl, ?_⟩
    refine ⟨ρ, S3, _, r0.keep kk, rs3, q3, fun x S4 xv H4 q4 k4 rs4 w4 => ?_⟩
    exact ⟨e, x, S4, Qd, (w2.keep k3).keep k4, w4, rs4, q4, fun y S' v' H' qy ky rsy wy => k y S' v' H' qy ((kk.trans k4).trans ky) rsy wy⟩
  | .bl false, q3 =>
    cases w3
    exact ⟨false, rfl, k _ S3 _ H3 q3 kk rs3 .bl⟩
theorem de_chain {op op' : CmpOp} {r r' : DOp} {ta tb tc : DTE} (ho : OpR X (compareOp op) (rD X.K r)) (ho' : OpR X (compareOp op') (rD X.K r')) (ha : DE X a ta) (hb : DE X b tb) (hc : DE X c tc) (hm : lastMarks [op, op'] [b, c] = false := by rfl) : DE X (.Compare a [op, op'] [b, c] pos) (dChain2 r r' ta tb tc) :=
  PE.mono (pe_chain ho ho' ha hb hc hm) fun _ _ _ => chain_lift
theorem dt_chain {op op' : CmpOp} {r r' : DOp} {ta tb tc : DTE} (ho : OpR X (compareOp op) (rD X.K r)) (ho' : OpR X (compareOp op') (rD X.K r')) (ha : DE X a ta) (hb : DE X b tb) (hc : DE X c tc) (hm : lastMarks [op, op'] [b, c] = false := by rfl) : DT X (.Compare a [op, op'] [b, c] pos) (dTst (dChain2 r r' ta tb tc)) :=
  PT.mono (pt_chain ho ho' ha hb hc hm) fun σ H Q h => by
    obtain ⟨ρ, S, Qd, r0, rs, q, k⟩ := h
    refine chain_lift ⟨ρ, S, _, r0, rs, q, fun z S' v H' qz kz rsz wz => ?_⟩
    cases wz with
    | bl => exact ⟨_, rfl, k _ S' H' qz kz rsz⟩
    | _ => exact qz.elim
/-! ### {k: v for x in ..} -/
def dcD (p : Addr) (live : DHp → Prop) (g : DTG) (tt : DTT) (tk tv : DTE) (ρ : DSt) (Kf : List Key × List D → DHp → Prop) : List D → List Key × List D → DHp → Prop
  | [], acc, S => live S ∧ S p = some (.dK acc.1, acc.2) ∧ Kf acc S
  | d :: ds, acc, S => live S ∧ g d ρ S fun ρ2 S2 => tt ρ2 S2 fun b S3 => if b = true then tk ρ2 S3 fun y S4 => tv ρ2 S4 fun z S5 => match keyD y with
      | some k => S5 p = some (.dK acc.1, acc.2) ∧ acc.1.length < sizeLine ∧ dcD p live g tt tk tv ρ Kf ds (putD acc.1 acc.2 k z) (put S5 p (.dK (putD acc.1 acc.2 k z).1, (putD acc.1 acc.2 k z).2))
      | none => False
      else dcD p live g tt tk tv ρ Kf ds acc S3
theorem dcD_live {p : Addr} {live : DHp → Prop} {g : DTG} {tt : DTT} {tk tv : DTE} {ρ : DSt} {Kf : List Key × List D → DHp → Prop} {l : List D} {acc : List Key × List D} {S : DHp} (h : dcD p live g tt tk tv ρ Kf l acc S) : live S := by
  cases l with
  | nil => exact h.1
  | cons _ _ => exact h.1
/-- the new dict stands still -/
def dDc (ti : DTI) (g : DTG) (tt : DTT) (tk tv : DTE) (vs : List Nat) : DTE := fun ρ S Q => ti ρ S fun src S1 => ∀ p, S1 p = none → dcD p src.live g tt tk tv (wipeD ρ vs) (fun acc S' => Q (.nd (.dK acc.1) acc.2) (era S' p)) src.items ([], []) (put S1 p (.dK [], []))
theorem dc_lift {ti : DTI} {g : DTG} {tt : DTT} {tk tv : DTE} {vs : List Nat} {σ : St} {H : Hp} {Q : VK} (h : lift K (dDc ti g tt tk tv vs) σ H Q) : tDc (liftI K ti) (liftGv K vs g) (liftT K tt) (lift K tk) (lift K tv) vs σ H Q := by
  obtain ⟨ρ, S, Qd, r, rs, q, k⟩ := h
  refine ⟨ρ, S, _, r, rs, q, fun src S1 J H1 q1 k1 rs1 w1 => ?_⟩
  intro p hp
  have hpS : S1 p = none := rs1.free hp
  have q2 := q1 p hpS
  have kn : Keep S1 H1 (put S1 p (.dK [], [])) (upd H1 p (.dK [])) := keep_new hp
  refine ⟨fun i m H' => ∃ S' acc, Keep S1 H1 S' H' ∧ RS K S' H' ∧ m = src.items.length - i ∧ i ≤ src.items.length ∧ dcD p src.live g tt tk tv (wipeD ρ vs) (fun acc S' => Qd (.nd (.dK acc.1) acc.2) (era S' p)) (src.items.drop i) acc S',
    ⟨_, _, ([], []), kn, rs_new rs1 hp (.dK (ks := []) (vs := []) rfl) .nil, rfl, Nat.zero_le _, by simpa using q2⟩, ?_⟩
  rintro i m H' ⟨S', acc, k2, rs2, rfl, hi, q3⟩
  have lv := dcD_live q3
  by_cases hlt : i < src.items.length
  · have ed : src.items.drop i = src.items[i] :: src.items.drop (i + 1) := List.drop_eq_getElem_cons hlt
    rw [ed] at q3
    obtain ⟨_, q3⟩ := q3
    refine .inr ⟨w1.go i S' H' hlt k2 rs2 lv, fun H3 => ∃ S3 acc3, Keep S1 H1 S3 H3 ∧ RS K S3 H3 ∧ dcD p src.live g tt tk tv (wipeD ρ vs) (fun acc S' => Qd (.nd (.dK acc.1) acc.2) (era S' p)) (src.items.drop (i + 1)) acc3 S3, fun H3 ⟨S3, acc3, b1, b2, b3⟩ => ⟨src.items.length - (i + 1), by omega, S3, acc3, b1, b2, rfl, hlt, b3⟩, fun x H4 y => ?_⟩
    obtain ⟨k4, rs4, w4⟩ := w1.yld i src.items[i] S' H' x H4 (by simp [hlt]) k2 rs2 lv y
    have k04 : Keep S H S' H4 := (k1.trans k2).trans k4
    refine ⟨_, wipeD ρ vs, S', _, w4, (r.keep k04).wipe vs, rs4, q3, fun ρ5 S5 σ5 H5 q5 k5 rs5 r5 hw => ?_⟩
    refine ⟨?_, ρ5, S5, _, r5, rs5, q5, fun b S6 H6 q6 k6 rs6 => ?_⟩
    · rw [hw, wipe_twice]
    · have k16 : Keep S1 H1 S6 H6 := ((k2.trans k4).trans k5).trans k6
      cases b with
      | false => exact ⟨S6, acc, k16, rs6, q6⟩
      | true =>
        refine ⟨ρ5, S6, _, r5.keep k6, rs6, q6, fun yd S7 yv H7 q7 k7 rs7 w7 => ?_⟩
        refine ⟨ρ5, S7, _, (r5.keep k6).keep k7, rs7, q7, fun zd S8 zv H8 q8 k8 rs8 w8 => ?_⟩
        cases ek : keyD yd with
        | none => simp only [ek] at q8
        | some key =>
          simp only [ek] at q8
          obtain ⟨q8, hz, q9⟩ := q8
          obtain ⟨us, ho, x8, ob, wu⟩ := rs8 p _ _ q8
          have hne : S8 p ≠ none := by rw [q8]; simp
          cases ob with
          | dK hl =>
            obtain ⟨p1, p2⟩ := put_rep (ks := acc.1) (k := key) w8 wu
            refine ⟨_, key, rep_key w7 ek, x8, by rw [List.length_zip, ← hl, Nat.min_self]; exact hz, _, _, ((k16.trans k7).trans k8).trans (keep_put hne), ?_, q9⟩
            rw [put_zip hl]
            refine rs_put rs8 hne ?_ p2
            rw [p1]
            exact .dK (put_len hl)
  · have e : i = src.items.length := by omega
    subst e
    have ed : src.items.drop src.items.length = [] := List.drop_eq_nil_of_le (Nat.le_refl _)
    rw [ed] at q3
    obtain ⟨_, hpa, q3⟩ := q3
    exact .inl ⟨w1.stop S' H' k2 rs2 lv, k _ _ _ H' q3 ((k1.trans k2).trans Less.era.keep) (rs2.less Less.era) (rep_freeze rs2 hpa)⟩
end
section
variable {X : Cx} {K : PySem.W.Frag} {kx vx iter tg : Expr} {pos : Pos} {ifs : List Expr} {scope : Scope} {own : List (Str × Nat)} {ti : DTI} {g : DTG} {tt : DTT} {tk tv : DTE}
theorem de_dc (hc : X.calm = true) (hN : X.N.Nodup) (hi : DI X tg iter ti) (ok : BlkOk X.N X.env.scope scope own)
    (hg : ∀ (s : Shared) (H : Hp) (C : Addr) (cl : List (Str × Addr)) (fp : List Addr), DGv (X.blk s H scope (compEnvC scope cl C X.env) fp) tg (own.map (·.2)) g) (ht : ∀ (s : Shared) (H : Hp) (C : Addr) (cl : List (Str × Addr)) (fp : List Addr), DTsts (X.blk s H scope (compEnvC scope cl C X.env) fp) ifs tt)
    (hk : ∀ (s : Shared) (H : Hp) (C : Addr) (cl : List (Str × Addr)) (fp : List Addr), DE (X.blk s H scope (compEnvC scope cl C X.env) fp) kx tk)
    (hv : ∀ (s : Shared) (H : Hp) (C : Addr) (cl : List (Str × Addr)) (fp : List Addr), DE (X.blk s H scope (compEnvC scope cl C X.env) fp) vx tv) (hs : ∀ x, foldedSetIterable iter X.env x = pure x := by intro _; rfl) :
    DE X (.DictComp kx vx [⟨tg, iter, ifs, 0⟩] scope pos) (dDc ti g tt tk tv (own.map (·.2))) :=
  PE.mono (pe_dc hc hN hi ok hg ht hk hv hs) fun _ _ _ => dc_lift
/-! ### dict(a list of pairs) -/
def pairsOf : List D → Option (List (Key × D))
  | [] => some []
  | .nd .tup [k, v] :: l => match keyD k, pairsOf l with
    | some k, some r => some ((k, v) :: r)
    | _, _ => none
  | _ => none
def mergeD (acc : List Key × List D) (l : List (Key × D)) : List Key × List D := l.foldl (fun acc kv => putD acc.1 acc.2 kv.1 kv.2) acc
def bDictP : List D → DHp → DQ → Prop := fun ds S Q => match ds with
  | [.nd .lst rows] => match pairsOf rows with
    | some l => Q (.nd (.dK (mergeD ([], []) l).1) (mergeD ([], []) l).2) S
    | none => False
  | _ => False
theorem pairs_at {S : DHp} {H : Hp} : ∀ {rows : List D} {vs : List V} {l : List (Key × D)}, RepL K S H rows vs → pairsOf rows = some l → ∃ (ps : List Addr) (kvs : List (Key × V)), vs = ps.map V.ref ∧ Paired (fun p kv => SqT K H p [kV kv.1, kv.2]) ps kvs ∧ kvs.map (·.1) = l.map (·.1) ∧ RepL K S H (l.map (·.2)) (kvs.map (·.2))
  | [], _, _, .nil, h => by
    cases h
    exact ⟨[], [], rfl, .nil, rfl, .nil⟩
  | d :: rows, _, l, .cons w t, h => by
    match d, h with
    | .nd .tup [k, v], h =>
      unfold pairsOf at h
      cases e1 : keyD k with
      | none => simp only [e1] at h; cases h
      | some key =>
        cases e2 : pairsOf rows with
        | none => simp only [e1, e2] at h; cases h
        | some r =>
          simp only [e1, e2] at h
          cases h
          obtain ⟨ps, kvs, e, pr, ek, rl⟩ := pairs_at t e2
          obtain ⟨a, us, rfl, hs, _, ru⟩ := w.seqT
          cases ru with
          | cons wk ru =>
            cases ru with
            | cons wv ru =>
              cases ru
              rw [rep_key wk e1] at hs
              exact ⟨a :: ps, (key, _) :: kvs, by rw [e]; rfl, .cons hs pr, by simp [ek], .cons wv rl⟩
theorem merge_at {S : DHp} {H : Hp} : ∀ {l : List (Key × D)} {kvs : List (Key × V)} {ks : List Key} {ds : List D} {vs : List V}, kvs.map (·.1) = l.map (·.1) → RepL K S H (l.map (·.2)) (kvs.map (·.2)) → ks.length = vs.length → RepL K S H ds vs →
    ∃ us, mergeK (ks.zip vs) kvs = (mergeD (ks, ds) l).1.zip us ∧ (mergeD (ks, ds) l).1.length = us.length ∧ RepL K S H (mergeD (ks, ds) l).2 us
  | [], [], ks, ds, vs, _, _, hl, r => ⟨vs, rfl, hl, r⟩
  | [], _ :: _, _, _, _, h, _, _, _ => by cases h
  | _ :: _, [], _, _, _, h, _, _, _ => by cases h
  | (k, d) :: l, (k', v) :: kvs, ks, ds, vs, h, w, hl, r => by
    rw [List.map_cons, List.map_cons] at h
    obtain ⟨hk, h2⟩ := List.cons.inj h
    have hk : k' = k := hk
    subst hk
    cases w with
    | cons w1 w2 =>
      obtain ⟨p1, p2⟩ := put_rep (ks := ks) (k := k') w1 r
      obtain ⟨us, e1, e2, e3⟩ := merge_at (l := l) (kvs := kvs) (ks := (putD ks vs k' v).1) (ds := (putD ks ds k' d).2) (vs := (putD ks vs k' v).2) h2 w2 (put_len hl) p2
      refine ⟨us, ?_, ?_, ?_⟩
      · show mergeK (putK (ks.zip vs) k' v) kvs = _
        rw [put_zip hl, e1, ← p1]
        rfl
      · rw [← e2, ← p1]; rfl
      · rw [← p1] at e3; exact e3
theorem b_dictP (hc : X.calm = true) : CallR X (.type "dict") (rLs X.K bDictP) := CallR.mono (call_dictP hc) fun xs H Q ⟨ds, S, Qd, w, rs, q, k⟩ => by
  match ds, q with
  | [.nd .lst rows], q =>
    cases w with
    | cons w w2 =>
      cases w2
      unfold bDictP at q
      cases e : pairsOf rows with
      | none => simp only [e] at q
      | some l =>
        simp only [e] at q
        obtain ⟨a, vs, rfl, _, h, rr⟩ := w.seqL
        obtain ⟨ps, kvs, rfl, pr, ek, rl⟩ := pairs_at rr e
        obtain ⟨us, e1, e2, e3⟩ := merge_at (ks := []) (ds := []) (vs := []) ek rl rfl .nil
        refine ⟨a, ps, kvs, rfl, SqL.of h, pr, fun p hp => ?_⟩
        have e1 : mergeK [] kvs = _ := e1
        rw [e1]
        exact k _ _ _ _ q (keep_newF hp) (rs_newF rs hp) (rep_newF rs hp (.dK e2) e3)
end
/-! DR: list comprehensions with two fors, l[::-1], x += n. -/
section
variable {X : Cx} {K : PySem.W.Frag} {e a b c tg : Expr} {pos : Pos}
/-! ### [x for .. for ..] -/
def comp2D (p : Addr) (live : DHp → Prop) (g : DTG) (tt : DTT) (ti1 : DTI) (g1 : DTG) (tt1 : DTT) (te : DTE) (vs1 : List Nat) (ρ : DSt) (Kf : List D → DHp → Prop) : List D → List D → DHp → Prop
  | [], acc, S => live S ∧ S p = some (.lst, acc) ∧ Kf acc S
  | d :: ds, acc, S => live S ∧ g d ρ S fun ρ2 S2 => tt ρ2 S2 fun b S3 => if b = true then ti1 ρ2 S3 fun src1 S4 => compD p src1.live g1 tt1 te (wipeD ρ2 vs1) (fun acc' S' => comp2D p live g tt ti1 g1 tt1 te vs1 ρ Kf ds acc' S') src1.items acc S4
      else comp2D p live g tt ti1 g1 tt1 te vs1 ρ Kf ds acc S3
theorem comp2D_live {p : Addr} {live : DHp → Prop} {g : DTG} {tt : DTT} {ti1 : DTI} {g1 : DTG} {tt1 : DTT} {te : DTE} {vs1 : List Nat} {ρ : DSt} {Kf : List D → DHp → Prop} {l acc : List D} {S : DHp} (h : comp2D p live g tt ti1 g1 tt1 te vs1 ρ Kf l acc S) : live S := by
  cases l with
  | nil => exact h.1
  | cons _ _ => exact h.1
/-- the new list stands still -/
def dLc2 (ti : DTI) (g : DTG) (tt : DTT) (ti1 : DTI) (g1 : DTG) (tt1 : DTT) (te : DTE) (vs vs1 : List Nat) : DTE := fun ρ S Q => ti ρ S fun src S1 => ∀ p, S1 p = none → comp2D p src.live g tt ti1 g1 tt1 te vs1 (wipeD ρ vs) (fun acc S' => Q (.lst acc) (era S' p)) src.items [] (put S1 p (.lst, []))
theorem lc2_lift {ti : DTI} {g : DTG} {tt : DTT} {ti1 : DTI} {g1 : DTG} {tt1 : DTT} {te : DTE} {vs vs1 : List Nat} {σ : St} {H : Hp} {Q : VK}
    (h : lift K (dLc2 ti g tt ti1 g1 tt1 te vs vs1) σ H Q) : tLc2 (liftI K ti) (liftGv K vs g) (liftT K tt) (liftI K ti1) (liftGv K vs1 g1) (liftT K tt1) (lift K te) vs vs1 σ H Q := by
  obtain ⟨ρ, S, Qd, r, rs, q, k⟩ := h
  refine ⟨ρ, S, _, r, rs, q, fun src S1 J H1 q1 k1 rs1 w1 => ?_⟩
  intro p hp
  have hpS : S1 p = none := rs1.free hp
  have q2 := q1 p hpS
  have kn : Keep S1 H1 (put S1 p (.lst, [])) (upd H1 p (.lst [])) := keep_new hp
  refine ⟨fun i m H' => ∃ S' acc, Keep S1 H1 S' H' ∧ RS K S' H' ∧ m = src.items.length - i ∧ i ≤ src.items.length ∧ comp2D p src.live g tt ti1 g1 tt1 te vs1 (wipeD ρ vs) (fun acc S' => Qd (.lst acc) (era S' p)) (src.items.drop i) acc S',
    ⟨_, _, [], kn, rs_new rs1 hp .lst .nil, rfl, Nat.zero_le _, by simpa using q2⟩, ?_⟩
  rintro i m H' ⟨S', acc, k2, rs2, rfl, hi, q3⟩
  have lv := comp2D_live q3
  by_cases hlt : i < src.items.length
  · have ed : src.items.drop i = src.items[i] :: src.items.drop (i + 1) := List.drop_eq_getElem_cons hlt
    rw [ed] at q3
    obtain ⟨_, q3⟩ := q3
    refine .inr ⟨w1.go i S' H' hlt k2 rs2 lv, fun H3 => ∃ S3 acc3, Keep S1 H1 S3 H3 ∧ RS K S3 H3 ∧ comp2D p src.live g tt ti1 g1 tt1 te vs1 (wipeD ρ vs) (fun acc S' => Qd (.lst acc) (era S' p)) (src.items.drop (i + 1)) acc3 S3, fun H3 ⟨S3, acc3, b1, b2, b3⟩ => ⟨src.items.length - (i + 1), by omega, S3, acc3, b1, b2, rfl, hlt, b3⟩, fun x H4 y => ?_⟩
    obtain ⟨k4, rs4, w4⟩ := w1.yld i src.items[i] S' H' x H4 (by simp [hlt]) k2 rs2 lv y
    have k04 : Keep S H S' H4 := (k1.trans k2).trans k4
    refine ⟨_, wipeD ρ vs, S', _, w4, (r.keep k04).wipe vs, rs4, q3, fun ρ5 S5 σ5 H5 q5 k5 rs5 r5 hw => ?_⟩
    refine ⟨?_, ρ5, S5, _, r5, rs5, q5, fun b S6 H6 q6 k6 rs6 => ?_⟩
    · rw [hw, wipe_twice]
    · have k16 : Keep S1 H1 S6 H6 := ((k2.trans k4).trans k5).trans k6
      cases b with
      | false => exact ⟨S6, acc, k16, rs6, q6⟩
      | true =>
        refine ⟨ρ5, S6, _, r5.keep k6, rs6, q6, fun src1 S7 J1 H7 q7 k7 rs7 w7 => ?_⟩
        have r7 : RepSt K S7 H7 ρ5 σ5 := (r5.keep k6).keep k7
        refine ⟨fun j m1 H8 => ∃ S8 acc8, Keep S7 H7 S8 H8 ∧ RS K S8 H8 ∧ m1 = src1.items.length - j ∧ j ≤ src1.items.length ∧ compD p src1.live g1 tt1 te (wipeD ρ5 vs1) (fun acc' S' => comp2D p src.live g tt ti1 g1 tt1 te vs1 (wipeD ρ vs) (fun acc S' => Qd (.lst acc) (era S' p)) (src.items.drop (i + 1)) acc' S') (src1.items.drop j) acc8 S8,
          ⟨_, S7, acc, Keep.refl, rs7, rfl, Nat.zero_le _, by simpa using q7⟩, ?_⟩
        rintro j m1 H8 ⟨S8, acc8, k8, rs8, rfl, hj, q8⟩
        have lv1 := compD_live q8
        by_cases hlt1 : j < src1.items.length
        · have ed1 : src1.items.drop j = src1.items[j] :: src1.items.drop (j + 1) := List.drop_eq_getElem_cons hlt1
          rw [ed1] at q8
          obtain ⟨_, q8⟩ := q8
          refine .inr ⟨w7.go j S8 H8 hlt1 k8 rs8 lv1, fun H9 => ∃ S9 acc9, Keep S7 H7 S9 H9 ∧ RS K S9 H9 ∧ compD p src1.live g1 tt1 te (wipeD ρ5 vs1) (fun acc' S' => comp2D p src.live g tt ti1 g1 tt1 te vs1 (wipeD ρ vs) (fun acc S' => Qd (.lst acc) (era S' p)) (src.items.drop (i + 1)) acc' S') (src1.items.drop (j + 1)) acc9 S9, fun H9 ⟨S9, acc9, b1, b2, b3⟩ => ⟨src1.items.length - (j + 1), by omega, S9, acc9, b1, b2, rfl, hlt1, b3⟩, fun x1 H9 y1 => ?_⟩
          obtain ⟨k9, rs9, w9⟩ := w7.yld j src1.items[j] S8 H8 x1 H9 (by simp [hlt1]) k8 rs8 lv1 y1
          have k79 : Keep S7 H7 S8 H9 := k8.trans k9
          refine ⟨_, wipeD ρ5 vs1, S8, _, w9, (r7.keep k79).wipe vs1, rs9, q8, fun ρa Sa σa Ha qa ka rsa ra hwa => ?_⟩
          refine ⟨?_, ρa, Sa, _, ra, rsa, qa, fun b Sb Hb qb kb rsb => ?_⟩
          · rw [hwa, wipe_twice]
          · have k7b : Keep S7 H7 Sb Hb := (k79.trans ka).trans kb
            cases b with
            | false => exact ⟨Sb, acc8, k7b, rsb, qb⟩
            | true =>
              refine ⟨ρa, Sb, _, ra.keep kb, rsb, qb, fun d Sc v Hc ⟨qc, hz, qd⟩ kc rsc wc => ?_⟩
              obtain ⟨us, xc, wd⟩ := rsc.lst qc
              refine ⟨us, xc, by rw [← wd.length]; exact hz, _, acc8 ++ [d], (k7b.trans kc).trans (keep_put (by rw [qc]; simp)), rs_put rsc (by rw [qc]; simp) .lst (wd.append (.cons wc .nil)), qd⟩
        · have e1 : j = src1.items.length := by omega
          subst e1
          have ed1 : src1.items.drop src1.items.length = [] := List.drop_eq_nil_of_le (Nat.le_refl _)
          rw [ed1] at q8
          obtain ⟨_, _, q8⟩ := q8
          exact .inl ⟨w7.stop S8 H8 k8 rs8 lv1, S8, acc8, (k16.trans k7).trans k8, rs8, q8⟩
  · have e : i = src.items.length := by omega
    subst e
    have ed : src.items.drop src.items.length = [] := List.drop_eq_nil_of_le (Nat.le_refl _)
    rw [ed] at q3
    obtain ⟨_, hpa, q3⟩ := q3
    exact .inl ⟨w1.stop S' H' k2 rs2 lv, k _ _ _ H' q3 ((k1.trans k2).trans Less.era.keep) (rs2.less Less.era) (rep_freeze rs2 hpa)⟩
section
variable {elt iter tg1 iter1 : Expr} {ifs ifs1 : List Expr} {scope : Scope} {own : List (Str × Nat)} {vs1 : List Nat} {ti ti1 : DTI} {g g1 : DTG} {tt tt1 : DTT} {te : DTE}
theorem de_lc2 (hc : X.calm = true) (hN : X.N.Nodup) (hi : DI X tg iter ti) (ok : BlkOk X.N X.env.scope scope own) (hv : ∀ i ∈ vs1, i ∈ own.map (·.2))
    (hg : ∀ (s : Shared) (H : Hp) (C : Addr) (cl : List (Str × Addr)) (fp : List Addr), DGv (X.blk s H scope (compEnvC scope cl C X.env) fp) tg (own.map (·.2)) g) (ht : ∀ (s : Shared) (H : Hp) (C : Addr) (cl : List (Str × Addr)) (fp : List Addr), DTsts (X.blk s H scope (compEnvC scope cl C X.env) fp) ifs tt)
    (hi1 : ∀ (s : Shared) (H : Hp) (C : Addr) (cl : List (Str × Addr)) (fp : List Addr), DI (X.blk s H scope (compEnvC scope cl C X.env) fp) tg1 iter1 ti1)
    (hg1 : ∀ (s : Shared) (H : Hp) (C : Addr) (cl : List (Str × Addr)) (fp : List Addr), DGv (X.blk s H scope (compEnvC scope cl C X.env) fp) tg1 vs1 g1) (ht1 : ∀ (s : Shared) (H : Hp) (C : Addr) (cl : List (Str × Addr)) (fp : List Addr), DTsts (X.blk s H scope (compEnvC scope cl C X.env) fp) ifs1 tt1)
    (he : ∀ (s : Shared) (H : Hp) (C : Addr) (cl : List (Str × Addr)) (fp : List Addr), DE (X.blk s H scope (compEnvC scope cl C X.env) fp) elt te) (hs : ∀ x, foldedSetIterable iter X.env x = pure x := by intro _; rfl) (hs1 : ∀ (env : Env) x, foldedSetIterable iter1 env x = pure x := by intro _ _; rfl) :
    DE X (.ListComp elt [⟨tg, iter, ifs, 0⟩, ⟨tg1, iter1, ifs1, 0⟩] scope pos) (dLc2 ti g tt ti1 g1 tt1 te (own.map (·.2)) vs1) :=
  PE.mono (pe_lc2 hc hN hi ok hv hg ht hi1 hg1 ht1 he hs hs1) fun _ _ _ => lc2_lift
theorem ds_setLc2 {i : Nat} {y : Str} {py spos : Pos} (hc : X.calm = true) (hN : X.N.Nodup) (hy : X.N[i]? = some y) (hyl : X.env.scope.names.lookup y = some .local)
    (hsw : swapsWith (.ListComp elt [⟨tg, iter, ifs, 0⟩, ⟨tg1, iter1, ifs1, 0⟩] scope pos) (some (.Name y py)) spos.line X.env = pure true) (hi : DI X tg iter ti) (ok : BlkOk X.N X.env.scope scope own) (hv : ∀ i ∈ vs1, i ∈ own.map (·.2))
    (hg : ∀ (s : Shared) (H : Hp) (C : Addr) (cl : List (Str × Addr)) (fp : List Addr), DGv (X.blk s H scope (compEnvC scope cl C X.env) fp) tg (own.map (·.2)) g) (ht : ∀ (s : Shared) (H : Hp) (C : Addr) (cl : List (Str × Addr)) (fp : List Addr), DTsts (X.blk s H scope (compEnvC scope cl C X.env) fp) ifs tt)
    (hi1 : ∀ (s : Shared) (H : Hp) (C : Addr) (cl : List (Str × Addr)) (fp : List Addr), DI (X.blk s H scope (compEnvC scope cl C X.env) fp) tg1 iter1 ti1)
    (hg1 : ∀ (s : Shared) (H : Hp) (C : Addr) (cl : List (Str × Addr)) (fp : List Addr), DGv (X.blk s H scope (compEnvC scope cl C X.env) fp) tg1 vs1 g1) (ht1 : ∀ (s : Shared) (H : Hp) (C : Addr) (cl : List (Str × Addr)) (fp : List Addr), DTsts (X.blk s H scope (compEnvC scope cl C X.env) fp) ifs1 tt1)
    (he : ∀ (s : Shared) (H : Hp) (C : Addr) (cl : List (Str × Addr)) (fp : List Addr), DE (X.blk s H scope (compEnvC scope cl C X.env) fp) elt te) (hs : ∀ x, foldedSetIterable iter X.env x = pure x := by intro _; rfl) (hs1 : ∀ (env : Env) x, foldedSetIterable iter1 env x = pure x := by intro _ _; rfl) :
    DS X (.Assign [.Name y py] (.ListComp elt [⟨tg, iter, ifs, 0⟩, ⟨tg1, iter1, ifs1, 0⟩] scope pos) spos) (dAsg (dLc2 ti g tt ti1 g1 tt1 te (own.map (·.2)) vs1) (dgName i)) :=
  PS.mono (ps_setLc2 hc hN hy hyl hsw hi ok hv hg ht hi1 hg1 ht1 he hs hs1) fun _ _ _ => asg_lift fun _ _ _ => lc2_lift
end
/-! ### l[::-1] -/
def dRev (te : DTE) : DTE := fun ρ S Q => te ρ S fun x S1 => match x with
  | .nd .lst ds => Q (.lst ds.reverse) S1
  | _ => False
theorem de_rev {te : DTE} {k : Nat} {p1 p2 p3 : Pos} (h : DE X e te) : DE X (.Subscript e (.Slice none none (some (.UnaryOp .USub (.Constant (.int 1) k p1) p2)) p3) pos) (dRev te) :=
  PE.mono (pe_revL h) fun σ H Q ⟨ρ, S, Qd, r, rs, q, k0⟩ => by
    refine ⟨ρ, S, _, r, rs, q, fun x S1 xv H1 q1 k1 rs1 w1 => ?_⟩
    match x, q1 with
    | .nd .lst ds, q1 =>
      obtain ⟨a, vs, rfl, n, h, rr⟩ := w1.seqL
      exact ⟨a, vs, rfl, SqL.of h, fun p hp => k0 _ _ _ _ q1 (k1.trans (keep_newF hp)) (rs_newF rs1 hp) (rep_newF rs1 hp .lst rr.reverse)⟩
/-! ### l.index(n), of ints -/
def intsOf : List D → Option (List Int)
  | [] => some []
  | .int i :: ds => (intsOf ds).map (i :: ·)
  | _ => none
theorem RepL.intsV {S : DHp} {H : Hp} : ∀ {ds : List D} {vs : List V} {ns : List Int}, RepL K S H ds vs → intsOf ds = some ns → vs = ns.map V.int
  | _, _, _, .nil, h => by cases h; rfl
  | .int b :: ds, _, bs, .cons .int t, h => by
    rw [intsOf] at h
    cases q : intsOf ds with
    | none => rw [q] at h; cases h
    | some cs => rw [q] at h; cases h; rw [RepL.intsV t q]; rfl
def mIndex : DMt := fun x xs S Q => match x, xs with
  | .nd .lst ds, [.int i] => match intsOf ds with
    | some ns => ∃ j : Nat, ns[j]? = some i ∧ (∀ m, m < j → ns[m]? ≠ some i) ∧ Q (.int j) S
    | none => False
  | _, _ => False
theorem m_index : MtR X "list.index" (rMt X.K mIndex) := MtR.mono mt_index fun x xs H Q ⟨d, ds, S, Qd, w, ws, rs, q, k⟩ => by
  match d, ds, q with
  | .nd .lst es, [.int i], q =>
    cases ws with
    | cons wy w2 =>
      cases w2
      cases wy
      unfold mIndex at q
      cases e : intsOf es with
      | none => simp only [e] at q
      | some ns =>
        simp only [e] at q
        obtain ⟨j, h1, h2, q⟩ := q
        obtain ⟨a, vs, rfl, _, h, rr⟩ := w.seqL
        have ev := RepL.intsV rr e
        subst ev
        refine ⟨a, _, .int i, j, .int i, rfl, rfl, SqL.of h, rfl, ?_, by rw [List.getElem?_map, h1]; rfl, by simp [eqV], fun m z hm hz => ?_, k _ S _ H q Keep.refl rs .int⟩
        · rw [List.all_eq_true]
          intro v hv
          obtain ⟨n, _, rfl⟩ := List.mem_map.mp hv
          rfl
        · rw [List.getElem?_map] at hz
          cases en : ns[m]? with
          | none => rw [en] at hz; cases hz
          | some n =>
            rw [en] at hz
            cases hz
            have := h2 m hm
            rw [en] at this
            have hne : n ≠ i := fun z => this (by rw [z])
            simp [eqV, hne]
/-! ### len(set(l)), of ints of which none stands twice -/
def dLenSetI (te : DTE) : DTE := fun ρ S Q => te ρ S fun x S1 => match x with
  | .nd .lst ds => match intsOf ds with
    | some ns => (ns.length < 64 ∧ ns.Nodup) ∧ Q (.int ns.length) S1
    | none => False
  | _ => False
theorem de_lenSetI {te : DTE} {p p2 q pos : Pos} (hc : X.calm = true) (hg : Gl X "len") (hm : X.mg "len" = none) (hg2 : Gl X "set") (hm2 : X.mg "set" = none) (ha : DE X a te) (hs : starEach [a] X.env = (false, eval a X.env) :: starEach [] X.env := by rfl) :
    DE X (.Call (.Name "len" p) [.Call (.Name "set" p2) [a] [] q] [] pos) (dLenSetI te) :=
  PE.mono (pe_lenSetI hc hg hm hg2 hm2 ha hs) fun σ H Q ⟨ρ, S, Qd, r, rs, q, k0⟩ => by
    refine ⟨ρ, S, _, r, rs, q, fun x S1 xv H1 q1 k1 rs1 w1 => ?_⟩
    match x, q1 with
    | .nd .lst ds, q1 =>
      cases e : intsOf ds with
      | none => simp only [e] at q1
      | some ns =>
        simp only [e] at q1
        obtain ⟨⟨c1, c2⟩, q1⟩ := q1
        obtain ⟨l, vs, rfl, _, h, rr⟩ := w1.seqL
        have ev := RepL.intsV rr e
        subst ev
        exact ⟨l, ns, rfl, SqL.of h, c1, c2, k0 _ S1 _ H1 q1 k1 rs1 .int⟩
/-! ### x += n, of ints -/
def sAug (i : Nat) (f : Int → Int → Int) (te : DTE) : DTS := fun E ρ S => match slot ρ i with
  | some (.int x) => te ρ S fun y S1 => match y with
    | .int y => E.nx (ρ.set i (some (.int (f x y)))) S1
    | _ => False
  | _ => False
theorem ds_augI {i : Nat} {x : Str} {te : DTE} {op : Operator} {pos' : Pos} {f : Int → Int → Int} (hN : X.N.Nodup) (hi : X.N[i]? = some x) (hx : L2.Loc X.env.scope x) (he : DE X e te) (ho : PIp X op (ipI f)) (hl : X.fn x = true ∨ List.lookup x X.env.scope.names = some .local := by first | exact Or.inl rfl | exact Or.inr rfl) :
    DS X (.AugAssign (.Name x pos') op e pos) (sAug i f te) := PS.mono (ps_aug hN hi hx he ho hl) fun D σ H h => by
  obtain ⟨ρ, S, E, r, rs, q, F⟩ := liftS_el h
  unfold sAug at q
  cases es : slot ρ i with
  | none => simp only [es] at q
  | some d =>
    cases d with
    | int xi =>
      simp only [es] at q
      obtain ⟨v, ev, w⟩ := r.at_ i _ (slot_eq es)
      cases w
      refine ⟨.int xi, ev, ρ, S, _, r, rs, q, fun y S1 yv H1 q1 k1 rs1 w1 => ?_⟩
      match y, q1 with
      | .int y, q1 =>
        cases w1
        exact ⟨xi, y, rfl, rfl, F.nx _ S1 _ H1 q1 k1 rs1 ((r.keep k1).set .int)⟩
    | _ => simp only [es] at q
end
/-! ### is_integer -/
abbrev N_is_integer : List Str := ["value"]
def t_is_integer : DTS := (dRet (dAndV (dBlt bIsi (dCons (dVar 0) (dCons (dC (.ty "int")) dNil))) (dNotV (dBlt bIsi (dCons (dVar 0) (dCons (dC (.ty "bool")) dNil))))))
/-! ### is_name -/
abbrev N_is_name : List Str := ["value"]
def t_is_name : DTS := (dSeq (dIfS (dOr (dNot (dTst (dBlt bIsi (dCons (dVar 0) (dCons (dC (.ty "str")) dNil))))) (dTst (dOp oGt (dBlt bLen (dCons (dVar 0) dNil)) (dC (.int 8)))))
    (dRet (dC (.bl false)))
    dNext)
    (dRet (dAndV (dBm0 "str" mIsAscii (dVar 0) ) (dAndV (dBm0 "str" mIsAlpha (dVar 0) ) (dBm0 "str" mIsLower (dVar 0) )))))
/-! ### is_row -/
abbrev N_is_row : List Str := ["value", "many"]
def t_is_row : DTS := (dRet (dAndV (dBlt bIsi (dCons (dVar 0) (dCons (dC (.ty "tuple")) dNil))) (dOp (oEq false) (dBlt bLen (dCons (dVar 0) dNil)) (dVar 1))))
/-! ### ascends -/
abbrev N_ascends : List Str := ["rows", "k"]
def t_ascends : DTS := (dRet (dBlt bAll (dCons (dLc (dRng1 (dCons (dOp oSub (dBlt bLen (dCons (dVar 0) dNil)) (dC (.int 1))) dNil)) (dgName 1) dYes (dOp oLt (dOp oIx (dVar 0) (dVar 1)) (dOp oIx (dVar 0) (dOp oAdd (dVar 1) (dC (.int 1))))) [1]) dNil)))
/-! ### are_names -/
abbrev N_are_names : List Str := ["value", "name"]
def t_are_names (sp_is_name : DSp) (sp_ascends : DSp) : DTS := (dRet (dAndV (dBlt bIsi (dCons (dVar 0) (dCons (dC (.ty "tuple")) dNil))) (dAndV (dBlt bAll (dCons (dLc (dSeqI (dVar 0)) (dgName 1) dYes (dCall sp_is_name (dCons (dVar 1) dNil)) [1]) dNil)) (dCall sp_ascends (dCons (dVar 0) dNil)))))
/-! ### is_word -/
abbrev N_is_word : List Str := ["value"]
def t_is_word (sp_is_integer : DSp) : DTS := (dRet (dOrV (dBlt bIsi (dCons (dVar 0) (dCons (dC (.ty "str")) dNil))) (dCall sp_is_integer (dCons (dVar 0) dNil))))
/-! ### is_told -/
abbrev N_is_told : List Str := ["value", "told"]
def t_is_told (sp_is_row : DSp) (sp_is_word : DSp) : DTS := (dSeq (dIfS (dTst (dCall sp_is_row (dCons (dVar 0) (dCons (dC (.int 2)) dNil))))
    (dRet (dAndV (dCall sp_is_word (dCons (dOp oIx (dVar 0) (dC (.int 0))) dNil)) (dAndV (dCall sp_is_word (dCons (dOp oIx (dVar 0) (dC (.int 1))) dNil)) (dOp (oIn false) (dVar 0) (dVar 1)))))
    dNext)
    (dRet (dAndV (dCall sp_is_word (dCons (dVar 0) dNil)) (dOp (oIn false) (dVar 0) (dVar 1)))))
/-! ### is_pair -/
abbrev N_is_pair : List Str := ["value", "told", "one", "other"]
def t_is_pair (sp_is_row : DSp) (sp_is_told : DSp) : DTS := (dSeq (dIfS (dNot (dTst (dCall sp_is_row (dCons (dVar 0) (dCons (dC (.int 2)) dNil)))))
    (dRet (dC (.bl false)))
    dNext)
    (dSeq (dAsg (dVar 0) (dgTup 2 (dgCons (dgName 2) (dgCons (dgName 3) dgNil))))
    (dRet (dAndV (dCall sp_is_told (dCons (dVar 2) (dCons (dVar 1) dNil))) (dAndV (dCall sp_is_told (dCons (dVar 3) (dCons (dVar 1) dNil))) (dOp oLt (dVar 2) (dVar 3)))))))
/-! ### in_order -/
abbrev N_in_order : List Str := ["rows", "middle"]
def t_in_order (sp_merged : DSp) (sp_in_order : DSp) : DTS := (dSeq (dIfS (dTst (dOp oLt (dBlt bLen (dCons (dVar 0) dNil)) (dC (.int 2))))
    (dRet (dBlt bLstF (dCons (dVar 0) dNil)))
    dNext)
    (dSeq (dAsg (dOp oFdiv (dBlt bLen (dCons (dVar 0) dNil)) (dC (.int 2))) (dgName 1))
    (dRet (dCall sp_merged (dCons (dCall sp_in_order (dCons (dSl (dVar 0) dNoPart (dPart (dVar 1))) dNil)) (dCons (dCall sp_in_order (dCons (dSl (dVar 0) (dPart (dVar 1)) dNoPart) dNil)) dNil))))))
/-! ### merged -/
abbrev N_merged : List Str := ["low", "high", "both", "done", "row"]
def t_merged : DTS := (dSeq (dAsg (dLst dNil) (dgName 2))
    (dSeq (dAsg (dC (.int 0)) (dgName 3))
    (dSeq (dFor (dSeqI (dVar 1)) (dgName 4)
    (dSeq (dWhile (dAnd (dTst (dOp oLt (dVar 3) (dBlt bLen (dCons (dVar 0) dNil)))) (dTst (dOp oLe (dOp oIx (dVar 0) (dVar 3)) (dVar 4))))
    (dSeq (dDrop (dBm "list" mAppend (dVar 2) (dCons (dOp oIx (dVar 0) (dVar 3)) dNil)))
    (sAug 3 (fun i j => i + j) (dC (.int 1)))))
    (dDrop (dBm "list" mAppend (dVar 2) (dCons (dVar 4) dNil)))))
    (dRet (dOp oAdd (dVar 2) (dSl (dVar 0) (dPart (dVar 3)) dNoPart))))))
/-! ### is_town_crossing -/
abbrev N_is_town_crossing : List Str := ["value", "name", "ends", "straight", "signs", "end"]
def t_is_town_crossing (sp_is_row : DSp) (sp_is_name : DSp) (sp_is_integer : DSp) (sp_are_pairs : DSp) (sp_are_names : DSp) : DTS := (dSeq (dIfS (dNot (dTst (dCall sp_is_row (dCons (dVar 0) (dCons (dC (.int 4)) dNil)))))
    (dRet (dC (.bl false)))
    dNext)
    (dSeq (dAsg (dVar 0) (dgTup 4 (dgCons (dgName 1) (dgCons (dgName 2) (dgCons (dgName 3) (dgCons (dgName 4) dgNil))))))
    (dSeq (dIfS (dOr (dNot (dTst (dCall sp_is_name (dCons (dVar 1) dNil)))) (dOr (dNot (dTst (dCall sp_is_integer (dCons (dVar 2) dNil)))) (dNot (dTst (dChain2 oLe oLe (dC (.int 1)) (dVar 2) (dC (.int 20)))))))
    (dRet (dC (.bl false)))
    dNext)
    (dRet (dAndV (dCall sp_are_pairs (dCons (dVar 3) (dCons (dDc (dRng1 (dCons (dVar 2) dNil)) (dgName 5) dYes (dVar 5) (dC (.bl true)) [5]) dNil))) (dCall sp_are_names (dCons (dVar 4) dNil)))))))
/-! ### are_town_crossings -/
abbrev N_are_town_crossings : List Str := ["value", "row"]
def t_are_town_crossings (sp_is_town_crossing : DSp) (sp_ascends : DSp) : DTS := (dSeq (dIfS (dOr (dNot (dTst (dBlt bIsi (dCons (dVar 0) (dCons (dC (.ty "tuple")) dNil))))) (dTst (dOp (oEq false) (dVar 0) (dTup dNil))))
    (dRet (dC (.bl false)))
    dNext)
    (dRet (dAndV (dBlt bAll (dCons (dLc (dSeqI (dVar 0)) (dgName 1) dYes (dCall sp_is_town_crossing (dCons (dVar 1) dNil)) [1]) dNil)) (dCall sp_ascends (dCons (dLc (dSeqI (dVar 0)) (dgName 1) dYes (dOp oIx (dVar 1) (dC (.int 0))) [1]) dNil)))))
/-! ### ways_across -/
abbrev N_ways_across : List Str := ["streets", "found", "one", "other"]
def t_ways_across : DTS := (dSeq (dAsg dNewT (dgName 1))
    (dSeq (dFor (dSeqI (dVar 0)) (dgTup 2 (dgCons (dgName 2) (dgCons (dgName 3) dgNil)))
    (dSeq (sDput (dVar 1) (dVar 2) (dVar 3))
    (sDput (dVar 1) (dVar 3) (dVar 2))))
    (dRet (dFrz (dVar 1)))))
/-! ### is_choice -/
abbrev N_is_choice : List Str := ["value"]
def t_is_choice (sp_is_row : DSp) (sp_is_integer : DSp) : DTS := (dSeq (dIfS (dOr (dTst (dOp (oEq false) (dVar 0) (dTup (dCons (dC (.str "on")) dNil)))) (dTst (dOp (oEq false) (dVar 0) (dTup (dCons (dC (.str "back")) dNil)))))
    (dRet (dC (.bl true)))
    dNext)
    (dSeq (dIfS (dOr (dNot (dTst (dCall sp_is_row (dCons (dVar 0) (dCons (dC (.int 2)) dNil))))) (dNot (dTst (dCall sp_is_integer (dCons (dOp oIx (dVar 0) (dC (.int 1))) dNil)))))
    (dRet (dC (.bl false)))
    dNext)
    (dRet (dAndV (dOrV (dOp (oEq false) (dOp oIx (dVar 0) (dC (.int 0))) (dC (.str "left"))) (dOp (oEq false) (dOp oIx (dVar 0) (dC (.int 0))) (dC (.str "right")))) (dChain2 oLe oLe (dC (.int 1)) (dOp oIx (dVar 0) (dC (.int 1))) (dC (.int 3)))))))
/-! ### straight_from -/
abbrev N_straight_from : List Str := ["straight", "end", "one", "other"]
def t_straight_from : DTS := (dSeq (dFor (dSeqI (dVar 0)) (dgTup 2 (dgCons (dgName 2) (dgCons (dgName 3) dgNil)))
    (dSeq (dIfS (dTst (dOp (oEq false) (dVar 2) (dVar 1)))
    (dRet (dVar 3))
    dNext)
    (dIfS (dTst (dOp (oEq false) (dVar 3) (dVar 1)))
    (dRet (dVar 2))
    dNext)))
    (dRet (dC .non)))
/-! ### mirrored_crossing -/
abbrev N_mirrored_crossing : List Str := ["crossing", "name", "ends", "straight", "signs", "turned", "one", "other"]
def t_mirrored_crossing (sp_mirrored_end : DSp) (sp_in_pairs : DSp) : DTS := (dSeq (dAsg (dVar 0) (dgTup 4 (dgCons (dgName 1) (dgCons (dgName 2) (dgCons (dgName 3) (dgCons (dgName 4) dgNil))))))
    (dSeq (dAsg (dLc (dSeqI (dVar 3)) (dgTup 2 (dgCons (dgName 6) (dgCons (dgName 7) dgNil))) dYes (dTup (dCons (dCall sp_mirrored_end (dCons (dVar 2) (dCons (dVar 6) dNil))) (dCons (dCall sp_mirrored_end (dCons (dVar 2) (dCons (dVar 7) dNil))) dNil))) [6, 7]) (dgName 5))
    (dRet (dTup (dCons (dVar 1) (dCons (dVar 2) (dCons (dCall sp_in_pairs (dCons (dVar 5) dNil)) (dCons (dVar 4) dNil))))))))
/-! ### mirrored_end -/
abbrev N_mirrored_end : List Str := ["ends", "end"]
def t_mirrored_end : DTS := (dRet (dOp oMod (dOp oSub (dVar 0) (dVar 1)) (dVar 0)))
/-! ### in_pairs -/
abbrev N_in_pairs : List Str := ["pairs", "one", "other"]
def t_in_pairs (sp_in_order : DSp) : DTS := (dRet (dBlt bTup (dCons (dCall sp_in_order (dCons (dLc (dSeqI (dVar 0)) (dgTup 2 (dgCons (dgName 1) (dgCons (dgName 2) dgNil))) dYes (dIf (dTst (dOp oLt (dVar 1) (dVar 2))) (dTup (dCons (dVar 1) (dCons (dVar 2) dNil))) (dTup (dCons (dVar 2) (dCons (dVar 1) dNil)))) [1, 2]) dNil)) dNil)))
/-! ### sides_of -/
abbrev N_sides_of : List Str := ["ends", "on", "behind", "others", "at", "k"]
def t_sides_of : DTS := (dSeq (dAsg (dLc (dRng2 (dCons (dC (.int 1)) (dCons (dVar 0) dNil))) (dgName 5) dYes (dOp oMod (dOp oAdd (dVar 2) (dVar 5)) (dVar 0)) [5]) (dgName 3))
    (dSeq (dIfS (dTst (dOp (oIs false) (dVar 1) (dC .non)))
    (dRet (dTup (dCons (dVar 3) (dCons (dRev (dVar 3)) dNil))))
    dNext)
    (dSeq (dAsg (dBm "list" mIndex (dVar 3) (dCons (dVar 1) dNil)) (dgName 4))
    (dRet (dTup (dCons (dSl (dVar 3) dNoPart (dPart (dVar 4))) (dCons (dRev (dSl (dVar 3) (dPart (dOp oAdd (dVar 4) (dC (.int 1)))) dNoPart)) dNil)))))))
/-! EC: {k: v for .. for ..} with keys that are tuples: the loops. -/
/-- a dict comprehension with two fors and no if -/
abbrev dc2 (kx vx t0 i0 t1 i1 : Expr) (scope : Scope) (pos : Pos) : Expr := .DictComp kx vx [⟨t0, i0, [], 0⟩, ⟨t1, i1, [], 0⟩] scope pos
section
variable {prog : Program} {w : World} {A : Around} {R : Result → Shared → Prop} {s : Shared} {kx vx t0 i0 t1 i1 : Expr} {scope : Scope} {pos : Pos} {it : Value} {D : Addr} {env : Env}
theorem dturn0 : compTurn (dc2 kx vx t0 i0 t1 i1 scope pos) 0 it (.ref D) env = (do
    standAt i0.pos
    match ← pyNext it with
    | none => pure (.done .next)
    | some v =>
      letOwnedTupleGo t0 it v
      assign t0 env v
      let x ← eval i1 env
      standAt i1.pos
      let x ← foldedSetIterable i1 env x
      let _ ← runOwn (.compStart (dc2 kx vx t0 i0 t1 i1 scope pos) 1 (← holding [x] (pyIter x)) (.ref D) env) env
      again (.compLoop (dc2 kx vx t0 i0 t1 i1 scope pos) 0 it (.ref D) env)) := by rfl
theorem dturn1 : compTurn (dc2 kx vx t0 i0 t1 i1 scope pos) 1 it (.ref D) env = (do
    standAt i1.pos
    match ← pyNext it with
    | none => pure (.done .next)
    | some v =>
      letOwnedTupleGo t1 it v
      assign t1 env v
      (do
        let kv ← eval kx env
        let vv ← holding [kv] (eval vx env)
        standAt { kx.pos with endLine := vx.pos.endLine, endCol := vx.pos.endCol }
        holding [kv, vv] (dictSet D kv vv))
      again (.compLoop (dc2 kx vx t0 i0 t1 i1 scope pos) 1 it (.ref D) env)) := by rfl
/-- an end that is never an error -/
abbrev wpN {α : Type} (P : Program) (w : World) (A : Around) (m : Sem α) (Q : α → Shared → Prop) (s : Shared) : Prop := wpAny (model P w) A m Q (fun _ _ => False) s
theorem dloop0 (hs : ∀ x, foldedSetIterable i1 env x = pure x) (I : Nat → Shared → Prop)
    (turn : ∀ n s, I n s → wpN prog w A (pyNext it) (fun r s1 => match r with
      | none => R (.ok .next) s1
      | some v => wpN prog w A (letOwnedTupleGo t0 it v) (fun _ s2 => wpN prog w A (assign t0 env v) (fun _ s3 => wpN prog w A (eval i1 env) (fun x s4 => wpN prog w A (pyIter x) (fun j s5 =>
        codeAny (model prog w) A (.compStart (dc2 kx vx t0 i0 t1 i1 scope pos) 1 j (.ref D) env) (fun r z => match r with
          | .ok _ => ∃ m, m < n ∧ I m z
          | .error _ => False) s5) s4) s3) s2) s1) s)
    (n : Nat) (h : I n s) : codeAny (model prog w) A (.compLoop (dc2 kx vx t0 i0 t1 i1 scope pos) 0 it (.ref D) env) R s := by
  refine codeAny_loop rfl I (fun n s i => ?_) n h
  show wpAny _ A ((compTurn (dc2 kx vx t0 i0 t1 i1 scope pos) 0 it (.ref D) env).onRaise (fun x => do noteFrame x env; theTreesLotGoes x)) _ _ s
  apply wpAny_noted
  rw [dturn0]
  apply wpAny_bind
  apply wpAny_standAt
  apply wpAny_bind
  refine thnF (turn n s i) fun r s1 h1 => ?_
  cases r with
  | none => exact wpAny_pure h1
  | some v =>
    apply wpAny_bind
    refine thnF h1 fun _ s2 h2 => ?_
    apply wpAny_bind
    refine thnF h2 fun _ s3 h3 => ?_
    apply wpAny_bind
    refine thnF h3 fun x s4 h4 => ?_
    apply wpAny_bind
    apply wpAny_standAt
    apply wpAny_bind
    apply wpAny_of_eq (hs x)
    apply wpAny_bind
    apply wpAny_holding
    refine thnF h4 fun j s5 h5 => ?_
    apply wpAny_bind
    refine wpAny_runOwn ?_
    rw [Around.mark_none]
    refine codeAny_mono h5 fun r z hr => ?_
    cases r with
    | ok f => exact wpAny_pure ⟨rfl, hr⟩
    | error e => exact hr.elim
theorem dloop1 (I : Nat → Shared → Prop)
    (turn : ∀ n s, I n s → wpN prog w A (pyNext it) (fun r s1 => match r with
      | none => R (.ok .next) s1
      | some v => wpN prog w A (letOwnedTupleGo t1 it v) (fun _ s2 => wpN prog w A (assign t1 env v) (fun _ s3 => wpN prog w A (eval kx env) (fun k s4 => wpN prog w A (eval vx env) (fun y s5 =>
        wpN prog w A (dictSet D k y) (fun _ z => ∃ m, m < n ∧ I m z) s5) s4) s3) s2) s1) s)
    (n : Nat) (h : I n s) : codeAny (model prog w) A (.compLoop (dc2 kx vx t0 i0 t1 i1 scope pos) 1 it (.ref D) env) R s := by
  refine codeAny_loop rfl I (fun n s i => ?_) n h
  show wpAny _ A ((compTurn (dc2 kx vx t0 i0 t1 i1 scope pos) 1 it (.ref D) env).onRaise (fun x => do noteFrame x env; theTreesLotGoes x)) _ _ s
  apply wpAny_noted
  rw [dturn1]
  apply wpAny_bind
  apply wpAny_standAt
  apply wpAny_bind
  refine thnF (turn n s i) fun r s1 h1 => ?_
  cases r with
  | none => exact wpAny_pure h1
  | some v =>
    apply wpAny_bind
    refine thnF h1 fun _ s2 h2 => ?_
    apply wpAny_bind
    refine thnF h2 fun _ s3 h3 => ?_
    apply wpAny_bind
    apply wpAny_bind
    refine thnF h3 fun k s4 h4 => ?_
    apply wpAny_bind
    apply wpAny_holding
    refine thnF h4 fun y s5 h5 => ?_
    apply wpAny_bind
    apply wpAny_standAt
    apply wpAny_holding
    refine thnF h5 fun _ z hz => ?_
    exact wpAny_pure ⟨rfl, hz⟩
theorem dstart1 (h0 : codeAny (model prog w) A (.compLoop (dc2 kx vx t0 i0 t1 i1 scope pos) 1 it (.ref D) env) R s)
    (h : wpN prog w A (pyIter it) (fun j z => codeAny (model prog w) A (.compLoop (dc2 kx vx t0 i0 t1 i1 scope pos) 1 j (.ref D) env) R z) s) :
    codeAny (model prog w) A (.compStart (dc2 kx vx t0 i0 t1 i1 scope pos) 1 it (.ref D) env) R s := by
  apply codeAny_of_tree
  show wpAny _ _ ((compStart (dc2 kx vx t0 i0 t1 i1 scope pos) 1 it (.ref D) env).onRaise (fun x => do noteFrame x env; standAt theWindowsPlace)) _ _ s
  apply wpAny_notedAt
  unfold compStart
  show wpAny _ _ (ask >>= _) _ _ s
  apply wpAny_bind
  apply wpAny_askSetting
  apply wpAny_ite
  split
  · first
      | exact wpAny_bind (wpAny_pure (wpAny_pure ⟨rfl, h0⟩))
      | exact wpAny_pure ⟨rfl, h0⟩
  · have on : ∀ {F : Value → Shared → Prop} {Q : Value → Shared → Prop}, (∀ j z, codeAny (model prog w) A (.compLoop (dc2 kx vx t0 i0 t1 i1 scope pos) 1 j (.ref D) env) R z → Q j z) → wpAny (model prog w) A (pyIter it) Q F s := fun k => thnF h k
    first
      | exact wpAny_bind (wpAny_rule (wpAny_bind (wpAny_standAt (wpAny_bind (on fun j z q => wpAny_pure ⟨rfl, q⟩)))))
      | (apply wpAny_bind; apply wpAny_rule; show wpAny _ _ (standAt i1.pos >>= _) _ _ s; exact wpAny_bind (wpAny_standAt (wpAny_bind (on fun j z q => wpAny_pure ⟨rfl, q⟩))))
end
/-! ED: {k: v for .. for ..}, keys tuples of texts and ints. -/
section
variable {X : Cx} {K : PySem.W.Frag}
theorem put_tup {pins : List (Addr × PySem.Obj)} {σ : St} {H : Hp} {s : Shared} {D b : Addr} {kvs : List (List Key × V)} {k : List Key} {v : V} {u : Value} {F : Value → Shared → Prop} {Q : Unit → Shared → Prop} (hu : X.A.units < cLine) (I : Inv X pins σ H s)
    (e : H D = some (.dT kvs)) (eb : H b = some (.tup (k.map kV))) (l : kvs.length < sizeLine) (rv : RelV v u) (q : ∀ z, Inv X pins σ (upd H D (.dT (putK kvs k v))) z → Q () z) : wpAny (model X.prog X.w) X.A (dictSet D (.ref b) u) Q F s := by
  obtain ⟨z, ns, xs, rel, dd⟩ := dt_of I.hok e
  have sz : xs.length ≤ sizeLine := by rw [← Paired.length rel]; exact z
  have sz2 : (putK kvs k v).length ≤ sizeLine := by have := length_putK kvs k v; omega
  refine wpAny_dictSet_heap (knd := tupleKind (mixKind X.prog X.w)) (hsz := sz) hu (key_of I.hok eb) dd fun h2 d2 sb => q _ ?_
  obtain ⟨ob, es, ep, at_, c2, c3, c4, _, c5⟩ := d2
  refine d_write I (by rw [e]; exact True.intro) sb ⟨ob, at_⟩ ⟨sz2, ns, _, (rel.put k eb rv).keeps fun c ys ec => ?_, ob, es, ep, at_, c2, c3, c4, c5⟩
  rw [upd_ne (ne_of ec e (by intro y; cases y))]
  exact ec
/-- behind a source's item the other source's own loop -/
def tDc2 (wi : TI) (g : TG) (wi1 : TI) (g1 : TG) (tk tv : TE) (vs vs1 : List Nat) : TE := fun σ H Q => wi σ H fun J H1 => ∀ D, H1 D = none → ∃ W : Nat → Nat → Hp → Prop, (∃ m, W 0 m (upd H1 D (.dT []))) ∧ ∀ i m H, W i m H →
  (J.stop i H ∧ Q (.ref D) H) ∨ (J.go i H ∧ ∃ Nx : Hp → Prop, (∀ H', Nx H' → ∃ m', m' < m ∧ W (i + 1) m' H') ∧ ∀ x H', J.yld i H x H' → g x (L2.wipe σ vs) H' fun σ2 H2 => L2.wipe σ2 vs = L2.wipe σ vs ∧
    wi1 σ2 H2 fun J1 H4 => ∃ W1 : Nat → Nat → Hp → Prop, (∃ m, W1 0 m H4) ∧ ∀ j k H, W1 j k H →
      (J1.stop j H ∧ Nx H) ∨ (J1.go j H ∧ ∃ N1 : Hp → Prop, (∀ H', N1 H' → ∃ k', k' < k ∧ W1 (j + 1) k' H') ∧ ∀ x H', J1.yld j H x H' → g1 x (L2.wipe σ2 vs1) H' fun σ3 H5 => L2.wipe σ3 vs1 = L2.wipe σ2 vs1 ∧
        tk σ3 H5 fun y H6 => tv σ3 H6 fun z H7 => ∃ kvs k b, y = V.ref b ∧ H7 D = some (.dT kvs) ∧ H7 b = some (.tup (k.map kV)) ∧ kvs.length < sizeLine ∧ N1 (upd H7 D (.dT (putK kvs k z)))))
set_option maxHeartbeats 3200000 in
theorem dc2_run {pins : List (Addr × PySem.Obj)} {σ : St} {H : Hp} {s : Shared} {Q : VK} {kx vx t0 i0 t1 i1 : Expr} {scope : Scope} {own : List (Str × Nat)} {vs1 : List Nat} {pos at_ : Pos} {wi wi1 : TI} {g g1 : TG} {tk tv : TE} {use : Option (Value → Sem Unit)} {Qf : Value → Shared → Prop} (hu : X.A.units < cLine) (hc : X.calm = true) (hN : X.N.Nodup)
    (I : Inv X pins σ H s) (src : PI X t0 i0 wi) (ok : BlkOk X.N X.env.scope scope own) (sub : ∀ i ∈ vs1, i ∈ own.map (·.2))
    (pg : ∀ s H C cl fp, PG (X.blk s H scope (compEnvC scope cl C X.env) fp) t0 g) (pi : ∀ s H C cl fp, PI (X.blk s H scope (compEnvC scope cl C X.env) fp) t1 i1 wi1) (pg1 : ∀ s H C cl fp, PG (X.blk s H scope (compEnvC scope cl C X.env) fp) t1 g1)
    (pk : ∀ s H C cl fp, PE (X.blk s H scope (compEnvC scope cl C X.env) fp) kx tk) (pv : ∀ s H C cl fp, PE (X.blk s H scope (compEnvC scope cl C X.env) fp) vx tv)
    (hs : ∀ x, foldedSetIterable i0 X.env x = pure x) (hs1 : ∀ (e : Env) x, foldedSetIterable i1 e x = pure x) (h : tDc2 wi g wi1 g1 tk tv (own.map (·.2)) vs1 σ H Q)
    (back : ∀ D C s' m H', Inv X pins σ H' s' → Q (.ref D) H' → s'.heap.Ns C m → FpOk X pins H' C → compPost (model X.prog X.w) X.A X.xe use Qf (.ref D) C (.ok .next) s') :
    wpAny (model X.prog X.w) X.A (comprehension (dc2 kx vx t0 i0 t1 i1 scope pos) scope X.env at_ newDict false (eval i0 X.env) use) Qf X.xe s := by
  have fr : ∀ y ∈ scope.names, y.2 = .free → ∃ c, X.env.cells.lookup y.1 = some c := fun y hy e => by
    cases ok.free y hy e with
    | inl z => exact I.ok.has _ (.inl z)
    | inr z => exact I.ok.has _ (.inr z)
  refine wpAny_comprehension_free (use := use) rfl hs (closure_ok fr) ok.kind (fun y hy e => by rw [ok.uniq y hy, e]) (thn (src.run pins s σ H _ I h) fun _ s1 z => thn z fun _ s2 z => ?_)
  obtain ⟨it, fp, tn, J, H2, rfl, I2, T, st2, f2, q⟩ := z
  refine wpAny_newObj_type (newEnv_comp ?_)
  have dn : H2 s2.heap.objs.size = none := I2.hok.fresh (Nat.le_refl _)
  obtain ⟨W, ⟨m0, w0⟩, turn⟩ := q s2.heap.objs.size dn
  have I3 : Inv X pins σ (upd H2 s2.heap.objs.size (.dT [])) { s2 with heap := s2.heap.push { cls := .type "dict", data := .dict #[] } } :=
    I2.laid (t' := s2.toks) (fun _ _ e => Heap.get?_push_of_some _ e) (Nat.le_refl _) (dt_empty s2.heap I2.big)
  generalize es3 : ({ s2 with heap := s2.heap.push { cls := .type "dict", data := .dict #[] } } : Shared) = s3 at I3
  have eh3 : s3.heap = s2.heap.push { cls := .type "dict", data := .dict #[] } := by rw [← es3]
  have up : ∀ b o, s2.heap.get? b = some o → s3.heap.get? b = some o := fun b o e => by rw [eh3]; exact Heap.get?_push_of_some _ e
  generalize hD : s2.heap.objs.size = D at dn w0 turn I3
  have low : ∀ b ∈ fp, b < s2.heap.objs.size := fun b hb => by
    obtain ⟨o, e, _⟩ := T.obj _ _ st2 b hb
    exact Heap.lt_size e
  have ff : ∀ b ∈ fp, FpOk X pins (upd H2 D (.dT [])) b ∧ b < s3.heap.objs.size := fun b hb => by
    have lb := low b hb
    refine ⟨⟨?_, (f2 b hb).2⟩, by rw [eh3, Heap.size_push]; exact Nat.lt_succ_of_lt lb⟩
    rw [upd_ne (by rw [← hD]; exact Nat.ne_of_lt lb)]
    exact (f2 b hb).1
  have st3 : tn 0 s3.heap := T.keep _ _ _ st2 fun b _ o e => up b o e
  have I4 := block_start I3 ok hN ff
  show codeAny _ _ (.compStart (dc2 kx vx t0 i0 t1 i1 scope pos) 0 (.ref it) (.ref D) (compEnvC scope (cellsFrom (s3.heap.objs.size + 1) scope.names (cloFrom X.env.cells scope.names [])) s3.heap.objs.size X.env)) (compPost (model X.prog X.w) X.A X.xe use Qf (.ref D) s3.heap.objs.size) { s3 with heap := pushCells (s3.heap.push { cls := .type "dict", data := .dict #[] }) scope.names }
  have a0 := pg s3 (upd H2 D (.dT [])) s3.heap.objs.size (cellsFrom (s3.heap.objs.size + 1) scope.names (cloFrom X.env.cells scope.names [])) fp
  have a1 := pi s3 (upd H2 D (.dT [])) s3.heap.objs.size (cellsFrom (s3.heap.objs.size + 1) scope.names (cloFrom X.env.cells scope.names [])) fp
  have a2 := pg1 s3 (upd H2 D (.dT [])) s3.heap.objs.size (cellsFrom (s3.heap.objs.size + 1) scope.names (cloFrom X.env.cells scope.names [])) fp
  have a3 := pk s3 (upd H2 D (.dT [])) s3.heap.objs.size (cellsFrom (s3.heap.objs.size + 1) scope.names (cloFrom X.env.cells scope.names [])) fp
  have a4 := pv s3 (upd H2 D (.dT [])) s3.heap.objs.size (cellsFrom (s3.heap.objs.size + 1) scope.names (cloFrom X.env.cells scope.names [])) fp
  have nf : ∀ b ∈ fp, (upd H2 D (.dT [])) b = none := fun b hb => (ff b hb).1.1
  generalize ec : compEnvC scope (cellsFrom (s3.heap.objs.size + 1) scope.names (cloFrom X.env.cells scope.names [])) s3.heap.objs.size X.env = ce at I4 a0 a1 a2 a3 a4 ⊢
  have lo : ce.locals = s3.heap.objs.size := by subst ec; rfl
  generalize eH : upd H2 D (.dT []) = H3 at I3 I4 a0 a1 a2 a3 a4 w0 nf ff
  generalize es4 : ({ s3 with heap := pushCells (s3.heap.push { cls := .type "dict", data := .dict #[] }) scope.names } : Shared) = s4 at I4 ⊢
  have st4 : tn 0 s4.heap := T.keep _ _ _ st3 fun b _ o e => by rw [← es4]; exact pushCells_keeps _ _ _ _ (Heap.get?_push_of_some _ e)
  let Y := X.blk s3 H3 scope ce fp
  let v0 := L2.wipe σ (own.map (·.2))
  have stay : ∀ {σ' : St} {H' : Hp} {z : Shared}, Inv Y [] σ' H' z → (∀ b ∈ fp, H' b = none) → ∀ b ∈ fp, FpOk Y [] H' b := fun {σ' H' z} J hn b hb =>
    ⟨hn b hb, (J.ok.exf b hb).1, J.ok.exfs b hb, .inl hb, fun x c e => (J.ok.exf b hb).2 x c e, fun p hp => by cases hp⟩
  let Inn : Nat → Shared → Prop := fun n z => ∃ i H', Inv Y [] v0 H' z ∧ tn i z.heap ∧ (∀ b ∈ fp, H' b = none) ∧ W i n H'
  have loop : codeAny (model X.prog X.w) X.A (.compLoop (dc2 kx vx t0 i0 t1 i1 scope pos) 0 (.ref it) (.ref D) ce) (compPost (model X.prog X.w) X.A X.xe use Qf (.ref D) s3.heap.objs.size) s4 := by
    refine dloop0 (hs1 ce) Inn ?_ m0 ⟨0, H3, I4, st4, nf, w0⟩
    rintro n s5 ⟨i, H5, I5, st5, n5, w5⟩
    rcases turn i n H5 w5 with ⟨stop, qq⟩ | ⟨go, Nx, hNx, step⟩
    · refine thnF (T.done Y rfl rfl rfl hc i [] s5 _ H5 (fun _ _ => False) I5 (stay I5 n5) st5 stop) fun r s6 ⟨hr, I6⟩ => ?_
      subst hr
      have I7 : Inv X pins σ H5 s6 := I3.call' (ch := fp) I6.os I6.base I6.hok I6.bare fun b hb => ⟨(ff b hb).1.2.2.2.1, (ff b hb).1.2.1, (ff b hb).1.2.2.2.2.1, (ff b hb).1.2.2.2.2.2⟩
      have nC : H5 s3.heap.objs.size = none := by
        rw [← lo]
        exact I6.free
      obtain ⟨m, ns, _⟩ := I6.loc
      have ns : s6.heap.Ns ce.locals m := ns
      rw [lo] at ns
      exact back D s3.heap.objs.size s6 m H5 I7 qq ns (I3.fpOk (Nat.le_refl _) nC)
    · refine thnF (T.item Y rfl rfl rfl hc i [] s5 _ H5 (fun _ _ => False) I5 (stay I5 n5) st5 go) fun r s6 ⟨u, hr, h6⟩ => ?_
      subst hr
      refine thnF h6 fun _ s7 ⟨x, H7, I7, r7, y7, st7, n7⟩ => ?_
      have J7 := I7.pinned (stay I7 n7) (T.obj _ _ st7)
      refine thnF (a0.run _ s7 _ H7 x u _ J7 r7 (step x H7 y7)) fun _ s8 ⟨σ8, H8, I8, hw, q8⟩ => ?_
      have le8 : v0.length = σ8.length := by
        show (L2.wipe σ _).length = _
        rw [← hw, wipe_length]
      have kn9 : ∀ (j : Nat) v, v0[j]? = some (some v) → (L2.wipe σ8 vs1)[j]? = some (some v) := fun j v e => by
        have e : (L2.wipe σ (own.map (·.2)))[j]? = some (some v) := e
        rw [← hw] at e
        obtain ⟨b1, b2⟩ := wipe_some e
        rw [wipe_out fun z => b2 (sub j z)]
        exact b1
      have ends : ∀ {σ9 : St} {z : Shared} {H' : Hp}, Inv Y ([] ++ pinsAt fp s7.heap) σ9 H' z → v0.length = σ9.length → (∀ (j : Nat) v, v0[j]? = some (some v) → σ9[j]? = some (some v)) → Nx H' → ∃ m, m < n ∧ Inn m z := fun {σ9 z H'} J hl hk nx => by
        obtain ⟨m2, hm, w2⟩ := hNx H' nx
        have at_ : ∀ b ∈ fp, ∀ o, s7.heap.get? b = some o → z.heap.get? b = some o ∧ H' b = none := fun b hb o e =>
          let y := J.pin (b, o) (List.mem_append_right _ (List.mem_append_right _ (mem_pinsAt hb e)))
          ⟨y.1, y.2.1⟩
        refine ⟨m2, hm, i + 1, H', (J.unpinned (pins := [])).weak hl hk, T.keep _ _ _ st7 fun b hb o e => (at_ b hb o e).1, fun b hb => ?_, w2⟩
        obtain ⟨o, e, _⟩ := T.obj _ _ st7 b hb
        exact (at_ b hb o e).2
      refine thnF (a1.run _ s8 σ8 H8 _ I8 q8) fun _ s9 z => thnF z fun _ s9 z => ?_
      obtain ⟨j1, fp1, tn1, J1, H9, rfl, I9, T1, st9, f9, W1, ⟨m1, w1⟩, turn1⟩ := z
      have stay1 : ∀ {H' : Hp}, (∀ b ∈ fp1, H' b = none) → ∀ b ∈ fp1, FpOk Y ([] ++ pinsAt fp s7.heap) H' b := fun hn b hb => ⟨hn b hb, (f9 b hb).2⟩
      let In1 : Nat → Shared → Prop := fun k z => ∃ j H', Inv Y ([] ++ pinsAt fp s7.heap) (L2.wipe σ8 vs1) H' z ∧ tn1 j z.heap ∧ (∀ b ∈ fp1, H' b = none) ∧ W1 j k H'
      have loop1 : codeAny (model X.prog X.w) X.A (.compLoop (dc2 kx vx t0 i0 t1 i1 scope pos) 1 (.ref j1) (.ref D) ce) (fun r z => match r with
          | .ok _ => ∃ m, m < n ∧ Inn m z
          | .error _ => False) s9 := by
        refine dloop1 In1 ?_ m1 ⟨0, H9, I9.weak (wipe_length _ _) (fun j v e => (wipe_some e).1), st9, fun b hb => (f9 b hb).1, w1⟩
        rintro k sA ⟨j, HA, IA, stA, nA, wA⟩
        rcases turn1 j k HA wA with ⟨stop1, nx1⟩ | ⟨go1, N1, hN1, step1⟩
        · refine thnF (T1.done Y rfl rfl rfl hc j _ sA (L2.wipe σ8 vs1) HA (fun _ _ => False) IA (stay1 nA) stA stop1) fun r sB ⟨hr, IB⟩ => ?_
          subst hr
          exact ends IB (le8.trans (wipe_length σ8 vs1).symm) kn9 nx1
        · refine thnF (T1.item Y rfl rfl rfl hc j _ sA (L2.wipe σ8 vs1) HA (fun _ _ => False) IA (stay1 nA) stA go1) fun r sB ⟨u1, hr, hB⟩ => ?_
          subst hr
          refine thnF hB fun _ sC ⟨xC, HC, IC, rC, yC, stC, nC⟩ => ?_
          have JC := IC.pinned (stay1 nC) (T1.obj _ _ stC)
          refine thnF (a2.run _ sC (L2.wipe σ8 vs1) HC xC u1 _ JC rC (step1 xC HC yC)) fun _ sD ⟨σD, HD, ID, hwD, qD⟩ => ?_
          refine thnF (a3.run _ sD σD HD _ ID qD) fun ku sE ⟨yE, HE, IE, rE, qE⟩ => ?_
          refine thnF (a4.run _ sE σD HE _ IE qE) fun vu sF ⟨zF, HF, IF, rF, kvs, key, b, eb, g1, g2, g3, nx⟩ => ?_
          subst eb
          cases rE
          refine put_tup (X := Y) hu IF g1 g2 g3 rF fun sG IG => ?_
          obtain ⟨m2, hm, w2⟩ := hN1 _ nx
          have at_ : ∀ b ∈ fp1, ∀ o, sC.heap.get? b = some o → sG.heap.get? b = some o ∧ (upd HF D (.dT (putK kvs key zF))) b = none := fun b hb o e =>
            let y := IG.pin (b, o) (List.mem_append_right _ (List.mem_append_right _ (mem_pinsAt hb e)))
            ⟨y.1, y.2.1⟩
          refine ⟨m2, hm, j + 1, _, IG.unpinned.weak (by rw [← hwD, wipe_length]) (fun j v e => by rw [← hwD] at e; exact (wipe_some e).1), T1.keep _ _ _ stC fun b hb o e => (at_ b hb o e).1, fun b hb => ?_, w2⟩
          obtain ⟨o, e, _⟩ := T1.obj _ _ stC b hb
          exact (at_ b hb o e).2
      exact dstart1 loop1 (T1.self X.A 0 _ _ _ st9 loop1)
  exact codeAny_compStart_dict loop (T.self X.A 0 _ _ _ st4 loop)
theorem pe_dc2 {kx vx t0 i0 t1 i1 : Expr} {scope : Scope} {own : List (Str × Nat)} {vs1 : List Nat} {pos : Pos} {wi wi1 : TI} {g g1 : TG} {tk tv : TE} (hu : X.A.units < cLine) (hc : X.calm = true) (hN : X.N.Nodup) (src : PI X t0 i0 wi) (ok : BlkOk X.N X.env.scope scope own) (sub : ∀ i ∈ vs1, i ∈ own.map (·.2))
    (pg : ∀ s H C cl fp, PG (X.blk s H scope (compEnvC scope cl C X.env) fp) t0 g) (pi : ∀ s H C cl fp, PI (X.blk s H scope (compEnvC scope cl C X.env) fp) t1 i1 wi1) (pg1 : ∀ s H C cl fp, PG (X.blk s H scope (compEnvC scope cl C X.env) fp) t1 g1)
    (pk : ∀ s H C cl fp, PE (X.blk s H scope (compEnvC scope cl C X.env) fp) kx tk) (pv : ∀ s H C cl fp, PE (X.blk s H scope (compEnvC scope cl C X.env) fp) vx tv)
    (hs : ∀ x, foldedSetIterable i0 X.env x = pure x := by intro _; rfl) (hs1 : ∀ (e : Env) x, foldedSetIterable i1 e x = pure x := by intro _ _; rfl) : PE X (dc2 kx vx t0 i0 t1 i1 scope pos) (tDc2 wi g wi1 g1 tk tv (own.map (·.2)) vs1) := by
  constructor
  intro pins s σ H Q I h
  rw [arm_eval_DictComp]
  refine dc2_run (use := none) hu hc hN I src ok sub pg pi pg1 pk pv hs hs1 h fun D C s' m H' J q ns f => ?_
  obtain ⟨f0, f1, _, f3, f4, f5⟩ := f
  exact ⟨m, ns, fun h2 sb => ⟨.ref D, H', J.turned (t' := s'.toks) (fun b o hb e => (sb.2 b hb).trans e) f0 f1 f3 f4 f5, rfl, q⟩⟩
/-- x = {..} -/
theorem ps_setDc2 {i : Nat} {y : Str} {py spos : Pos} {kx vx t0 i0 t1 i1 : Expr} {scope : Scope} {own : List (Str × Nat)} {vs1 : List Nat} {pos : Pos} {wi wi1 : TI} {g g1 : TG} {tk tv : TE} (hu : X.A.units < cLine) (hc : X.calm = true) (hN : X.N.Nodup) (hy : X.N[i]? = some y) (hl : X.env.scope.names.lookup y = some .local)
    (sw : swapsWith (dc2 kx vx t0 i0 t1 i1 scope pos) (some (.Name y py)) spos.line X.env = pure true) (src : PI X t0 i0 wi) (ok : BlkOk X.N X.env.scope scope own) (sub : ∀ i ∈ vs1, i ∈ own.map (·.2))
    (pg : ∀ s H C cl fp, PG (X.blk s H scope (compEnvC scope cl C X.env) fp) t0 g) (pi : ∀ s H C cl fp, PI (X.blk s H scope (compEnvC scope cl C X.env) fp) t1 i1 wi1) (pg1 : ∀ s H C cl fp, PG (X.blk s H scope (compEnvC scope cl C X.env) fp) t1 g1)
    (pk : ∀ s H C cl fp, PE (X.blk s H scope (compEnvC scope cl C X.env) fp) kx tk) (pv : ∀ s H C cl fp, PE (X.blk s H scope (compEnvC scope cl C X.env) fp) vx tv)
    (hs : ∀ x, foldedSetIterable i0 X.env x = pure x := by intro _; rfl) (hs1 : ∀ (e : Env) x, foldedSetIterable i1 e x = pure x := by intro _ _; rfl) :
    PS X (.Assign [.Name y py] (dc2 kx vx t0 i0 t1 i1 scope pos) spos) (tAsg (tDc2 wi g wi1 g1 tk tv (own.map (·.2)) vs1) (gName i)) := by
  constructor
  intro pins s σ H D I h
  rw [exec_Assign_Name_used _ _ _ _ sw]
  apply wpAny_bind
  apply wpAny_standAt
  apply wpAny_bind
  show wpAny _ X.A (do let _ ← comprehension (dc2 kx vx t0 i0 t1 i1 scope pos) scope X.env (firstIterPos [⟨t0, i0, [], 0⟩, ⟨t1, i1, [], 0⟩] pos) newDict false (eval i0 X.env) (some (assign (.Name y py) X.env))) _ _ s
  have h : tDc2 wi g wi1 g1 tk tv (own.map (·.2)) vs1 σ H (fun x H1 => gName i x σ H1 D.nx) := h
  apply wpAny_bind
  refine thn (dc2_run (Qf := fun _ s' => SP X pins D .next s') hu hc hN I src ok sub pg pi pg1 pk pv hs hs1 h fun L C s' m H' J q ns f => ?_) fun _ s' hq => wpAny_pure (wpAny_pure hq)
  show wpAny _ _ (assign (.Name y py) X.env (.ref L)) _ _ _
  refine wpAny_assign_Name (store_ok2 (v := V.ref L) J hN hy (.inl hl) rfl (fun s2 J2 ⟨a, sb, ha⟩ => ?_) (.inr hl))
  obtain ⟨f0, f1, _, f3, f4, f5⟩ := f
  have ne : C ≠ a := by
    cases ha with
    | inl z => rw [z]; exact f1
    | inr z => exact fun e => f4 y a z e.symm
  exact ⟨m, ns.sameBut sb ne, fun h3 sb3 => ⟨_, H', J2.turned (t' := s2.toks) (fun b o hb e => (sb3.2 b hb).trans e) f0 f1 f3 f4 f5, q⟩⟩
end
/-! DV: sets of tuples of texts and ints, all of them different: how long such a set is. -/
/-- a member: the items of its tuple, where it lies -/
abbrev Mem := List Key × Addr
section
variable {P : Program} {w : World} {A : Around} {E : Value → Shared → Prop} {s : Shared}
abbrev kh (P : Program) (w : World) (k : List Key) : Int := tupleKeyHash (mixKind P w) k
abbrev IsM (P : Program) (w : World) (h : Heap) (p : Mem) : Prop := IsTupleKey (mixKind P w) h p.1 p.2
abbrev kent (P : Program) (w : World) (p : Mem) : Int × Value := (kh P w p.1, .ref p.2)
/-- a text or an int stands for itself -/
theorem plain_items {k : List Key} {vs : List Value} (h : ItemsAre (mixKind P w) k vs) : ∀ v ∈ vs, (∃ i t, v = Value.int i t) ∨ ∃ x t, v = Value.str x t := by
  induction h with
  | nil => exact fun _ z => nomatch z
  | cons a _ ih =>
    intro v hv
    cases hv with
    | head => 
      rcases keyIs_shape a with ⟨i, t, _, e⟩ | ⟨x, t, _, e⟩
      · exact .inl ⟨i, t, e⟩
      · exact .inr ⟨x, t, e⟩
    | tail _ z => exact ih v z
theorem noClass {n : Nat} {v : Value} (h : (∃ i t, v = Value.int i t) ∨ ∃ x t, v = Value.str x t) : ofAClassStatement n v = pure false := by
  rcases h with ⟨_, _, rfl⟩ | ⟨_, _, rfl⟩ <;> cases n <;> rfl
theorem noClass_at {p : Mem} {Q : Bool → Shared → Prop} (m : IsM P w s.heap p) (q : Q false s) : wpAny (model P w) A (ofAClassStatement 8 (.ref p.2)) Q E s := by
  have ty := m.typeIs
  obtain ⟨ob, its, n, at_, _, dat, items⟩ := m
  have pl := plain_items items
  unfold ofAClassStatement
  apply wpAny_bind
  apply wpAny_typeOf ty
  have yes : ("tuple" == "tuple") = true := by decide
  simp only [yes, if_true, Bool.not_true, Bool.false_eq_true, if_false]
  first | (apply wpAny_bind; apply wpAny_pure; simp only [Bool.not_true, Bool.false_eq_true, if_false]) | skip
  show wpAny _ _ (seqItems? (.ref p.2) >>= _) _ _ s
  apply wpAny_bind
  apply wpAny_seqItems at_ dat
  dsimp only
  apply wpAny_bind
  show wpAny _ _ (forIn its _ _) _ _ s
  rw [← Array.forIn_toList]
  apply wpAny_forIn_list _ (fun l r z => (r.1 = none ∧ z = s) ∧ ∀ v ∈ l, (∃ i t, v = Value.int i t) ∨ ∃ x t, v = Value.str x t) _ _ _ _ _ ⟨⟨rfl, rfl⟩, pl⟩
  · rintro v l r z ⟨⟨e1, e2⟩, al⟩
    rw [noClass (al v (.head _))]
    apply wpAny_bind
    apply wpAny_pure
    simp only [Bool.false_eq_true, if_false]
    exact wpAny_pure ⟨⟨rfl, e2⟩, fun u hu => al u (.tail _ hu)⟩
  · rintro ⟨r, _⟩ z ⟨⟨e1, e2⟩, _⟩
    subst e2
    cases e1
    exact wpAny_pure q
/-- whatever the hash rests on -/
theorem byVal_any {p : Mem} {Q : Bool → Shared → Prop} (m : IsM P w s.heap p) (q : ∀ b, Q b s) : wpAny (model P w) A (hashByValue 8 (.ref p.2)) Q E s := by
  have ty := m.typeIs
  obtain ⟨ob, its, n, at_, _, dat, items⟩ := m
  have pl := plain_items items
  unfold hashByValue
  apply wpAny_bind
  apply wpAny_specialOf ty F.slot_tuple_hash.lookup
  show wpAny _ _ (seqItems? (.ref p.2) >>= _) _ _ s
  apply wpAny_bind
  apply wpAny_seqItems at_ dat
  apply wpAny_bind
  show wpAny _ _ (forIn its _ _) _ _ s
  rw [← Array.forIn_toList]
  apply wpAny_forIn_list _ (fun l r z => (r.1 = none ∧ z = s) ∧ ∀ v ∈ l, (∃ i t, v = Value.int i t) ∨ ∃ x t, v = Value.str x t) _ _ _ _ _ ⟨⟨rfl, rfl⟩, pl⟩
  · rintro v l r z ⟨⟨e1, e2⟩, al⟩
    rcases al v (.head _) with ⟨i, t, rfl⟩ | ⟨x, t, rfl⟩
    · apply wpAny_bind
      show wpAny _ _ (pure true) _ _ _
      apply wpAny_pure
      simp only [Bool.not_true, Bool.false_eq_true, if_false]
      exact wpAny_pure ⟨⟨rfl, e2⟩, fun u hu => al u (.tail _ hu)⟩
    · apply wpAny_bind
      show wpAny _ _ (pure false) _ _ _
      apply wpAny_pure
      simp only [Bool.not_false, if_true]
      subst e2
      exact wpAny_pure (wpAny_pure (q false))
  · rintro ⟨r, _⟩ z ⟨⟨e1, e2⟩, _⟩
    subst e2
    cases e1
    exact wpAny_pure (q true)
/-- nobody would see the search -/
theorem unseen {p : Mem} (m : IsM P w s.heap p) {ys : List Value} (hy : ∀ y ∈ ys, ∃ q : Mem, y = Value.ref q.2 ∧ IsM P w s.heap q) {Q : Bool → Shared → Prop} (h : Q false s) : wpAny (model P w) A (searchCouldBeSeen (.ref p.2) ys) Q E s := by
  unfold searchCouldBeSeen
  apply wpAny_bind
  apply wpAny_forIn_list _ (fun l r z => (r.1 = none ∧ z = s) ∧ ∀ y ∈ l, ∃ q : Mem, y = Value.ref q.2 ∧ IsM P w s.heap q) _ _ _ _ _ ⟨⟨rfl, rfl⟩, hy⟩
  · rintro v l r z ⟨⟨e1, e2⟩, al⟩
    subst e2
    obtain ⟨q, rfl, mq⟩ := al v (.head _)
    have on := fun u hu => al u (.tail _ hu)
    dsimp only
    by_cases c : (p.2 == q.2 || (carriedByValue (.ref p.2) && carriedByValue (.ref q.2))) = true
    · rw [if_pos c]
      exact wpAny_pure ⟨⟨rfl, rfl⟩, on⟩
    · rw [if_neg c]
      apply wpAny_bind; apply wpAny_eqIsQuiet_tuple m
      simp only [Bool.not_true, Bool.false_eq_true, if_false]
      apply wpAny_bind; apply wpAny_eqIsQuiet_tuple mq
      simp only [Bool.not_true, Bool.false_eq_true, if_false]
      apply wpAny_bind; apply noClass_at m
      simp only [Bool.false_eq_true, if_false]
      apply wpAny_bind; apply noClass_at mq
      simp only [Bool.false_eq_true, if_false]
      exact wpAny_pure ⟨⟨rfl, rfl⟩, on⟩
  · rintro ⟨r, _⟩ z ⟨⟨e1, e2⟩, _⟩
    subst e2
    cases e1
    exact wpAny_pure h
end
/-! DW: adding to a set of tuples what it has not yet. -/
section
variable {P : Program} {w : World} {A : Around} {E : Value → Shared → Prop} {s : Shared}
/-- the set at a, member by member -/
structure SetM (P : Program) (w : World) (h : Heap) (a : Addr) (L : List Mem) (es : Array (Int × Value)) (ep : Nat) (t : SetTable) : Prop where
  obj : ∃ ob, h.get? a = some ob ∧ ob.ExactSet ∧ ob.data = .set es ep t
  ents : es.toList = L.map (kent P w)
  tbl : TabOk t (L.map fun p => kh P w p.1)
  mem : ∀ p ∈ L, IsM P w h p
  wide : L.length * 5 < t.mask * 3
  small : L.length < 76
variable {a : Addr} {L : List Mem} {es : Array (Int × Value)} {ep : Nat} {t : SetTable}
theorem ents_len (e : es.toList = L.map (kent P w)) : es.size = L.length := by
  rw [← Array.length_toList, e, List.length_map]
theorem ents_at (e : es.toList = L.map (kent P w)) {i : Nat} {p : Mem} (h : L[i]? = some p) : es[i]? = some (kent P w p) := by
  rw [← Array.getElem?_toList, e, List.getElem?_map, h]
  rfl
theorem SetM.fit (R : SetM P w s.heap a L es ep t) : t.fits es.size = true := by
  have z := R.tbl.sz
  rw [List.length_map] at z
  have r := R.wide
  unfold SetTable.fits SetTable.fill
  rw [R.tbl.dm, ents_len R.ents, Bool.and_eq_true, beq_iff_eq, decide_eq_true_eq]
  exact ⟨z, by show t.place.size + 0 ≤ t.mask; omega⟩
/-- the c-th step of the way of a hash -/
abbrev stepAt (m : Nat) (h : Int) (c : Nat) : SetTable.Probe := nth m (runAt m (SetTable.bits h % (m + 1)) (SetTable.bits h)) c
theorem step_dummy (m : Nat) (h : Int) (c : Nat) : (stepAt m h c).dummy = none := by
  have one : ∀ p : SetTable.Probe, p.dummy = none → (adv m p).dummy = none := fun p z => by
    unfold adv
    split <;> exact z
  induction c with
  | zero => rfl
  | succ c ih =>
    show (nth m _ (c + 1)).dummy = none
    rw [nth_succ]
    exact one _ ih
/-- who is not there is found nowhere -/
theorem free_from (R : SetM P w s.heap a L es ep t) {x : Mem} (mx : IsM P w s.heap x) (new : ∀ p ∈ L, p.1 ≠ x.1) (hu : A.units < cLine) {K : Nat} (k0 : K < 10 * SetTable.turns t.mask)
    (k1 : way t.mask (kh P w x.1) K ∉ t.place.toList) (k2 : ∀ c, c < K → way t.mask (kh P w x.1) c ∈ t.place.toList) {Q : SetFound → Shared → Prop} (q : Q (.free (way t.mask (kh P w x.1) K) false) s) :
    ∀ (f c : Nat) (st : Option SetTable.Probe), st.getD (t.probeStart (kh P w x.1)) = stepAt t.mask (kh P w x.1) c → c ≤ K → K - c < f → wpAny (model P w) A (setSearchFrom a (.ref x.2) (kh P w x.1) true f st) Q E s := by
  intro f
  induction f with
  | zero => exact fun _ _ _ _ z => absurd z (Nat.not_lt_zero _)
  | succ f ih =>
    intro c st es0 cK cf
    obtain ⟨ob, at_, _, dat⟩ := R.obj
    rw [setSearchFrom_succ]
    apply wpAny_bind
    apply wpAny_setState_of at_ dat R.fit
    dsimp only
    have gw : ¬ t.gaveWay = true := by
      unfold SetTable.gaveWay
      rw [mask_odd R.tbl.mok]
      decide
    rw [if_neg gw]
    first | (apply wpAny_bind; apply wpAny_pure) | skip
    have fol : ∀ n, nth t.mask (stepAt t.mask (kh P w x.1) c) n = stepAt t.mask (kh P w x.1) (c + n) := fun n => (nth_add t.mask c _ n).symm
    have folj : ∀ n, (nth t.mask (stepAt t.mask (kh P w x.1) c) n).j = way t.mask (kh P w x.1) (c + n) := fun n => congrArg SetTable.Probe.j (fol n)
    rw [es0]
    have cc : c + (K - c) = K := by omega
    rcases go_spec t R.tbl.ris R.tbl.dm (fun i => (es[i]?.map (·.1)).getD 0) (kh P w x.1) (10 * SetTable.turns t.mask) (K - c) _ (step_dummy _ _ c) (by omega) (fun n hn => by rw [folj]; exact k2 _ (by omega)) (by rw [folj, cc]; exact k1) with ⟨n, i, hn, hi, _, _, hp⟩ | ⟨_, hp⟩
    · have hp2 : t.probe (fun i => (es[i]?.map (·.1)).getD 0) (kh P w x.1) (stepAt t.mask (kh P w x.1) c) = some (.candidate (way t.mask (kh P w x.1) (c + n)) i (stepAt t.mask (kh P w x.1) (c + (n + 1)))) := by
        rw [← folj, ← fol]
        exact hp
      rw [hp2]
      dsimp only
      rw [folj] at hi
      have il : i < L.length := by
        have z := R.tbl.sz
        rw [List.length_map] at z
        rw [← z, ← Array.length_toList]
        exact (List.getElem?_eq_some_iff.mp hi).1
      have ei : L[i]? = some L[i] := List.getElem?_eq_getElem il
      have pm : L[i] ∈ L := List.getElem_mem il
      generalize L[i] = p at ei pm
      have ne : decide (p.1 = x.1) = false := decide_eq_false (new p pm)
      have go : wpAny (model P w) A (searchRest a (.ref x.2) (kh P w x.1) true f es t (way t.mask (kh P w x.1) (c + n)) i (stepAt t.mask (kh P w x.1) (c + (n + 1)))) Q E s := by
        unfold searchRest
        rw [ents_at R.ents ei]
        dsimp only
        apply wpAny_bind
        apply wpAny_holding
        apply wpAny_eqBool_tuple hu (R.mem p pm) mx
        rw [ne]
        apply wpAny_bind
        apply wpAny_setState_of at_ dat R.fit
        simp only [Bool.and_false, Bool.false_eq_true, if_false]
        first | (apply wpAny_bind; apply wpAny_pure) | skip
        have sm : t.sameMemory t.moves t.mask = some true := by unfold SetTable.sameMemory; simp
        rw [sm]
        have sl := slot_live R.tbl.ris hi
        simp only [if_true, sl, ents_at R.ents ei]
        apply wpAny_bind
        apply wpAny_isSame_ref_self
        apply wpAny_bind
        apply wpAny_pure
        simp only [if_true, Bool.false_eq_true, if_false]
        exact ih (c + (n + 1)) (some _) rfl (by omega) (by omega)
      by_cases hl : t.led = true
      · simp only [hl, Bool.not_true, Bool.false_eq_true, if_false]
        first | exact go | (apply wpAny_bind; apply wpAny_pure; exact go)
      · have hl2 : t.led = false := by simpa using hl
        simp only [hl2, Bool.not_false, if_true]
        first | apply wpAny_bind | skip
        apply unseen mx
        · intro y hy
          obtain ⟨e, he, rfl⟩ := List.mem_map.mp hy
          have he2 : e ∈ es.toList := by
            have z : e ∈ es ∧ e.1 = kh P w x.1 := by simpa using he
            simpa using z.1
          rw [R.ents] at he2
          obtain ⟨p2, m2, rfl⟩ := List.mem_map.mp he2
          exact ⟨p2, rfl, R.mem p2 m2⟩
        · simp only [Bool.false_eq_true, if_false]
          first | exact go | (apply wpAny_bind; apply wpAny_pure; exact go)
    · have hp2 : t.probe (fun i => (es[i]?.map (·.1)).getD 0) (kh P w x.1) (stepAt t.mask (kh P w x.1) c) = some (.empty (way t.mask (kh P w x.1) K) none) := by
        have e2 := folj (K - c)
        rw [cc] at e2
        rw [← e2]
        exact hp
      rw [hp2]
      exact wpAny_pure q
/-- who is new comes to the first empty slot of the way -/
theorem free_at (R : SetM P w s.heap a L es ep t) {x : Mem} (mx : IsM P w s.heap x) (new : ∀ p ∈ L, p.1 ≠ x.1) (hu : A.units < cLine) {Q : SetFound → Shared → Prop}
    (q : ∀ K, way t.mask (kh P w x.1) K ∉ t.place.toList → (∀ c, c < K → way t.mask (kh P w x.1) c ∈ t.place.toList) → Q (.free (way t.mask (kh P w x.1) K) false) s) : wpAny (model P w) A (setSearch a (.ref x.2) (kh P w x.1) true) Q E s := by
  have r := R.wide
  obtain ⟨K, k0, k1, k2⟩ := R.tbl.first (by rw [List.length_map]; omega) (kh P w x.1)
  have few : 10 * SetTable.turns t.mask < 100000 := by
    unfold SetTable.turns
    rcases R.tbl.mok with e | e | e <;> omega
  unfold setSearch
  exact free_from R mx new hu k0 k1 k2 (q K k1 k2) 100000 0 none rfl (Nat.zero_le _) (by omega)
/-- a member is not the set itself -/
theorem mem_same {h h' : Heap} {p : Mem} {ob : PySem.Obj} (m : IsM P w h p) (at_ : h.get? a = some ob) (dat : ob.data = .set es ep t) (sb : Heap.SameBut a h h') : IsM P w h' p := by
  obtain ⟨o2, its, n, at2, c2, d2, i2⟩ := m
  refine ⟨o2, its, n, (sb.2 p.2 fun z => ?_).trans at2, c2, d2, i2⟩
  rw [z, at_] at at2
  cases at2
  rw [dat] at d2
  cases d2
/-- members in another turn -/
theorem ents_turned (e : es.toList = L.map (kent P w)) {ord : List Nat} (hp : ord.Perm (List.range L.length)) :
    ∃ M : List Mem, ord.filterMap (fun i => es[i]?) = M.map (kent P w) ∧ M.Perm L ∧ M.map (fun p => kh P w p.1) = ord.map fun i => (es.map (·.1)).getD i 0 := by
  have lt : ∀ i ∈ ord, i < L.length := fun i hi => List.mem_range.mp (hp.mem_iff.mp hi)
  have key : ∀ l : List Nat, (∀ i ∈ l, i < L.length) → l.filterMap (fun i => es[i]?) = (l.filterMap fun i => L[i]?).map (kent P w) ∧ (l.filterMap fun i => L[i]?).map (fun p => kh P w p.1) = l.map fun i => (es.map (·.1)).getD i 0 := by
    intro l
    induction l with
    | nil => exact fun _ => ⟨rfl, rfl⟩
    | cons i l ih =>
      intro hl
      obtain ⟨a1, a2⟩ := ih fun j hj => hl j (.tail _ hj)
      have il : i < L.length := hl i (.head _)
      have ei : L[i]? = some L[i] := List.getElem?_eq_getElem il
      have ee := ents_at e ei
      constructor
      · rw [List.filterMap_cons_some ei, List.filterMap_cons_some ee, a1, List.map_cons]
      · rw [List.filterMap_cons_some ei, List.map_cons, a2, List.map_cons]
        congr 1
        rw [Array.getD_eq_getD_getElem?, Array.getElem?_map, ee]
        rfl
  obtain ⟨a1, a2⟩ := key ord lt
  refine ⟨_, a1, ?_, a2⟩
  have all : ∀ n, n ≤ L.length → (List.range n).filterMap (fun i => L[i]?) = L.take n := by
    intro n
    induction n with
    | zero => exact fun _ => rfl
    | succ n ih =>
      intro hn
      rw [List.range_succ, List.filterMap_append, ih (by omega), List.take_add_one, List.getElem?_eq_getElem hn]
      simp [List.getElem?_eq_getElem hn]
  have := hp.filterMap fun i => L[i]?
  rwa [all _ (Nat.le_refl _), List.take_length] at this
/-- the set laid anew, wider -/
theorem wider {ob : PySem.Obj} (at_ : s.heap.get? a = some ob) (ex : ob.ExactSet) (dat : ob.data = .set es ep t) (en : es.toList = L.map (kent P w)) (sz : t.place.size = es.size) (dm : t.dummies = #[]) (fl : es.size ≤ t.mask)
    (mem : ∀ p ∈ L, IsM P w s.heap p) (few : L.length < 76) {n M : Nat} (hw : SetTable.sizeAbove n - 1 = M) (hM : MaskOk M) (h128 : SetTable.sizeAbove n ≤ 128) (hn : L.length * 5 < M * 3) {Q : Unit → Shared → Prop}
    (q : ∀ h' L' es' ep' t', Heap.SameBut a s.heap h' → SetM P w h' a L' es' ep' t' → L'.Perm L → Q () { s with heap := h' }) : wpAny (model P w) A (setRelay a n) Q E s := by
  have sl := ents_len en
  have fits : t.fits es.size = true := by
    unfold SetTable.fits SetTable.fill
    rw [dm, Bool.and_eq_true, beq_iff_eq, decide_eq_true_eq]
    exact ⟨sz, by show t.place.size + 0 ≤ t.mask; omega⟩
  obtain ⟨t2, ord, e, hp, T, em, _, _, _⟩ := relaid_ok t (hs := es.map (·.1)) (wanted := n) hw hM (by rw [Array.size_map, sl]; omega)
  rw [Array.size_map, sl] at hp
  obtain ⟨L2, r1, r2, r3⟩ := ents_turned en hp
  rw [← r3] at T
  have al : (ord.filterMap (es[·]?)).toList = L2.map (kent P w) := by
    rw [Array.toList_filterMap]
    exact r1
  have sz2 : (ord.filterMap (es[·]?)).size = es.size := by rw [ents_len al, r2.length_eq, sl]
  rw [setRelay_eq]
  apply wpAny_bind
  apply wpAny_setState_of at_ dat fits
  dsimp only
  have big : ¬ SetTable.sizeAbove n > sizeLine := by rw [sizeLine_eq]; omega
  rw [if_neg big]
  first | (apply wpAny_bind; apply wpAny_pure) | skip
  rw [e]
  dsimp only
  apply wpAny_bind
  have same : ¬ (ord.filterMap (es[·]?)).size ≠ es.size := fun z => z sz2
  simp only [bne_iff_ne, same, if_false]
  first | (apply wpAny_bind; apply wpAny_pure) | skip
  apply wpAny_pure
  dsimp only
  refine wpAny_storeSet_of at_ dat ?_ (by rw [sz2, sl, sizeLine_eq]; omega)
  have sb : Heap.SameBut a s.heap (s.heap.update a (PySem.Obj.putSet (ord.filterMap (es[·]?)) t2)) := Heap.SameBut.update ..
  exact q _ L2 _ (ep + 1) t2 sb ⟨⟨_, store_at at_ dat, ⟨ex.1, ex.2.1, ex.2.2⟩, rfl⟩, al, T, fun p hm => mem_same (mem p (r2.mem_iff.mp hm)) at_ dat sb, by rw [r2.length_eq, em]; exact hn, by rw [r2.length_eq]; exact few⟩ r2
end
/-! DX: a set made of tuples that are all different, and its length. -/
section
variable {P : Program} {w : World} {A : Around} {E : Value → Shared → Prop} {s : Shared}
variable {a : Addr} {L : List Mem} {es : Array (Int × Value)} {ep : Nat} {t : SetTable}
theorem add_new (R : SetM P w s.heap a L es ep t) {x : Mem} (mx : IsM P w s.heap x) (new : ∀ p ∈ L, p.1 ≠ x.1) (hu : A.units < cLine) (few : L.length + 1 < 76) {Q : Bool → Shared → Prop}
    (q : ∀ b h' L' es' ep' t', Heap.SameBut a s.heap h' → SetM P w h' a L' es' ep' t' → L'.Perm (x :: L) → Q b { s with heap := h' }) : wpAny (model P w) A (setAddHashed a (.ref x.2) (kh P w x.1)) Q E s := by
  obtain ⟨ob, at_, ex, dat⟩ := R.obj
  have sl := ents_len R.ents
  have wd := R.wide
  unfold setAddHashed
  apply wpAny_holding
  rw [show (100000 : Nat) = 99999 + 1 from rfl, setAddHashedIn_succ]
  apply wpAny_bind
  apply wpAny_setState_of at_ dat R.fit
  dsimp only
  have nsc : byScan (.ref x.2) es = false := by simp [byScan, Value.scannable]
  rw [nsc]
  simp only [Bool.false_eq_true, if_false]
  first | (apply wpAny_bind; apply wpAny_pure) | skip
  apply wpAny_bind
  apply free_at R mx new hu
  intro K k1 k2
  dsimp only
  apply wpAny_bind
  apply wpAny_setState_of at_ dat R.fit
  dsimp only
  obtain ⟨u1, u2, u3, u4, _, _, _, _, u9⟩ := R.tbl.put k1 k2
  generalize hj : way t.mask (kh P w x.1) K = j at u1 u2 u3 u4 u9 ⊢
  rcases e : t.put j with ⟨t1, n⟩
  rw [e] at u1 u3 u4 u9
  dsimp only at u1 u3 u4 u9 ⊢
  rw [← u1] at u2 u3
  generalize SetTable.below t.place j = z at u1
  have hin : (SetTable.insertAt es n (kent P w x)).toList = (L.take n ++ x :: L.drop n).map (kent P w) := by
    rw [SetTable.toList_insertAt, R.ents, List.map_append, List.map_cons, List.map_take, List.map_drop]
  have pm : (L.take n ++ x :: L.drop n).Perm (x :: L) := by
    refine List.perm_middle.trans ?_
    rw [List.take_append_drop]
  have hkh : (L.take n ++ x :: L.drop n).map (fun p => kh P w p.1) = (L.map fun p => kh P w p.1).take n ++ kh P w x.1 :: (L.map fun p => kh P w p.1).drop n := by
    rw [List.map_append, List.map_cons, List.map_take, List.map_drop]
  rw [← hkh] at u3
  have ll : (L.take n ++ x :: L.drop n).length = L.length + 1 := pm.length_eq
  have body : ∀ t2 : SetTable, t2.place = t1.place → t2.dummies = t1.dummies → t2.mask = t1.mask → t2.fill = t1.fill → t2.tooFull = t1.tooFull →
      wpAny (model P w) A (do
        storeSet a (SetTable.insertAt es n (kh P w x.1, Value.ref x.2)) t2
        if !false && t2.tooFull then setRelay a (SetTable.grown (es.size + 1))
        return true) Q E s := by
    intro t2 e1 e2 e3 e4 e5
    have T2 : TabOk t2 ((L.take n ++ x :: L.drop n).map fun p => kh P w p.1) := by
      obtain ⟨y1, y2, y3, y4, y5, y6⟩ := u3
      exact ⟨by rw [e1]; exact y1, by rw [e2]; exact y2, by rw [e1]; exact y3, by rw [e3]; exact y4, by rw [e1, e3]; exact y5, by rw [e1, e3]; exact y6⟩
    have es1 : (SetTable.insertAt es n (kent P w x)).size = L.length + 1 := by rw [ents_len hin, ll]
    show wpAny _ _ (storeSet a (SetTable.insertAt es n (kent P w x)) t2 >>= _) _ _ _
    generalize SetTable.insertAt es n (kent P w x) = fs at hin es1 ⊢
    generalize L.take n ++ x :: L.drop n = L1 at pm ll hin T2
    apply wpAny_bind
    refine wpAny_storeSet_of at_ dat ?_ (by rw [es1, sizeLine_eq]; omega)
    have sb : Heap.SameBut a s.heap (s.heap.update a (PySem.Obj.putSet fs t2)) := Heap.SameBut.update ..
    have at1 := store_at (es' := fs) (t' := t2) at_ dat
    generalize s.heap.update a (PySem.Obj.putSet fs t2) = h1 at sb at1 ⊢
    have m1 : ∀ p ∈ L1, IsM P w h1 p := fun p hp => by
      cases pm.mem_iff.mp hp with
      | head => exact mem_same mx at_ dat sb
      | tail _ hp => exact mem_same (R.mem p hp) at_ dat sb
    have ex1 : PySem.Obj.ExactSet { ob with data := .set fs (ep + 1) t2 } := ⟨ex.1, ex.2.1, ex.2.2⟩
    have fl : t2.tooFull = decide ((L.length + 1) * 5 ≥ t.mask * 3) := by
      rw [e5]
      unfold SetTable.tooFull
      rw [u9, List.length_map, u4]
    rw [fl]
    by_cases c : (L.length + 1) * 5 ≥ t.mask * 3
    · have two : (t.mask = 7 ∧ L.length = 4) ∨ (t.mask = 31 ∧ L.length = 18) := by
        rcases R.tbl.mok with y | y | y
        · exact .inl ⟨y, by omega⟩
        · exact .inr ⟨y, by omega⟩
        · omega
      rw [decide_eq_true c]
      simp only [Bool.not_false, Bool.and_self, if_true]
      have on : ∀ M, SetTable.sizeAbove (SetTable.grown (L.length + 1)) - 1 = M → MaskOk M → SetTable.sizeAbove (SetTable.grown (L.length + 1)) ≤ 128 → (L.length + 1) * 5 < M * 3 →
          wpAny (model P w) A (setRelay a (SetTable.grown (es.size + 1))) (fun _ s' => Q true s') E { s with heap := h1 } := fun M q1 q2 q3 q4 => by
        rw [sl]
        refine wider (s := { s with heap := h1 }) at1 ex1 rfl hin (by have := T2.sz; rw [List.length_map, ll] at this; rw [this, es1]) T2.dm (by rw [es1, e3, u4]; rcases two with ⟨y, y2⟩ | ⟨y, y2⟩ <;> omega) m1 (by omega) q1 q2 q3 (by omega) ?_
        intro h2 L2 es2 ep2 t3 sb2 R2 pm2
        exact q true h2 L2 es2 ep2 t3 (sb.trans sb2) R2 (pm2.trans pm)
      have fin : wpAny (model P w) A (setRelay a (SetTable.grown (es.size + 1))) (fun _ s' => Q true s') E { s with heap := h1 } := by
        rcases two with ⟨_, y⟩ | ⟨_, y⟩
        · exact on 31 (by rw [y, size_20]) (.inr (.inl rfl)) (by rw [y, size_20]; decide) (by omega)
        · exact on 127 (by rw [y, size_76]) (.inr (.inr rfl)) (by rw [y, size_76]; decide) (by omega)
      first
        | exact wpAny_bind (wpAny_mono fin (fun _ _ z => wpAny_pure z) fun _ _ z => z)
        | exact wpAny_mono fin (fun _ _ z => wpAny_pure z) fun _ _ z => z
    · rw [decide_eq_false c]
      simp only [Bool.and_false, Bool.false_eq_true, if_false]
      first | (apply wpAny_bind; apply wpAny_pure) | skip
      exact wpAny_pure (q true h1 L1 fs (ep + 1) t2 sb ⟨⟨_, at1, ex1, rfl⟩, hin, T2, m1, by rw [e3, u4, ll]; omega, by omega⟩ pm)
  by_cases pl : t1.plain = true
  · simp only [pl, if_true]
    apply wpAny_bind
    apply byVal_any mx
    intro b
    cases b with
    | true => 
      simp only [if_true]
      exact body t1 rfl rfl rfl rfl rfl
    | false =>
      simp only [Bool.false_eq_true, if_false]
      exact body { t1 with plain := false } rfl rfl rfl rfl rfl
  · simp only [pl, Bool.false_eq_true, if_false]
    first | (apply wpAny_bind; apply wpAny_pure) | skip
    simp only [if_true]
    exact body t1 rfl rfl rfl rfl rfl
end
/-! DY: set(..) of tuples that are all different; its length. -/
section
variable {P : Program} {w : World} {A : Around} {E : Value → Shared → Prop} {s : Shared}
theorem mem_on {h h' : Heap} {p : Mem} (m : IsM P w h p) (k : ∀ c o, h.get? c = some o → h'.get? c = some o) : IsM P w h' p := by
  obtain ⟨o, its, n, e, r⟩ := m
  exact ⟨o, its, n, k _ o e, r⟩
/-- the object of a new set -/
abbrev newSet (w : World) : PySem.Obj := { cls := .type "set", dict := none, data := .set #[] 0 (.fresh 0 0 (!w.params.followText "set-order")) }
theorem set_empty {h : Heap} {a : Addr} (e : h.get? a = some (newSet w)) : SetM P w h a [] #[] 0 (.fresh 0 0 (!w.params.followText "set-order")) :=
  ⟨⟨_, e, ⟨rfl, rfl, rfl⟩, rfl⟩, rfl, ⟨.nil, rfl, rfl, .inl rfl, (fun _ z => by cases z), (fun i _ _ z => by cases z)⟩, (fun _ z => by cases z), by show 0 * 5 < 7 * 3; decide, by show 0 < 76; decide⟩
/-- the members so far, the rest to come -/
theorem fill {I : Addr} {fp wr : List Addr} {G : Array GenState → Array GenState → Prop} {n : Nat} {Pv : Nat → Value → Prop} {St : Nat → Shared → Prop} {R : Result → Shared → Prop}
    (W : WalksS P w A.in1 I fp wr G n Pv St) (a : Addr) (fa : a ∉ fp) (ms : List Mem) (hn : n = ms.length) (few : ms.length < 76) (val : ∀ i v, Pv i v → ∃ p : Mem, ms[i]? = some p ∧ v = .ref p.2)
    (nd : (ms.map (·.1)).Nodup) (h0 : Heap) (hm : ∀ p ∈ ms, IsM P w h0 p) (ha : h0.get? a = none) (hwr : ∀ b ∈ wr, h0.get? b = none) (hu : A.in1.units < cLine) :
    ∀ (r i : Nat) (s : Shared), n - i = r → i ≤ n → St i s → (∀ b o, h0.get? b = some o → s.heap.get? b = some o) → (∃ L es ep t, SetM P w s.heap a L es ep t ∧ L.Perm (ms.take i)) →
      (∀ s' L es ep t, Moved (a :: wr) G s s' → SetM P w s'.heap a L es ep t → L.Perm ms → (∀ b o, h0.get? b = some o → s'.heap.get? b = some o) → R (.ok (.ret .none)) s') →
      codeAny (model P w) A (.builtin "set.update.loop" ⟨[.ref a, .ref I], []⟩) R s := by
  have awr : a ∉ wr := fun z => fa (W.sub _ z)
  have more : ∀ b ∈ wr, b ∈ a :: wr := fun _ z => .tail _ z
  have old : ∀ {s s' : Shared}, Moved wr G s s' → (∀ b o, h0.get? b = some o → s.heap.get? b = some o) → ∀ b o, h0.get? b = some o → s'.heap.get? b = some o := fun mv k b o e =>
    mv.heap b o (fun z => by rw [hwr b z] at e; cases e) (k b o e)
  have carry : ∀ {s s' : Shared} {L es ep t}, Moved wr G s s' → SetM P w s.heap a L es ep t → (∀ p ∈ L, IsM P w s'.heap p) → SetM P w s'.heap a L es ep t := fun mv R m => by
    obtain ⟨ob, e, r⟩ := R.obj
    exact ⟨⟨ob, mv.heap a ob awr e, r⟩, R.ents, R.tbl, m, R.wide, R.small⟩
  intro r
  induction r with
  | zero =>
    rintro i s ri hi st k ⟨L, es, ep, t, R0, pm⟩ q
    obtain rfl : i = n := by omega
    refine codeAny_builtin F.entry_set_update_loop ?_
    rw [Around.under_plainId F.plain_set_update_loop _]
    show wpAny _ A.in1 (pyNext (.ref I) >>= _) _ _ s
    apply wpAny_bind
    refine W.done s _ _ st fun s' mv => ?_
    show wpAny _ A.in1 (ret Value.none) _ _ s'
    rw [hn, List.take_length] at pm
    exact wpAny_pure (q s' L es ep t (mv.mono more) (carry mv R0 fun p hp => mem_on (hm p (pm.mem_iff.mp hp)) (old mv k)) pm (old mv k))
  | succ r ih =>
    rintro i s ri hi st k ⟨L, es, ep, t, R0, pm⟩ q
    have lt : i < n := by omega
    refine codeAny_builtin F.entry_set_update_loop ?_
    rw [Around.under_plainId F.plain_set_update_loop _]
    show wpAny _ A.in1 (pyNext (.ref I) >>= _) _ _ s
    apply wpAny_bind
    refine W.item i s _ _ lt st fun v s' hv st' mv => ?_
    obtain ⟨p, hp, rfl⟩ := val i v hv
    have k' := old mv k
    have R1 := carry mv R0 fun p hp => mem_on (hm p (List.mem_of_mem_take (pm.mem_iff.mp hp))) k'
    have mp : IsM P w s'.heap p := mem_on (hm p (List.mem_of_getElem? hp)) k'
    have il : i < ms.length := by omega
    have new : ∀ y ∈ L, y.1 ≠ p.1 := fun y hy e => by
      have y1 := pm.mem_iff.mp hy
      obtain ⟨j, jl, ej⟩ := List.getElem_of_mem y1
      rw [List.length_take] at jl
      have jm : j < ms.length := by omega
      rw [List.getElem_take] at ej
      have pe : ms[i] = p := by
        have := List.getElem?_eq_getElem il
        rw [hp] at this
        exact (Option.some.inj this).symm
      refine List.pairwise_iff_getElem.mp nd j i (by rw [List.length_map]; exact jm) (by rw [List.length_map]; exact il) (by omega) ?_
      rw [List.getElem_map, List.getElem_map, ej, pe, e]
    have lL : L.length = i := by rw [pm.length_eq, List.length_take]; omega
    show wpAny _ A.in1 (holding [Value.ref p.2] (setAdd a (.ref p.2)) >>= _) _ _ s'
    apply wpAny_bind
    apply wpAny_holding
    unfold setAdd
    apply wpAny_holding
    apply wpAny_bind
    refine wpAny_pyHash_tuple hu mp ?_
    refine add_new (s := { s' with toks := s'.toks + (p.1.length + 1) }) R1 mp new hu (by omega) fun b h' L' es' ep' t' sb R2 pm2 => ?_
    have k2 : ∀ b o, h0.get? b = some o → h'.get? b = some o := fun b o e => (sb.2 b fun z => by rw [z, ha] at e; cases e).trans (k' b o e)
    have pm3 : L'.Perm (ms.take (i + 1)) := by
      refine pm2.trans ((pm.cons p).trans ?_)
      rw [List.take_add_one, hp]
      exact (List.perm_append_singleton _ _).symm
    refine wpAny_pure ⟨plainId_quiet F.plain_set_update_loop _, ih (i + 1) _ (by omega) lt (W.frame _ s' _ _ st' (Nat.le_add_right _ _) fun b hb o e => ?_) k2 ⟨L', es', ep', t', R2, pm3⟩ fun s3 L3 es3 ep3 t3 mv3 R3 pm4 k3 => ?_⟩
    · rw [sb.2 b fun z => fa (z ▸ hb)]
      exact e
    · refine q s3 L3 es3 ep3 t3 (Moved.trans W.gtrans ((mv.mono more).then_heap (Nat.le_add_right _ _) fun b o hb e => ?_) mv3) R3 pm4 k3
      rw [sb.2 b fun z => hb (z ▸ .head _)]
      exact e
set_option maxHeartbeats 3200000 in
/-- set(xs) -/
theorem set_of {l : Addr} {its : Array Value} (ms : List Mem) {Q : Value → Shared → Prop} (hh : A.handled = none) (hl : s.heap.IsList l its) (hi : its.toList = ms.map fun p => Value.ref p.2) (hm : ∀ p ∈ ms, IsM P w s.heap p) (nd : (ms.map (·.1)).Nodup)
    (few : ms.length < 76) (hu : A.units + 3 < cLine) (q : ∀ (h' : Heap) (tk : Nat) L es ep t, SetM P w h' s.heap.objs.size L es ep t → L.Perm ms → (∀ b o, s.heap.get? b = some o → h'.get? b = some o) → Q (.ref s.heap.objs.size) { s with heap := h', toks := tk }) :
    wpAny (model P w) A (call (.type "set") [.ref l]) Q E s := by
  have sz : its.size = ms.length := by
    rw [← Array.length_toList, hi, List.length_map]
  obtain ⟨c, tl, hmro⟩ := F.called_set.mro
  have m1 := F.called_set.made
  have m2 := F.called_set.sub
  apply wpAny_call
  apply codeAny_of_tree
  show wpAny _ _ (callAny (.type "set") _) _ _ _
  apply wpAny_pure
  refine ⟨Code.quiet_builtin _ (by decide +kernel), codeAny_builtin F.entry_type_call ?_⟩
  rw [Around.under_plain (weight_type_call_type "set" [.ref l] []) rfl]
  have m3 := F.called_set.notType
  have m4 := F.called_set.canCreate
  have m5 := F.typeCall_set_1 (.ref l)
  repeat (any_goals (first | assumption | wp_step))
  refine codeAny_mono (code_set_led1 (.ref l) (E := E) (Q₁ := fun z s1 => z = .ref s.heap.objs.size ∧ s1 = { s with heap := s.heap.push (newSet w) }) ⟨rfl, rfl⟩) fun r s1 hr => ?_
  rcases r with e | fl
  · exact hr
  cases fl with
  | ret z =>
    obtain ⟨rfl, rfl⟩ := hr
    have at_ : (s.heap.push (newSet w)).get? s.heap.objs.size = some (newSet w) := Heap.get?_push_size _ rfl
    have ty : Shared.TypeIs { s with heap := s.heap.push (newSet w) } (.ref s.heap.objs.size) "set" := ⟨_, at_, rfl⟩
    have m6 := F.called_set.init.lookup
    have m7 := F.called_set.init.bind (.ref s.heap.objs.size)
    repeat (any_goals (first | assumption | wp_step))
    refine codeAny_mono (codeAny_call_builtin (R := wants (fun r s2 => r = .none ∧ ∃ h' tk L es ep t, s2 = { s with heap := h', toks := tk } ∧ SetM P w h' s.heap.objs.size L es ep t ∧ L.Perm ms ∧ ∀ b o, s.heap.get? b = some o → h'.get? b = some o) E)
      F.called_set.init.plain F.entry_set_init (check_set_init_1 ty ?_)) fun r2 s2 hr2 => ?_
    · obtain ⟨⟨oc, od, oa, os⟩, ol, hc, nl, hd⟩ := hl
      dsimp only at hc hd
      subst hc hd
      have ol2 : (s.heap.push (newSet w)).get? l = some { cls := .type "list", dict := od, data := .seq its nl, slots := os } := Heap.get?_push_of_some _ ol
      have f1 := F.sub_list_set
      have f2 := F.sub_list_frozenset
      have f3 : (Value.type "list" == Value.type "dict") = false := by decide
      have li : (s.heap.push (newSet w)).IsList l its := ⟨_, ol2, rfl, nl, rfl⟩
      unfold Builtin.«set.__init__» noKeywords Builtin.Frozenset.updateFrom
      generalize ePI : pyIter = PI
      wp_walk
      subst ePI
      apply wpAny_pyIter_list li
      apply wpAny_bind
      apply wpAny_runValue
      have lS : l < s.heap.objs.size := Heap.lt_size ol
      have h3 : A.in1.in1.in1.handled = none := by simp [hh]
      have lI : l ≠ (s.heap.push (newSet w)).objs.size := by
        rw [Heap.size_push]
        exact Nat.ne_of_lt (Nat.lt_succ_of_lt lS)
      have aI : s.heap.objs.size ∉ [(s.heap.push (newSet w)).objs.size, l] := by
        rw [Heap.size_push]
        intro z
        rcases List.mem_cons.mp z with z | z
        · exact Nat.ne_of_lt (Nat.lt_succ_self _) z
        · exact Nat.ne_of_gt lS (List.mem_singleton.mp z)
      have gone : ∀ b, s.heap.objs.size ≤ b → s.heap.get? b = none := fun b hb => by
        cases z : s.heap.get? b with
        | none => rfl
        | some o => exact absurd (Nat.lt_of_lt_of_le (Heap.lt_size z) hb) (Nat.lt_irrefl _)
      refine fill ((Walks.list h3 _ l lI its).toS) s.heap.objs.size aI ms sz few (fun i v hv => ?_) nd s.heap hm (gone _ (Nat.le_refl _)) (fun b hb => gone b (by rw [List.mem_singleton.mp hb, Heap.size_push]; exact Nat.le_succ _)) hu (its.size - 0) 0 _ rfl (Nat.zero_le _)
        ⟨⟨_, Heap.get?_push_size _ rfl, rfl, rfl⟩, li.push _⟩ (fun b o e => Heap.get?_push_of_some _ (Heap.get?_push_of_some _ e)) ⟨[], _, _, _, set_empty (Heap.get?_push_of_some _ at_), .nil⟩ fun s3 L es ep t mv R pm k => ?_
      · have z : its.toList[i]? = some v := by rw [Array.getElem?_toList]; exact hv
        rw [hi, List.getElem?_map] at z
        obtain ⟨p, hp, e⟩ := Option.map_eq_some_iff.mp z
        exact ⟨p, hp, e.symm⟩
      · obtain ⟨h', g2, d2, tk2, os2⟩ := s3
        have e1 : g2 = s.gens := mv.gens
        have e2 : d2 = s.drawn := mv.drawn
        have e3 : os2 = s.os := mv.os
        subst e1 e2 e3
        show wpAny _ _ _ _ _ _
        apply wpAny_pure
        show wpAny _ _ (ret Value.none) _ _ _
        exact wpAny_pure ⟨rfl, h', tk2, L, es, ep, t, rfl, R, pm, k⟩
    · rcases r2 with e | fl
      · exact hr2
      cases fl with
      | ret z =>
        obtain ⟨rfl, h', tk, L, es, ep, t, rfl, R, pm, k⟩ := hr2
        repeat (any_goals (first | assumption | wp_step))
        exact q _ _ _ _ _ _ R pm k
      | _ => exact hr2.elim
  | _ => exact hr.elim
end
local macro_rules | `(tactic| walk_at "ev") => `(tactic| simp only [asg_e, ret_e, drop_e, next_e, gname_e, var_e, slot0, slotS, c_e, op_e, un_e, tst_e, and_e, or_e, not_e, andV_e, orV_e, notV_e, if_e, nil_e, cons_e, tup_e, lstF_e, lst_e, blt_e, call_e, call0_e, bm_e, bm0_e, lrng_e, par2_e, set0, setS,
  add_ii, add_ss, add_tt, add_ll, sub_ii, mul_ii, fdiv_ii, mod_ii, pow_ii, neg_i, cmp_ii, cmp_ss, cmp_tt, eq_ii, eq_ss, eq_bb, eq_is, eq_si, eq_ni, eq_in, eq_tt, is_e, ix_t, ix_l, ix_f, int_i, int_b, abs_i, i2_e, len_t, len_l, len_f, lstF_t, lstF_l, lst_t, lst_l, tup_t, tup_l, lstS_s,
  ix_r, len_r, tup_r, append_r, insert_r, extend_r, popAt_r, pop_r, mtyp_r, mtyp_l, mtyp_s, gix_v, at_0, at_1, at_2, ixl_0, ixl_1, ixl_2, put_same, put_put, true_and])
local macro_rules | `(tactic| k_with $s:str => $t:tacticSeq) => if s.getString == "ev" then `(tactic| repeat (first | walk_at "ev" | ($t))) else Lean.Macro.throwUnsupported
/-! TX: len(set(l)) of texts, none twice, l a list or a tuple. -/
section
variable {P : Program} {w : World} {A : Around} {E : Value → Shared → Prop} {s : Shared}
theorem setOf_moved {h h' : Heap} {a : Addr} {S : Str → Bool} {n : Nat} (t : h.SetOf (strKind P w) a S n) (k : ∀ o, h.get? a = some o → h'.get? a = some o) : h'.SetOf (strKind P w) a S n := by
  obtain ⟨o, es, ep, t, ho, r⟩ := t
  exact ⟨o, es, ep, t, k _ ho, r⟩
/-- the texts so far, the rest to come -/
theorem fillX {I : Addr} {fp wr : List Addr} {G : Array GenState → Array GenState → Prop} {n : Nat} {Pv : Nat → Value → Prop} {St : Nat → Shared → Prop} {R : Result → Shared → Prop}
    (W : WalksS P w A.in1 I fp wr G n Pv St) (a : Addr) (fa : a ∉ fp) (ts : List Str) (hn : n = ts.length) (few : ts.length < 1000) (val : ∀ i v, Pv i v → ∃ x t, ts[i]? = some x ∧ v = .str x t)
    (nd : ts.Nodup) (h0 : Heap) (ha : h0.get? a = none) (hwr : ∀ b ∈ wr, h0.get? b = none) :
    ∀ (r i : Nat) (s : Shared), n - i = r → i ≤ n → St i s → (∀ b o, h0.get? b = some o → s.heap.get? b = some o) → s.heap.SetOf (strKind P w) a (fun x => decide (x ∈ ts.take i)) i →
      (∀ s', Moved (a :: wr) G s s' → s'.heap.SetOf (strKind P w) a (fun x => decide (x ∈ ts)) n → (∀ b o, h0.get? b = some o → s'.heap.get? b = some o) → R (.ok (.ret .none)) s') →
      codeAny (model P w) A (.builtin "set.update.loop" ⟨[.ref a, .ref I], []⟩) R s := by
  have awr : a ∉ wr := fun z => fa (W.sub _ z)
  have more : ∀ b ∈ wr, b ∈ a :: wr := fun _ z => .tail _ z
  have old : ∀ {s s' : Shared}, Moved wr G s s' → (∀ b o, h0.get? b = some o → s.heap.get? b = some o) → ∀ b o, h0.get? b = some o → s'.heap.get? b = some o := fun mv k b o e =>
    mv.heap b o (fun z => by rw [hwr b z] at e; cases e) (k b o e)
  intro r
  induction r with
  | zero =>
    intro i s ri hi st k R0 q
    obtain rfl : i = n := by omega
    refine codeAny_builtin F.entry_set_update_loop ?_
    rw [Around.under_plainId F.plain_set_update_loop _]
    show wpAny _ A.in1 (pyNext (.ref I) >>= _) _ _ s
    apply wpAny_bind
    refine W.done s _ _ st fun s' mv => ?_
    show wpAny _ A.in1 (ret Value.none) _ _ s'
    have e : ts.take i = ts := by rw [hn, List.take_length]
    rw [e] at R0
    exact wpAny_pure (q s' (mv.mono more) (setOf_moved R0 fun o ho => mv.heap a o awr ho) (old mv k))
  | succ r ih =>
    intro i s ri hi st k R0 q
    have lt : i < n := by omega
    refine codeAny_builtin F.entry_set_update_loop ?_
    rw [Around.under_plainId F.plain_set_update_loop _]
    show wpAny _ A.in1 (pyNext (.ref I) >>= _) _ _ s
    apply wpAny_bind
    refine W.item i s _ _ lt st fun v s' hv st' mv => ?_
    obtain ⟨x, tk, hx, rfl⟩ := val i v hv
    have k' := old mv k
    have R1 := setOf_moved R0 fun o ho => mv.heap a o awr ho
    have il : i < ts.length := by omega
    have ex : ts[i] = x := by
      have := List.getElem?_eq_getElem il
      rw [hx] at this
      exact (Option.some.inj this).symm
    have new : decide (x ∈ ts.take i) = false := decide_eq_false fun z => by
      obtain ⟨j, jl, ej⟩ := List.getElem_of_mem z
      rw [List.length_take] at jl
      rw [List.getElem_take] at ej
      exact List.pairwise_iff_getElem.mp nd j i (by omega) il (by omega) (ej.trans ex.symm)
    show wpAny _ A.in1 (holding [Value.str x tk] (setAdd a (.str x tk)) >>= _) _ _ s'
    apply wpAny_bind
    apply wpAny_holding
    unfold setAdd
    apply wpAny_holding
    apply wpAny_bind
    refine (strKind P w).pyHash (k := x) (strKind_is _ _ _ _) ?_
    refine wpAny_setAddHashed_of (knd := strKind P w) (s := { s' with toks := s'.toks + 1 }) (strKind_is _ _ _ _) rfl R1 (by unfold scanBound; omega) fun h' sb R2 => ?_
    have k2 : ∀ b o, h0.get? b = some o → h'.get? b = some o := fun b o e => (sb.2 b fun z => by rw [z, ha] at e; cases e).trans (k' b o e)
    have R3 : h'.SetOf (strKind P w) a (fun y => decide (y ∈ ts.take (i + 1))) (i + 1) := PyProof.Rows.SetOf_congr R2 (fun y => by
      rw [List.take_add_one, hx]
      by_cases h1 : y ∈ ts.take i <;> by_cases h2 : y = x <;> simp [h1, h2]) (by simp only [new, Bool.false_eq_true, if_false])
    refine wpAny_pure ⟨plainId_quiet F.plain_set_update_loop _, ih (i + 1) _ (by omega) lt (W.frame _ s' _ _ st' (Nat.le_add_right _ _) fun b hb o e => ?_) k2 R3 fun s3 mv3 R4 k3 => ?_⟩
    · rw [sb.2 b fun z => fa (z ▸ hb)]
      exact e
    · refine q s3 (Moved.trans W.gtrans ((mv.mono more).then_heap (Nat.le_add_right _ _) fun b o hb e => ?_) mv3) R4 k3
      rw [sb.2 b fun z => hb (z ▸ .head _)]
      exact e
theorem strs_len : ∀ {vs : List Value} {ts : List Str}, StrsAre vs ts → vs.length = ts.length
  | _, _, .nil => rfl
  | _, _, .cons _ _ t => by rw [List.length_cons, List.length_cons, strs_len t]
theorem strs_get : ∀ {vs : List Value} {ts : List Str} {i : Nat} {v : Value}, StrsAre vs ts → vs[i]? = some v → ∃ x t, ts[i]? = some x ∧ v = .str x t
  | _, _, 0, v, .cons y u t, h => ⟨y, u, rfl, by simpa using h.symm⟩
  | _, _, i + 1, v, .cons y u t, h => by
    have h2 := strs_get (i := i) (v := v) t (by simpa using h)
    simpa using h2
set_option maxHeartbeats 3200000 in
/-- set(xs), xs a list of texts -/
theorem set_ofX_list {l : Addr} {its : Array Value} (ts : List Str) {Q : Value → Shared → Prop} (hh : A.handled = none) (hl : s.heap.IsList l its) (hi : StrsAre its.toList ts) (nd : ts.Nodup)
    (few : ts.length < 1000) (q : ∀ (h' : Heap) (tk : Nat), h'.SetOf (strKind P w) s.heap.objs.size (fun x => decide (x ∈ ts)) ts.length → (∀ b o, s.heap.get? b = some o → h'.get? b = some o) → Q (.ref s.heap.objs.size) { s with heap := h', toks := tk }) :
    wpAny (model P w) A (call (.type "set") [.ref l]) Q E s := by
  have sz : its.size = ts.length := by
    rw [← Array.length_toList, strs_len hi]
  obtain ⟨c, tl, hmro⟩ := F.called_set.mro
  have m1 := F.called_set.made
  have m2 := F.called_set.sub
  apply wpAny_call
  apply codeAny_of_tree
  show wpAny _ _ (callAny (.type "set") _) _ _ _
  apply wpAny_pure
  refine ⟨Code.quiet_builtin _ (by decide +kernel), codeAny_builtin F.entry_type_call ?_⟩
  rw [Around.under_plain (weight_type_call_type "set" [.ref l] []) rfl]
  have m3 := F.called_set.notType
  have m4 := F.called_set.canCreate
  have m5 := F.typeCall_set_1 (.ref l)
  repeat (any_goals (first | assumption | wp_step))
  refine codeAny_mono (code_set_led1 (.ref l) (E := E) (Q₁ := fun z s1 => z = .ref s.heap.objs.size ∧ s1 = { s with heap := s.heap.push (newSet w) }) ⟨rfl, rfl⟩) fun r s1 hr => ?_
  rcases r with e | fl
  · exact hr
  cases fl with
  | ret z =>
    obtain ⟨rfl, rfl⟩ := hr
    have at_ : (s.heap.push (newSet w)).get? s.heap.objs.size = some (newSet w) := Heap.get?_push_size _ rfl
    have ty : Shared.TypeIs { s with heap := s.heap.push (newSet w) } (.ref s.heap.objs.size) "set" := ⟨_, at_, rfl⟩
    have m6 := F.called_set.init.lookup
    have m7 := F.called_set.init.bind (.ref s.heap.objs.size)
    repeat (any_goals (first | assumption | wp_step))
    refine codeAny_mono (codeAny_call_builtin (R := wants (fun r s2 => r = .none ∧ ∃ h' tk, s2 = { s with heap := h', toks := tk } ∧ h'.SetOf (strKind P w) s.heap.objs.size (fun x => decide (x ∈ ts)) ts.length ∧ ∀ b o, s.heap.get? b = some o → h'.get? b = some o) E)
      F.called_set.init.plain F.entry_set_init (check_set_init_1 ty ?_)) fun r2 s2 hr2 => ?_
    · obtain ⟨⟨oc, od, oa, os⟩, ol, hc, nl, hd⟩ := hl
      dsimp only at hc hd
      subst hc hd
      have ol2 : (s.heap.push (newSet w)).get? l = some { cls := .type "list", dict := od, data := .seq its nl, slots := os } := Heap.get?_push_of_some _ ol
      have f1 := F.sub_list_set
      have f2 := F.sub_list_frozenset
      have f3 : (Value.type "list" == Value.type "dict") = false := by decide
      have li : (s.heap.push (newSet w)).IsList l its := ⟨_, ol2, rfl, nl, rfl⟩
      unfold Builtin.«set.__init__» noKeywords Builtin.Frozenset.updateFrom
      generalize ePI : pyIter = PI
      wp_walk
      subst ePI
      apply wpAny_pyIter_list li
      apply wpAny_bind
      apply wpAny_runValue
      have lS : l < s.heap.objs.size := Heap.lt_size ol
      have h3 : A.in1.in1.in1.handled = none := by simp [hh]
      have lI : l ≠ (s.heap.push (newSet w)).objs.size := by
        rw [Heap.size_push]
        exact Nat.ne_of_lt (Nat.lt_succ_of_lt lS)
      have aI : s.heap.objs.size ∉ [(s.heap.push (newSet w)).objs.size, l] := by
        rw [Heap.size_push]
        intro z
        rcases List.mem_cons.mp z with z | z
        · exact Nat.ne_of_lt (Nat.lt_succ_self _) z
        · exact Nat.ne_of_gt lS (List.mem_singleton.mp z)
      have gone : ∀ b, s.heap.objs.size ≤ b → s.heap.get? b = none := fun b hb => by
        cases z : s.heap.get? b with
        | none => rfl
        | some o => exact absurd (Nat.lt_of_lt_of_le (Heap.lt_size z) hb) (Nat.lt_irrefl _)
      refine fillX ((Walks.list h3 _ l lI its).toS) s.heap.objs.size aI ts sz few (fun i v hv => ?_) nd s.heap (gone _ (Nat.le_refl _)) (fun b hb => gone b (by rw [List.mem_singleton.mp hb, Heap.size_push]; exact Nat.le_succ _)) (its.size - 0) 0 _ rfl (Nat.zero_le _)
        ⟨⟨_, Heap.get?_push_size _ rfl, rfl, rfl⟩, li.push _⟩ (fun b o e => Heap.get?_push_of_some _ (Heap.get?_push_of_some _ e)) (PyProof.Rows.SetOf_congr ((PyProof.Rows.setObjOf_fresh (knd := strKind P w) _).setOf (Heap.get?_push_of_some _ at_) (by unfold scanBound; omega)) (fun _ => by simp) rfl) fun s3 mv R k => ?_
      · have z : its.toList[i]? = some v := by rw [Array.getElem?_toList]; exact hv
        exact strs_get hi z
      · obtain ⟨h', g2, d2, tk2, os2⟩ := s3
        have e1 : g2 = s.gens := mv.gens
        have e2 : d2 = s.drawn := mv.drawn
        have e3 : os2 = s.os := mv.os
        subst e1 e2 e3
        show wpAny _ _ _ _ _ _
        apply wpAny_pure
        show wpAny _ _ (ret Value.none) _ _ _
        exact wpAny_pure ⟨rfl, h', tk2, rfl, sz ▸ R, k⟩
    · rcases r2 with e | fl
      · exact hr2
      cases fl with
      | ret z =>
        obtain ⟨rfl, h', tk, rfl, R, k⟩ := hr2
        repeat (any_goals (first | assumption | wp_step))
        exact q _ _ R k
      | _ => exact hr2.elim
  | _ => exact hr.elim
set_option maxHeartbeats 3200000 in
/-- set(xs), xs a tuple of texts -/
theorem set_ofX_tuple {l : Addr} {its : Array Value} (ts : List Str) {Q : Value → Shared → Prop} (hh : A.handled = none) (hl : s.heap.IsTuple l its) (hi : StrsAre its.toList ts) (nd : ts.Nodup)
    (few : ts.length < 1000) (q : ∀ (h' : Heap) (tk : Nat), h'.SetOf (strKind P w) s.heap.objs.size (fun x => decide (x ∈ ts)) ts.length → (∀ b o, s.heap.get? b = some o → h'.get? b = some o) → Q (.ref s.heap.objs.size) { s with heap := h', toks := tk }) :
    wpAny (model P w) A (call (.type "set") [.ref l]) Q E s := by
  have sz : its.size = ts.length := by
    rw [← Array.length_toList, strs_len hi]
  obtain ⟨c, tl, hmro⟩ := F.called_set.mro
  have m1 := F.called_set.made
  have m2 := F.called_set.sub
  apply wpAny_call
  apply codeAny_of_tree
  show wpAny _ _ (callAny (.type "set") _) _ _ _
  apply wpAny_pure
  refine ⟨Code.quiet_builtin _ (by decide +kernel), codeAny_builtin F.entry_type_call ?_⟩
  rw [Around.under_plain (weight_type_call_type "set" [.ref l] []) rfl]
  have m3 := F.called_set.notType
  have m4 := F.called_set.canCreate
  have m5 := F.typeCall_set_1 (.ref l)
  repeat (any_goals (first | assumption | wp_step))
  refine codeAny_mono (code_set_led1 (.ref l) (E := E) (Q₁ := fun z s1 => z = .ref s.heap.objs.size ∧ s1 = { s with heap := s.heap.push (newSet w) }) ⟨rfl, rfl⟩) fun r s1 hr => ?_
  rcases r with e | fl
  · exact hr
  cases fl with
  | ret z =>
    obtain ⟨rfl, rfl⟩ := hr
    have at_ : (s.heap.push (newSet w)).get? s.heap.objs.size = some (newSet w) := Heap.get?_push_size _ rfl
    have ty : Shared.TypeIs { s with heap := s.heap.push (newSet w) } (.ref s.heap.objs.size) "set" := ⟨_, at_, rfl⟩
    have m6 := F.called_set.init.lookup
    have m7 := F.called_set.init.bind (.ref s.heap.objs.size)
    repeat (any_goals (first | assumption | wp_step))
    refine codeAny_mono (codeAny_call_builtin (R := wants (fun r s2 => r = .none ∧ ∃ h' tk, s2 = { s with heap := h', toks := tk } ∧ h'.SetOf (strKind P w) s.heap.objs.size (fun x => decide (x ∈ ts)) ts.length ∧ ∀ b o, s.heap.get? b = some o → h'.get? b = some o) E)
      F.called_set.init.plain F.entry_set_init (check_set_init_1 ty ?_)) fun r2 s2 hr2 => ?_
    · obtain ⟨⟨oc, od, oa, os⟩, ol, hc, nl, hd⟩ := hl
      dsimp only at hc hd
      subst hc hd
      have ol2 : (s.heap.push (newSet w)).get? l = some { cls := .type "tuple", dict := od, data := .seq its nl, slots := os } := Heap.get?_push_of_some _ ol
      have f1 := F.sub_tuple_set
      have f2 := F.sub_tuple_frozenset
      have f3 : (Value.type "tuple" == Value.type "dict") = false := by decide
      have li : (s.heap.push (newSet w)).IsTuple l its := ⟨_, ol2, rfl, nl, rfl⟩
      unfold Builtin.«set.__init__» noKeywords Builtin.Frozenset.updateFrom
      generalize ePI : pyIter = PI
      wp_walk
      subst ePI
      apply wpAny_pyIter_tuple li
      apply wpAny_bind
      apply wpAny_runValue
      have lS : l < s.heap.objs.size := Heap.lt_size ol
      have h3 : A.in1.in1.in1.handled = none := by simp [hh]
      have lI : l ≠ (s.heap.push (newSet w)).objs.size := by
        rw [Heap.size_push]
        exact Nat.ne_of_lt (Nat.lt_succ_of_lt lS)
      have aI : s.heap.objs.size ∉ [(s.heap.push (newSet w)).objs.size, l] := by
        rw [Heap.size_push]
        intro z
        rcases List.mem_cons.mp z with z | z
        · exact Nat.ne_of_lt (Nat.lt_succ_self _) z
        · exact Nat.ne_of_gt lS (List.mem_singleton.mp z)
      have gone : ∀ b, s.heap.objs.size ≤ b → s.heap.get? b = none := fun b hb => by
        cases z : s.heap.get? b with
        | none => rfl
        | some o => exact absurd (Nat.lt_of_lt_of_le (Heap.lt_size z) hb) (Nat.lt_irrefl _)
      refine fillX ((Walks.tuple h3 _ l lI its).toS) s.heap.objs.size aI ts sz few (fun i v hv => ?_) nd s.heap (gone _ (Nat.le_refl _)) (fun b hb => gone b (by rw [List.mem_singleton.mp hb, Heap.size_push]; exact Nat.le_succ _)) (its.size - 0) 0 _ rfl (Nat.zero_le _)
        ⟨⟨_, Heap.get?_push_size _ rfl, rfl, rfl⟩, li.push _⟩ (fun b o e => Heap.get?_push_of_some _ (Heap.get?_push_of_some _ e)) (PyProof.Rows.SetOf_congr ((PyProof.Rows.setObjOf_fresh (knd := strKind P w) _).setOf (Heap.get?_push_of_some _ at_) (by unfold scanBound; omega)) (fun _ => by simp) rfl) fun s3 mv R k => ?_
      · have z : its.toList[i]? = some v := by rw [Array.getElem?_toList]; exact hv
        exact strs_get hi z
      · obtain ⟨h', g2, d2, tk2, os2⟩ := s3
        have e1 : g2 = s.gens := mv.gens
        have e2 : d2 = s.drawn := mv.drawn
        have e3 : os2 = s.os := mv.os
        subst e1 e2 e3
        show wpAny _ _ _ _ _ _
        apply wpAny_pure
        show wpAny _ _ (ret Value.none) _ _ _
        exact wpAny_pure ⟨rfl, h', tk2, rfl, sz ▸ R, k⟩
    · rcases r2 with e | fl
      · exact hr2
      cases fl with
      | ret z =>
        obtain ⟨rfl, h', tk, rfl, R, k⟩ := hr2
        repeat (any_goals (first | assumption | wp_step))
        exact q _ _ R k
      | _ => exact hr2.elim
  | _ => exact hr.elim
end
/-! DZ: len(set(l)), of ints or of tuples of texts and ints, none twice. -/
section
variable {X : Cx}
theorem items_keys {P : Program} {w : World} : ∀ {k : List Key} {us : List Value}, Vals (k.map kV) us → ItemsAre (mixKind P w) k us
  | [], _, .nil => .nil
  | .inl i :: k, _, .cons r t => by
    obtain ⟨tk, rfl⟩ := r
    exact .cons (keyIs_int i tk) (items_keys t)
  | .inr x :: k, _, .cons r t => by
    obtain ⟨tk, rfl⟩ := r
    exact .cons (keyIs_str x tk) (items_keys t)
theorem isM_of {pins : List (Addr × PySem.Obj)} {σ : St} {H : Hp} {s : Shared} {p : Mem} (I : Inv X pins σ H s) (h : SqT X.K H p.2 (p.1.map kV)) : IsM X.prog X.w s.heap p := by
  obtain ⟨its, r, ⟨ob, e, c, n, d⟩, _⟩ := I.tuple h
  refine ⟨ob, its.toArray, n, e, c, d, ?_⟩
  simpa using items_keys r
theorem ref_vals : ∀ {ms : List Mem} {us : List Value}, Vals (ms.map fun p => V.ref p.2) us → us = ms.map fun p => Value.ref p.2
  | [], _, .nil => rfl
  | p :: ms, _, .cons r t => by
    cases r
    rw [ref_vals t, List.map_cons]
/-- the ints, or the tuples, of a list of which none stands twice -/
def tLenSet (K : PySem.W.Frag) (ta : TE) : TE := fun σ H Q => ta σ H fun x H1 =>
  (∃ (l : Addr) (ns : List Int), x = V.ref l ∧ SqL K H1 l (ns.map V.int) ∧ ns.length < 76 ∧ ns.Nodup ∧ Q (.int ns.length) H1) ∨
  (∃ (l : Addr) (ms : List Mem), x = V.ref l ∧ SqL K H1 l (ms.map fun p => V.ref p.2) ∧ (∀ p ∈ ms, SqT K H1 p.2 (p.1.map kV)) ∧ ms.length < 76 ∧ (ms.map (·.1)).Nodup ∧ Q (.int ms.length) H1) ∨
  ∃ (l : Addr) (ts : List Str), x = V.ref l ∧ (SqL K H1 l (ts.map V.str) ∨ SqT K H1 l (ts.map V.str)) ∧ ts.length < 76 ∧ ts.Nodup ∧ Q (.int ts.length) H1
theorem strs_rep {K : PySem.W.Frag} {S : DHp} {H : Hp} : ∀ {ts : List Str} {vs : List V}, RepL K S H (ts.map D.str) vs → vs = ts.map V.str
  | [], _, .nil => rfl
  | x :: ts, _, .cons w t => by
    cases w
    rw [strs_rep t]
    rfl
theorem pe_lenSetA {a : Expr} {ta : TE} {p p2 q pos : Pos} (hu : X.A.units + 65 < cLine) (hc : X.calm = true) (g1 : Gl X "len") (e1 : X.mg "len" = none) (g2 : Gl X "set") (e2 : X.mg "set" = none) (ha : PE X a ta)
    (st : starEach [a] X.env = (false, eval a X.env) :: starEach [] X.env := by rfl) : PE X (.Call (.Name "len" p) [.Call (.Name "set" p2) [a] [] q] [] pos) (tLenSet X.K ta) := by
  constructor
  intro pins s σ H Q I h
  refine Call_ (ld_blt I g1 e1 PySem.boot_len ?_)
  refine PyProof.Rows.callWith_builtin1 ?_ rfl rfl
  refine PyProof.Rows.args_cons ?_ rfl
  refine Call_ (ld_blt I g2 e2 PyProof.Rows.boot_set ?_)
  refine PyProof.Rows.callWith_type1 ?_ st rfl
  refine PyProof.Rows.args_cons ?_ st
  refine thn (ha.run pins s σ H _ I h) fun v s1 z => ?_
  apply PyProof.Rows.args_nil
  obtain ⟨x, H1, I1, rx, z⟩ := z
  rcases z with ⟨l, ns, rfl, hl, few, nd, q⟩ | ⟨l, ms, rfl, hl, mem, few, nd, q⟩ | ⟨l, ts, rfl, sq, few, nd, q⟩
  · cases rx
    obtain ⟨its, r, lst, _⟩ := I1.list hl
    have sz : its.toArray.size = ns.length := by rw [List.size_toArray, ← r.length, List.length_map]
    refine call_set_list (ns := ns) (I1.ok.hd hc) lst.isList (by simpa using r.ints) (by unfold scanBound; omega) fun h' tk z k => ?_
    rw [sz, firstMet_nodup ns nd _ (Nat.le_refl _), List.take_length] at z
    obtain ⟨ob, es, ep, t, at_, ex, dat, _, _, _, fit, n⟩ := z
    have J : Inv X pins σ H1 { s1 with heap := h', toks := tk } := I1.kept fun b o e => k b o (Heap.lt_size e) e
    apply PyProof.Rows.args_nil
    refine call_len_set at_ ex dat fit (by rw [n]; omega) ⟨.int ns.length, H1, J.tok _, ?_, q⟩
    exact ⟨_, by rw [n]⟩
  · cases rx
    obtain ⟨its, r, lst, _⟩ := I1.list hl
    refine set_of ms (I1.ok.hd hc) lst.isList (by simpa using ref_vals r) (fun m hm => isM_of I1 (mem m hm)) nd few (by omega) fun h' tk L es ep t R pm k => ?_
    obtain ⟨ob, at_, ex, dat⟩ := R.obj
    have n : es.size = ms.length := by rw [ents_len R.ents, pm.length_eq]
    have J : Inv X pins σ H1 { s1 with heap := h', toks := tk } := I1.kept fun b o e => k b o e
    apply PyProof.Rows.args_nil
    refine call_len_set at_ ex dat (SetM.fit (s := { s1 with heap := h', toks := tk }) R) (by rw [n]; omega) ⟨.int ms.length, H1, J.tok _, ?_, q⟩
    exact ⟨_, by rw [n]⟩
  · cases rx
    have fin : ∀ (h' : Heap) (tk : Nat), h'.SetOf (strKind X.prog X.w) s1.heap.objs.size (fun x => decide (x ∈ ts)) ts.length → (∀ b o, s1.heap.get? b = some o → h'.get? b = some o) →
        wpAny (model X.prog X.w) X.A (spliced (backTo pos (starEach [] X.env))) (fun vs s₂ => wpAny (model X.prog X.w) X.A (call (.builtin "len") (Value.ref s1.heap.objs.size :: vs)) (EP X pins σ Q) X.xe s₂) X.xe { s1 with heap := h', toks := tk } := fun h' tk z k => by
      obtain ⟨ob, es, ep, t, at_, ex, dat, _, _, _, fit, n⟩ := z
      have J : Inv X pins σ H1 { s1 with heap := h', toks := tk } := I1.kept fun b o e => k b o e
      apply PyProof.Rows.args_nil
      refine call_len_set at_ ex dat fit (by rw [n]; omega) ⟨.int ts.length, H1, J.tok _, ?_, q⟩
      exact ⟨_, by rw [n]⟩
    rcases sq with sq | sq
    · obtain ⟨its, r, lst, _⟩ := I1.list sq
      exact set_ofX_list ts (I1.ok.hd hc) lst.isList (by simpa using strsAre_of r) nd (by omega) fin
    · obtain ⟨its, r, tup, _⟩ := I1.tuple sq
      exact set_ofX_tuple ts (I1.ok.hd hc) tup (by simpa using strsAre_of r) nd (by omega) fin
/-- the keys of tuples -/
def tupKeys : List D → Option (List (List Key))
  | [] => some []
  | .nd .tup zs :: ds => match keyL zs, tupKeys ds with
    | some k, some ks => some (k :: ks)
    | _, _ => none
  | _ => none
theorem tups_at {K : PySem.W.Frag} {S : DHp} {H : Hp} : ∀ {ds : List D} {vs : List V} {ks : List (List Key)}, RepL K S H ds vs → tupKeys ds = some ks → ∃ ms : List Mem, vs = ms.map (fun p => V.ref p.2) ∧ ms.map (·.1) = ks ∧ ∀ p ∈ ms, SqT K H p.2 (p.1.map kV)
  | _, _, _, .nil, h => by cases h; exact ⟨[], rfl, rfl, (fun _ z => by cases z)⟩
  | d :: ds, _, ks, .cons w t, h => by
    match d, h with
    | .nd .tup zs, h =>
      unfold tupKeys at h
      cases e1 : keyL zs with
      | none => simp only [e1] at h; cases h
      | some k =>
        cases e2 : tupKeys ds with
        | none => simp only [e1, e2] at h; cases h
        | some ks2 =>
          simp only [e1, e2] at h
          cases h
          obtain ⟨ms, rfl, rfl, m⟩ := tups_at t e2
          obtain ⟨a, us, rfl, sq, _, ru⟩ := w.seqT
          rw [rep_keys ru e1] at sq
          refine ⟨(k, a) :: ms, rfl, rfl, fun p hp => ?_⟩
          rcases List.mem_cons.mp hp with z | z
          · rw [z]; exact sq
          · exact m p z
/-- what len(set(l)) is asked -/
def dLenSet (te : DTE) : DTE := fun ρ S Q => te ρ S fun x S1 => match x with
  | .nd .lst ds => ds.length < 76 ∧ ((∃ ns, intsOf ds = some ns ∧ ns.Nodup) ∨ (∃ ks, tupKeys ds = some ks ∧ ks.Nodup) ∨ ∃ ts : List Str, ds = ts.map D.str ∧ ts.Nodup) ∧ Q (.int ds.length) S1
  | .nd .tup ds => ds.length < 76 ∧ (∃ ts : List Str, ds = ts.map D.str ∧ ts.Nodup) ∧ Q (.int ds.length) S1
  | _ => False
theorem intsOf_len : ∀ {ds : List D} {ns : List Int}, intsOf ds = some ns → ns.length = ds.length
  | [], _, h => by cases h; rfl
  | d :: ds, ns, h => by
    match d, h with
    | .int i, h =>
      rw [intsOf] at h
      cases e : intsOf ds with
      | none => rw [e] at h; cases h
      | some ms =>
        rw [e] at h
        cases h
        rw [List.length_cons, List.length_cons, intsOf_len e]
theorem de_lenSet {te : DTE} {a : Expr} {p p2 q pos : Pos} (hu : X.A.units + 65 < cLine) (hc : X.calm = true) (g1 : Gl X "len") (e1 : X.mg "len" = none) (g2 : Gl X "set") (e2 : X.mg "set" = none) (ha : DE X a te)
    (st : starEach [a] X.env = (false, eval a X.env) :: starEach [] X.env := by rfl) : DE X (.Call (.Name "len" p) [.Call (.Name "set" p2) [a] [] q] [] pos) (dLenSet te) :=
  PE.mono (pe_lenSetA hu hc g1 e1 g2 e2 ha st) fun σ H Q ⟨ρ, S, Qd, r, rs, q, k0⟩ => by
    refine ⟨ρ, S, _, r, rs, q, fun x S1 xv H1 q1 k1 rs1 w1 => ?_⟩
    match x, q1 with
    | .nd .lst ds, ⟨few, alt, q1⟩ =>
      obtain ⟨l, vs, rfl, _, h, rr⟩ := w1.seqL
      rcases alt with ⟨ns, e, nd⟩ | ⟨ks, e, nd⟩ | ⟨ts, e, nd⟩
      · have ev := RepL.intsV rr e
        subst ev
        have n := intsOf_len e
        exact .inl ⟨l, ns, rfl, SqL.of h, by omega, nd, by rw [n]; exact k0 _ S1 _ H1 q1 k1 rs1 .int⟩
      · obtain ⟨ms, rfl, rfl, m⟩ := tups_at rr e
        have n : ms.length = ds.length := by have := rr.length; rw [List.length_map] at this; exact this.symm
        exact .inr (.inl ⟨l, ms, rfl, SqL.of h, m, by omega, nd, by rw [n]; exact k0 _ S1 _ H1 q1 k1 rs1 .int⟩)
      · subst e
        have ev := strs_rep rr
        subst ev
        rw [List.length_map] at few q1
        exact .inr (.inr ⟨l, ts, rfl, .inl (SqL.of h), few, nd, k0 _ S1 _ H1 q1 k1 rs1 .int⟩)
    | .nd .tup ds, ⟨few, ⟨ts, e, nd⟩, q1⟩ =>
      subst e
      obtain ⟨l, vs, rfl, sq, _, rr⟩ := w1.seqT
      have ev := strs_rep rr
      subst ev
      rw [List.length_map] at few q1
      exact .inr (.inr ⟨l, ts, rfl, .inr sq, few, nd, k0 _ S1 _ H1 q1 k1 rs1 .int⟩)
end
/-! EE: dict comprehensions with two fors over data by value. -/
section
variable {X : Cx} {K : PySem.W.Frag}
abbrev TAcc := List (List Key) × List D
/-- the inner loop -/
def dcT (p : Addr) (live : DHp → Prop) (g : DTG) (tk tv : DTE) (ρ : DSt) (Kf : TAcc → DHp → Prop) : List D → TAcc → DHp → Prop
  | [], acc, S => live S ∧ S p = some (.dT acc.1, acc.2) ∧ Kf acc S
  | d :: ds, acc, S => live S ∧ g d ρ S fun ρ2 S2 => tk ρ2 S2 fun y S3 => tv ρ2 S3 fun z S4 => match y with
    | .nd .tup zs => match keyL zs with
      | some k => S4 p = some (.dT acc.1, acc.2) ∧ acc.1.length < sizeLine ∧ dcT p live g tk tv ρ Kf ds (putD acc.1 acc.2 k z) (put S4 p (.dT (putD acc.1 acc.2 k z).1, (putD acc.1 acc.2 k z).2))
      | none => False
    | _ => False
/-- the outer loop -/
def dcO (p : Addr) (live : DHp → Prop) (g : DTG) (ti1 : DTI) (g1 : DTG) (tk tv : DTE) (vs1 : List Nat) (ρ : DSt) (Kf : TAcc → DHp → Prop) : List D → TAcc → DHp → Prop
  | [], acc, S => live S ∧ S p = some (.dT acc.1, acc.2) ∧ Kf acc S
  | d :: ds, acc, S => live S ∧ g d ρ S fun ρ2 S2 => ti1 ρ2 S2 fun src1 S3 => dcT p src1.live g1 tk tv (wipeD ρ2 vs1) (fun acc' S' => dcO p live g ti1 g1 tk tv vs1 ρ Kf ds acc' S') src1.items acc S3
theorem dcT_live {p : Addr} {live : DHp → Prop} {g : DTG} {tk tv : DTE} {ρ : DSt} {Kf : TAcc → DHp → Prop} {l : List D} {acc : TAcc} {S : DHp} (h : dcT p live g tk tv ρ Kf l acc S) : live S := by
  cases l with
  | nil => exact h.1
  | cons _ _ => exact h.1
theorem dcO_live {p : Addr} {live : DHp → Prop} {g : DTG} {ti1 : DTI} {g1 : DTG} {tk tv : DTE} {vs1 : List Nat} {ρ : DSt} {Kf : TAcc → DHp → Prop} {l : List D} {acc : TAcc} {S : DHp} (h : dcO p live g ti1 g1 tk tv vs1 ρ Kf l acc S) : live S := by
  cases l with
  | nil => exact h.1
  | cons _ _ => exact h.1
/-- the new dict stands still -/
def dDc2 (ti : DTI) (g : DTG) (ti1 : DTI) (g1 : DTG) (tk tv : DTE) (vs vs1 : List Nat) : DTE := fun ρ S Q => ti ρ S fun src S1 => ∀ p, S1 p = none → dcO p src.live g ti1 g1 tk tv vs1 (wipeD ρ vs) (fun acc S' => Q (.nd (.dT acc.1) acc.2) (era S' p)) src.items ([], []) (put S1 p (.dT [], []))
theorem dc2_lift {ti : DTI} {g : DTG} {ti1 : DTI} {g1 : DTG} {tk tv : DTE} {vs vs1 : List Nat} {σ : St} {H : Hp} {Q : VK}
    (h : lift K (dDc2 ti g ti1 g1 tk tv vs vs1) σ H Q) : tDc2 (liftI K ti) (liftGv K vs g) (liftI K ti1) (liftGv K vs1 g1) (lift K tk) (lift K tv) vs vs1 σ H Q := by
  obtain ⟨ρ, S, Qd, r, rs, q, k⟩ := h
  refine ⟨ρ, S, _, r, rs, q, fun src S1 J H1 q1 k1 rs1 w1 => ?_⟩
  intro p hp
  have q2 := q1 p (rs1.free hp)
  have kn : Keep S1 H1 (put S1 p (.dT [], [])) (upd H1 p (.dT [])) := keep_new hp
  let Kf : TAcc → DHp → Prop := fun acc S' => Qd (.nd (.dT acc.1) acc.2) (era S' p)
  refine ⟨fun i m H' => ∃ S' acc, Keep S1 H1 S' H' ∧ RS K S' H' ∧ m = src.items.length - i ∧ i ≤ src.items.length ∧ dcO p src.live g ti1 g1 tk tv vs1 (wipeD ρ vs) Kf (src.items.drop i) acc S',
    ⟨_, _, ([], []), kn, rs_new rs1 hp (.dT (ks := []) (vs := []) rfl) .nil, rfl, Nat.zero_le _, by simpa using q2⟩, ?_⟩
  rintro i m H' ⟨S', acc, k2, rs2, rfl, hi, q3⟩
  have lv := dcO_live q3
  by_cases hlt : i < src.items.length
  · have ed : src.items.drop i = src.items[i] :: src.items.drop (i + 1) := List.drop_eq_getElem_cons hlt
    rw [ed] at q3
    obtain ⟨_, q3⟩ := q3
    refine .inr ⟨w1.go i S' H' hlt k2 rs2 lv, fun H3 => ∃ S3 acc3, Keep S1 H1 S3 H3 ∧ RS K S3 H3 ∧ dcO p src.live g ti1 g1 tk tv vs1 (wipeD ρ vs) Kf (src.items.drop (i + 1)) acc3 S3, fun H3 ⟨S3, acc3, b1, b2, b3⟩ => ⟨src.items.length - (i + 1), by omega, S3, acc3, b1, b2, rfl, hlt, b3⟩, fun x H4 y => ?_⟩
    obtain ⟨k4, rs4, w4⟩ := w1.yld i src.items[i] S' H' x H4 (by simp [hlt]) k2 rs2 lv y
    have k04 : Keep S H S' H4 := (k1.trans k2).trans k4
    refine ⟨_, wipeD ρ vs, S', _, w4, (r.keep k04).wipe vs, rs4, q3, fun ρ5 S5 σ5 H5 q5 k5 rs5 r5 hw => ?_⟩
    refine ⟨by rw [hw, wipe_twice], ρ5, S5, _, r5, rs5, q5, fun src1 S7 J1 H7 q7 k7 rs7 w7 => ?_⟩
    have k15 : Keep S1 H1 S5 H5 := (k2.trans k4).trans k5
    have r7 : RepSt K S7 H7 ρ5 σ5 := r5.keep k7
    refine ⟨fun j m1 H8 => ∃ S8 acc8, Keep S7 H7 S8 H8 ∧ RS K S8 H8 ∧ m1 = src1.items.length - j ∧ j ≤ src1.items.length ∧ dcT p src1.live g1 tk tv (wipeD ρ5 vs1) (fun acc' S' => dcO p src.live g ti1 g1 tk tv vs1 (wipeD ρ vs) Kf (src.items.drop (i + 1)) acc' S') (src1.items.drop j) acc8 S8,
      ⟨_, S7, acc, Keep.refl, rs7, rfl, Nat.zero_le _, by simpa using q7⟩, ?_⟩
    rintro j m1 H8 ⟨S8, acc8, k8, rs8, rfl, hj, q8⟩
    have lv1 := dcT_live q8
    by_cases hlt1 : j < src1.items.length
    · have ed1 : src1.items.drop j = src1.items[j] :: src1.items.drop (j + 1) := List.drop_eq_getElem_cons hlt1
      rw [ed1] at q8
      obtain ⟨_, q8⟩ := q8
      refine .inr ⟨w7.go j S8 H8 hlt1 k8 rs8 lv1, fun H9 => ∃ S9 acc9, Keep S7 H7 S9 H9 ∧ RS K S9 H9 ∧ dcT p src1.live g1 tk tv (wipeD ρ5 vs1) (fun acc' S' => dcO p src.live g ti1 g1 tk tv vs1 (wipeD ρ vs) Kf (src.items.drop (i + 1)) acc' S') (src1.items.drop (j + 1)) acc9 S9, fun H9 ⟨S9, acc9, b1, b2, b3⟩ => ⟨src1.items.length - (j + 1), by omega, S9, acc9, b1, b2, rfl, hlt1, b3⟩, fun x1 H9 y1 => ?_⟩
      obtain ⟨k9, rs9, w9⟩ := w7.yld j src1.items[j] S8 H8 x1 H9 (by simp [hlt1]) k8 rs8 lv1 y1
      have k79 : Keep S7 H7 S8 H9 := k8.trans k9
      refine ⟨_, wipeD ρ5 vs1, S8, _, w9, (r7.keep k79).wipe vs1, rs9, q8, fun ρa Sa σa Ha qa ka rsa ra hwa => ?_⟩
      refine ⟨by rw [hwa, wipe_twice], ρa, Sa, _, ra, rsa, qa, fun yd Sb yv Hb qb kb rsb wb => ?_⟩
      refine ⟨ρa, Sb, _, ra.keep kb, rsb, qb, fun zd Sc zv Hc qc kc rsc wc => ?_⟩
      match yd, qc with
      | .nd .tup zs, qc =>
        cases ek : keyL zs with
        | none => simp only [ek] at qc
        | some key =>
          simp only [ek] at qc
          obtain ⟨qc, hz, qd⟩ := qc
          obtain ⟨us, ho, xc, ob, wu⟩ := rsc p _ _ qc
          have hne : Sc p ≠ none := by rw [qc]; simp
          obtain ⟨b, ys, rfl, _, hb, ry⟩ := rep_tupH (wb.keep kc) (keyL_two ek).1
          rw [rep_keys ry ek] at hb
          cases ob with
          | dT hl =>
            obtain ⟨p1, p2⟩ := put_rep (ks := acc8.1) (k := key) wc wu
            refine ⟨_, key, b, rfl, xc, hb, by rw [List.length_zip, ← hl, Nat.min_self]; exact hz, _, _, (((k79.trans ka).trans kb).trans kc).trans (keep_put hne), ?_, qd⟩
            rw [put_zip hl]
            refine rs_put rsc hne ?_ p2
            rw [p1]
            exact .dT (put_len hl)
    · have e1 : j = src1.items.length := by omega
      subst e1
      have ed1 : src1.items.drop src1.items.length = [] := List.drop_eq_nil_of_le (Nat.le_refl _)
      rw [ed1] at q8
      obtain ⟨_, _, q8⟩ := q8
      exact .inl ⟨w7.stop S8 H8 k8 rs8 lv1, S8, acc8, (k15.trans k7).trans k8, rs8, q8⟩
  · have e : i = src.items.length := by omega
    subst e
    have ed : src.items.drop src.items.length = [] := List.drop_eq_nil_of_le (Nat.le_refl _)
    rw [ed] at q3
    obtain ⟨_, hpa, q3⟩ := q3
    exact .inl ⟨w1.stop S' H' k2 rs2 lv, k _ _ _ H' q3 ((k1.trans k2).trans Less.era.keep) (rs2.less Less.era) (rep_freeze rs2 hpa)⟩
theorem de_dc2 {kx vx tg iter tg1 iter1 : Expr} {scope : Scope} {own : List (Str × Nat)} {vs1 : List Nat} {pos : Pos} {ti ti1 : DTI} {g g1 : DTG} {tk tv : DTE} (hu : X.A.units < cLine) (hc : X.calm = true) (hN : X.N.Nodup) (hi : DI X tg iter ti) (ok : BlkOk X.N X.env.scope scope own) (hv : ∀ i ∈ vs1, i ∈ own.map (·.2))
    (hg : ∀ s H C cl fp, DGv (X.blk s H scope (compEnvC scope cl C X.env) fp) tg (own.map (·.2)) g) (hi1 : ∀ s H C cl fp, DI (X.blk s H scope (compEnvC scope cl C X.env) fp) tg1 iter1 ti1) (hg1 : ∀ s H C cl fp, DGv (X.blk s H scope (compEnvC scope cl C X.env) fp) tg1 vs1 g1)
    (hk : ∀ s H C cl fp, DE (X.blk s H scope (compEnvC scope cl C X.env) fp) kx tk) (hw : ∀ s H C cl fp, DE (X.blk s H scope (compEnvC scope cl C X.env) fp) vx tv)
    (hs : ∀ x, foldedSetIterable iter X.env x = pure x := by intro _; rfl) (hs1 : ∀ (e : Env) x, foldedSetIterable iter1 e x = pure x := by intro _ _; rfl) :
    DE X (.DictComp kx vx [⟨tg, iter, [], 0⟩, ⟨tg1, iter1, [], 0⟩] scope pos) (dDc2 ti g ti1 g1 tk tv (own.map (·.2)) vs1) :=
  PE.mono (pe_dc2 hu hc hN hi ok hv hg hi1 hg1 hk hw hs hs1) fun _ _ _ => dc2_lift
theorem ds_setDc2 {i : Nat} {y : Str} {py spos : Pos} {kx vx tg iter tg1 iter1 : Expr} {scope : Scope} {own : List (Str × Nat)} {vs1 : List Nat} {pos : Pos} {ti ti1 : DTI} {g g1 : DTG} {tk tv : DTE} (hu : X.A.units < cLine) (hc : X.calm = true) (hN : X.N.Nodup) (hy : X.N[i]? = some y) (hl : X.env.scope.names.lookup y = some .local)
    (sw : swapsWith (.DictComp kx vx [⟨tg, iter, [], 0⟩, ⟨tg1, iter1, [], 0⟩] scope pos) (some (.Name y py)) spos.line X.env = pure true) (hi : DI X tg iter ti) (ok : BlkOk X.N X.env.scope scope own) (hv : ∀ i ∈ vs1, i ∈ own.map (·.2))
    (hg : ∀ s H C cl fp, DGv (X.blk s H scope (compEnvC scope cl C X.env) fp) tg (own.map (·.2)) g) (hi1 : ∀ s H C cl fp, DI (X.blk s H scope (compEnvC scope cl C X.env) fp) tg1 iter1 ti1) (hg1 : ∀ s H C cl fp, DGv (X.blk s H scope (compEnvC scope cl C X.env) fp) tg1 vs1 g1)
    (hk : ∀ s H C cl fp, DE (X.blk s H scope (compEnvC scope cl C X.env) fp) kx tk) (hw : ∀ s H C cl fp, DE (X.blk s H scope (compEnvC scope cl C X.env) fp) vx tv)
    (hs : ∀ x, foldedSetIterable iter X.env x = pure x := by intro _; rfl) (hs1 : ∀ (e : Env) x, foldedSetIterable iter1 e x = pure x := by intro _ _; rfl) :
    DS X (.Assign [.Name y py] (.DictComp kx vx [⟨tg, iter, [], 0⟩, ⟨tg1, iter1, [], 0⟩] scope pos) spos) (dAsg (dDc2 ti g ti1 g1 tk tv (own.map (·.2)) vs1) (dgName i)) :=
  PS.mono (ps_setDc2 hu hc hN hy hl sw hi ok hv hg hi1 hg1 hk hw hs hs1) fun _ _ _ => asg_lift fun _ _ _ => dc2_lift
end
/-! EF: own classes over data by value: making, fields, methods, o[i], ~o. -/
section
variable {X : Cx} {K : PySem.W.Frag} {o e a b : Expr} {pos apos : Pos} {es : List Expr}
/-- an instance that stands still, or of the store: its class, the names and values of its fields -/
def insOf (S : DHp) : D → Option (Addr × List Str × List D)
  | .nd (.ins C ns) ds => some (C, ns, ds)
  | .ref p => match S p with
    | some (.ins C ns, ds) => some (C, ns, ds)
    | _ => none
  | _ => none
theorem insOf_at {S : DHp} {H : Hp} {d : D} {v : V} {C : Addr} {ns : List Str} {ds : List D} (rs : RS K S H) (w : Rep K S H d v) (h : insOf S d = some (C, ns, ds)) : ∃ p dx vs, v = .ref p ∧ ns.length = vs.length ∧ H p = some (.ins C dx (ns.zip vs)) ∧ RepL K S H ds vs := by
  match d, h with
  | .nd (.ins C2 n2) es, h =>
    cases h
    cases w with
    | nd n x ob r => cases ob with
      | ins hl => exact ⟨_, _, _, rfl, hl, x, r⟩
    | wr z => cases z
  | .ref p, h =>
    cases w
    unfold insOf at h
    cases e : S p with
    | none => simp only [e] at h; cases h
    | some ob =>
      obtain ⟨kk, es⟩ := ob
      obtain ⟨vs, ho, x, ob, r⟩ := rs p kk es e
      cases kk <;> simp only [e] at h <;> cases h
      cases ob with
      | ins hl => exact ⟨p, _, vs, rfl, hl, x, r⟩
theorem insOf_keep {S S' : DHp} {H H' : Hp} {d : D} {v : V} {C : Addr} {ns : List Str} {ds : List D} (h : insOf S d = some (C, ns, ds)) : (∃ ds', d = .nd (.ins C ns) ds' ∧ ds' = ds) ∨ ∃ p, d = .ref p ∧ S p = some (.ins C ns, ds) := by
  match d, h with
  | .nd (.ins C2 n2) es, h => cases h; exact .inl ⟨_, rfl, rfl⟩
  | .ref p, h =>
    unfold insOf at h
    cases e : S p with
    | none => simp only [e] at h; cases h
    | some ob =>
      obtain ⟨kk, es⟩ := ob
      cases kk <;> simp only [e] at h <;> cases h
      exact .inr ⟨p, rfl, e⟩
theorem lookup_rep {S : DHp} {H : Hp} {f : Str} : ∀ {ns : List Str} {ds : List D} {vs : List V}, RepL K S H ds vs → (f ∉ ns → (ns.zip vs).lookup f = none) ∧ ∀ d, lookD ns ds f = some d → ∃ v, (ns.zip vs).lookup f = some v ∧ Rep K S H d v
  | [], ds, vs, _ => ⟨fun _ => rfl, fun d h => by cases h⟩
  | _ :: _, _, _, .nil => ⟨fun _ => rfl, fun d h => by cases h⟩
  | n :: ns, _, _, .cons w t => by
    rw [look_cons, List.zip_cons_cons, List.lookup_cons]
    by_cases h : n = f
    · subst h
      rw [if_pos rfl]
      have hb : (n == n) = true := beq_self_eq_true _
      simp only [hb]
      refine ⟨fun z => absurd (.head _) z, fun d z => ?_⟩
      cases z
      exact ⟨_, rfl, w⟩
    · rw [if_neg h]
      have hb : (f == n) = false := beq_eq_false_iff_ne.mpr fun z => h z.symm
      simp only [hb]
      obtain ⟨t1, t2⟩ := lookup_rep (f := f) t
      exact ⟨fun z => t1 fun y => z (.tail _ y), t2⟩
theorem putF_new {f : Str} {v : V} : ∀ {ns : List Str} {vs : List V}, f ∉ ns → ns.length = vs.length → putF f v (ns.zip vs) = (ns ++ [f]).zip (vs ++ [v])
  | [], [], _, _ => rfl
  | n :: ns, u :: vs, h, l => by
    have h1 : ¬ n = f := fun z => h (z ▸ .head _)
    show (if n = f then _ else (n, u) :: putF f v (ns.zip vs)) = (n, u) :: (ns ++ [f]).zip (vs ++ [v])
    rw [if_neg h1, putF_new (fun z => h (.tail _ z)) (by simpa using l)]
/-- o.f -/
def dFld (C : Addr) (f : Str) (te : DTE) : DTE := fun ρ S Q => te ρ S fun x S1 => match insOf S1 x with
  | some (C', ns, ds) => C' = C ∧ match lookD ns ds f with
    | some d => Q d S1
    | none => False
  | none => False
theorem de_fld {C : Addr} {f : Str} {te : DTE} (c : Cls X.K C) (n : NoAttr X.K C f) (he : DE X e te) (hb : attributeBase e f X.env (eval e X.env) = eval e X.env := by rfl) : DE X (.Attribute e f pos) (dFld C f te) :=
  PE.mono (pe_fld he hb) fun σ H Q ⟨ρ, S, Qd, r, rs, q, k⟩ => by
    refine ⟨ρ, S, _, r, rs, q, fun x S1 xv H1 q1 k1 rs1 w1 => ?_⟩
    cases e1 : insOf S1 x with
    | none => simp only [e1] at q1
    | some z =>
      obtain ⟨C', ns, ds⟩ := z
      simp only [e1] at q1
      obtain ⟨rfl, q1⟩ := q1
      obtain ⟨p, dx, vs, rfl, hl, x, rr⟩ := insOf_at rs1 w1 e1
      cases e2 : lookD ns ds f with
      | none => simp only [e2] at q1
      | some d =>
        simp only [e2] at q1
        obtain ⟨v, ev, wv⟩ := (lookup_rep (f := f) rr).2 d e2
        exact ⟨p, _, dx, _, v, rfl, x, c, n, ev, k d S1 v H1 q1 k1 rs1 wv⟩
/-- o.f = e, a new field of an instance of the store -/
def sFldD (C : Addr) (f : Str) (to te : DTE) : DTS := fun E ρ S => te ρ S fun y S1 => to ρ S1 fun x S2 => match x with
  | .ref p => match S2 p with
    | some (.ins C' ns, ds) => (C' = C ∧ f ∉ ns ∧ ns.length < 1000) ∧ E.nx ρ (put S2 p (.ins C (ns ++ [f]), ds ++ [y]))
    | _ => False
  | _ => False
theorem ds_fld {C : Addr} {f : Str} {to te : DTE} {pos' : Pos} (c : Cls X.K C) (n : NoAttr X.K C f) (ho : DE X o to) (he : DE X e te) (hs : swapsWith e (some (.Attribute o f pos')) pos.line X.env = pure false := by rfl) : DS X (.Assign [.Attribute o f pos'] e pos) (sFldD C f to te) :=
  PS.mono (ps_fld ho he hs) fun D σ H h => by
    obtain ⟨ρ, S, E, r, rs, q, fi⟩ := liftS_el h
    refine ⟨ρ, S, _, r, rs, q, fun y S1 yv H1 q1 k1 rs1 w1 => ?_⟩
    refine ⟨ρ, S1, _, r.keep k1, rs1, q1, fun x S2 xv H2 q2 k2 rs2 w2 => ?_⟩
    match x, q2 with
    | .ref p, q2 =>
      cases w2
      cases e1 : S2 p with
      | none => simp only [e1] at q2
      | some z =>
        obtain ⟨kk, ds⟩ := z
        cases kk with
        | ins C' ns =>
          simp only [e1] at q2
          obtain ⟨⟨rfl, nf, sz⟩, q2⟩ := q2
          obtain ⟨vs, ho, xh, ob, rr⟩ := rs2 p _ ds e1
          cases ob with
          | ins hl =>
            rename_i dx
            have hne : S2 p ≠ none := by rw [e1]; simp
            refine ⟨p, _, _, _, rfl, xh, c, n, by rw [List.length_zip, ← hl, Nat.min_self]; exact sz, ?_⟩
            have kk := (k1.trans k2).trans (keep_put (H := H2) (o := (Nd.ins C' (ns ++ [f]), ds ++ [y])) (ho := HO.ins C' dx (putF f yv (ns.zip vs))) hne)
            refine fi.nx ρ _ σ _ q2 kk ?_ (r.keep kk)
            rw [putF_new nf hl]
            exact rs_put rs2 hne (.ins (by rw [List.length_append, List.length_append, hl]; rfl)) (rr.append (.cons (w1.keep k2) .nil))
        | _ => simp only [e1] at q2
/-- a method that may be called -/
structure DMet (P : Program) (w : World) (K : PySem.W.Frag) (mg : Str → Option Value) (base : Heap) (k : Nat) (C : Addr) (m : Str) (sp : DSp) : Prop where
  cls : Cls K C
  ex : ∃ (f : Addr) (fd : FuncData) (ps : List Str), FnOk P w K mg base CX0 k f fd ps (liftF K sp) ∧ Meth K C m f ∧ Binds K fd ps []
/-- o.m(..) -/
def dMeth (C : Addr) (m : Str) (sp : DSp) (to : DTE) (t : DTA) : DTE := fun ρ S Q => to ρ S fun x S1 => (∃ ns fs, insOf S1 x = some (C, ns, fs) ∧ m ∉ ns) ∧ t ρ S1 fun ds S2 => sp (x :: ds) S2 Q
theorem de_meth {k j : Nat} {C : Addr} {m : Str} {sp : DSp} {to : DTE} {t : DTA} {pl : Sem Bool} (cl : DMet X.prog X.w X.K X.mg X.base k C m sp) (hr : Room j X.A) (hk : k ≤ j) (ho : DE X o to) (ha : DAs X (e :: es) t)
    (hst : starEach (e :: es) X.env = (false, eval e X.env) :: starEach es X.env := by rfl) (hpl : (backTo pos (starEach es X.env)).any (·.1) = false := by rfl)
    (ht : eval (.Call (.Attribute o m apos) (e :: es) [] pos) X.env = (do
      let ov ← eval o X.env
      standAt apos.atName
      let (f, first) ← holding [ov] (getMethod ov m pl)
      callWith pos f first (backTo pos (starEach (e :: es) X.env)) (backToKw pos (keywordEach [] X.env))) := by rfl) : DE X (.Call (.Attribute o m apos) (e :: es) [] pos) (dMeth C m sp to t) := by
  obtain ⟨f, fd, ps, F, hm, bi⟩ := cl.ex
  refine PE.mono (pe_meth ho cl.cls hm F (hr.mono hk) bi .nil pass0 ha hst hpl ht) fun σ H Q ⟨ρ, S, Qd, r, rs, q, k0⟩ => ?_
  refine ⟨ρ, S, _, r, rs, q, fun x S1 xv H1 ⟨⟨ns, fs, ei, nm⟩, q1⟩ k1 rs1 w1 => ?_⟩
  obtain ⟨p, dx, vs, rfl, hl, xh, rr⟩ := insOf_at rs1 w1 ei
  refine ⟨p, dx, _, rfl, xh, (lookup_rep rr).1 nm, ρ, S1, _, r.keep k1, rs1, q1, fun ds S2 us H2 q2 k2 rs2 w2 => ?_⟩
  refine ⟨x :: ds, S2, Qd, by rw [List.append_nil]; exact .cons (w1.keep k2) w2, rs2, q2, fun d S3 v H3 q3 k3 rs3 w3 => k0 d S3 v H3 q3 ((k1.trans k2).trans k3) rs3 w3⟩
/-- C(..), which stands still once it is made -/
structure DMak (P : Program) (w : World) (K : PySem.W.Frag) (mg : Str → Option Value) (base : Heap) (k : Nat) (x : Str) (C : Addr) (sp : DSp) : Prop where
  ex : ∃ (f : Addr) (fd : FuncData) (ps : List Str), FnOk P w K mg base CX0 k f fd ps (liftF K sp) ∧ Mk K C f ∧ mg x = some (.ref C) ∧ Binds K fd ps []
def dMake (C : Addr) (sp : DSp) (t : DTA) : DTE := fun ρ S Q => t ρ S fun ds S1 => ∀ p, S1 p = none → sp (.ref p :: ds) (put S1 p (.ins C [], [])) fun d S2 => d = .non ∧ ∃ ns fs, S2 p = some (.ins C ns, fs) ∧ Q (.nd (.ins C ns) fs) (era S2 p)
theorem de_make {k j : Nat} {x : Str} {C : Addr} {sp : DSp} {t : DTA} {p : Pos} (cl : DMak X.prog X.w X.K X.mg X.base k x C sp) (hr : Room j X.A) (hk : k + 1 ≤ j) (hg : Gl X x) (ha : DAs X (e :: es) t)
    (hdb : (x == ("__debug__" : Str)) = false := by decide) (he : starEach (e :: es) X.env = (false, eval e X.env) :: starEach es X.env := by rfl) (hpl : (backTo pos (starEach es X.env)).any (·.1) = false := by rfl) : DE X (.Call (.Name x p) (e :: es) [] pos) (dMake C sp t) := by
  obtain ⟨f, fd, ps, F, M, hm, bi⟩ := cl.ex
  refine PE.mono (pe_make M F (hr.mono hk) hg hm bi .nil pass0 ha hdb he hpl) fun σ H Q ⟨ρ, S, Qd, r, rs, q, k0⟩ => ?_
  refine ⟨ρ, S, _, r, rs, q, fun ds S1 vs H1 q1 k1 rs1 w1 => ?_⟩
  intro y dx hy hd ne
  have kd : Keep S1 H1 S1 (upd H1 dx (.own y)) := keep_newF hd
  have hy2 : upd H1 dx (.own y) y = none := by rw [upd_ne (Ne.symm ne)]; exact hy
  have ky : Keep S1 (upd H1 dx (.own y)) (put S1 y (.ins C [], [])) (upd (upd H1 dx (.own y)) y (.ins C dx [])) := keep_new hy2
  have rs2 : RS X.K (put S1 y (.ins C [], [])) (upd (upd H1 dx (.own y)) y (.ins C dx [])) := rs_new (rs_newF rs1 hd) hy2 (.ins (ns := []) (vs := []) rfl) .nil
  refine ⟨.ref y :: ds, _, _, by rw [List.append_nil]; exact .cons .ref ((w1.keep kd).keep ky), rs2, q1 y (rs1.free hy), fun d S3 v H3 ⟨ed, ns, fs, eS, q3⟩ k3 rs3 w3 => ?_⟩
  subst ed
  cases w3
  refine ⟨rfl, k0 _ _ _ _ q3 (((k1.trans kd).trans ky).trans (k3.trans Less.era.keep)) (rs3.less Less.era) (rep_freeze rs3 eS)⟩
/-- the method of an operator of o, of o[i] -/
structure DOwn (P : Program) (w : World) (K : PySem.W.Frag) (mg : Str → Option Value) (base : Heap) (k : Nat) (C : Addr) (m : Str) (sp : DSp) : Prop where
  ex : ∃ (f : Addr) (fd : FuncData) (ps : List Str), FnOk P w K mg base CX0 k f fd ps (liftF K sp) ∧ PySem.W.findIn K (.ref C) m = some (some (.ref f)) ∧ PySem.W.isFn K (.ref f) = true ∧ PySem.W.fnIn K f = true ∧ Binds K fd ps []
/-- ~o -/
def rInv (C : Addr) (sp : DSp) : D → DHp → DQ → Prop := fun x S Q => (∃ ns fs, insOf S x = some (C, ns, fs)) ∧ sp [x] S Q
theorem un_own {k j : Nat} {C : Addr} {sp : DSp} (cl : DOwn X.prog X.w X.K X.mg X.base k C "__invert__" sp) (hr : Room j X.A) (hk : k ≤ j) : UnR X (unaryOp .Invert) (rU1 X.K (rInv C sp)) := by
  obtain ⟨f, fd, ps, F, h1, h2, h3, bi⟩ := cl.ex
  intro pins s σ H x v Q I rx h
  obtain ⟨d, S, Qd, wd, rs, ⟨⟨ns, fs, ei⟩, q⟩, k0⟩ := h
  obtain ⟨p, dx, vs, rfl, hl, xh, rr⟩ := insOf_at rs wd ei
  cases rx
  obtain ⟨mA, O, _⟩ := ins_get I.hok xh
  obtain ⟨od, J, _⟩ := O.look
  unfold unaryOp
  apply wpAny_holding
  apply wpAny_bind
  refine PySem.W.special_fn I.kIn J h1 (beq_iff_eq.mp h2) ?_
  have run := run_fn (us := [.ref p]) (vs := [.ref p]) (Q := Q) F (hr.mono hk) bi .nil pass0 I (.cons rfl .nil) ⟨[d], S, Qd, .cons wd .nil, rs, q, k0⟩
  exact wpAny_mono run (fun _ _ z => wpAny_pure z) fun _ _ z => z
theorem sub_own {P : Program} {w : World} {A : Around} {F : Value → Shared → Prop} {s : Shared} {x C f : Addr} {ox : PySem.Obj} {od : Option PySem.Obj} {val sl : Expr} {i : Value} {Q : Value → Shared → Prop} (hin : K.In s.heap) (J : PySem.W.InstAt s.heap x ox C od)
    (h1 : PySem.W.findIn K (.ref C) "__getitem__" = some (some (.ref f))) (h2 : PySem.W.isFn K (.ref f) = true) (h3 : PySem.W.fnIn K f = true) (h : wpAny (model P w) A.in1 (call (.ref f) [.ref x, i]) Q F s)
    (hsl : subscripted sl true (.ref x) i = runValue (.builtin "lifetime.subscript" ⟨[.ref x, i], []⟩)) : wpAny (model P w) A (subscriptTail val sl (.ref x) i) Q F s := by
  have back : ∀ v s', Q v s' → wpAny (model P w) A (letTemporaryGo val (.ref x) v >>= fun _ => pure v) Q F s' := fun v s' q => wpAny_bind (wpAny_letTemporaryGo (wpAny_pure q))
  unfold PySem.W.fnIn at h3
  split at h3
  · rename_i e
    unfold subscriptTail getitemInPython
    apply wpAny_bind
    apply wpAny_bind
    apply wpAny_bind
    refine J.type.here ((PySem.W.looks_findIn hin h1).here ?_)
    dsimp only
    apply wpAny_bind
    refine wpAny_load (hin _ _ e) ?_
    apply wpAny_pure
    dsimp only
    rw [hsl]
    apply wpAny_bind
    refine wpAny_runValue (codeAny_builtin PySem.W.entry_sub ?_)
    unfold Builtin.«lifetime.subscript»
    apply wpAny_bind
    refine PySem.W.special_fn hin J h1 (beq_iff_eq.mp h2) (wpAny_mono h (fun v s' q => ?_) fun _ _ z => z)
    exact wpAny_pure (back v s' q)
  · cases h3
/-- o[i] -/
def dIxO (C : Addr) (sp : DSp) (to ti : DTE) : DTE := fun ρ S Q => to ρ S fun x S1 => ti ρ S1 fun y S2 => (∃ ns fs, insOf S2 x = some (C, ns, fs)) ∧ sp [x, y] S2 Q
theorem de_ixO {k j : Nat} {C : Addr} {sp : DSp} {to ti : DTE} (cl : DOwn X.prog X.w X.K X.mg X.base k C "__getitem__" sp) (hr : Room j X.A) (hk : k + 1 ≤ j) (ho : DE X a to) (hi : DE X b ti)
    (hsl : ∀ (x : Addr) (i : Value), subscripted b true (.ref x) i = runValue (.builtin "lifetime.subscript" ⟨[.ref x, i], []⟩) := by intro _ _; with_unfolding_all rfl) : DE X (.Subscript a b pos) (dIxO C sp to ti) := by
  obtain ⟨f, fd, ps, F, h1, h2, h3, bi⟩ := cl.ex
  constructor
  intro pins s σ H Q I ⟨ρ, S, Qd, r, rs, q, k0⟩
  refine Subscript_ (binT (R := fun x y H2 => ∃ d e S2 ns fs, Rep X.K S2 H2 d x ∧ Rep X.K S2 H2 e y ∧ RS X.K S2 H2 ∧ Keep S H S2 H2 ∧ insOf S2 d = some (C, ns, fs) ∧ sp [d, e] S2 Qd) ho hi I ?_ fun v u s2 x y H2 I2 rx ry q => ?_)
  · refine ⟨ρ, S, _, r, rs, q, fun x S1 xv H1 q1 k1 rs1 w1 => ?_⟩
    refine ⟨ρ, S1, _, r.keep k1, rs1, q1, fun y S2 yv H2 ⟨⟨ns, fs, ei⟩, q2⟩ k2 rs2 w2 => ?_⟩
    exact ⟨x, y, S2, ns, fs, w1.keep k2, w2, rs2, k1.trans k2, ei, q2⟩
  · obtain ⟨d, e, S2, ns, fs, wd, we, rs2, k2, ei, q2⟩ := q
    obtain ⟨p, dx, vs, rfl, hl, xh, rr⟩ := insOf_at rs2 wd ei
    cases rx
    obtain ⟨mA, O, _⟩ := ins_get I2.hok xh
    obtain ⟨od, J, _⟩ := O.look
    have sat : liftF X.K sp [.ref p, y] H2 Q E0 := ⟨[d, e], S2, Qd, .cons wd (.cons we .nil), rs2, q2, fun z S' v H' qz kz rsz wz => k0 z S' v H' qz (k2.trans kz) rsz wz⟩
    have rv : Vals [V.ref p, y] [Value.ref p, u] := .cons rfl (.cons ry .nil)
    have ln : [Value.ref p, u].length = ps.length := by rw [← rv.length]; exact F.len _ _ _ _ sat
    refine sub_own I2.kIn J h1 h2 h3 ?_ (hsl p u)
    refine wpAny_call (codeAny_mono (F.run X.A.in1 X.stack s2 H2 ⟨[.ref p, u], []⟩ [.ref p, u] _ Q _ ((hr.mono hk).in1) I2.env0.in1 ?_ rv sat) fun r s' hq => ?_)
    · have z := bi s2 [.ref p, u] I2.kIn (by rw [List.append_nil]; exact ln)
      rwa [List.append_nil] at z
    · cases r with
      | error e => exact False.elim hq
      | ok fl =>
        cases fl with
        | ret u => exact I2.after hq
        | _ => exact hq.elim
end
/-! EG: defs that are called where no repr is under way; repr of data. -/
/-- no repr is under way -/
abbrev Free (A : Around) : Prop := A.guards = some []
/-- a def that is called only so -/
structure FnG (P : Program) (w : World) (K : PySem.W.Frag) (mg : Str → Option Value) (base : Heap) (k : Nat) (f : Addr) (fd : FuncData) (ps : List Str) (sp : Sp) : Prop where
  len : ∀ vs H Q E, sp vs H Q E → vs.length = ps.length
  run : ∀ (A : Around) (outer : List Env) (s : Shared) (H : Hp) (args : Args) (us : List Value) (vs : List V) (Q : VK) (E : XK), Free A → Room k A → Env0 P w K mg base A outer s H → BindsTo s fd args (ps.zip us) → Vals vs us → sp vs H Q E →
    codeAny (model P w) A (.call (.ref f) args) (CR CX0 outer P w H s Q E) s
section
variable {P : Program} {w : World} {K : PySem.W.Frag} {mg : Str → Option Value} {base : Heap}
theorem free_deeper {A : Around} {env : Env} (h : Free A) : Free (A.deeper env) := h
theorem fnG_of {x qual : Str} {st : Stmt} {f : Addr} {fd : FuncData} {N ps : List Str} {k : Nat} {sp : Sp} (F : L2.Fun K x qual st f fd) (S : FnScope N ps (defScope st)) (len : ∀ vs H Q E, sp vs H Q E → vs.length = ps.length)
    (body : ∀ (cdv : Value) (A : Around) (outer : List Env) (s : Shared) (H : Hp) (vs : List V) (Q : VK) (E : XK), Free A → Room k (A.deeper (envOfC qual (defScope st) s.heap.objs.size f cdv)) → sp vs H Q E →
      ∃ t, PSs (cxOf CX0 P w K mg base N qual (defScope st) f cdv A outer s H E).nox (defBody st) t ∧ t { nx := fun _ H' => Q .non H', rt := Q } (start N vs) H) : FnG P w K mg base (k + 1) f fd ps sp := by
  obtain ⟨oc, od, kV, doc, pm, an, cdv, ct, osl, rfl, lk, hcd⟩ := F.ex
  refine ⟨len, fun A outer s H args us vs Q E fr hr e0 hb rv hsp => ?_⟩
  have up : ∀ b o, base.get? b = some o → s.heap.get? b = some o := fun b o e => (e0.bs b o e).1
  have KX := e0.mod.kin.keeps up
  have kinds : ∀ y ∈ ps.zip us, (defScope st).names.lookup y.1 = some .local ∨ ((defScope st).names.lookup y.1 = some .cell ∧ ((cellsFrom (s.heap.objs.size + 1) (defScope st).names []).lookup y.1).isSome = true) := fun ⟨n, v⟩ hy => by
    cases S.par n (List.of_mem_zip hy).1 with
    | inl q => exact .inl q
    | inr q => exact .inr ⟨q, PySem.W.cellsFrom_some _ _ _ (.inl q)⟩
  refine codeAny_call_function hr.depth (KX _ _ lk) rfl S.co S.gen rfl (PySem.W.codeRec_of KX hcd) (hb _ _ _ _ ?_)
  refine wpAny_newFunctionEnv_cells S.kind kinds fun env he s1 z => ?_
  subst he
  refine ⟨(e0.mod.nolimit.keeps up).keeps z.toInCall.keep, codeAny_func ?_⟩
  obtain ⟨t, ht, hq⟩ := body cdv A outer s H vs Q E fr (hr.deeper _) hsp
  have I := inv_start (CX := CX0) (E := E) S hr.hd e0 (len _ _ _ _ hsp) rv z
  refine wpAny_mono (ht.nox.run [] s1 (start N vs) H _ I hq) (fun fl s' hs => ?_) fun e s' hs => hs
  cases fl with
  | ret u =>
    obtain ⟨v, σ', H', J, rv, q⟩ := hs
    exact ⟨v, H', J.os, J.bare, J.base, J.hok, rv, q⟩
  | next =>
    obtain ⟨σ', H', J, q⟩ := hs
    exact ⟨V.non, H', J.os, J.bare, J.base, J.hok, rfl, q⟩
  | _ =>
    obtain ⟨_, _, _, q⟩ := hs
    exact q.elim
/-- its body over data by value -/
theorem fnG_D {x qual : Str} {st : Stmt} {f : Addr} {fd : FuncData} {N ps : List Str} {k : Nat} {sp : DSp} {t : DTS} (F : L2.Fun K x qual st f fd) (S : FnScope N ps (defScope st)) (len : ∀ ds S Q, sp ds S Q → ds.length = ps.length)
    (body : ∀ (cdv : Value) (A : Around) (outer : List Env) (s : Shared) (H : Hp) (E : XK), Free A → Room k (A.deeper (envOfC qual (defScope st) s.heap.objs.size f cdv)) → DSs (cxOf CX0 P w K mg base N qual (defScope st) f cdv A outer s H E).nox (defBody st) t)
    (hd : ∀ ds S Q, sp ds S Q → t (endsF Q) (startD N.length ds) S) : FnG P w K mg base (k + 1) f fd ps (liftF K sp) :=
  fnG_of F S (fun vs H Q E ⟨ds, S, Qd, w, rs, q, _⟩ => by rw [← w.length]; exact len ds S Qd q) fun cdv A outer s H vs Q E fr hr h => ⟨_, body cdv A outer s H E fr hr, body_lift hd h⟩
structure DCalG (P : Program) (w : World) (K : PySem.W.Frag) (mg : Str → Option Value) (base : Heap) (k : Nat) (x : Str) (sp : DSp) : Prop where
  ex : ∃ (f : Addr) (fd : FuncData) (ps : List Str), FnG P w K mg base k f fd ps (liftF K sp) ∧ mg x = some (.ref f) ∧ PySem.W.keepIn K (.ref f) = true ∧ Binds K fd ps []
end
section
variable {X : Cx} {e : Expr} {es : List Expr} {pos : Pos}
theorem run_fnG {k : Nat} {f : Addr} {fd : FuncData} {ps : List Str} {sp : Sp} {pins : List (Addr × PySem.Obj)} {σ : St} {H : Hp} {s : Shared} {Q : VK} {us : List Value} {vs : List V} (F : FnG X.prog X.w X.K X.mg X.base k f fd ps sp) (fr : Free X.A) (hr : Room k X.A) (bi : Binds X.K fd ps [])
    (I : Inv X pins σ H s) (rv : Vals vs us) (h : sp vs H Q E0) : wpAny (model X.prog X.w) X.A (call (.ref f) us) (EP X pins σ Q) X.xe s := by
  have ln : us.length = ps.length := by rw [← rv.length]; exact F.len _ _ _ _ h
  have b := bi s us I.kIn (by rw [List.append_nil]; exact ln)
  rw [List.append_nil] at b
  refine wpAny_call (codeAny_mono (F.run X.A X.stack s H ⟨us, []⟩ us vs Q E0 fr hr I.env0 b rv h) fun r s' hq => ?_)
  cases r with
  | error e => exact hq.elim
  | ok fl =>
    cases fl with
    | ret u => exact I.after hq
    | _ => exact hq.elim
theorem de_callG {k j : Nat} {x : Str} {sp : DSp} {p : Pos} {t : DTA} (cl : DCalG X.prog X.w X.K X.mg X.base k x sp) (fr : Free X.A) (hr : Room j X.A) (hk : k ≤ j) (hg : Gl X x) (ha : DAs X (e :: es) t)
    (hdb : (x == ("__debug__" : Str)) = false := by decide) (he : starEach (e :: es) X.env = (false, eval e X.env) :: starEach es X.env := by rfl) (hpl : (backTo pos (starEach es X.env)).any (·.1) = false := by rfl) :
    DE X (.Call (.Name x p) (e :: es) [] pos) (dCall sp t) := by
  obtain ⟨f, fd, ps, F, hm, kp, bi⟩ := cl.ex
  constructor
  intro pins s σ H Q I ⟨ρ, S, Qd, r, rs, q, k0⟩
  refine wpAny_Call_Name_kw (ld_glob I hg hm ?_ hdb)
  refine PySem.W.callWith_K (h₀ := X.base) I.ok.mod.kin kp (thn (ha.run pos pins s σ H (fun vs H1 => liftF X.K sp vs H1 Q E0) I ⟨ρ, S, _, r, rs, q, fun ds S1 vs H1 q1 k1 rs1 w1 => ?_⟩) fun us s1 ⟨vs, H1, I1, rv, q1⟩ => ⟨I1.kIn, ?_⟩) he hpl
  · exact ⟨ds, S1, Qd, w1, rs1, q1, fun d S2 v H2 q2 k2 rs2 w2 => k0 d S2 v H2 q2 (k1.trans k2) rs2 w2⟩
  · exact run_fnG F fr (hr.mono hk) bi I1 rv q1
/-- repr(d), d a tuple or a list -/
def bRepr : List D → DHp → DQ → Prop := fun ds S Q => match ds with
  | [d] => ∃ p, d.py = some p ∧ PyProof.Rows.isDisplay p = true ∧ p.showable = true ∧ p.hasDict = false ∧ p.depth ≤ 64 ∧ p.shown.length ≤ sizeLine ∧ Q (.str p.shown) S
  | _ => False
theorem b_repr (fr : Free X.A) (hu : X.A.units + 65 < cLine) : CallR X (.builtin "repr") (rLs X.K bRepr) := by
  intro pins s σ H xs us Q I r h
  obtain ⟨ds, S, Qd, w, rs, q, k⟩ := h
  match ds, q with
  | [d], ⟨p, ep, di, sh, nd, dp, ln, q⟩ =>
    cases w with
    | cons w w2 =>
      cases w2
      cases r with
      | cons r r2 =>
        cases r2
        obtain ⟨as, rd⟩ := Dp.reads I p _ _ (w.dp ep) r
        obtain ⟨a, rfl⟩ := isRef_of_reads rd di
        refine repr_of_reads' rd sh (PyData.noDict_hsm nd) fr (by omega) (fun _ _ e => e) (fun h' u tk kp => ?_) ln
        exact ⟨.str p.shown, H, I.kept (t' := tk) kp, ⟨_, rfl⟩, k _ S _ H q Keep.refl rs .str⟩
end
/-! EH: x is True, x is False. -/
section
variable {X : Cx}
def oIsB : DOp := fun x y S Q => match x, y with
  | .bl a, .bl b => Q (.bl (decide (a = b))) S
  | _, _ => False
theorem o_isB : OpR X (compareOp .Is) (rD X.K oIsB) := OpR.mono op_isBl fun x y H Q ⟨d, e, S, Qd, wd, we, rs, q, k⟩ => by
  match d, e, q with
  | .bl a, .bl b, q =>
    cases wd
    cases we
    exact ⟨a, b, rfl, rfl, k _ S _ H q Keep.refl rs .bl⟩
end
theorem swD_true {kx vx : Expr} {gs : List Comprehension} {scope : Scope} {pos py : Pos} {y : Str} {l : Nat} {env : Env} (hk : env.scope.kind = .function) (hy : env.scope.names.lookup y = some .local) (hl : (py.line == pos.line) = true)
    (ha : (scope.names.any fun (n, k) => n == y && (k == .local || k == .cell)) = false) : swapsWith (.DictComp kx vx gs scope pos) (some (.Name y py)) l env = pure true := by
  have e1 : env.kindOf y = some .local := hy
  have e2 : env.blockKind = .function := by
    unfold Env.blockKind
    rw [hk]
    rfl
  unfold swapsWith
  simp only [e1, e2, ha, Expr.pos, hl]
  rfl
theorem sw_cell {elt : Expr} {gs : List Comprehension} {scope : Scope} {pos py : Pos} {y : Str} {l : Nat} {env : Env} (hk : env.scope.kind = .function) (hy : env.scope.names.lookup y = some .cell) : swapsWith (.ListComp elt gs scope pos) (some (.Name y py)) l env = pure false := by
  have e1 : env.kindOf y = some .cell := hy
  have e2 : env.blockKind = .function := by
    unfold Env.blockKind
    rw [hk]
    rfl
  unfold swapsWith
  simp only [e1, e2]
  first | rfl | simp
/-! ### _law_image_of -/
abbrev N__law_image_of : List Str := ["_law_stop", "_law_many"]
def t__law_image_of : DTS := (dRet (dTup (dCons (dOp oIx (dVar 0) (dC (.int 0))) (dCons (dOp oMod (dBlt bInt (dCons (dOp oSub (dDget (dVar 1) (dOp oIx (dVar 0) (dC (.int 0)))) (dOp oIx (dVar 0) (dC (.int 1)))) dNil)) (dDget (dVar 1) (dOp oIx (dVar 0) (dC (.int 0))))) dNil))))
/-! ### _law_hand -/
abbrev N__law_hand : List Str := ["_law_pot_here", "_law_way", "_law_number"]
def t__law_hand (sp__law_take : DSp) (sp__law_of : DSp) : DTS := (dSeq (dPar2 1 2 (dCons (dCall sp__law_of (dCons (dVar 0) (dCons (dLstF (dCons (dC (.str "on")) (dCons (dC (.str "on")) (dCons (dC (.str "left")) (dCons (dC (.str "right")) (dCons (dC (.str "left")) (dCons (dC (.str "right")) (dCons (dC (.str "back")) dNil)))))))) dNil))) (dCons (dOp oAdd (dC (.int 1)) (dCall sp__law_take (dCons (dVar 0) (dCons (dC (.int 3)) dNil)))) dNil)))
    (dSeq (dIfS (dTst (dOp (oIn false) (dVar 1) (dTup (dCons (dC (.str "on")) (dCons (dC (.str "back")) dNil)))))
    (dRet (dTup (dCons (dTup (dCons (dVar 1) dNil)) (dCons (dTup (dCons (dVar 1) dNil)) dNil))))
    dNext)
    (dRet (dTup (dCons (dTup (dCons (dVar 1) (dCons (dVar 2) dNil))) (dCons (dTup (dCons (dIf (dTst (dOp (oEq false) (dVar 1) (dC (.str "left")))) (dC (.str "right")) (dC (.str "left"))) (dCons (dVar 2) dNil))) dNil))))))
/-! ### _law_sees_right -/
abbrev N__law_sees_right : List Str := ["_law_town", "_law_image", "_law_stop", "_law_other", "_law_many", "_law_left", "_law_right_here", "_law_is_on", "_law_signs_here", "_law_taken", "_law_on", "_law_found", "_law_others", "_law_end", "_law_k"]
def t__law_sees_right (C : Addr) (sp__law_ordered : DSp) (sp_Town_view : DSp) (sp_Town_taken : DSp) : DTS := (dSeq (dAsg (dMeth C "view" sp_Town_view (dVar 0) (dCons (dVar 2) dNil)) (dgTup 4 (dgCons (dgName 5) (dgCons (dgName 6) (dgCons (dgName 7) (dgCons (dgName 8) dgNil))))))
    (dSeq (dIfS (dTst (dOp (oEq true) (dBlt bRepr (dCons (dMeth C "view" sp_Town_view (dVar 1) (dCons (dVar 3) dNil)) dNil)) (dBlt bRepr (dCons (dTup (dCons (dVar 6) (dCons (dVar 5) (dCons (dVar 7) (dCons (dVar 8) dNil))))) dNil))))
    (dRet (dC (.bl false)))
    dNext)
    (dSeq (dAsg (dOp oAdd (dLc (dSeqI (dTup (dCons (dC (.int 1)) (dCons (dC (.int 2)) (dCons (dC (.int 3)) dNil))))) (dgName 14) dYes (dMeth C "taken" sp_Town_taken (dVar 0) (dCons (dVar 2) (dCons (dTup (dCons (dC (.str "left")) (dCons (dVar 14) dNil))) dNil))) [14]) (dLc (dSeqI (dTup (dCons (dC (.int 1)) (dCons (dC (.int 2)) (dCons (dC (.int 3)) dNil))))) (dgName 14) dYes (dMeth C "taken" sp_Town_taken (dVar 0) (dCons (dVar 2) (dCons (dTup (dCons (dC (.str "right")) (dCons (dVar 14) dNil))) dNil))) [14])) (dgName 9))
    (dSeq (dAsg (dMeth C "taken" sp_Town_taken (dVar 0) (dCons (dVar 2) (dCons (dTup (dCons (dC (.str "on")) dNil)) dNil))) (dgName 10))
    (dSeq (dIfS (dOr (dTst (dOp (oEq false) (dOp (oIs false) (dVar 10) (dC .non)) (dVar 7))) (dAnd (dTst (dVar 7)) (dTst (dOp (oEq true) (dMeth C "taken" sp_Town_taken (dVar 0) (dCons (dTup (dCons (dOp oIx (dVar 2) (dC (.int 0))) (dCons (dVar 10) dNil))) (dCons (dTup (dCons (dC (.str "on")) dNil)) dNil))) (dOp oIx (dVar 2) (dC (.int 1)))))))
    (dRet (dC (.bl false)))
    dNext)
    (dSeq (dAsg (dLc (dSeqI (dOp oAdd (dVar 9) (dLstF (dCons (dVar 10) dNil)))) (dgName 13) (dTst (dOp (oIs true) (dVar 13) (dC .non))) (dVar 13) [13]) (dgName 11))
    (dSeq (dIfS (dOr (dTst (dOp (oIn false) (dOp oIx (dVar 2) (dC (.int 1))) (dVar 11))) (dTst (dOp (oEq true) (dMeth C "taken" sp_Town_taken (dVar 0) (dCons (dVar 2) (dCons (dTup (dCons (dC (.str "back")) dNil)) dNil))) (dOp oIx (dVar 2) (dC (.int 1))))))
    (dRet (dC (.bl false)))
    dNext)
    (dSeq (dAsg (dLc (dRng1 (dCons (dDget (dVar 4) (dOp oIx (dVar 2) (dC (.int 0)))) dNil)) (dgName 13) (dTst (dOp (oEq true) (dVar 13) (dOp oIx (dVar 2) (dC (.int 1))))) (dVar 13) [13]) (dgName 12))
    (dSeq (dIfS (dOr (dTst (dOp oGt (dVar 5) (dC (.int 3)))) (dTst (dOp oGt (dVar 6) (dC (.int 3)))))
    (dRet (dBlt bAll (dCons (dLc (dSeqI (dVar 11)) (dgName 13) dYes (dOp (oIn false) (dVar 13) (dVar 12)) [13]) dNil)))
    dNext)
    (dRet (dAndV (dOp (oEq false) (dCall sp__law_ordered (dCons (dVar 11) dNil)) (dVar 12)) (dOrV (dOp oIsB (dVar 7) (dC (.bl false))) (dOp (oEq false) (dBlt bLen (dCons (dVar 11) dNil)) (dLenSet (dVar 11)))))))))))))))
/-! ### _law_right -/
abbrev N__law_right : List Str := ["_law_pot_here", "_law_town", "_law_made", "_law_many", "_law_image", "_law_stop", "_law_other", "_law_lap", "_law_choice", "_law_turned", "_law_end", "_law_last", "_law_ahead", "_law_row"]
def t__law_right (C : Addr) (sp__law_free_town : DSp) (sp__law_of : DSp) (sp__law_each_stop : DSp) (sp__law_image_of : DSp) (sp__law_sees_right : DSp) (sp__law_hand : DSp) (sp_Town_init : DSp) (sp_Town_inv : DSp) (sp_Town_taken : DSp) (sp_Town_get : DSp) : DTS := (dSeq (dAsg (dCall sp__law_free_town (dCons (dVar 0) (dCons (dC (.int 7)) (dCons (dLstF (dCons (dC (.int 2)) (dCons (dC (.int 3)) (dCons (dC (.int 3)) (dCons (dC (.int 4)) (dCons (dC (.int 4)) (dCons (dC (.int 5)) (dCons (dC (.int 6)) dNil)))))))) dNil)))) (dgName 1))
    (dSeq (dPar2 2 3 (dCons (dMake C sp_Town_init (dCons (dOp oIx (dVar 1) (dC (.int 0))) (dCons (dOp oIx (dVar 1) (dC (.int 1))) dNil))) (dCons (dBlt bDictP (dCons (dLc (dSeqI (dOp oIx (dVar 1) (dC (.int 0)))) (dgName 13) dYes (dTup (dCons (dOp oIx (dVar 13) (dC (.int 0))) (dCons (dOp oIx (dVar 13) (dC (.int 1))) dNil))) [13]) dNil)) dNil)))
    (dSeq (dPar2 4 5 (dCons (dUn (rInv C sp_Town_inv) (dVar 2)) (dCons (dCall sp__law_of (dCons (dVar 0) (dCons (dCall sp__law_each_stop (dCons (dVar 1) dNil)) dNil))) dNil)))
    (dSeq (dAsg (dCall sp__law_image_of (dCons (dVar 5) (dCons (dVar 3) dNil))) (dgName 6))
    (dSeq (dFor (dRng1 (dCons (dC (.int 40)) dNil)) (dgName 7)
    (dSeq (dIfS (dNot (dTst (dCall sp__law_sees_right (dCons (dVar 2) (dCons (dVar 4) (dCons (dVar 5) (dCons (dVar 6) (dCons (dVar 3) dNil))))))))
    (dRet (dC (.bl false)))
    dNext)
    (dSeq (dAsg (dCall sp__law_hand (dCons (dVar 0) dNil)) (dgTup 2 (dgCons (dgName 8) (dgCons (dgName 9) dgNil))))
    (dSeq (dPar2 10 11 (dCons (dMeth C "taken" sp_Town_taken (dVar 2) (dCons (dVar 5) (dCons (dVar 8) dNil))) (dCons (dMeth C "taken" sp_Town_taken (dVar 4) (dCons (dVar 6) (dCons (dVar 9) dNil))) dNil)))
    (dSeq (dIfS (dTst (dOp (oEq true) (dOp (oIs false) (dVar 10) (dC .non)) (dOp (oIs false) (dVar 11) (dC .non))))
    (dRet (dC (.bl false)))
    dNext)
    (dIfS (dTst (dOp (oIs true) (dVar 10) (dC .non)))
    (dSeq (dIfS (dTst (dOp (oEq true) (dCall sp__law_image_of (dCons (dTup (dCons (dOp oIx (dVar 5) (dC (.int 0))) (dCons (dVar 10) dNil))) (dCons (dVar 3) dNil))) (dTup (dCons (dOp oIx (dVar 6) (dC (.int 0))) (dCons (dVar 11) dNil)))))
    (dRet (dC (.bl false)))
    dNext)
    (dSeq (dPar3 12 5 6 (dCons (dTup (dCons (dOp oIx (dVar 5) (dC (.int 0))) (dCons (dVar 10) dNil))) (dCons (dIxO C sp_Town_get (dVar 2) (dTup (dCons (dOp oIx (dVar 5) (dC (.int 0))) (dCons (dVar 10) dNil)))) (dCons (dIxO C sp_Town_get (dVar 4) (dTup (dCons (dOp oIx (dVar 6) (dC (.int 0))) (dCons (dVar 11) dNil)))) dNil))))
    (dIfS (dOr (dTst (dOp (oEq true) (dVar 6) (dCall sp__law_image_of (dCons (dVar 5) (dCons (dVar 3) dNil))))) (dTst (dOp (oEq true) (dIxO C sp_Town_get (dVar 2) (dVar 5)) (dVar 12))))
    (dRet (dC (.bl false)))
    dNext)))
    dNext))))))
    (dRet (dC (.bl true))))))))
/-! ### law -/
abbrev N_law : List Str := ["_law_script", "_law_place"]
def t_law (sp__law_right : DSp) (sp__law_pot : DSp) (sp__law_cells : DSp) : DTS := (dRet (dBlt bAll (dCons (dLc (dSeqI (dCall sp__law_cells (dCons (dVar 0) (dCons (dC (.int 2)) dNil)))) (dgName 1) dYes (dCall sp__law_right (dCons (dCall sp__law_pot (dCons (dVar 0) (dCons (dVar 1) dNil))) dNil)) [1]) dNil)))
/-! ### are_pairs -/
abbrev N_are_pairs : List Str := ["value", "told", "used", "pair", "one"]
def t_are_pairs (sp_is_pair : DSp) (sp_ascends : DSp) : DTS := (dSeq (dIfS (dOr (dNot (dTst (dBlt bIsi (dCons (dVar 0) (dCons (dC (.ty "tuple")) dNil))))) (dNot (dTst (dBlt bAll (dCons (dLc (dSeqI (dVar 0)) (dgName 3) dYes (dCall sp_is_pair (dCons (dVar 3) (dCons (dVar 1) dNil))) [3]) dNil)))))
    (dRet (dC (.bl false)))
    dNext)
    (dSeq (dAsg (dLc2 (dSeqI (dVar 0)) (dgName 3) dYes (dSeqI (dVar 3)) (dgName 4) dYes (dVar 4) [3, 4] [4]) (dgName 2))
    (dRet (dAndV (dCall sp_ascends (dCons (dVar 0) dNil)) (dOp (oEq false) (dLenSet (dVar 2)) (dBlt bLen (dCons (dVar 2) dNil)))))))
/-! ### are_town_streets -/
abbrev N_are_town_streets : List Str := ["value", "crossings", "stops", "row", "end"]
def t_are_town_streets (sp_are_pairs : DSp) : DTS := (dSeq (dAsg (dDc2 (dSeqI (dVar 1)) (dgName 3) (dRng1 (dCons (dOp oIx (dVar 3) (dC (.int 1))) dNil)) (dgName 4) (dTup (dCons (dOp oIx (dVar 3) (dC (.int 0))) (dCons (dVar 4) dNil))) (dC (.bl true)) [3, 4] [4]) (dgName 2))
    (dRet (dAndV (dCall sp_are_pairs (dCons (dVar 0) (dCons (dVar 2) dNil))) (dOp (oEq false) (dOp oMul (dC (.int 2)) (dBlt bLen (dCons (dVar 0) dNil))) (dBlt bLenD (dCons (dVar 2) dNil))))))
/-! ### view_from -/
abbrev N_view_from : List Str := ["crossing", "behind", "name", "ends", "straight", "signs", "on", "left", "right"]
def t_view_from (sp_straight_from : DSp) (sp_sides_of : DSp) : DTS := (dSeq (dAsg (dVar 0) (dgTup 4 (dgCons (dgName 2) (dgCons (dgName 3) (dgCons (dgName 4) (dgCons (dgName 5) dgNil))))))
    (dSeq (dAsg (dCall sp_straight_from (dCons (dVar 4) (dCons (dVar 1) dNil))) (dgName 6))
    (dSeq (dAsg (dCall sp_sides_of (dCons (dVar 3) (dCons (dVar 6) (dCons (dVar 1) dNil)))) (dgTup 2 (dgCons (dgName 7) (dgCons (dgName 8) dgNil))))
    (dRet (dTup (dCons (dBlt bLen (dCons (dVar 7) dNil)) (dCons (dBlt bLen (dCons (dVar 8) dNil)) (dCons (dOp (oIs true) (dVar 6) (dC .non)) (dCons (dVar 5) dNil)))))))))
/-! ### end_taken -/
abbrev N_end_taken : List Str := ["crossing", "behind", "choice", "name", "ends", "straight", "signs", "on", "left", "right", "side"]
def t_end_taken (sp_straight_from : DSp) (sp_sides_of : DSp) : DTS := (dSeq (dAsg (dVar 0) (dgTup 4 (dgCons (dgName 3) (dgCons (dgName 4) (dgCons (dgName 5) (dgCons (dgName 6) dgNil))))))
    (dSeq (dIfS (dTst (dOp (oEq false) (dOp oIx (dVar 2) (dC (.int 0))) (dC (.str "back"))))
    (dRet (dVar 1))
    dNext)
    (dSeq (dAsg (dCall sp_straight_from (dCons (dVar 5) (dCons (dVar 1) dNil))) (dgName 7))
    (dSeq (dIfS (dTst (dOp (oEq false) (dOp oIx (dVar 2) (dC (.int 0))) (dC (.str "on"))))
    (dRet (dVar 7))
    dNext)
    (dSeq (dAsg (dCall sp_sides_of (dCons (dVar 4) (dCons (dVar 7) (dCons (dVar 1) dNil)))) (dgTup 2 (dgCons (dgName 8) (dgCons (dgName 9) dgNil))))
    (dSeq (dAsg (dIf (dTst (dOp (oEq false) (dOp oIx (dVar 2) (dC (.int 0))) (dC (.str "left")))) (dVar 8) (dVar 9)) (dgName 10))
    (dRet (dIf (dTst (dOp oLe (dOp oIx (dVar 2) (dC (.int 1))) (dBlt bLen (dCons (dVar 10) dNil)))) (dOp oIx (dVar 10) (dOp oSub (dOp oIx (dVar 2) (dC (.int 1))) (dC (.int 1)))) (dC .non)))))))))
/-! ### Town_init -/
abbrev N_Town_init : List Str := ["self", "crossings", "streets", "row"]
def t_Town_init (C : Addr) (sp_are_town_crossings : DSp) (sp_are_town_streets : DSp) (sp_ways_across : DSp) : DTS := (dSeq (dIfS (dNot (dTst (dCall sp_are_town_crossings (dCons (dVar 1) dNil))))
    dNever
    dNext)
    (dSeq (dIfS (dNot (dTst (dCall sp_are_town_streets (dCons (dVar 2) (dCons (dVar 1) dNil)))))
    dNever
    dNext)
    (dSeq (sFldD C "_crossings" (dVar 0) (dVar 1))
    (dSeq (sFldD C "_streets" (dVar 0) (dVar 2))
    (dSeq (sFldD C "_by_name" (dVar 0) (dDc (dSeqI (dVar 1)) (dgName 3) dYes (dOp oIx (dVar 3) (dC (.int 0))) (dVar 3) [3]))
    (sFldD C "_across" (dVar 0) (dCall sp_ways_across (dCons (dVar 2) dNil))))))))
/-! ### Town_get -/
abbrev N_Town_get : List Str := ["self", "at"]
def t_Town_get (C : Addr) (sp_is_told : DSp) : DTS := (dSeq (dIfS (dNot (dTst (dCall sp_is_told (dCons (dVar 1) (dCons (dFld C "_across" (dVar 0)) dNil)))))
    dNever
    dNext)
    (dRet (dDget (dFld C "_across" (dVar 0)) (dVar 1))))
/-! ### Town_inv -/
abbrev N_Town_inv : List Str := ["self", "stops", "name", "ends", "straight", "signs", "end", "crossings", "row", "one", "other"]
def t_Town_inv (C : Addr) (sp_mirrored_end : DSp) (sp_mirrored_crossing : DSp) (sp_in_pairs : DSp) (sp_Town_init : DSp) : DTS := (dSeq (dAsg dNewT (dgName 1))
    (dSeq (dFor (dSeqI (dFld C "_crossings" (dVar 0))) (dgTup 4 (dgCons (dgName 2) (dgCons (dgName 3) (dgCons (dgName 4) (dgCons (dgName 5) dgNil)))))
    (dFor (dRng1 (dCons (dVar 3) dNil)) (dgName 6)
    (sDput (dVar 1) (dTup (dCons (dVar 2) (dCons (dVar 6) dNil))) (dTup (dCons (dVar 2) (dCons (dCall sp_mirrored_end (dCons (dVar 3) (dCons (dVar 6) dNil))) dNil))))))
    (dSeq (dAsg (dBlt bTup (dCons (dLc (dSeqI (dFld C "_crossings" (dVar 0))) (dgName 8) dYes (dCall sp_mirrored_crossing (dCons (dVar 8) dNil)) [8]) dNil)) (dgName 7))
    (dRet (dMake C sp_Town_init (dCons (dVar 7) (dCons (dCall sp_in_pairs (dCons (dLc (dSeqI (dFld C "_streets" (dVar 0))) (dgTup 2 (dgCons (dgName 9) (dgCons (dgName 10) dgNil))) dYes (dTup (dCons (dDget (dVar 1) (dVar 9)) (dCons (dDget (dVar 1) (dVar 10)) dNil))) [9, 10]) dNil)) dNil)))))))
/-! ### Town_view -/
abbrev N_Town_view : List Str := ["self", "stop"]
def t_Town_view (C : Addr) (sp_is_told : DSp) (sp_view_from : DSp) : DTS := (dSeq (dIfS (dNot (dTst (dCall sp_is_told (dCons (dVar 1) (dCons (dFld C "_across" (dVar 0)) dNil)))))
    dNever
    dNext)
    (dRet (dCall sp_view_from (dCons (dDget (dFld C "_by_name" (dVar 0)) (dOp oIx (dVar 1) (dC (.int 0)))) (dCons (dOp oIx (dVar 1) (dC (.int 1))) dNil)))))
/-! ### Town_taken -/
abbrev N_Town_taken : List Str := ["self", "stop", "choice"]
def t_Town_taken (C : Addr) (sp_is_told : DSp) (sp_is_choice : DSp) (sp_end_taken : DSp) : DTS := (dSeq (dIfS (dNot (dTst (dCall sp_is_told (dCons (dVar 1) (dCons (dFld C "_across" (dVar 0)) dNil)))))
    dNever
    dNext)
    (dSeq (dIfS (dNot (dTst (dCall sp_is_choice (dCons (dVar 2) dNil))))
    dNever
    dNext)
    (dRet (dCall sp_end_taken (dCons (dDget (dFld C "_by_name" (dVar 0)) (dOp oIx (dVar 1) (dC (.int 0)))) (dCons (dOp oIx (dVar 1) (dC (.int 1))) (dCons (dVar 2) dNil)))))))
/-! EDK: {k: v for .. for ..}, keys tuples of texts and ints. -/
section
variable {X : Cx} {K : PySem.W.Frag}
/-- behind a source's item the other source's own loop -/
def tDcK (wi : TI) (g : TG) (wi1 : TI) (g1 : TG) (tk tv : TE) (vs vs1 : List Nat) : TE := fun σ H Q => wi σ H fun J H1 => ∀ D, H1 D = none → ∃ W : Nat → Nat → Hp → Prop, (∃ m, W 0 m (upd H1 D (.dK []))) ∧ ∀ i m H, W i m H →
  (J.stop i H ∧ Q (.ref D) H) ∨ (J.go i H ∧ ∃ Nx : Hp → Prop, (∀ H', Nx H' → ∃ m', m' < m ∧ W (i + 1) m' H') ∧ ∀ x H', J.yld i H x H' → g x (L2.wipe σ vs) H' fun σ2 H2 => L2.wipe σ2 vs = L2.wipe σ vs ∧
    wi1 σ2 H2 fun J1 H4 => ∃ W1 : Nat → Nat → Hp → Prop, (∃ m, W1 0 m H4) ∧ ∀ j k H, W1 j k H →
      (J1.stop j H ∧ Nx H) ∨ (J1.go j H ∧ ∃ N1 : Hp → Prop, (∀ H', N1 H' → ∃ k', k' < k ∧ W1 (j + 1) k' H') ∧ ∀ x H', J1.yld j H x H' → g1 x (L2.wipe σ2 vs1) H' fun σ3 H5 => L2.wipe σ3 vs1 = L2.wipe σ2 vs1 ∧
        tk σ3 H5 fun y H6 => tv σ3 H6 fun z H7 => ∃ kvs k, y = kV k ∧ H7 D = some (.dK kvs) ∧ kvs.length < sizeLine ∧ N1 (upd H7 D (.dK (putK kvs k z)))))
set_option maxHeartbeats 3200000 in
theorem dcK_run {pins : List (Addr × PySem.Obj)} {σ : St} {H : Hp} {s : Shared} {Q : VK} {kx vx t0 i0 t1 i1 : Expr} {scope : Scope} {own : List (Str × Nat)} {vs1 : List Nat} {pos at_ : Pos} {wi wi1 : TI} {g g1 : TG} {tk tv : TE} {use : Option (Value → Sem Unit)} {Qf : Value → Shared → Prop} (hu : X.A.units < cLine) (hc : X.calm = true) (hN : X.N.Nodup)
    (I : Inv X pins σ H s) (src : PI X t0 i0 wi) (ok : BlkOk X.N X.env.scope scope own) (sub : ∀ i ∈ vs1, i ∈ own.map (·.2))
    (pg : ∀ s H C cl fp, PG (X.blk s H scope (compEnvC scope cl C X.env) fp) t0 g) (pi : ∀ s H C cl fp, PI (X.blk s H scope (compEnvC scope cl C X.env) fp) t1 i1 wi1) (pg1 : ∀ s H C cl fp, PG (X.blk s H scope (compEnvC scope cl C X.env) fp) t1 g1)
    (pk : ∀ s H C cl fp, PE (X.blk s H scope (compEnvC scope cl C X.env) fp) kx tk) (pv : ∀ s H C cl fp, PE (X.blk s H scope (compEnvC scope cl C X.env) fp) vx tv)
    (hs : ∀ x, foldedSetIterable i0 X.env x = pure x) (hs1 : ∀ (e : Env) x, foldedSetIterable i1 e x = pure x) (h : tDcK wi g wi1 g1 tk tv (own.map (·.2)) vs1 σ H Q)
    (back : ∀ D C s' m H', Inv X pins σ H' s' → Q (.ref D) H' → s'.heap.Ns C m → FpOk X pins H' C → compPost (model X.prog X.w) X.A X.xe use Qf (.ref D) C (.ok .next) s') :
    wpAny (model X.prog X.w) X.A (comprehension (dc2 kx vx t0 i0 t1 i1 scope pos) scope X.env at_ newDict false (eval i0 X.env) use) Qf X.xe s := by
  have fr : ∀ y ∈ scope.names, y.2 = .free → ∃ c, X.env.cells.lookup y.1 = some c := fun y hy e => by
    cases ok.free y hy e with
    | inl z => exact I.ok.has _ (.inl z)
    | inr z => exact I.ok.has _ (.inr z)
  refine wpAny_comprehension_free (use := use) rfl hs (closure_ok fr) ok.kind (fun y hy e => by rw [ok.uniq y hy, e]) (thn (src.run pins s σ H _ I h) fun _ s1 z => thn z fun _ s2 z => ?_)
  obtain ⟨it, fp, tn, J, H2, rfl, I2, T, st2, f2, q⟩ := z
  refine wpAny_newObj_type (newEnv_comp ?_)
  have dn : H2 s2.heap.objs.size = none := I2.hok.fresh (Nat.le_refl _)
  obtain ⟨W, ⟨m0, w0⟩, turn⟩ := q s2.heap.objs.size dn
  have I3 : Inv X pins σ (upd H2 s2.heap.objs.size (.dK [])) { s2 with heap := s2.heap.push { cls := .type "dict", data := .dict #[] } } :=
    I2.laid (t' := s2.toks) (fun _ _ e => Heap.get?_push_of_some _ e) (Nat.le_refl _) (dk_empty s2.heap I2.big)
  generalize es3 : ({ s2 with heap := s2.heap.push { cls := .type "dict", data := .dict #[] } } : Shared) = s3 at I3
  have eh3 : s3.heap = s2.heap.push { cls := .type "dict", data := .dict #[] } := by rw [← es3]
  have up : ∀ b o, s2.heap.get? b = some o → s3.heap.get? b = some o := fun b o e => by rw [eh3]; exact Heap.get?_push_of_some _ e
  generalize hD : s2.heap.objs.size = D at dn w0 turn I3
  have low : ∀ b ∈ fp, b < s2.heap.objs.size := fun b hb => by
    obtain ⟨o, e, _⟩ := T.obj _ _ st2 b hb
    exact Heap.lt_size e
  have ff : ∀ b ∈ fp, FpOk X pins (upd H2 D (.dK [])) b ∧ b < s3.heap.objs.size := fun b hb => by
    have lb := low b hb
    refine ⟨⟨?_, (f2 b hb).2⟩, by rw [eh3, Heap.size_push]; exact Nat.lt_succ_of_lt lb⟩
    rw [upd_ne (by rw [← hD]; exact Nat.ne_of_lt lb)]
    exact (f2 b hb).1
  have st3 : tn 0 s3.heap := T.keep _ _ _ st2 fun b _ o e => up b o e
  have I4 := block_start I3 ok hN ff
  show codeAny _ _ (.compStart (dc2 kx vx t0 i0 t1 i1 scope pos) 0 (.ref it) (.ref D) (compEnvC scope (cellsFrom (s3.heap.objs.size + 1) scope.names (cloFrom X.env.cells scope.names [])) s3.heap.objs.size X.env)) (compPost (model X.prog X.w) X.A X.xe use Qf (.ref D) s3.heap.objs.size) { s3 with heap := pushCells (s3.heap.push { cls := .type "dict", data := .dict #[] }) scope.names }
  have a0 := pg s3 (upd H2 D (.dK [])) s3.heap.objs.size (cellsFrom (s3.heap.objs.size + 1) scope.names (cloFrom X.env.cells scope.names [])) fp
  have a1 := pi s3 (upd H2 D (.dK [])) s3.heap.objs.size (cellsFrom (s3.heap.objs.size + 1) scope.names (cloFrom X.env.cells scope.names [])) fp
  have a2 := pg1 s3 (upd H2 D (.dK [])) s3.heap.objs.size (cellsFrom (s3.heap.objs.size + 1) scope.names (cloFrom X.env.cells scope.names [])) fp
  have a3 := pk s3 (upd H2 D (.dK [])) s3.heap.objs.size (cellsFrom (s3.heap.objs.size + 1) scope.names (cloFrom X.env.cells scope.names [])) fp
  have a4 := pv s3 (upd H2 D (.dK [])) s3.heap.objs.size (cellsFrom (s3.heap.objs.size + 1) scope.names (cloFrom X.env.cells scope.names [])) fp
  have nf : ∀ b ∈ fp, (upd H2 D (.dK [])) b = none := fun b hb => (ff b hb).1.1
  generalize ec : compEnvC scope (cellsFrom (s3.heap.objs.size + 1) scope.names (cloFrom X.env.cells scope.names [])) s3.heap.objs.size X.env = ce at I4 a0 a1 a2 a3 a4 ⊢
  have lo : ce.locals = s3.heap.objs.size := by subst ec; rfl
  generalize eH : upd H2 D (.dK []) = H3 at I3 I4 a0 a1 a2 a3 a4 w0 nf ff
  generalize es4 : ({ s3 with heap := pushCells (s3.heap.push { cls := .type "dict", data := .dict #[] }) scope.names } : Shared) = s4 at I4 ⊢
  have st4 : tn 0 s4.heap := T.keep _ _ _ st3 fun b _ o e => by rw [← es4]; exact pushCells_keeps _ _ _ _ (Heap.get?_push_of_some _ e)
  let Y := X.blk s3 H3 scope ce fp
  let v0 := L2.wipe σ (own.map (·.2))
  have stay : ∀ {σ' : St} {H' : Hp} {z : Shared}, Inv Y [] σ' H' z → (∀ b ∈ fp, H' b = none) → ∀ b ∈ fp, FpOk Y [] H' b := fun {σ' H' z} J hn b hb =>
    ⟨hn b hb, (J.ok.exf b hb).1, J.ok.exfs b hb, .inl hb, fun x c e => (J.ok.exf b hb).2 x c e, fun p hp => by cases hp⟩
  let Inn : Nat → Shared → Prop := fun n z => ∃ i H', Inv Y [] v0 H' z ∧ tn i z.heap ∧ (∀ b ∈ fp, H' b = none) ∧ W i n H'
  have loop : codeAny (model X.prog X.w) X.A (.compLoop (dc2 kx vx t0 i0 t1 i1 scope pos) 0 (.ref it) (.ref D) ce) (compPost (model X.prog X.w) X.A X.xe use Qf (.ref D) s3.heap.objs.size) s4 := by
    refine dloop0 (hs1 ce) Inn ?_ m0 ⟨0, H3, I4, st4, nf, w0⟩
    rintro n s5 ⟨i, H5, I5, st5, n5, w5⟩
    rcases turn i n H5 w5 with ⟨stop, qq⟩ | ⟨go, Nx, hNx, step⟩
    · refine thnF (T.done Y rfl rfl rfl hc i [] s5 _ H5 (fun _ _ => False) I5 (stay I5 n5) st5 stop) fun r s6 ⟨hr, I6⟩ => ?_
      subst hr
      have I7 : Inv X pins σ H5 s6 := I3.call' (ch := fp) I6.os I6.base I6.hok I6.bare fun b hb => ⟨(ff b hb).1.2.2.2.1, (ff b hb).1.2.1, (ff b hb).1.2.2.2.2.1, (ff b hb).1.2.2.2.2.2⟩
      have nC : H5 s3.heap.objs.size = none := by
        rw [← lo]
        exact I6.free
      obtain ⟨m, ns, _⟩ := I6.loc
      have ns : s6.heap.Ns ce.locals m := ns
      rw [lo] at ns
      exact back D s3.heap.objs.size s6 m H5 I7 qq ns (I3.fpOk (Nat.le_refl _) nC)
    · refine thnF (T.item Y rfl rfl rfl hc i [] s5 _ H5 (fun _ _ => False) I5 (stay I5 n5) st5 go) fun r s6 ⟨u, hr, h6⟩ => ?_
      subst hr
      refine thnF h6 fun _ s7 ⟨x, H7, I7, r7, y7, st7, n7⟩ => ?_
      have J7 := I7.pinned (stay I7 n7) (T.obj _ _ st7)
      refine thnF (a0.run _ s7 _ H7 x u _ J7 r7 (step x H7 y7)) fun _ s8 ⟨σ8, H8, I8, hw, q8⟩ => ?_
      have le8 : v0.length = σ8.length := by
        show (L2.wipe σ _).length = _
        rw [← hw, wipe_length]
      have kn9 : ∀ (j : Nat) v, v0[j]? = some (some v) → (L2.wipe σ8 vs1)[j]? = some (some v) := fun j v e => by
        have e : (L2.wipe σ (own.map (·.2)))[j]? = some (some v) := e
        rw [← hw] at e
        obtain ⟨b1, b2⟩ := wipe_some e
        rw [wipe_out fun z => b2 (sub j z)]
        exact b1
      have ends : ∀ {σ9 : St} {z : Shared} {H' : Hp}, Inv Y ([] ++ pinsAt fp s7.heap) σ9 H' z → v0.length = σ9.length → (∀ (j : Nat) v, v0[j]? = some (some v) → σ9[j]? = some (some v)) → Nx H' → ∃ m, m < n ∧ Inn m z := fun {σ9 z H'} J hl hk nx => by
        obtain ⟨m2, hm, w2⟩ := hNx H' nx
        have at_ : ∀ b ∈ fp, ∀ o, s7.heap.get? b = some o → z.heap.get? b = some o ∧ H' b = none := fun b hb o e =>
          let y := J.pin (b, o) (List.mem_append_right _ (List.mem_append_right _ (mem_pinsAt hb e)))
          ⟨y.1, y.2.1⟩
        refine ⟨m2, hm, i + 1, H', (J.unpinned (pins := [])).weak hl hk, T.keep _ _ _ st7 fun b hb o e => (at_ b hb o e).1, fun b hb => ?_, w2⟩
        obtain ⟨o, e, _⟩ := T.obj _ _ st7 b hb
        exact (at_ b hb o e).2
      refine thnF (a1.run _ s8 σ8 H8 _ I8 q8) fun _ s9 z => thnF z fun _ s9 z => ?_
      obtain ⟨j1, fp1, tn1, J1, H9, rfl, I9, T1, st9, f9, W1, ⟨m1, w1⟩, turn1⟩ := z
      have stay1 : ∀ {H' : Hp}, (∀ b ∈ fp1, H' b = none) → ∀ b ∈ fp1, FpOk Y ([] ++ pinsAt fp s7.heap) H' b := fun hn b hb => ⟨hn b hb, (f9 b hb).2⟩
      let In1 : Nat → Shared → Prop := fun k z => ∃ j H', Inv Y ([] ++ pinsAt fp s7.heap) (L2.wipe σ8 vs1) H' z ∧ tn1 j z.heap ∧ (∀ b ∈ fp1, H' b = none) ∧ W1 j k H'
      have loop1 : codeAny (model X.prog X.w) X.A (.compLoop (dc2 kx vx t0 i0 t1 i1 scope pos) 1 (.ref j1) (.ref D) ce) (fun r z => match r with
          | .ok _ => ∃ m, m < n ∧ Inn m z
          | .error _ => False) s9 := by
        refine dloop1 In1 ?_ m1 ⟨0, H9, I9.weak (wipe_length _ _) (fun j v e => (wipe_some e).1), st9, fun b hb => (f9 b hb).1, w1⟩
        rintro k sA ⟨j, HA, IA, stA, nA, wA⟩
        rcases turn1 j k HA wA with ⟨stop1, nx1⟩ | ⟨go1, N1, hN1, step1⟩
        · refine thnF (T1.done Y rfl rfl rfl hc j _ sA (L2.wipe σ8 vs1) HA (fun _ _ => False) IA (stay1 nA) stA stop1) fun r sB ⟨hr, IB⟩ => ?_
          subst hr
          exact ends IB (le8.trans (wipe_length σ8 vs1).symm) kn9 nx1
        · refine thnF (T1.item Y rfl rfl rfl hc j _ sA (L2.wipe σ8 vs1) HA (fun _ _ => False) IA (stay1 nA) stA go1) fun r sB ⟨u1, hr, hB⟩ => ?_
          subst hr
          refine thnF hB fun _ sC ⟨xC, HC, IC, rC, yC, stC, nC⟩ => ?_
          have JC := IC.pinned (stay1 nC) (T1.obj _ _ stC)
          refine thnF (a2.run _ sC (L2.wipe σ8 vs1) HC xC u1 _ JC rC (step1 xC HC yC)) fun _ sD ⟨σD, HD, ID, hwD, qD⟩ => ?_
          refine thnF (a3.run _ sD σD HD _ ID qD) fun ku sE ⟨yE, HE, IE, rE, qE⟩ => ?_
          refine thnF (a4.run _ sE σD HE _ IE qE) fun vu sF ⟨zF, HF, IF, rF, kvs, key, eb, g1, g3, nx⟩ => ?_
          subst eb
          refine d_dictSet (X := Y) IF g1 g3 rE rF fun sG IG => ?_
          obtain ⟨m2, hm, w2⟩ := hN1 _ nx
          have at_ : ∀ b ∈ fp1, ∀ o, sC.heap.get? b = some o → sG.heap.get? b = some o ∧ (upd HF D (.dK (putK kvs key zF))) b = none := fun b hb o e =>
            let y := IG.pin (b, o) (List.mem_append_right _ (List.mem_append_right _ (mem_pinsAt hb e)))
            ⟨y.1, y.2.1⟩
          refine ⟨m2, hm, j + 1, _, IG.unpinned.weak (by rw [← hwD, wipe_length]) (fun j v e => by rw [← hwD] at e; exact (wipe_some e).1), T1.keep _ _ _ stC fun b hb o e => (at_ b hb o e).1, fun b hb => ?_, w2⟩
          obtain ⟨o, e, _⟩ := T1.obj _ _ stC b hb
          exact (at_ b hb o e).2
      exact dstart1 loop1 (T1.self X.A 0 _ _ _ st9 loop1)
  exact codeAny_compStart_dict loop (T.self X.A 0 _ _ _ st4 loop)
theorem pe_dcK {kx vx t0 i0 t1 i1 : Expr} {scope : Scope} {own : List (Str × Nat)} {vs1 : List Nat} {pos : Pos} {wi wi1 : TI} {g g1 : TG} {tk tv : TE} (hu : X.A.units < cLine) (hc : X.calm = true) (hN : X.N.Nodup) (src : PI X t0 i0 wi) (ok : BlkOk X.N X.env.scope scope own) (sub : ∀ i ∈ vs1, i ∈ own.map (·.2))
    (pg : ∀ s H C cl fp, PG (X.blk s H scope (compEnvC scope cl C X.env) fp) t0 g) (pi : ∀ s H C cl fp, PI (X.blk s H scope (compEnvC scope cl C X.env) fp) t1 i1 wi1) (pg1 : ∀ s H C cl fp, PG (X.blk s H scope (compEnvC scope cl C X.env) fp) t1 g1)
    (pk : ∀ s H C cl fp, PE (X.blk s H scope (compEnvC scope cl C X.env) fp) kx tk) (pv : ∀ s H C cl fp, PE (X.blk s H scope (compEnvC scope cl C X.env) fp) vx tv)
    (hs : ∀ x, foldedSetIterable i0 X.env x = pure x := by intro _; rfl) (hs1 : ∀ (e : Env) x, foldedSetIterable i1 e x = pure x := by intro _ _; rfl) : PE X (dc2 kx vx t0 i0 t1 i1 scope pos) (tDcK wi g wi1 g1 tk tv (own.map (·.2)) vs1) := by
  constructor
  intro pins s σ H Q I h
  rw [arm_eval_DictComp]
  refine dcK_run (use := none) hu hc hN I src ok sub pg pi pg1 pk pv hs hs1 h fun D C s' m H' J q ns f => ?_
  obtain ⟨f0, f1, _, f3, f4, f5⟩ := f
  exact ⟨m, ns, fun h2 sb => ⟨.ref D, H', J.turned (t' := s'.toks) (fun b o hb e => (sb.2 b hb).trans e) f0 f1 f3 f4 f5, rfl, q⟩⟩
/-- x = {..} -/
theorem ps_setDcK {i : Nat} {y : Str} {py spos : Pos} {kx vx t0 i0 t1 i1 : Expr} {scope : Scope} {own : List (Str × Nat)} {vs1 : List Nat} {pos : Pos} {wi wi1 : TI} {g g1 : TG} {tk tv : TE} (hu : X.A.units < cLine) (hc : X.calm = true) (hN : X.N.Nodup) (hy : X.N[i]? = some y) (hl : X.env.scope.names.lookup y = some .local)
    (sw : swapsWith (dc2 kx vx t0 i0 t1 i1 scope pos) (some (.Name y py)) spos.line X.env = pure true) (src : PI X t0 i0 wi) (ok : BlkOk X.N X.env.scope scope own) (sub : ∀ i ∈ vs1, i ∈ own.map (·.2))
    (pg : ∀ s H C cl fp, PG (X.blk s H scope (compEnvC scope cl C X.env) fp) t0 g) (pi : ∀ s H C cl fp, PI (X.blk s H scope (compEnvC scope cl C X.env) fp) t1 i1 wi1) (pg1 : ∀ s H C cl fp, PG (X.blk s H scope (compEnvC scope cl C X.env) fp) t1 g1)
    (pk : ∀ s H C cl fp, PE (X.blk s H scope (compEnvC scope cl C X.env) fp) kx tk) (pv : ∀ s H C cl fp, PE (X.blk s H scope (compEnvC scope cl C X.env) fp) vx tv)
    (hs : ∀ x, foldedSetIterable i0 X.env x = pure x := by intro _; rfl) (hs1 : ∀ (e : Env) x, foldedSetIterable i1 e x = pure x := by intro _ _; rfl) :
    PS X (.Assign [.Name y py] (dc2 kx vx t0 i0 t1 i1 scope pos) spos) (tAsg (tDcK wi g wi1 g1 tk tv (own.map (·.2)) vs1) (gName i)) := by
  constructor
  intro pins s σ H D I h
  rw [exec_Assign_Name_used _ _ _ _ sw]
  apply wpAny_bind
  apply wpAny_standAt
  apply wpAny_bind
  show wpAny _ X.A (do let _ ← comprehension (dc2 kx vx t0 i0 t1 i1 scope pos) scope X.env (firstIterPos [⟨t0, i0, [], 0⟩, ⟨t1, i1, [], 0⟩] pos) newDict false (eval i0 X.env) (some (assign (.Name y py) X.env))) _ _ s
  have h : tDcK wi g wi1 g1 tk tv (own.map (·.2)) vs1 σ H (fun x H1 => gName i x σ H1 D.nx) := h
  apply wpAny_bind
  refine thn (dcK_run (Qf := fun _ s' => SP X pins D .next s') hu hc hN I src ok sub pg pi pg1 pk pv hs hs1 h fun L C s' m H' J q ns f => ?_) fun _ s' hq => wpAny_pure (wpAny_pure hq)
  show wpAny _ _ (assign (.Name y py) X.env (.ref L)) _ _ _
  refine wpAny_assign_Name (store_ok2 (v := V.ref L) J hN hy (.inl hl) rfl (fun s2 J2 ⟨a, sb, ha⟩ => ?_) (.inr hl))
  obtain ⟨f0, f1, _, f3, f4, f5⟩ := f
  have ne : C ≠ a := by
    cases ha with
    | inl z => rw [z]; exact f1
    | inr z => exact fun e => f4 y a z e.symm
  exact ⟨m, ns.sameBut sb ne, fun h3 sb3 => ⟨_, H', J2.turned (t' := s2.toks) (fun b o hb e => (sb3.2 b hb).trans e) f0 f1 f3 f4 f5, q⟩⟩
end
/-! EEK: dict comprehensions with two fors over data by value. -/
section
variable {X : Cx} {K : PySem.W.Frag}
abbrev TAccK := List Key × List D
/-- the inner loop -/
def dcTK (p : Addr) (live : DHp → Prop) (g : DTG) (tk tv : DTE) (ρ : DSt) (Kf : TAccK → DHp → Prop) : List D → TAccK → DHp → Prop
  | [], acc, S => live S ∧ S p = some (.dK acc.1, acc.2) ∧ Kf acc S
  | d :: ds, acc, S => live S ∧ g d ρ S fun ρ2 S2 => tk ρ2 S2 fun y S3 => tv ρ2 S3 fun z S4 => match keyD y with
      | some k => S4 p = some (.dK acc.1, acc.2) ∧ acc.1.length < sizeLine ∧ dcTK p live g tk tv ρ Kf ds (putD acc.1 acc.2 k z) (put S4 p (.dK (putD acc.1 acc.2 k z).1, (putD acc.1 acc.2 k z).2))
      | none => False
/-- the outer loop -/
def dcOK (p : Addr) (live : DHp → Prop) (g : DTG) (ti1 : DTI) (g1 : DTG) (tk tv : DTE) (vs1 : List Nat) (ρ : DSt) (Kf : TAccK → DHp → Prop) : List D → TAccK → DHp → Prop
  | [], acc, S => live S ∧ S p = some (.dK acc.1, acc.2) ∧ Kf acc S
  | d :: ds, acc, S => live S ∧ g d ρ S fun ρ2 S2 => ti1 ρ2 S2 fun src1 S3 => dcTK p src1.live g1 tk tv (wipeD ρ2 vs1) (fun acc' S' => dcOK p live g ti1 g1 tk tv vs1 ρ Kf ds acc' S') src1.items acc S3
theorem dcTK_live {p : Addr} {live : DHp → Prop} {g : DTG} {tk tv : DTE} {ρ : DSt} {Kf : TAccK → DHp → Prop} {l : List D} {acc : TAccK} {S : DHp} (h : dcTK p live g tk tv ρ Kf l acc S) : live S := by
  cases l with
  | nil => exact h.1
  | cons _ _ => exact h.1
theorem dcOK_live {p : Addr} {live : DHp → Prop} {g : DTG} {ti1 : DTI} {g1 : DTG} {tk tv : DTE} {vs1 : List Nat} {ρ : DSt} {Kf : TAccK → DHp → Prop} {l : List D} {acc : TAccK} {S : DHp} (h : dcOK p live g ti1 g1 tk tv vs1 ρ Kf l acc S) : live S := by
  cases l with
  | nil => exact h.1
  | cons _ _ => exact h.1
/-- the new dict may change -/
def dDcK (ti : DTI) (g : DTG) (ti1 : DTI) (g1 : DTG) (tk tv : DTE) (vs vs1 : List Nat) : DTE := fun ρ S Q => ti ρ S fun src S1 => ∀ p, S1 p = none → dcOK p src.live g ti1 g1 tk tv vs1 (wipeD ρ vs) (fun acc S' => Q (.ref p) S') src.items ([], []) (put S1 p (.dK [], []))
theorem dcK_lift {ti : DTI} {g : DTG} {ti1 : DTI} {g1 : DTG} {tk tv : DTE} {vs vs1 : List Nat} {σ : St} {H : Hp} {Q : VK}
    (h : lift K (dDcK ti g ti1 g1 tk tv vs vs1) σ H Q) : tDcK (liftI K ti) (liftGv K vs g) (liftI K ti1) (liftGv K vs1 g1) (lift K tk) (lift K tv) vs vs1 σ H Q := by
  obtain ⟨ρ, S, Qd, r, rs, q, k⟩ := h
  refine ⟨ρ, S, _, r, rs, q, fun src S1 J H1 q1 k1 rs1 w1 => ?_⟩
  intro p hp
  have q2 := q1 p (rs1.free hp)
  have kn : Keep S1 H1 (put S1 p (.dK [], [])) (upd H1 p (.dK [])) := keep_new hp
  let Kf : TAccK → DHp → Prop := fun acc S' => Qd (.ref p) S'
  refine ⟨fun i m H' => ∃ S' acc, Keep S1 H1 S' H' ∧ RS K S' H' ∧ m = src.items.length - i ∧ i ≤ src.items.length ∧ dcOK p src.live g ti1 g1 tk tv vs1 (wipeD ρ vs) Kf (src.items.drop i) acc S',
    ⟨_, _, ([], []), kn, rs_new rs1 hp (.dK (ks := []) (vs := []) rfl) .nil, rfl, Nat.zero_le _, by simpa using q2⟩, ?_⟩
  rintro i m H' ⟨S', acc, k2, rs2, rfl, hi, q3⟩
  have lv := dcOK_live q3
  by_cases hlt : i < src.items.length
  · have ed : src.items.drop i = src.items[i] :: src.items.drop (i + 1) := List.drop_eq_getElem_cons hlt
    rw [ed] at q3
    obtain ⟨_, q3⟩ := q3
    refine .inr ⟨w1.go i S' H' hlt k2 rs2 lv, fun H3 => ∃ S3 acc3, Keep S1 H1 S3 H3 ∧ RS K S3 H3 ∧ dcOK p src.live g ti1 g1 tk tv vs1 (wipeD ρ vs) Kf (src.items.drop (i + 1)) acc3 S3, fun H3 ⟨S3, acc3, b1, b2, b3⟩ => ⟨src.items.length - (i + 1), by omega, S3, acc3, b1, b2, rfl, hlt, b3⟩, fun x H4 y => ?_⟩
    obtain ⟨k4, rs4, w4⟩ := w1.yld i src.items[i] S' H' x H4 (by simp [hlt]) k2 rs2 lv y
    have k04 : Keep S H S' H4 := (k1.trans k2).trans k4
    refine ⟨_, wipeD ρ vs, S', _, w4, (r.keep k04).wipe vs, rs4, q3, fun ρ5 S5 σ5 H5 q5 k5 rs5 r5 hw => ?_⟩
    refine ⟨by rw [hw, wipe_twice], ρ5, S5, _, r5, rs5, q5, fun src1 S7 J1 H7 q7 k7 rs7 w7 => ?_⟩
    have k15 : Keep S1 H1 S5 H5 := (k2.trans k4).trans k5
    have r7 : RepSt K S7 H7 ρ5 σ5 := r5.keep k7
    refine ⟨fun j m1 H8 => ∃ S8 acc8, Keep S7 H7 S8 H8 ∧ RS K S8 H8 ∧ m1 = src1.items.length - j ∧ j ≤ src1.items.length ∧ dcTK p src1.live g1 tk tv (wipeD ρ5 vs1) (fun acc' S' => dcOK p src.live g ti1 g1 tk tv vs1 (wipeD ρ vs) Kf (src.items.drop (i + 1)) acc' S') (src1.items.drop j) acc8 S8,
      ⟨_, S7, acc, Keep.refl, rs7, rfl, Nat.zero_le _, by simpa using q7⟩, ?_⟩
    rintro j m1 H8 ⟨S8, acc8, k8, rs8, rfl, hj, q8⟩
    have lv1 := dcTK_live q8
    by_cases hlt1 : j < src1.items.length
    · have ed1 : src1.items.drop j = src1.items[j] :: src1.items.drop (j + 1) := List.drop_eq_getElem_cons hlt1
      rw [ed1] at q8
      obtain ⟨_, q8⟩ := q8
      refine .inr ⟨w7.go j S8 H8 hlt1 k8 rs8 lv1, fun H9 => ∃ S9 acc9, Keep S7 H7 S9 H9 ∧ RS K S9 H9 ∧ dcTK p src1.live g1 tk tv (wipeD ρ5 vs1) (fun acc' S' => dcOK p src.live g ti1 g1 tk tv vs1 (wipeD ρ vs) Kf (src.items.drop (i + 1)) acc' S') (src1.items.drop (j + 1)) acc9 S9, fun H9 ⟨S9, acc9, b1, b2, b3⟩ => ⟨src1.items.length - (j + 1), by omega, S9, acc9, b1, b2, rfl, hlt1, b3⟩, fun x1 H9 y1 => ?_⟩
      obtain ⟨k9, rs9, w9⟩ := w7.yld j src1.items[j] S8 H8 x1 H9 (by simp [hlt1]) k8 rs8 lv1 y1
      have k79 : Keep S7 H7 S8 H9 := k8.trans k9
      refine ⟨_, wipeD ρ5 vs1, S8, _, w9, (r7.keep k79).wipe vs1, rs9, q8, fun ρa Sa σa Ha qa ka rsa ra hwa => ?_⟩
      refine ⟨by rw [hwa, wipe_twice], ρa, Sa, _, ra, rsa, qa, fun yd Sb yv Hb qb kb rsb wb => ?_⟩
      refine ⟨ρa, Sb, _, ra.keep kb, rsb, qb, fun zd Sc zv Hc qc kc rsc wc => ?_⟩
      cases ek : keyD yd with
      | none => simp only [ek] at qc
      | some key =>
        simp only [ek] at qc
        obtain ⟨qc, hz, qd⟩ := qc
        obtain ⟨us, ho, xc, ob, wu⟩ := rsc p _ _ qc
        have hne : Sc p ≠ none := by rw [qc]; simp
        have ey := rep_key (wb.keep kc) ek
        cases ob with
        | dK hl =>
          obtain ⟨p1, p2⟩ := put_rep (ks := acc8.1) (k := key) wc wu
          refine ⟨_, key, ey, xc, by rw [List.length_zip, ← hl, Nat.min_self]; exact hz, _, _, (((k79.trans ka).trans kb).trans kc).trans (keep_put hne), ?_, qd⟩
          rw [put_zip hl]
          refine rs_put rsc hne ?_ p2
          rw [p1]
          exact .dK (put_len hl)
    · have e1 : j = src1.items.length := by omega
      subst e1
      have ed1 : src1.items.drop src1.items.length = [] := List.drop_eq_nil_of_le (Nat.le_refl _)
      rw [ed1] at q8
      obtain ⟨_, _, q8⟩ := q8
      exact .inl ⟨w7.stop S8 H8 k8 rs8 lv1, S8, acc8, (k15.trans k7).trans k8, rs8, q8⟩
  · have e : i = src.items.length := by omega
    subst e
    have ed : src.items.drop src.items.length = [] := List.drop_eq_nil_of_le (Nat.le_refl _)
    rw [ed] at q3
    obtain ⟨_, hpa, q3⟩ := q3
    exact .inl ⟨w1.stop S' H' k2 rs2 lv, k _ _ _ H' q3 (k1.trans k2) rs2 .ref⟩
theorem de_dcK {kx vx tg iter tg1 iter1 : Expr} {scope : Scope} {own : List (Str × Nat)} {vs1 : List Nat} {pos : Pos} {ti ti1 : DTI} {g g1 : DTG} {tk tv : DTE} (hu : X.A.units < cLine) (hc : X.calm = true) (hN : X.N.Nodup) (hi : DI X tg iter ti) (ok : BlkOk X.N X.env.scope scope own) (hv : ∀ i ∈ vs1, i ∈ own.map (·.2))
    (hg : ∀ s H C cl fp, DGv (X.blk s H scope (compEnvC scope cl C X.env) fp) tg (own.map (·.2)) g) (hi1 : ∀ s H C cl fp, DI (X.blk s H scope (compEnvC scope cl C X.env) fp) tg1 iter1 ti1) (hg1 : ∀ s H C cl fp, DGv (X.blk s H scope (compEnvC scope cl C X.env) fp) tg1 vs1 g1)
    (hk : ∀ s H C cl fp, DE (X.blk s H scope (compEnvC scope cl C X.env) fp) kx tk) (hw : ∀ s H C cl fp, DE (X.blk s H scope (compEnvC scope cl C X.env) fp) vx tv)
    (hs : ∀ x, foldedSetIterable iter X.env x = pure x := by intro _; rfl) (hs1 : ∀ (e : Env) x, foldedSetIterable iter1 e x = pure x := by intro _ _; rfl) :
    DE X (.DictComp kx vx [⟨tg, iter, [], 0⟩, ⟨tg1, iter1, [], 0⟩] scope pos) (dDcK ti g ti1 g1 tk tv (own.map (·.2)) vs1) :=
  PE.mono (pe_dcK hu hc hN hi ok hv hg hi1 hg1 hk hw hs hs1) fun _ _ _ => dcK_lift
theorem ds_setDcK {i : Nat} {y : Str} {py spos : Pos} {kx vx tg iter tg1 iter1 : Expr} {scope : Scope} {own : List (Str × Nat)} {vs1 : List Nat} {pos : Pos} {ti ti1 : DTI} {g g1 : DTG} {tk tv : DTE} (hu : X.A.units < cLine) (hc : X.calm = true) (hN : X.N.Nodup) (hy : X.N[i]? = some y) (hl : X.env.scope.names.lookup y = some .local)
    (sw : swapsWith (.DictComp kx vx [⟨tg, iter, [], 0⟩, ⟨tg1, iter1, [], 0⟩] scope pos) (some (.Name y py)) spos.line X.env = pure true) (hi : DI X tg iter ti) (ok : BlkOk X.N X.env.scope scope own) (hv : ∀ i ∈ vs1, i ∈ own.map (·.2))
    (hg : ∀ s H C cl fp, DGv (X.blk s H scope (compEnvC scope cl C X.env) fp) tg (own.map (·.2)) g) (hi1 : ∀ s H C cl fp, DI (X.blk s H scope (compEnvC scope cl C X.env) fp) tg1 iter1 ti1) (hg1 : ∀ s H C cl fp, DGv (X.blk s H scope (compEnvC scope cl C X.env) fp) tg1 vs1 g1)
    (hk : ∀ s H C cl fp, DE (X.blk s H scope (compEnvC scope cl C X.env) fp) kx tk) (hw : ∀ s H C cl fp, DE (X.blk s H scope (compEnvC scope cl C X.env) fp) vx tv)
    (hs : ∀ x, foldedSetIterable iter X.env x = pure x := by intro _; rfl) (hs1 : ∀ (e : Env) x, foldedSetIterable iter1 e x = pure x := by intro _ _; rfl) :
    DS X (.Assign [.Name y py] (.DictComp kx vx [⟨tg, iter, [], 0⟩, ⟨tg1, iter1, [], 0⟩] scope pos) spos) (dAsg (dDcK ti g ti1 g1 tk tv (own.map (·.2)) vs1) (dgName i)) :=
  PS.mono (ps_setDcK hu hc hN hy hl sw hi ok hv hg hi1 hg1 hk hw hs hs1) fun _ _ _ => asg_lift fun _ _ _ => dcK_lift
end
/-! EI: instances that change; properties. -/
section
variable {X : Cx} {K : PySem.W.Frag} {o e a b : Expr} {pos apos : Pos} {es : List Expr}
/-- C(..), which may change -/
def dMakeM (C : Addr) (sp : DSp) (t : DTA) : DTE := fun ρ S Q => t ρ S fun ds S1 => ∀ p, S1 p = none → sp (.ref p :: ds) (put S1 p (.ins C [], [])) fun d S2 => d = .non ∧ Q (.ref p) S2
theorem de_makeM {k j : Nat} {x : Str} {C : Addr} {sp : DSp} {t : DTA} {p : Pos} (cl : DMak X.prog X.w X.K X.mg X.base k x C sp) (hr : Room j X.A) (hk : k + 1 ≤ j) (hg : Gl X x) (ha : DAs X (e :: es) t)
    (hdb : (x == ("__debug__" : Str)) = false := by decide) (he : starEach (e :: es) X.env = (false, eval e X.env) :: starEach es X.env := by rfl) (hpl : (backTo pos (starEach es X.env)).any (·.1) = false := by rfl) : DE X (.Call (.Name x p) (e :: es) [] pos) (dMakeM C sp t) := by
  obtain ⟨f, fd, ps, F, M, hm, bi⟩ := cl.ex
  refine PE.mono (pe_make M F (hr.mono hk) hg hm bi .nil pass0 ha hdb he hpl) fun σ H Q ⟨ρ, S, Qd, r, rs, q, k0⟩ => ?_
  refine ⟨ρ, S, _, r, rs, q, fun ds S1 vs H1 q1 k1 rs1 w1 => ?_⟩
  intro y dx hy hd ne
  have kd : Keep S1 H1 S1 (upd H1 dx (.own y)) := keep_newF hd
  have free : upd H1 dx (.own y) y = none := (upd_ne (Ne.symm ne)).trans hy
  have ky : Keep S1 (upd H1 dx (.own y)) (put S1 y (.ins C [], [])) (upd (upd H1 dx (.own y)) y (.ins C dx [])) := keep_new free
  have rs2 : RS X.K (put S1 y (.ins C [], [])) (upd (upd H1 dx (.own y)) y (.ins C dx [])) := rs_new (rs_newF rs1 hd) free (.ins (ns := []) (vs := []) rfl) .nil
  refine ⟨.ref y :: ds, _, _, by rw [List.append_nil]; exact .cons .ref ((w1.keep kd).keep ky), rs2, q1 y (rs1.free hy), fun d S3 v H3 ⟨ed, q3⟩ k3 rs3 w3 => ?_⟩
  subst ed
  cases w3
  exact ⟨rfl, k0 _ _ _ _ q3 (((k1.trans kd).trans ky).trans k3) rs3 .ref⟩
/-- the value of a field put anew -/
def setV {β : Type} : List Str → List β → Str → β → List β
  | n :: ns, d :: ds, f, y => if n = f then y :: ds else d :: setV ns ds f y
  | _, ds, _, _ => ds
theorem setV_len {β : Type} : ∀ {ns : List Str} {ds : List β} {f : Str} {y : β}, (setV ns ds f y).length = ds.length
  | [], _, _, _ => rfl
  | _ :: _, [], _, _ => rfl
  | n :: ns, d :: ds, f, y => by
    unfold setV
    by_cases h : n = f
    · rw [if_pos h]; rfl
    · rw [if_neg h, List.length_cons, List.length_cons, setV_len]
theorem putF_old {f : Str} {v : V} : ∀ {ns : List Str} {vs : List V}, f ∈ ns → ns.length = vs.length → putF f v (ns.zip vs) = ns.zip (setV ns vs f v)
  | [], _, h, _ => by cases h
  | n :: ns, [], _, l => by cases l
  | n :: ns, u :: vs, h, l => by
    show (if n = f then (n, v) :: ns.zip vs else (n, u) :: putF f v (ns.zip vs)) = _
    unfold setV
    by_cases c : n = f
    · rw [if_pos c, if_pos c]; rfl
    · rw [if_neg c, if_neg c]
      have h2 : f ∈ ns := by
        cases h with
        | head => exact absurd rfl c
        | tail _ h => exact h
      rw [putF_old h2 (by simpa using l)]
      rfl
theorem setV_rep {S : DHp} {H : Hp} {f : Str} {y : D} {v : V} (w : Rep K S H y v) : ∀ {ns : List Str} {ds : List D} {vs : List V}, RepL K S H ds vs → RepL K S H (setV ns ds f y) (setV ns vs f v)
  | [], _, _, r => r
  | _ :: _, _, _, .nil => .nil
  | n :: ns, _, _, .cons w1 t => by
    unfold setV
    by_cases c : n = f
    · rw [if_pos c, if_pos c]; exact .cons w t
    · rw [if_neg c, if_neg c]; exact .cons w1 (setV_rep w t)
/-- o.f = e, a field that stands, of an instance of the store -/
def sFldU (C : Addr) (f : Str) (to te : DTE) : DTS := fun E ρ S => te ρ S fun y S1 => to ρ S1 fun x S2 => match x with
  | .ref p => match S2 p with
    | some (.ins C' ns, ds) => (C' = C ∧ f ∈ ns ∧ ns.length < 1000) ∧ E.nx ρ (put S2 p (.ins C ns, setV ns ds f y))
    | _ => False
  | _ => False
theorem ds_fldU {C : Addr} {f : Str} {to te : DTE} {pos' : Pos} (c : Cls X.K C) (n : NoAttr X.K C f) (ho : DE X o to) (he : DE X e te) (hs : swapsWith e (some (.Attribute o f pos')) pos.line X.env = pure false := by rfl) : DS X (.Assign [.Attribute o f pos'] e pos) (sFldU C f to te) :=
  PS.mono (ps_fld ho he hs) fun D σ H h => by
    obtain ⟨ρ, S, E, r, rs, q, fi⟩ := liftS_el h
    refine ⟨ρ, S, _, r, rs, q, fun y S1 yv H1 q1 k1 rs1 w1 => ?_⟩
    refine ⟨ρ, S1, _, r.keep k1, rs1, q1, fun x S2 xv H2 q2 k2 rs2 w2 => ?_⟩
    match x, q2 with
    | .ref p, q2 =>
      cases w2
      cases e1 : S2 p with
      | none => simp only [e1] at q2
      | some z =>
        obtain ⟨kk, ds⟩ := z
        cases kk with
        | ins C' ns =>
          simp only [e1] at q2
          obtain ⟨⟨rfl, mf, sz⟩, q2⟩ := q2
          obtain ⟨vs, ho, xh, ob, rr⟩ := rs2 p _ ds e1
          cases ob with
          | ins hl =>
            rename_i dx
            have hne : S2 p ≠ none := by rw [e1]; simp
            refine ⟨p, _, _, _, rfl, xh, c, n, by rw [List.length_zip, ← hl, Nat.min_self]; exact sz, ?_⟩
            have kk := (k1.trans k2).trans (keep_put (H := H2) (o := (Nd.ins C' ns, setV ns ds f y)) (ho := HO.ins C' dx (putF f yv (ns.zip vs))) hne)
            refine fi.nx ρ _ σ _ q2 kk ?_ (r.keep kk)
            rw [putF_old mf hl]
            exact rs_put rs2 hne (.ins (by rw [setV_len]; exact hl)) (setV_rep (w1.keep k2) rr)
        | _ => simp only [e1] at q2
/-- the getter of a property -/
structure DPrp (P : Program) (w : World) (K : PySem.W.Frag) (mg : Str → Option Value) (base : Heap) (k : Nat) (C : Addr) (f : Str) (sp : DSp) : Prop where
  cls : Cls K C
  ex : ∃ (p g : Addr) (fd : FuncData) (ps : List Str), PropOf K C f p g ∧ FnOk P w K mg base CX0 k g fd ps (liftF K sp) ∧ Binds K fd ps []
/-- o.f, f a property -/
def dProp (C : Addr) (sp : DSp) (to : DTE) : DTE := fun ρ S Q => to ρ S fun x S1 => (∃ ns fs, insOf S1 x = some (C, ns, fs)) ∧ sp [x] S1 Q
theorem de_prop {k j : Nat} {C : Addr} {f : Str} {sp : DSp} {to : DTE} (cl : DPrp X.prog X.w X.K X.mg X.base k C f sp) (hr : Room j X.A) (hk : k + 1 ≤ j) (ho : DE X o to) (hab : attributeBase o f X.env (eval o X.env) = eval o X.env := by rfl) : DE X (.Attribute o f pos) (dProp C sp to) := by
  obtain ⟨p, g, fd, ps, pr, F, bi⟩ := cl.ex
  refine PE.mono (pe_prop ho cl.cls pr F (hr.mono hk) bi .nil pass0 hab) fun σ H Q ⟨ρ, S, Qd, r, rs, q, k0⟩ => ?_
  refine ⟨ρ, S, _, r, rs, q, fun x S1 xv H1 ⟨⟨ns, fs, ei⟩, q1⟩ k1 rs1 w1 => ?_⟩
  obtain ⟨y, dx, vs, rfl, hl, xh, rr⟩ := insOf_at rs1 w1 ei
  exact ⟨y, dx, _, rfl, xh, [x], S1, Qd, .cons w1 .nil, rs1, q1, fun d S2 v H2 q2 k2 rs2 w2 => k0 d S2 v H2 q2 (k1.trans k2) rs2 w2⟩
end
/-! EJ: starred items of a written list, of a call. -/
section
variable {X : Cx} {e : Expr} {es : List Expr} {p : Pos}
def dStar (te : DTE) (t : DTA) : DTA := fun ρ S F => te ρ S fun x S1 => match x with
  | .nd .tup xs => t ρ S1 fun ds S2 => F (xs ++ ds) S2
  | .nd .lst xs => t ρ S1 fun ds S2 => F (xs ++ ds) S2
  | _ => False
theorem da_star {te : DTE} {t : DTA} (he : DE X e te) (hr : DAs X es t) (hs : starEach (.Starred e p :: es) X.env = (true, eval e X.env) :: starEach es X.env := by rfl) : DAs X (.Starred e p :: es) (dStar te t) :=
  PA.mono (StX.pa_star he hr hs) fun σ H Q ⟨ρ, S, F, r, rs, q, k⟩ => by
    refine ⟨ρ, S, _, r, rs, q, fun x S1 xv H1 q1 k1 rs1 w1 => ?_⟩
    match x, q1 with
    | .nd .tup xs, q1 =>
      obtain ⟨a, us, rfl, sq, _, rr⟩ := w1.seqT
      exact ⟨a, us, rfl, .inl sq, ρ, S1, _, r.keep k1, rs1, q1, fun ds S2 vs H2 q2 k2 rs2 w2 => k _ S2 _ H2 q2 (k1.trans k2) rs2 ((rr.keep k2).append w2)⟩
    | .nd .lst xs, q1 =>
      obtain ⟨a, us, rfl, _, h, rr⟩ := w1.seqL
      exact ⟨a, us, rfl, .inr (SqL.of h), ρ, S1, _, r.keep k1, rs1, q1, fun ds S2 vs H2 q2 k2 rs2 w2 => k _ S2 _ H2 q2 (k1.trans k2) rs2 ((rr.keep k2).append w2)⟩
end
/-! EK: zip of two lists. -/
section
variable {X : Cx} {K : PySem.W.Frag}
def isTup : D → Bool
  | .nd .tup _ => true
  | _ => false
/-- a list, whatever may change beside it -/
theorem list_at {S : DHp} {H : Hp} {x : D} {v : V} {src : Src} (rs : RS K S H) (w : Rep K S H x v) (h : itemsOf S x = some src) (nt : isTup x = false) :
    ∃ a, v = .ref a ∧ (∃ vs, SqL K H a vs) ∧ ∀ S' H', Keep S H S' H' → RS K S' H' → src.live S' → ∃ vs, SqL K H' a vs ∧ RepL K S' H' src.items vs := by
  match x, h, nt with
  | .nd .lst ds, h, _ =>
    cases h
    obtain ⟨a, vs, rfl, n, e, r⟩ := w.seqL
    exact ⟨a, rfl, ⟨vs, SqL.of e⟩, fun S' H' k _ _ => ⟨vs, SqL.of (k _ _ n e).2, r.keep k⟩⟩
  | .nd .flst ds, h, _ =>
    cases h
    obtain ⟨a, vs, rfl, e, e2, r⟩ := w.seqF
    exact ⟨a, rfl, ⟨vs, e⟩, fun S' H' k _ _ => ⟨vs, e2 S' H' k, r.keep k⟩⟩
  | .ref p, h, _ =>
    cases w
    unfold itemsOf at h
    cases e : S p with
    | none => simp only [e] at h; cases h
    | some o =>
      obtain ⟨kk, ds⟩ := o
      cases kk with
      | lst =>
        simp only [e] at h
        cases h
        obtain ⟨vs, x, _⟩ := rs.lst e
        exact ⟨p, rfl, ⟨vs, SqL.of x⟩, fun S' H' _ rs' lv => by
          obtain ⟨us, y, r⟩ := rs'.lst lv
          exact ⟨us, SqL.of y, r⟩⟩
      | _ => simp only [e] at h; cases h
/-- zip(a, b) -/
def dZip (t : DTA) : DTI := fun ρ S R => t ρ S fun ds S1 => match ds with
  | [x, y] => match itemsOf S1 x, itemsOf S1 y with
    | some a, some b => (isTup x = false ∧ isTup y = false) ∧ R ⟨List.zipWith (fun c d => D.tup [c, d]) a.items b.items, fun S' => a.live S' ∧ b.live S'⟩ S1
    | _, _ => False
  | _ => False
theorem walks_zip {S : DHp} {H : Hp} {a b : Addr} {sa sb : Src} (fa : ∀ S' H', Keep S H S' H' → RS K S' H' → sa.live S' → ∃ vs, SqL K H' a vs ∧ RepL K S' H' sa.items vs) (fb : ∀ S' H', Keep S H S' H' → RS K S' H' → sb.live S' → ∃ vs, SqL K H' b vs ∧ RepL K S' H' sb.items vs) :
    Walks K ⟨List.zipWith (fun c d => D.tup [c, d]) sa.items sb.items, fun S' => sa.live S' ∧ sb.live S'⟩ S H (Itz K a b) := by
  refine ⟨fun i S' H' hi k rs lv => ?_, fun S' H' k rs lv => ?_, fun i d S' H1 x H2 hd k rs lv y => ?_⟩
  · obtain ⟨us, q1, r1⟩ := fa S' H' k rs lv.1
    obtain ⟨vs, q2, r2⟩ := fb S' H' k rs lv.2
    have hi : i < (List.zipWith (fun c d => D.tup [c, d]) sa.items sb.items).length := hi
    rw [List.length_zipWith] at hi
    obtain ⟨u, eu, _⟩ := r1.get (i := i) (d := sa.items[i]) (by simp)
    obtain ⟨v, ev, _⟩ := r2.get (i := i) (d := sb.items[i]) (by simp)
    exact ⟨us, vs, u, v, q1, q2, eu, ev⟩
  · obtain ⟨us, q1, r1⟩ := fa S' H' k rs lv.1
    obtain ⟨vs, q2, r2⟩ := fb S' H' k rs lv.2
    refine ⟨us, vs, q1, q2, ?_⟩
    have e1 := r1.length
    have e2 := r2.length
    show us.length ≤ (List.zipWith (fun c d => D.tup [c, d]) sa.items sb.items).length ∨ vs.length ≤ (List.zipWith (fun c d => D.tup [c, d]) sa.items sb.items).length
    rw [List.length_zipWith]
    omega
  · obtain ⟨T, u, v, rfl, hT, rfl, h1, h2⟩ := y
    have kn : Keep S' H1 S' (upd H1 T (.tup [u, v])) := keep_newF hT
    have rn : RS K S' (upd H1 T (.tup [u, v])) := rs_newF rs hT
    obtain ⟨us, q1, r1⟩ := fa S' H1 k rs lv.1
    obtain ⟨vs, q2, r2⟩ := fb S' H1 k rs lv.2
    have hd : (List.zipWith (fun c d => D.tup [c, d]) sa.items sb.items)[i]? = some d := hd
    rw [List.getElem?_zipWith] at hd
    cases ea : sa.items[i]? with
    | none => simp [ea] at hd
    | some da =>
      cases eb : sb.items[i]? with
      | none => simp [ea, eb] at hd
      | some db =>
        simp only [ea, eb, Option.some.injEq] at hd
        subst hd
        obtain ⟨u', eu, w1⟩ := r1.get ea
        obtain ⟨v', ev, w2⟩ := r2.get eb
        have z1 := h1 us q1
        rw [eu] at z1
        cases z1
        have z2 := h2 vs q2
        rw [ev] at z2
        cases z2
        exact ⟨kn, rn, rep_newF rs hT .tup (.cons w1 (.cons w2 .nil))⟩
theorem di_zip {e e2 : Expr} {t : DTA} {p pos tpos : Pos} {elts : List Expr} {kk : Nat} (hg : Gl X "zip") (hm : X.mg "zip" = none) (ha : DAs X [e, e2] t)
    (hs : starEach [e, e2] X.env = (false, eval e X.env) :: starEach [e2] X.env := by rfl) (hpl : (backTo pos (starEach [e2] X.env)).any (·.1) = false := by rfl) : DI X (.Tuple elts kk tpos) (.Call (.Name "zip" p) [e, e2] [] pos) (dZip t) :=
  PI.mono (pi_zip hg hm ha hs hpl) fun σ H R ⟨ρ, S, Rd, r, rs, q, k⟩ => by
    refine ⟨ρ, S, _, r, rs, q, fun ds S1 vs H1 q1 k1 rs1 w1 => ?_⟩
    match ds, q1 with
    | [x, y], q1 =>
      cases w1 with
      | cons wx w2 =>
        cases w2 with
        | cons wy w3 =>
          cases w3
          cases ex : itemsOf S1 x with
          | none => simp only [ex] at q1
          | some sa =>
            cases ey : itemsOf S1 y with
            | none => simp only [ex, ey] at q1
            | some sb =>
              simp only [ex, ey] at q1
              obtain ⟨⟨n1, n2⟩, q1⟩ := q1
              obtain ⟨a, rfl, ⟨us, sq1⟩, fa⟩ := list_at rs1 wx ex n1
              obtain ⟨b, rfl, ⟨ws, sq2⟩, fb⟩ := list_at rs1 wy ey n2
              exact ⟨a, b, us, ws, rfl, sq1, sq2, k _ S1 _ H1 q1 k1 rs1 (walks_zip fa fb)⟩
end
/-! EL: own ==, in, len; isinstance of an own class; calls with defaults; repr of scalars. -/
section
variable {X : Cx} {K : PySem.W.Frag} {o e a b : Expr} {pos apos : Pos} {es : List Expr}
abbrev tysD : List String := ["NoneType", "bool", "int", "str", "tuple", "list", "dict"]
theorem notFirst_ty {K : PySem.W.Frag} {C : Addr} {t : String} (h : t ∈ tysD) : PySem.W.notFirst K C (.type t) = true := by
  simp only [tysD, List.mem_cons, List.not_mem_nil, or_false] at h
  rcases h with rfl | rfl | rfl | rfl | rfl | rfl | rfl <;> rfl
/-- what isinstance asks of an own class, of the other types -/
structure OwnC (K : PySem.W.Frag) (C : Addr) : Prop where
  ins : C8.InsC K C
  cs : (PySem.W.clsIn K C).isSome = true
  ty : PySem.W.typeIn K (.ref C) = some (.type "type")
theorem OwnC.no {K : PySem.W.Frag} {C : Addr} (c : OwnC K C) {t : String} (h : t ∈ tysD) : PySem.W.kitOne K (.type t) (.ref C) = some false := by
  have e : PySem.W.kitOne K (.type t) (.ref C) = PySem.W.subIn K (.type t) (.ref C) := by
    unfold PySem.W.kitOne
    rw [if_neg (by intro z; cases (LawfulBEq.eq_of_beq z))]
    unfold PySem.W.kitCls
    simp only [c.cs, c.ty, Bool.true_and]
    rw [if_pos (by simp)]
  rw [e]
  simp only [tysD, List.mem_cons, List.not_mem_nil, or_false] at h
  rcases h with rfl | rfl | rfl | rfl | rfl | rfl | rfl <;> rfl
/-- the type of a value that is no instance -/
def tyO (d : D) : Prop := ∃ t, tyN d = some t ∧ t ∈ tysD
/-- isinstance(d, C) -/
def bIsiC (C : Addr) : List D → DHp → DQ → Prop := fun ds S Q => match ds with
  | [d, .ref c] => c = C ∧ (((∃ ns fs, insOf S d = some (C, ns, fs)) ∧ Q (.bl true) S) ∨ (tyO d ∧ Q (.bl false) S))
  | _ => False
theorem b_isiC {C : Addr} (c : OwnC X.K C) : CallR X (.builtin "isinstance") (rLs X.K (bIsiC C)) := CallR.mono (CallR.or (C8.call_isC c.ins) call_isi) fun xs H Q ⟨ds, S, Qd, w, rs, q, k⟩ => by
  match ds, q with
  | [d, .ref c2], q =>
    obtain ⟨rfl, q⟩ := q
    cases w with
    | cons w w2 =>
      cases w2 with
      | cons w2 w3 =>
        cases w3
        cases w2
        rcases q with ⟨⟨ns, fs, ei⟩, q⟩ | ⟨⟨t, ht, mt⟩, q⟩
        · obtain ⟨p, dx, vs, rfl, hl, xh, rr⟩ := insOf_at rs w ei
          exact .inl ⟨p, dx, _, rfl, xh, k _ S _ H q Keep.refl rs .bl⟩
        · exact .inr ⟨_, _, _, _, _, rfl, .own _, tyN_at w ht, c.no mt, k _ S _ H q Keep.refl rs .bl⟩
theorem looks_ty {pins : List (Addr × PySem.Obj)} {σ : St} {H : Hp} {s : Shared} {S : DHp} {C : Addr} {d : D} {y : V} {u : Value} (I : Inv X pins σ H s) (rs : RS X.K S H) (w : Rep X.K S H d y) (r : RelV y u) (h : (∃ ns fs, insOf S d = some (C, ns, fs)) ∨ tyO d) :
    ∃ tb, PySem.W.Looks (model X.prog X.w) s.heap (typeOf u) tb ∧ PySem.W.notFirst X.K C tb = true := by
  rcases h with ⟨ns, fs, ei⟩ | ⟨t, ht, mt⟩
  · obtain ⟨p, dx, vs, rfl, hl, xh, rr⟩ := insOf_at rs w ei
    cases r
    obtain ⟨mA, O, _⟩ := ins_get I.hok xh
    obtain ⟨od, J, _⟩ := O.look
    exact ⟨_, J.type, by simp [PySem.W.notFirst]⟩
  · obtain ⟨P, Z, pp, _⟩ := kit_of I r (tyN_at w ht)
    exact ⟨_, Z.ty _ _ I.kIn pp, notFirst_ty mt⟩
/-- x == y by the own __eq__ of x -/
def oEqO (C : Addr) (sp : DSp) : DOp := fun x y S Q => (∃ ns fs, insOf S x = some (C, ns, fs)) ∧ ((∃ ns fs, insOf S y = some (C, ns, fs)) ∨ tyO y) ∧ sp [x, y] S fun d S' => ∃ b, d = .bl b ∧ Q (.bl b) S'
theorem o_eqO {k j : Nat} {C : Addr} {sp : DSp} (cl : DOwn X.prog X.w X.K X.mg X.base k C "__eq__" sp) (hr : Room j X.A) (hk : k ≤ j) : OpR X (compareOp .Eq) (rD X.K (oEqO C sp)) := by
  rintro pins s σ H x y v u Q I rx ry ⟨d, e, S, Qd, wd, we, rs, ⟨⟨ns, fs, ei⟩, hy, q⟩, k0⟩
  obtain ⟨f, fd, ps, F, h1, h2, h3, bi⟩ := cl.ex
  obtain ⟨tb, hb, hn⟩ := looks_ty I rs we ry hy
  obtain ⟨p, dx, vs, rfl, hl, xh, rr⟩ := insOf_at rs wd ei
  cases rx
  obtain ⟨mA, O, _⟩ := ins_get I.hok xh
  obtain ⟨od, J, _⟩ := O.look
  obtain ⟨m, hF⟩ := I.fr
  refine PySem.W.cmp_K (op := .Eq) (tb := tb) hr.units0 hF I.ok.mod.kin J hb hn h1 h2 ?_
  have run := run_fn (us := [.ref p, u]) (vs := [.ref p, y]) (Q := Q) F (hr.mono hk) bi .nil pass0 I (.cons rfl (.cons ry .nil)) ⟨[d, e], S, _, .cons wd (.cons we .nil), rs, q, fun z S' v H' ⟨b, eb, qz⟩ kz rsz wz => ?_⟩
  · refine wpAny_mono run (fun w s' z => ?_) fun _ _ z => z
    obtain ⟨z', H', I', rz, qz⟩ := z
    exact SlX.cmpback rz ⟨z', H', I', rz, qz⟩
  · subst eb
    exact k0 _ S' v H' qz kz rsz wz
/-- x in y by the own __contains__ of y -/
def oInO (C : Addr) (sp : DSp) : DOp := fun x y S Q => (∃ ns fs, insOf S y = some (C, ns, fs)) ∧ sp [y, x] S fun d S' => ∃ b, d = .bl b ∧ Q (.bl b) S'
theorem o_inO {k j : Nat} {C : Addr} {sp : DSp} (cl : DOwn X.prog X.w X.K X.mg X.base k C "__contains__" sp) (hr : Room j X.A) (hk : k ≤ j) : OpR X (compareOp .In) (rD X.K (oInO C sp)) := by
  rintro pins s σ H x y v u Q I rx ry ⟨d, e, S, Qd, wd, we, rs, ⟨⟨ns, fs, ei⟩, q⟩, k0⟩
  obtain ⟨f, fd, ps, F, h1, h2, h3, bi⟩ := cl.ex
  obtain ⟨p, dx, vs, rfl, hl, xh, rr⟩ := insOf_at rs we ei
  cases ry
  obtain ⟨mA, O, _⟩ := ins_get I.hok xh
  obtain ⟨od, J, _⟩ := O.look
  obtain ⟨m, hF⟩ := I.fr
  refine PySem.W.in_K hF I.ok.mod.kin J h1 h2 ?_
  have run := run_fn (us := [.ref p, v]) (vs := [.ref p, x]) (Q := fun z H' => ∃ b, z = .bl b ∧ Q (.bl b) H') F (hr.mono hk) bi .nil pass0 I (.cons rfl (.cons rx .nil)) ⟨[e, d], S, _, .cons we (.cons wd .nil), rs, q, fun z S' v H' ⟨b, eb, qz⟩ kz rsz wz => ?_⟩
  · refine wpAny_mono run (fun w s' z => ?_) fun _ _ z => z
    obtain ⟨z', H', I', rz, b, eb, qz⟩ := z
    subst eb
    cases rz
    exact wpAny_truthy_bool ⟨.bl b, H', I', rfl, qz⟩
  · subst eb
    cases wz
    exact ⟨b, rfl, k0 _ S' _ H' qz kz rsz .bl⟩
/-- len(x) by the own __len__ -/
def bLenO (C : Addr) (sp : DSp) : List D → DHp → DQ → Prop := fun ds S Q => match ds with
  | [x] => (∃ ns fs, insOf S x = some (C, ns, fs)) ∧ sp [x] S fun d S' => ∃ i : Int, d = .int i ∧ 0 ≤ i ∧ i < 2 ^ 63 ∧ Q (.int i) S'
  | _ => False
theorem b_lenO {k j : Nat} {C : Addr} {sp : DSp} (cl : DOwn X.prog X.w X.K X.mg X.base k C "__len__" sp) (hr : Room j X.A) (hk : k + 1 ≤ j) : CallR X (.builtin "len") (rLs X.K (bLenO C sp)) := by
  intro pins s σ H xs us Q I r h
  obtain ⟨ds, S, Qd, w, rs, q, k0⟩ := h
  match ds, q with
  | [d], ⟨⟨ns, fs, ei⟩, q⟩ =>
    obtain ⟨f, fd, ps, F, h1, h2, h3, bi⟩ := cl.ex
    cases w with
    | cons w w2 =>
      cases w2
      cases r with
      | cons r r2 =>
        cases r2
        obtain ⟨p, dx, vs, rfl, hl, xh, rr⟩ := insOf_at rs w ei
        cases r
        obtain ⟨mA, O, _⟩ := ins_get I.hok xh
        obtain ⟨od, J, _⟩ := O.look
        have sat : liftF X.K sp [.ref p] H (fun z H' => ∃ i : Int, z = .int i ∧ 0 ≤ i ∧ i < 2 ^ 63 ∧ Q (.int i) H') E0 := ⟨[d], S, _, .cons w .nil, rs, q, fun z S' v H' ⟨i, ez, l0, l1, qz⟩ kz rsz wz => by
          subst ez
          cases wz
          exact ⟨i, rfl, l0, l1, k0 _ S' _ H' qz kz rsz .int⟩⟩
        have rv : Vals [V.ref p] [Value.ref p] := .cons rfl .nil
        have ln : [Value.ref p].length = ps.length := by rw [← rv.length]; exact F.len _ _ _ _ sat
        refine Calls.call_function_entry kind_len plain_len entry_len (args_len1 _) ?_
        unfold Builtin.«len»
        refine wpAny_bind (m := oneArg "len" _) (wpAny_pure ?_)
        refine wpAny_bind (m := callSpecial? (.ref p) (Str.ofString "__len__")) (PySem.W.special_fn I.kIn J h1 (beq_iff_eq.mp h2) ?_)
        refine wpAny_call (codeAny_mono (F.run X.A.in1 X.stack s H ⟨[.ref p], []⟩ [.ref p] _ _ _ ((hr.mono hk).in1) I.env0.in1 ?_ rv sat) fun r s' hq => ?_)
        · have z := bi s [.ref p] I.kIn (by rw [List.append_nil]; exact ln)
          rwa [List.append_nil] at z
        · cases r with
          | error e => exact False.elim hq
          | ok fl =>
            cases fl with
            | ret u =>
              obtain ⟨z', H', I', rz, i, ez, l0, l1, qz⟩ := I.after hq
              subst ez
              obtain ⟨t, rfl⟩ := rz
              refine wpAny_bind (wpAny_holding (wpAny_pure ?_))
              refine wpAny_bind (wpAny_letGo ?_)
              show wpAny _ _ (if i < 0 then _ else _) _ _ _
              rw [if_neg (by omega)]
              show wpAny _ _ (if i ≥ 2 ^ 63 then _ else _) _ _ _
              rw [if_neg (by omega)]
              exact wpAny_bind (wpAny_mkInt (wpAny_pure ⟨_, rfl, .int i, H', I'.tok _, ⟨_, rfl⟩, qz⟩))
            | _ => exact hq.elim
/-- C(..) with defaults behind, which may change -/
structure DMakD (P : Program) (w : World) (K : PySem.W.Frag) (mg : Str → Option Value) (base : Heap) (k : Nat) (x : Str) (C : Addr) (dds : List D) (sp : DSp) : Prop where
  ex : ∃ (f : Addr) (fd : FuncData) (ps : List Str) (us : List Value) (dvs : List V), FnOk P w K mg base CX0 k f fd ps (liftF K sp) ∧ Mk K C f ∧ mg x = some (.ref C) ∧ Binds K fd ps us ∧ Vals dvs us ∧ ∀ S H, RepL K S H dds dvs
def dMakeD (C : Addr) (dds : List D) (sp : DSp) (t : DTA) : DTE := fun ρ S Q => t ρ S fun ds S1 => ∀ p, S1 p = none → sp (.ref p :: (ds ++ dds)) (put S1 p (.ins C [], [])) fun d S2 => d = .non ∧ Q (.ref p) S2
theorem de_makeD {k j : Nat} {x : Str} {C : Addr} {dds : List D} {sp : DSp} {t : DTA} {p : Pos} (cl : DMakD X.prog X.w X.K X.mg X.base k x C dds sp) (hr : Room j X.A) (hk : k + 1 ≤ j) (hg : Gl X x) (ha : DAs X (e :: es) t)
    (hdb : (x == ("__debug__" : Str)) = false := by decide) (he : starEach (e :: es) X.env = (false, eval e X.env) :: starEach es X.env := by rfl) (hpl : (backTo pos (starEach es X.env)).any (·.1) = false := by rfl) : DE X (.Call (.Name x p) (e :: es) [] pos) (dMakeD C dds sp t) := by
  obtain ⟨f, fd, ps, us, dvs, F, M, hm, bi, hv, hd⟩ := cl.ex
  refine PE.mono (pe_make M F (hr.mono hk) hg hm bi hv pass0 ha hdb he hpl) fun σ H Q ⟨ρ, S, Qd, r, rs, q, k0⟩ => ?_
  refine ⟨ρ, S, _, r, rs, q, fun ds S1 vs H1 q1 k1 rs1 w1 => ?_⟩
  intro y dx hy hd2 ne
  have kd : Keep S1 H1 S1 (upd H1 dx (.own y)) := keep_newF hd2
  have free : upd H1 dx (.own y) y = none := (upd_ne (Ne.symm ne)).trans hy
  have ky : Keep S1 (upd H1 dx (.own y)) (put S1 y (.ins C [], [])) (upd (upd H1 dx (.own y)) y (.ins C dx [])) := keep_new free
  have rs2 : RS X.K (put S1 y (.ins C [], [])) (upd (upd H1 dx (.own y)) y (.ins C dx [])) := rs_new (rs_newF rs1 hd2) free (.ins (ns := []) (vs := []) rfl) .nil
  refine ⟨.ref y :: (ds ++ dds), _, _, .cons .ref (((w1.keep kd).keep ky).append (hd _ _)), rs2, q1 y (rs1.free hy), fun d S3 v H3 ⟨ed, q3⟩ k3 rs3 w3 => ?_⟩
  subst ed
  cases w3
  exact ⟨rfl, k0 _ _ _ _ q3 (((k1.trans kd).trans ky).trans k3) rs3 .ref⟩
/-- repr of a bool, a text, data -/
def bReprX : List D → DHp → DQ → Prop := fun ds S Q => match ds with
  | [.bl b] => Q (.str (if b then "True" else "False")) S
  | [.str x] => (reprText x).length ≤ sizeLine ∧ Q (.str (reprText x)) S
  | ds => bRepr ds S Q
theorem b_reprX (fr : Free X.A) (hu : X.A.units + 65 < cLine) : CallR X (.builtin "repr") (rLs X.K bReprX) := by
  intro pins s σ H xs us Q I r h
  obtain ⟨ds, S, Qd, w, rs, q, k⟩ := h
  have old : bRepr ds S Qd → wpAny (model X.prog X.w) X.A (call (.builtin "repr") us) (EP X pins σ Q) X.xe s := fun q => b_repr fr hu pins s σ H xs us Q I r ⟨ds, S, Qd, w, rs, q, k⟩
  match ds, q with
  | [.bl b], q =>
    cases w with
    | cons w w2 =>
      cases w2
      cases w
      cases r with
      | cons r r2 =>
        cases r2
        cases r
        exact PySem.P.repr_of_bool ⟨.str _, H, I.tok _, ⟨_, rfl⟩, k _ S _ H q Keep.refl rs .str⟩
  | [.str x], ⟨ln, q⟩ =>
    cases w with
    | cons w w2 =>
      cases w2
      cases w
      cases r with
      | cons r r2 =>
        cases r2
        obtain ⟨t, rfl⟩ := r
        exact PySem.P.repr_of_str (hsz := ln) ⟨.str _, H, I.tok _, ⟨_, rfl⟩, k _ S _ H q Keep.refl rs .str⟩
  | [], q => exact old q
  | a :: _ :: _, q => exact old (by cases a <;> exact q)
  | [.non], q => exact old q
  | [.int _], q => exact old q
  | [.ty _], q => exact old q
  | [.ref _], q => exact old q
  | [.nd _ _], q => exact old q
end
/-! EN: dicts that are locked for good; their keys walked. -/
section
variable {X : Cx} {K : PySem.W.Frag} {e tg : Expr}
/-- the value, locked from now on -/
def tLockV (te : TE) : TE := fun σ H Q => te σ H fun v H1 => ∃ d u, v = .ref d ∧ H1 d = some u ∧ Mut (some u) ∧ ∀ od, Q v (upd H1 d (.frz od u))
theorem pe_lockV {te : TE} (he : PE X e te) : PE X e (tLockV te) := by
  refine ⟨fun pins s σ H Q I h => ?_⟩
  refine thn (he.run pins s σ H _ I h) fun u s1 ⟨x, H1, I1, rx, d, o, ex, hd, mu, q⟩ => ?_
  obtain ⟨od, I2⟩ := I1.lock hd mu
  exact ⟨x, _, I2, rx, q od⟩
/-- a dict of the store stands still, and is locked -/
def dFrzL (te : DTE) : DTE := fun ρ S Q => te ρ S fun d S1 => ∃ p ks ds, d = .ref p ∧ S1 p = some (.dK ks, ds) ∧ Q (.nd (.fdK ks) ds) (era S1 p)
theorem de_frzL {te : DTE} (he : DE X e te) : DE X e (dFrzL te) := PE.mono (pe_lockV he) fun σ H Q ⟨ρ, S, Qd, r, rs, q, k⟩ => by
  refine ⟨ρ, S, _, r, rs, q, fun d S1 v H1 ⟨p, ks, ds, e1, e2, q1⟩ k1 rs1 w1 => ?_⟩
  subst e1
  cases w1
  obtain ⟨vs, ho, x, o, w⟩ := rs1 p _ ds e2
  cases o with
  | dK hl =>
    refine ⟨p, _, rfl, x, True.intro, fun od => ?_⟩
    have kk : Keep S1 H1 (era S1 p) (upd H1 p (.frz od (.dK (ks.zip vs)))) := fun b o a c => by
      have n : b ≠ p := fun z => by rw [z, e2] at a; cases a
      exact ⟨by rw [era_ne n]; exact a, by rw [upd_ne n]; exact c⟩
    have rs2 : RS X.K (era S1 p) (upd H1 p (.frz od (.dK (ks.zip vs)))) := fun a k' ds' h => by
      by_cases n : a = p
      · subst n; rw [era_same] at h; cases h
      · rw [era_ne n] at h
        obtain ⟨vs', ho', x', o', w'⟩ := rs1 a k' ds' h
        exact ⟨vs', ho', by rw [upd_ne n]; exact x', o', w'.keep kk⟩
    exact k _ _ _ _ q1 (k1.trans kk) rs2 (.nd era_same upd_same (.fdK hl) (w.keep kk))
/-- a key as a value -/
def ofKey : Key → D
  | .inl i => .int i
  | .inr x => .str x
theorem rep_ofKey {S : DHp} {H : Hp} {k : Key} : Rep K S H (ofKey k) (kV k) := by
  cases k with
  | inl i => exact .int
  | inr x => exact .str
/-- the keys of a dict that is locked -/
def dKeysI (te : DTE) : DTI := fun ρ S R => te ρ S fun d S1 => ∃ ks ds, d = .nd (.fdK ks) ds ∧ R ⟨ks.map ofKey, fun _ => True⟩ S1
theorem di_keys {te : DTE} (he : DE X e te) : DI X tg e (dKeysI te) := PI.mono (pi_keys he) fun σ H R ⟨ρ, S, Rd, r, rs, q, k⟩ => by
  refine ⟨ρ, S, _, r, rs, q, fun d S1 v H1 ⟨ks, ds, e1, q1⟩ k1 rs1 w1 => ?_⟩
  subst e1
  cases w1 with
  | wr z => cases z
  | nd n x o w =>
    cases o with
    | fdK hl =>
      rename_i vs od
      have lk : (ks.zip vs).length = ks.length := by rw [List.length_zip, ← hl, Nat.min_self]
      refine ⟨_, od, rfl, .inl ⟨_, x, k _ S1 _ H1 q1 k1 rs1 ⟨fun i S' H' hi kk rs' _ => ?_, fun S' H' kk rs' _ => ?_, fun i d S' H' x' H'' hd kk rs' _ y => ?_⟩⟩⟩
      · exact ⟨(kk _ _ n x).2, by rw [lk]; simpa using hi⟩
      · exact ⟨(kk _ _ n x).2, by rw [lk, List.length_map]; exact Nat.le_refl _⟩
      · obtain ⟨e1, kx, vx, e2, e3⟩ := y
        subst e1 e3
        refine ⟨Keep.refl, rs', ?_⟩
        have e4 : ks[i]? = some kx := by
          have := congrArg (Option.map Prod.fst) e2
          rw [← List.getElem?_map] at this
          have hm : (ks.zip vs).map Prod.fst = ks := by rw [List.map_fst_zip]; omega
          rw [hm] at this
          exact this
        rw [List.getElem?_map, e4] at hd
        cases hd
        exact rep_ofKey
end
section
/-! EO: a dict that is looked for in a tuple of tuples; methods without arguments. -/
open PySem.SeqAt PySem.AutoSeq1 PySem.MeetsSeq
theorem tuple_eq_declines_dict (l b : Addr) (items : Array Value) (n : Nat) (dd dd2 : Option Addr) (sl sl2 : Array (Option Value)) (data : Data) :
    Meets (Builtin.«tuple.__eq__» ⟨[.ref l, .ref b], []⟩) (fun _ R s => s.heap.get? l = some { cls := .type "tuple", dict := dd, data := .seq items n, slots := sl } ∧ s.heap.get? b = some { cls := .type "dict", dict := dd2, data := data, slots := sl2 } ∧ R (.ok (.ret .notImplemented)) s) :=
  .of_wp fun prog w A R s h => by obtain ⟨hp, g, d, tk, os⟩ := s; obtain ⟨hl, hb, h⟩ := h; have f1 := PySem.F.sub_dict_tuple; wp_walk using wpAny_loadPart' hl, wpAny_loadPart' hb; exact ⟨_, rfl, h⟩
theorem dict_eq_declines_tuple (l b : Addr) (items : Array Value) (n : Nat) (dd dd2 : Option Addr) (sl sl2 : Array (Option Value)) (es : Array DictEntry) (k : Nat) :
    Meets (Builtin.«dict.__eq__» ⟨[.ref b, .ref l], []⟩) (fun _ R s => s.heap.get? l = some { cls := .type "tuple", dict := dd, data := .seq items n, slots := sl } ∧ s.heap.get? b = some { cls := .type "dict", dict := dd2, data := .dict es k, slots := sl2 } ∧ R (.ok (.ret .notImplemented)) s) :=
  .of_wp fun prog w A R s h => by obtain ⟨hp, g, d, tk, os⟩ := s; obtain ⟨hl, hb, h⟩ := h; have f1 := PySem.F.sub_tuple_dict; wp_walk using wpAny_loadPart' hl, wpAny_loadPart' hb; exact ⟨_, rfl, h⟩
/-- a dict's object -/
def IsDictO (h : Heap) (b : Addr) : Prop := ∃ dd2 sl2 es k, h.get? b = some { cls := .type "dict", dict := dd2, data := .dict es k, slots := sl2 }
theorem eqAt_tuple_dict {A : Around} {s : Shared} {l b : Addr} {items : Array Value} (hl : s.heap.IsTuple l items) (hb : IsDictO s.heap b) (hu : A.units < cLine) : EqAt A s (.ref l) (.ref b) false := by
  obtain ⟨dd2, sl2, es, k, ho2⟩ := hb
  have hne : l ≠ b := fun e => by
    subst e
    obtain ⟨o, ho, hc, _⟩ := hl
    rw [ho] at ho2
    cases ho2
    exact absurd hc (by simp)
  refine .of_refs hne fun prog w E Q h => ?_
  obtain ⟨⟨cls, dd, data, sl⟩, ho, hc, n, hd⟩ := id hl
  simp only at hc hd
  subst hc hd
  exact (rc_eq_decline_or (k := false) ⟨_, ho, rfl⟩ ⟨_, ho2, rfl⟩ (by decide) PySem.F.sub_dict_tuple F.slot_tuple_eq F.slot_dict_eq_refl
    (fun _ hq => call_meets F.slot_tuple_eq ⟨_, ho, rfl⟩ F.entry_tuple_eq (F.args_tuple_eq_2 _ _) (tuple_eq_declines_dict l b items n dd dd2 sl sl2 _) ⟨ho, ho2, hq⟩)
    (fun _ hq => call_meets F.slot_dict_eq_refl ⟨_, ho2, rfl⟩ F.entry_dict_eq (F.args_dict_eq_2 _ _) (dict_eq_declines_tuple l b items n dd dd2 sl sl2 es k) ⟨ho, ho2, hq⟩)
    (fun _ hq => wpAny_isSame_ref_other' hne ho ho2 (by simp) hq) (.inr hu) h)
section
variable {X : Cx} {K : PySem.W.Frag}
/-- tuples alone -/
def allTup : List D → Bool
  | [] => true
  | .nd .tup _ :: ds => allTup ds
  | _ => false
theorem allTup_mem : ∀ {ds : List D} {ps : List PyData} {p : PyData}, allTup ds = true → D.pyL ds = some ps → p ∈ ps → ∃ qs, p = .tuple qs
  | [], ps, p, _, h, m => by rw [D.pyL] at h; cases h; cases m
  | d :: ds, ps, p, a, h, m => by
    obtain ⟨q, qs, rfl, b1, b2⟩ := pyL_cons h
    match d, a, b1 with
    | .nd .tup es, a, b1 =>
      cases m with
      | head =>
        obtain ⟨ps', e, _⟩ := py_tup b1
        exact ⟨ps', e⟩
      | tail _ m => exact allTup_mem (ds := ds) a b2 m
/-- x in y, also of a dict in a tuple of tuples -/
def oInX : DOp := fun x y S Q => oIn false x y S Q ∨ ∃ ks vs ds, x = .nd (.dK ks) vs ∧ y = .tup ds ∧ allTup ds = true ∧ okL ds = true ∧ depL ds ≤ 63 ∧ Q (.bl false) S
theorem o_inX {j : Nat} (hu : X.A.units + 65 < cLine) (hr : Room j X.A) : OpR X (compareOp .In) (rD X.K oInX) := by
  rintro pins s σ H x y v u Q I rx ry ⟨d, e, S, Qd, wd, we, rs, q, k⟩
  rcases q with q | ⟨ks, vs, ds, rfl, rfl, at_, ok, dp, q⟩
  · exact o_in hu pins s σ H x y v u Q I rx ry ⟨d, e, S, Qd, wd, we, rs, q, k⟩
  · obtain ⟨ps, hps⟩ := okL_py ok
    have st : SeqAt.shaped (.tuple ps) = true := shaped_D (d := .nd .tup ds) (by rw [D.py, hps]; rfl) (by rw [okD]; exact ok) (by rw [dep]; omega)
    obtain ⟨bs, r2⟩ := Dp.reads I (.tuple ps) y u (we.dp (by rw [D.py, hps]; rfl)) ry
    have cl : PyData.canLayAll0 ps = true := SeqAt.canLay_of_shaped st
    cases wd with
    | wr z => cases z
    | nd n xh o r =>
      cases o with
      | dK hl =>
        rename_i a _
        cases rx
        obtain ⟨_, _, vs', _, ob, es, ep, h1, h2, e3, _⟩ := (show ObjOk X.prog X.w H s.heap a (.dK _) from I.hok a _ xh)
        have hb : IsDictO s.heap a := by
          obtain ⟨oc, od, dt, sl⟩ := ob
          obtain ⟨e1, e2, e4⟩ := h2
          simp only at e1 e2 e3 e4
          subst e1 e2 e3 e4
          exact ⟨_, _, es, ep, h1⟩
        cases r2 with
        | tuple g1 g2 g3 g4 =>
          refine in_tupleAt (fun _ => false) ⟨_, g1, g2, _, g3⟩ (fun y hy => ?_) ?_
          · obtain ⟨dy, cs, ry, hcy, hle⟩ := readsAll_mem ps _ _ cl g4 y (by simpa using hy)
            have : ∃ qs, dy = .tuple qs := by
              have rm := readsAll_map ps _ _ cl g4
              have m : dy ∈ ps := by
                rw [← rm]
                refine List.mem_map.mpr ⟨y, by simpa using hy, ?_⟩
                exact readOf_eq hcy ry
              exact allTup_mem at_ hps m
            obtain ⟨qs, rfl⟩ := this
            cases ry with
            | tuple f1 f2 f3 f4 => exact eqAt_tuple_dict ⟨_, f1, f2, _, f3⟩ hb (by have := X.A.in1_units; omega)
          · simp only [Array.any_eq_false.mpr, Bool.false_eq_true, not_false_eq_true, implies_true]
            exact ⟨.bl _, H, I, rfl, k _ S _ H q Keep.refl rs .bl⟩
/-- o.m() -/
def dMeth0 (C : Addr) (m : Str) (sp : DSp) (to : DTE) : DTE := fun ρ S Q => to ρ S fun x S1 => (∃ ns fs, insOf S1 x = some (C, ns, fs) ∧ m ∉ ns) ∧ sp [x] S1 Q
theorem de_meth0 {o : Expr} {pos apos : Pos} {k j : Nat} {C : Addr} {m : Str} {sp : DSp} {to : DTE} {pl : Sem Bool} (cl : DMet X.prog X.w X.K X.mg X.base k C m sp) (hr : Room j X.A) (hk : k ≤ j) (ho : DE X o to)
    (ht : eval (.Call (.Attribute o m apos) [] [] pos) X.env = (do
      let ov ← eval o X.env
      standAt apos.atName
      let (f, first) ← holding [ov] (getMethod ov m pl)
      callWith pos f first (backTo pos (starEach [] X.env)) (backToKw pos (keywordEach [] X.env))) := by rfl) : DE X (.Call (.Attribute o m apos) [] [] pos) (dMeth0 C m sp to) := by
  obtain ⟨f, fd, ps, F, hm, bi⟩ := cl.ex
  refine PE.mono (pe_meth0 ho cl.cls hm F (hr.mono hk) bi .nil pass0 ht) fun σ H Q ⟨ρ, S, Qd, r, rs, q, k0⟩ => ?_
  refine ⟨ρ, S, _, r, rs, q, fun x S1 xv H1 ⟨⟨ns, fs, ei, nm⟩, q1⟩ k1 rs1 w1 => ?_⟩
  obtain ⟨p, dx, vs, rfl, hl, xh, rr⟩ := insOf_at rs1 w1 ei
  exact ⟨p, dx, _, rfl, xh, (lookup_rep rr).1 nm, [x], S1, Qd, .cons w1 .nil, rs1, q1, fun d S3 v H3 q3 k3 rs3 w3 => k0 d S3 v H3 q3 (k1.trans k3) rs3 w3⟩
end
end
/-! EP: what the program's top has written: defs, methods, properties, defaults; from a reading to a promise. -/
structure DefAt (K : PySem.W.Frag) (x : Str) (st : Stmt) : Prop where
  ex : ∃ (f : Addr) (fd : FuncData), PySem.W.nsIn K mainGlobals x = some (some (.ref f)) ∧ L2.Fun K x x st f fd
theorem defAt {K : PySem.W.Frag} {x : Str} {st : Stmt} {f : Addr} {oc kV doc pm cdv ct : Value} {od an : Option Addr} {osl : Array (Option Value)} (a : PySem.W.nsIn K mainGlobals x = some (some (.ref f)))
    (l : K.lookup f = some ⟨oc, od, .func (PySem.W.fnOf x x (defArgs st) (defBody st) (defScope st) .none kV doc pm an cdv ct), osl⟩) (c : PySem.W.codeIn K cdv x = true) (k : PySem.W.keepIn K (.ref f) = true) : DefAt K x st := ⟨f, _, a, fun_mk l c k⟩
structure MetAt (K : PySem.W.Frag) (C : Addr) (m qual : Str) (st : Stmt) : Prop where
  ex : ∃ (f : Addr) (fd : FuncData), PySem.W.findIn K (.ref C) m = some (some (.ref f)) ∧ PySem.W.isFn K (.ref f) = true ∧ PySem.W.fnIn K f = true ∧ L2.Fun K m qual st f fd
theorem metAt {K : PySem.W.Frag} {C : Addr} {m qual : Str} {st : Stmt} {f : Addr} {oc kV doc pm cdv ct : Value} {od an : Option Addr} {osl : Array (Option Value)} (a : PySem.W.findIn K (.ref C) m = some (some (.ref f))) (i : PySem.W.isFn K (.ref f) = true) (g : PySem.W.fnIn K f = true)
    (l : K.lookup f = some ⟨oc, od, .func (PySem.W.fnOf m qual (defArgs st) (defBody st) (defScope st) .none kV doc pm an cdv ct), osl⟩) (c : PySem.W.codeIn K cdv qual = true) (k : PySem.W.keepIn K (.ref f) = true) : MetAt K C m qual st := ⟨f, _, a, i, g, fun_mk l c k⟩
/-- a method whose last parameter has () as its default -/
structure MetDAt (K : PySem.W.Frag) (C : Addr) (m qual : Str) (st : Stmt) : Prop where
  ex : ∃ (f : Addr) (fd : FuncData) (E : Addr) (oE : PySem.Obj) (n : Nat), PySem.W.findIn K (.ref C) m = some (some (.ref f)) ∧ PySem.W.isFn K (.ref f) = true ∧ PySem.W.fnIn K f = true ∧ K.lookup E = some oE ∧ oE.cls = .type "tuple" ∧ oE.data = .seq #[] n ∧ FunD K m qual (defArgs st) (defBody st) (defScope st) [.ref E] [] f fd
theorem metDAt {K : PySem.W.Frag} {C : Addr} {m qual : Str} {st : Stmt} {f T E : Addr} {oc kV doc pm cdv ct : Value} {od an odT odE : Option Addr} {osl slT slE : Array (Option Value)} {nT nE : Nat} (a : PySem.W.findIn K (.ref C) m = some (some (.ref f))) (i : PySem.W.isFn K (.ref f) = true) (g : PySem.W.fnIn K f = true)
    (l : K.lookup f = some ⟨oc, od, .func (PySem.W.fnOf m qual (defArgs st) (defBody st) (defScope st) (.ref T) kV doc pm an cdv ct), osl⟩) (c : PySem.W.codeIn K cdv qual = true) (k : PySem.W.keepIn K (.ref f) = true)
    (lT : K.lookup T = some ⟨.type "tuple", odT, .seq #[.ref E] nT, slT⟩) (lE : K.lookup E = some ⟨.type "tuple", odE, .seq #[] nE, slE⟩) : MetDAt K C m qual st :=
  ⟨f, _, E, _, nE, a, i, g, lE, rfl, rfl, ⟨oc, od, .ref T, kV, doc, pm, an, cdv, ct, osl, rfl, l, c, .inr ⟨by simp, T, _, [.ref E], nT, rfl, lT, rfl, .cons rfl .nil⟩, .inl rfl⟩, k⟩
structure PrpAt (K : PySem.W.Frag) (C : Addr) (f qual : Str) (st : Stmt) : Prop where
  ex : ∃ (p g : Addr) (fd : FuncData), PropOf K C f p g ∧ L2.Fun K f qual st g fd
theorem prpAt {K : PySem.W.Frag} {C : Addr} {f qual : Str} {st : Stmt} {p g : Addr} {rest : List Value} {oc kV doc pm cdv ct : Value} {od an : Option Addr} {osl : Array (Option Value)} (a : PySem.W.findIn K (.ref C) f = some (some (.ref p))) (b : PySem.W.specialIn K (.ref p) "__get__" = some (some (.builtin "property.__get__")))
    (t : PySem.W.takesIn K (.ref p) = some true) (r : PySem.W.recIn K p "property" = some (.ref g :: rest)) (l : K.lookup g = some ⟨oc, od, .func (PySem.W.fnOf f qual (defArgs st) (defBody st) (defScope st) .none kV doc pm an cdv ct), osl⟩) (c : PySem.W.codeIn K cdv qual = true) (k : PySem.W.keepIn K (.ref g) = true) : PrpAt K C f qual st :=
  ⟨p, g, _, ⟨a, b, t, rest, r⟩, fun_mk l c k⟩
theorem own_mk {K : PySem.W.Frag} {C : Addr} (cl : Cls K C) (ha : PySem.W.findIn K (.ref C) "__class__" = some (some (.builtin "object.__class__"))) (hn : PySem.W.specialIn K (.builtin "object.__class__") "__get__" = some (some (.builtin "getset_descriptor.__get__"))) (htk : PySem.W.takesIn K (.builtin "object.__class__") = some true)
    (hm : PySem.W.mroIn K C (.type "object") = some true) (ic : PySem.W.isClsIn K C = true) (ty : PySem.W.typeIn K (.ref C) = some (.type "type")) : OwnC K C := ⟨⟨cl, ha, hn, htk, hm, if_pos (beq_self_eq_true _)⟩, ic, ty⟩
theorem const_mk {K : PySem.W.Frag} {x : Str} {n : Int} {u : Value} (a : PySem.W.nsIn K mainGlobals x = some (some u)) (b : ∃ t, u = .int n t) : ∃ t, PySem.W.nsIn K mainGlobals x = some (some (.int n t)) := by
  obtain ⟨t, rfl⟩ := b
  exact ⟨t, a⟩
/-- how many values a promise speaks of -/
local macro_rules | `(tactic| walk_at "many") => `(tactic| (intro ds S Q h; repeat (first | (obtain ⟨e, _⟩ := h; subst e; rfl) | (obtain ⟨_, h⟩ := h) | (subst h; rfl))))
section
variable {P : Program} {w : World} {K : PySem.W.Frag} {mg : Str → Option Value} {base hp : Heap}
theorem cal_of {x : Str} {st : Stmt} {N ps : List Str} {k : Nat} {sp : DSp} {t : DTS} (F : DefAt K x st) (X : K.In hp) (G : hp.Ns mainGlobals mg) (bi : ∀ {f : Addr} {fd : FuncData}, L2.Fun K x x st f fd → Binds K fd ps []) (S : FnScope N ps (defScope st)) (len : ∀ ds S Q, sp ds S Q → ds.length = ps.length)
    (body : ∀ (f : Addr) (cdv : Value) (A : Around) (outer : List Env) (s : Shared) (H : Hp) (E : XK), Room k (A.deeper (envOfC x (defScope st) s.heap.objs.size f cdv)) → DSs (cxOf CX0 P w K mg base N x (defScope st) f cdv A outer s H E).nox (defBody st) t)
    (hd : ∀ ds S Q, sp ds S Q → t (endsF Q) (startD N.length ds) S) : DCal P w K mg base (k + 1) x sp := by
  obtain ⟨f, fd, a, F⟩ := F.ex
  exact cal_D F (PySem.W.mg_of X G a) (bi F) S len (body f) hd
theorem calG_of {x : Str} {st : Stmt} {N ps : List Str} {k : Nat} {sp : DSp} {t : DTS} (F : DefAt K x st) (X : K.In hp) (G : hp.Ns mainGlobals mg) (bi : ∀ {f : Addr} {fd : FuncData}, L2.Fun K x x st f fd → Binds K fd ps []) (S : FnScope N ps (defScope st)) (len : ∀ ds S Q, sp ds S Q → ds.length = ps.length)
    (body : ∀ (f : Addr) (cdv : Value) (A : Around) (outer : List Env) (s : Shared) (H : Hp) (E : XK), Free A → Room k (A.deeper (envOfC x (defScope st) s.heap.objs.size f cdv)) → DSs (cxOf CX0 P w K mg base N x (defScope st) f cdv A outer s H E).nox (defBody st) t)
    (hd : ∀ ds S Q, sp ds S Q → t (endsF Q) (startD N.length ds) S) : DCalG P w K mg base (k + 1) x sp := by
  obtain ⟨f, fd, a, F⟩ := F.ex
  exact ⟨f, fd, ps, fnG_D F S len (body f) hd, PySem.W.mg_of X G a, F.kp, bi F⟩
/-- never called -/
def sp_none : DSp := fun _ _ _ => False
theorem cal_none {x : Str} {st : Stmt} {ps : List Str} (F : DefAt K x st) (X : K.In hp) (G : hp.Ns mainGlobals mg) (bi : ∀ {f : Addr} {fd : FuncData}, L2.Fun K x x st f fd → Binds K fd ps []) : DCal P w K mg base 0 x sp_none := by
  obtain ⟨f, fd, a, F⟩ := F.ex
  exact ⟨f, fd, ps, ⟨fun _ _ _ _ ⟨_, _, _, _, _, z, _⟩ => z.elim, fun _ _ _ _ _ _ _ _ _ _ _ _ _ ⟨_, _, _, _, _, z, _⟩ => z.elim⟩, PySem.W.mg_of X G a, F.kp, bi F⟩
theorem fn_of_met {C : Addr} {m qual : Str} {st : Stmt} {N ps : List Str} {k : Nat} {sp : DSp} {t : DTS} (F : MetAt K C m qual st) (bi : ∀ {f : Addr} {fd : FuncData}, L2.Fun K m qual st f fd → Binds K fd ps []) (S : FnScope N ps (defScope st)) (len : ∀ ds S Q, sp ds S Q → ds.length = ps.length)
    (body : ∀ (f : Addr) (cdv : Value) (A : Around) (outer : List Env) (s : Shared) (H : Hp) (E : XK), Room k (A.deeper (envOfC qual (defScope st) s.heap.objs.size f cdv)) → DSs (cxOf CX0 P w K mg base N qual (defScope st) f cdv A outer s H E).nox (defBody st) t)
    (hd : ∀ ds S Q, sp ds S Q → t (endsF Q) (startD N.length ds) S) : ∃ (f : Addr) (fd : FuncData), FnOk P w K mg base CX0 (k + 1) f fd ps (liftF K sp) ∧ PySem.W.findIn K (.ref C) m = some (some (.ref f)) ∧ PySem.W.isFn K (.ref f) = true ∧ PySem.W.fnIn K f = true ∧ PySem.W.keepIn K (.ref f) = true ∧ Binds K fd ps [] := by
  obtain ⟨f, fd, a, i, g, F⟩ := F.ex
  exact ⟨f, fd, fn_D F S len (body f) hd, a, i, g, F.kp, bi F⟩
theorem rep_empty {S : DHp} {H : Hp} {E : Addr} {oE : PySem.Obj} {n : Nat} (l : K.lookup E = some oE) (c : oE.cls = .type "tuple") (d : oE.data = .seq #[] n) : Rep K S H (.tup []) (.ref E) :=
  .wr (.tup (by simp) fun H => .inr ⟨oE, #[], n, l, c, d, by simp, .nil⟩) .nil
/-- .. with (): with all values, with all but the last one -/
theorem fn_of_metD {C : Addr} {m qual : Str} {st : Stmt} {N ps : List Str} {k n : Nat} {sp : DSp} {t : DTS} (F : MetDAt K C m qual st) (hn : n + 1 = ps.length)
    (bi1 : ∀ (T : Addr) (kV doc pm : Value) (an : Option Addr) (cdv ct : Value) (us its : List Value), us.length = n + 1 → its.length = 1 → ∃ k, bindArgs (PySem.W.fnOf m qual (defArgs st) (defBody st) (defScope st) (.ref T) kV doc pm an cdv ct) ⟨us, []⟩ = seqItems? (.ref T) >>= k ∧ k (some its.toArray) = pure (ps.zip (us ++ its.drop 1)))
    (bi0 : ∀ (T : Addr) (kV doc pm : Value) (an : Option Addr) (cdv ct : Value) (us its : List Value), us.length = n → its.length = 1 → ∃ k, bindArgs (PySem.W.fnOf m qual (defArgs st) (defBody st) (defScope st) (.ref T) kV doc pm an cdv ct) ⟨us, []⟩ = seqItems? (.ref T) >>= k ∧ k (some its.toArray) = pure (ps.zip (us ++ its.drop 0)))
    (S : FnScope N ps (defScope st)) (len : ∀ ds S Q, sp ds S Q → ds.length = ps.length)
    (body : ∀ (f : Addr) (cdv : Value) (A : Around) (outer : List Env) (s : Shared) (H : Hp) (E : XK), Room k (A.deeper (envOfC qual (defScope st) s.heap.objs.size f cdv)) → DSs (cxOf CX0 P w K mg base N qual (defScope st) f cdv A outer s H E).nox (defBody st) t)
    (hd : ∀ ds S Q, sp ds S Q → t (endsF Q) (startD N.length ds) S) : ∃ (f : Addr) (fd : FuncData), FnOk P w K mg base CX0 (k + 1) f fd ps (liftF K sp) ∧ PySem.W.findIn K (.ref C) m = some (some (.ref f)) ∧ PySem.W.isFn K (.ref f) = true ∧ PySem.W.fnIn K f = true ∧ PySem.W.keepIn K (.ref f) = true ∧ Binds K fd ps [] ∧
      ∃ (us : List Value) (dvs : List V), Binds K fd ps us ∧ Vals dvs us ∧ ∀ S H, RepL K S H [.tup []] dvs := by
  obtain ⟨f, fd, E, oE, m, a, i, g, lE, cE, dE, F⟩ := F.ex
  obtain ⟨us1, v1, b1⟩ := F.binds1 (ps := ps) (n + 1) 1 (by simp) (by simpa using hn) bi1
  obtain ⟨us0, v0, b0⟩ := F.binds1 (ps := ps) n 0 (by simp) (by simpa using hn) bi0
  have e1 : us1 = [] := by cases v1; rfl
  subst e1
  refine ⟨f, fd, F.ok S (fun vs H Q E ⟨ds, S, Qd, w, rs, q, _⟩ => by rw [← w.length]; exact len ds S Qd q) fun cdv A outer s H vs Q E hr h => ⟨_, (body f cdv A outer s H E hr).nox, body_lift hd h⟩, a, i, g, F.kp, b1, us0, _, b0, v0, fun S H => .cons (rep_empty lE cE dE) .nil⟩
theorem prp_of {C : Addr} {m qual : Str} {st : Stmt} {N ps : List Str} {k : Nat} {sp : DSp} {t : DTS} (c : Cls K C) (F : PrpAt K C m qual st) (bi : ∀ {f : Addr} {fd : FuncData}, L2.Fun K m qual st f fd → Binds K fd ps []) (S : FnScope N ps (defScope st)) (len : ∀ ds S Q, sp ds S Q → ds.length = ps.length)
    (body : ∀ (f : Addr) (cdv : Value) (A : Around) (outer : List Env) (s : Shared) (H : Hp) (E : XK), Room k (A.deeper (envOfC qual (defScope st) s.heap.objs.size f cdv)) → DSs (cxOf CX0 P w K mg base N qual (defScope st) f cdv A outer s H E).nox (defBody st) t)
    (hd : ∀ ds S Q, sp ds S Q → t (endsF Q) (startD N.length ds) S) : DPrp P w K mg base (k + 1) C m sp := by
  obtain ⟨p, g, fd, pr, F⟩ := F.ex
  exact ⟨c, p, g, fd, ps, pr, fn_D F S len (body g) hd, bi F⟩
end
/-! ET: texts cut and joined, numbers, truth of rows, enumerate, defs that are handed in, written dicts. -/
section
variable {X : Cx} {K : PySem.W.Frag} {o e a b tg : Expr} {pos apos p : Pos} {es elts : List Expr}
theorem strs_repV {S : DHp} {H : Hp} : ∀ {ys : List Str}, RepL K S H (ys.map D.str) (ys.map V.str)
  | [] => .nil
  | y :: ys => .cons .str strs_repV
/-- x.split(y) -/
def mSplit : DMt := fun x xs S Q => match x, xs with
  | .str z, [.str y] => ((y.length == 0) = false ∧ z.length + 2 ≤ sizeLine) ∧ Q (.lst ((Txt.split z y).map D.str)) S
  | _, _ => False
theorem m_split : MtR X "str.split" (rMt X.K mSplit) := MtR.mono mt_split fun x xs H Q ⟨d, ds, S, Qd, w, ws, rs, q, k⟩ => by
  match d, ds, q with
  | .str z, [.str y], ⟨⟨q1, q2⟩, q⟩ =>
    cases w
    cases ws with
    | cons wy w2 =>
      cases wy
      cases w2
      refine ⟨z, y, rfl, rfl, q1, q2, fun l hl => ?_⟩
      exact k _ S _ _ q (keep_newF hl) (rs_newF rs hl) (rep_newF rs hl .lst strs_repV)
abbrev mIsDigit : DMt := mStr0 fun z => .bl (Txt.isdigit z)
theorem m_isdigit : MtR X "str.isdigit" (rMt X.K mIsDigit) := m_str0 mt_isdigit fun _ _ _ => .bl
/-- str(x), x an int or a text -/
def bStr : List D → DHp → DQ → Prop := fun ds S Q => match ds with
  | [.int i] => i.natAbs.log2 < 1920 ∧ Q (.str (toString i)) S
  | [.str x] => Q (.str x) S
  | _ => False
theorem b_str : CallR X (.type "str") (rLs X.K bStr) := CallR.mono (CallR.or call_str_int SkE.call_str_str) fun xs H Q ⟨ds, S, Qd, w, rs, q, k⟩ => by
  match ds, q with
  | [.int i], ⟨l, q⟩ =>
    cases w with
    | cons w w2 =>
      cases w2
      cases w
      exact .inl ⟨i, rfl, l, k _ S _ H q Keep.refl rs .str⟩
  | [.str x], q =>
    cases w with
    | cons w w2 =>
      cases w2
      cases w
      exact .inr ⟨x, rfl, k _ S _ H q Keep.refl rs .str⟩
/-- int(x), x a text -/
def bIntS : List D → DHp → DQ → Prop := fun ds S Q => match ds with
  | [.str x] => ∃ n, PySem.intText? x = some n ∧ x.length ≤ 640 ∧ Q (.int n) S
  | _ => False
theorem b_intS : CallR X (.type "int") (rLs X.K bIntS) := CallR.mono call_int_str fun xs H Q ⟨ds, S, Qd, w, rs, q, k⟩ => by
  match ds, q with
  | [.str x], ⟨n, h1, h2, q⟩ =>
    cases w with
    | cons w w2 =>
      cases w2
      cases w
      exact ⟨x, n, rfl, h1, h2, k _ S _ H q Keep.refl rs .int⟩
/-- x[i], x a text -/
def oIxS : DOp := fun x y S Q => match x, y with
  | .str z, .int i => z.length ≤ sizeLine ∧ match L2.atI z.cps.toList i with
    | some c => Q (.str ⟨#[c]⟩) S
    | none => False
  | _, _ => False
theorem IxR.mono {r r' : R2} (h : IxR X r) (i : ∀ x y H Q, r' x y H Q → r x y H Q) : IxR X r' :=
  fun value slice pins s σ H x y v u Q I rx ry q hs => h value slice pins s σ H x y v u Q I rx ry (i x y H Q q) hs
theorem ix_strD : IxR X (rD X.K oIxS) := IxR.mono ix_str fun x y H Q ⟨d, e, S, Qd, wd, we, rs, q, k⟩ => by
  match d, e, q with
  | .str z, .int i, ⟨l, q⟩ =>
    cases wd
    cases we
    cases h : L2.atI z.cps.toList i with
    | none => simp only [h] at q
    | some c =>
      simp only [h] at q
      exact ⟨z, i, c, rfl, rfl, l, h, k _ S _ H q Keep.refl rs .str⟩
/-- a value's truth: a row's, a text's -/
def truD (S : DHp) : D → Option Bool
  | .nd .tup ds => some (!ds.isEmpty)
  | .nd .lst ds => some (!ds.isEmpty)
  | .non => some false
  | .bl b => some b
  | .int i => some (i != 0)
  | _ => none
def dTru (te : DTE) : DTT := fun ρ S Q => te ρ S fun d S1 => match truD S1 d with
  | some b => Q b S1
  | none => False
theorem empty_rep {S : DHp} {H : Hp} {ds : List D} {vs : List V} (r : RepL K S H ds vs) : ds.isEmpty = vs.isEmpty := by cases r <;> rfl
theorem dt_tru {t : DTE} (h : DE X a t) (he : ∀ whole, isTrue a X.env whole = (do let v ← whole; standAt a.pos; holding [v] (truthy v)) := by intro _; rfl) : DT X a (dTru t) :=
  PT.mono (pt_truth h he) fun σ H Q ⟨ρ, S, Qd, r, rs, q, k⟩ => by
    refine ⟨ρ, S, _, r, rs, q, fun d S1 v H1 q1 k1 rs1 w1 => ?_⟩
    match d, q1 with
    | .nd .tup ds, q1 =>
      obtain ⟨p, vs, rfl, h, _, rr⟩ := w1.seqT
      exact ⟨_, .inr (.inl ⟨vs, h, rfl⟩), by rw [← empty_rep rr]; exact k _ S1 H1 q1 k1 rs1⟩
    | .nd .lst ds, q1 =>
      obtain ⟨p, vs, rfl, _, h, rr⟩ := w1.seqL
      exact ⟨_, .inl ⟨vs, SqL.of h, rfl⟩, by rw [← empty_rep rr]; exact k _ S1 H1 q1 k1 rs1⟩
    | .non, q1 => cases w1; exact ⟨false, rfl, k _ S1 H1 q1 k1 rs1⟩
    | .bl b, q1 => cases w1; exact ⟨b, rfl, k _ S1 H1 q1 k1 rs1⟩
    | .int i, q1 => cases w1; exact ⟨_, rfl, k _ S1 H1 q1 k1 rs1⟩
/-- enumerate of a list that stands still -/
def numD : Nat → List D → List D
  | _, [] => []
  | n, d :: ds => .tup [.int (n : Int), d] :: numD (n + 1) ds
theorem numD_get : ∀ {ds : List D} {n i : Nat} {d : D}, (numD n ds)[i]? = some d → ∃ x, ds[i]? = some x ∧ d = .tup [.int ((n + i : Nat) : Int), x]
  | [], _, _, _, h => by simp [numD] at h
  | x :: ds, n, 0, d, h => by
    simp [numD] at h
    exact ⟨x, rfl, by rw [← h]; rfl⟩
  | x :: ds, n, i + 1, d, h => by
    obtain ⟨y, h1, h2⟩ := numD_get (ds := ds) (n := n + 1) (i := i) (d := d) (by simpa [numD] using h)
    exact ⟨y, by simpa using h1, by rw [h2, show n + 1 + i = n + (i + 1) by omega]⟩
theorem numD_len : ∀ {ds : List D} {n : Nat}, (numD n ds).length = ds.length
  | [], _ => rfl
  | _ :: ds, n => by rw [numD, List.length_cons, List.length_cons, numD_len]
def dEnum (te : DTE) : DTI := fun ρ S R => te ρ S fun d S1 => match d with
  | .nd .lst ds => R ⟨numD 0 ds, fun _ => True⟩ S1
  | _ => False
theorem di_enum {kk : Nat} {tpos : Pos} {te : DTE} (hg : Gl X "enumerate") (hm : X.mg "enumerate" = none) (he : DE X e te) (hs1 : starEach [e] X.env = (false, eval e X.env) :: starEach [] X.env := by rfl) (hs : starEach [e] X.env = [(false, eval e X.env)] := by rfl) : DI X (.Tuple elts kk tpos) (.Call (.Name "enumerate" p) [e] [] pos) (dEnum te) :=
  PI.mono (pi_enum hg hm (pa_cons he pa_nil hs1) hs) fun σ H R ⟨ρ, S, Rd, r, rs, q, k⟩ => by
    refine ⟨ρ, S, _, r, rs, q, fun d S1 v H1 q1 k1 rs1 w1 => ?_⟩
    match d, q1 with
    | .nd .lst ds, q1 =>
      obtain ⟨a, vs, rfl, n, h, rr⟩ := w1.seqL
      refine ⟨a, vs, rfl, SqL.of h, k _ S1 _ H1 q1 k1 rs1 ⟨fun i S' H' hi kk rs' _ => ?_, fun S' H' kk rs' _ => ?_, fun i d S' H' x' H'' hd kk rs' _ y => ?_⟩⟩
      · rw [numD_len] at hi
        obtain ⟨v, e, _⟩ := rr.get (i := i) (d := ds[i]) (by simp)
        exact ⟨vs, v, SqL.of (kk _ _ n h).2, e⟩
      · exact ⟨vs, SqL.of (kk _ _ n h).2, by rw [numD_len]; exact Nat.le_of_eq rr.length.symm⟩
      · obtain ⟨T, x, e1, e2, e3, e4⟩ := y
        subst e1 e3
        obtain ⟨z, h1, h2⟩ := numD_get hd
        subst h2
        obtain ⟨y1, ev, wv⟩ := rr.get h1
        have e5 := e4 vs (SqL.of (kk _ _ n h).2)
        rw [ev] at e5
        have e6 := Option.some.inj e5
        subst e6
        have kn : Keep S' H' S' (upd H' T (.tup [.int ((i : Nat) : Int), y1])) := keep_newF e2
        refine ⟨kn, rs_newF rs' e2, ?_⟩
        rw [Nat.zero_add]
        exact rep_newF rs' e2 .tup (.cons .int (.cons (wv.keep kk) .nil))
/-- a call of a name that holds a def -/
def dCallL (i : Nat) (f : Addr) (sp : DSp) (t : DTA) : DTE := fun ρ S Q => slot ρ i = some (.ref f) ∧ t ρ S fun ds S1 => sp ds S1 Q
structure DCalAt (P : Program) (w : World) (K : PySem.W.Frag) (mg : Str → Option Value) (base : Heap) (k : Nat) (f : Addr) (sp : DSp) : Prop where
  ex : ∃ (fd : FuncData) (ps : List Str), FnOk P w K mg base CX0 k f fd ps (liftF K sp) ∧ PySem.W.keepIn K (.ref f) = true ∧ Binds K fd ps []
theorem de_callL {k j i : Nat} {f : Addr} {x : Str} {sp : DSp} {t : DTA} (cl : DCalAt X.prog X.w X.K X.mg X.base k f sp) (hr : Room j X.A) (hk : k ≤ j) (hN : X.N[i]? = some x) (hv : Vis X.env.scope x) (ha : DAs X (e :: es) t)
    (hdb : (x == ("__debug__" : Str)) = false := by decide) (hcd : (x == ("__classdict__" : Str)) = false := by decide)
    (he : starEach (e :: es) X.env = (false, eval e X.env) :: starEach es X.env := by rfl) (hpl : (backTo pos (starEach es X.env)).any (·.1) = false := by rfl) : DE X (.Call (.Name x p) (e :: es) [] pos) (dCallL i f sp t) := by
  obtain ⟨fd, ps, F, kp, bi⟩ := cl.ex
  refine PE.mono (pe_callL (i := i) F (hr.mono hk) hN hv kp bi .nil pass0 ha hdb hcd he hpl) fun σ H Q ⟨ρ, S, Qd, r, rs, ⟨hs, q⟩, k0⟩ => ?_
  obtain ⟨v, e, w⟩ := r.at_ i _ (slot_eq hs)
  cases w
  refine ⟨e, ρ, S, _, r, rs, q, fun ds S1 vs H1 q1 k1 rs1 w1 => ?_⟩
  refine ⟨ds, S1, Qd, by rw [List.append_nil]; exact w1, rs1, q1, fun d S2 v H2 q2 k2 rs2 w2 => k0 d S2 v H2 q2 (k1.trans k2) rs2 w2⟩
/-- d[e], d a dict of ints that is written -/
def dKGet (tab : Str → Option Int) (te : DTE) : DTE := fun ρ S Q => te ρ S fun x S1 => match x with
  | .str z => match tab z with
    | some i => Q (.int i) S1
    | none => False
  | _ => False
theorem de_kget {A : Addr} {tab : Str → Option Int} {te : DTE} (ha : DE X a (dC (.ref A))) (h : ∀ z i, tab z = some i → KDct X.K X.w A z (.int i)) (he : DE X b te) (hs : PlainIx b := by exact fun _ _ => rfl) : DE X (.Subscript a b pos) (dKGet tab te) :=
  PE.mono (pe_ix ix_kdict ha he hs) fun σ H Q ⟨ρ, S, Qd, r, rs, q, k⟩ => by
    refine ⟨ρ, S, fun d S1 => d = .ref A ∧ S1 = S, r, rs, ⟨rfl, rfl⟩, fun d S1 v H1 ⟨q0, q01⟩ k1 rs1 w1 => ?_⟩
    subst q0 q01
    cases w1
    refine ⟨ρ, S1, _, r.keep k1, rs1, q, fun x S2 xv H2 q2 k2 rs2 w2 => ?_⟩
    match x, q2 with
    | .str z, q2 =>
      cases w2
      cases e : tab z with
      | none => simp only [e] at q2
      | some i =>
        simp only [e] at q2
        exact ⟨A, z, .int i, rfl, rfl, h z i e, k _ S2 _ H2 q2 (k1.trans k2) rs2 .int⟩
/-- (a, b, ..) = a list -/
def dgUnl (n : Nat) (t : DTGs) : DTG := fun d ρ S Q => match d with
  | .nd .lst ds => ds.length = n ∧ t ds ρ S Q
  | _ => False
theorem dg_unl {k : Nat} {t : DTGs} {n : Nat} (hc : X.calm = true) (h : DGs X es t) (hn : (assignEach es X.env).length = n := by rfl) (hst : (assignEach es X.env).findIdx? (·.1) = none := by rfl) : DG X (.Tuple es k pos) (dgUnl n t) :=
  PG.mono (pg_lst hc h hn hst) fun v σ H Q ⟨d, ρ, S, Qd, w, r, rs, q, k⟩ => by
    match d, q with
    | .nd .lst ds, q =>
      obtain ⟨a, vs, rfl, n, h0, w0⟩ := w.seqL
      exact ⟨_, _, rfl, SqL.of h0, by rw [← w0.length]; exact q.1, ⟨_, ρ, S, Qd, w0, r, rs, q.2, k⟩⟩
end
/-! EU: != by the own ==. -/
theorem ns_some_of {K : PySem.W.Frag} {h : Heap} {N : Addr} {mg : Str → Option Value} {n : Str} {v : Value} (X : K.In h) (G : h.Ns N mg) (e : PySem.W.nsIn K N n = some (some v)) : mg n = some v := by
  obtain ⟨o, es, ep, ho, hd, _, hf⟩ := G
  unfold PySem.W.nsIn at e
  split at e
  · rename_i c d es' n' sl q
    have := X _ _ q
    rw [ho] at this
    cases this
    cases hd
    split at e
    · rename_i en he
      cases e
      rw [← hf]
      unfold nsFind findBy
      rw [← Array.find?_toList, he]
      rfl
    · split at e <;> cases e
  · cases e
/-- a class with an own == and no own != -/
structure NeC (K : PySem.W.Frag) (C : Addr) : Prop where
  ex : ∃ (f : Addr) (nm q : Str) (N : Addr) (bs : List Value) (hdct : Bool) (sn : List Str) (sub : List Value) (ab : Bool) (col : Option Bool) (dd : Option Addr) (k0 k1 k2 k3 k5 : Option Value) (newId : String),
    K.lookup C = some (excClassObj nm q C N bs [.type "object"] hdct sn sub ab col dd k0 k1 k2 k3 k5 newId) ∧ PySem.W.nsOkIn K N = true ∧ PySem.W.nsIn K N "__ne__" = some none ∧ PySem.W.nsIn K N "__eq__" = some (some (.ref f)) ∧ PySem.W.findIn K (.ref C) "__eq__" = some (some (.ref f)) ∧ PySem.W.typeIn K (.ref f) = some (.type "function") ∧ ∃ y, typeLookup (.type "object") "__eq__" = pure y
section
variable {X : Cx} {K : PySem.W.Frag}
/-- x != y by the own __eq__ of x -/
def oNeO (C : Addr) (sp : DSp) : DOp := fun x y S Q => (∃ ns fs, insOf S x = some (C, ns, fs)) ∧ (∃ ns fs, insOf S y = some (C, ns, fs)) ∧ sp [x, y] S fun d S' => ∃ b, d = .bl b ∧ Q (.bl (!b)) S'
theorem o_neO {k j : Nat} {C : Addr} {sp : DSp} (cl : DOwn X.prog X.w X.K X.mg X.base k C "__eq__" sp) (nc : NeC X.K C) (hr : Room j X.A) (hk : k + 1 ≤ j) : OpR X (compareOp .NotEq) (rD X.K (oNeO C sp)) := by
  rintro pins s σ H x y v u Q I rx ry ⟨d, e, S, Qd, wd, we, rs, ⟨⟨ns, fs, ei⟩, ⟨ns', fs', ei'⟩, q⟩, k0⟩
  obtain ⟨f, fd, ps, F, h1, h2, h3, bi⟩ := cl.ex
  obtain ⟨f2, nm, qn, N, bs, hdct, sn, sub, ab, col, dd, k1, k2, k3, k4, k5, newId, lC, nok, nne, neq, feq, tf, yv, hy⟩ := nc.ex
  have ef : f2 = f := by rw [h1] at feq; cases feq; rfl
  subst ef
  obtain ⟨p, dx, vs, rfl, hl, xh, rr⟩ := insOf_at rs wd ei
  obtain ⟨p', dx', vs', rfl, hl', xh', rr'⟩ := insOf_at rs we ei'
  cases rx
  cases ry
  obtain ⟨mA, O, _⟩ := ins_get I.hok xh
  obtain ⟨od, J, _⟩ := O.look
  obtain ⟨mA', O', _⟩ := ins_get I.hok xh'
  obtain ⟨od', J', _⟩ := O'.look
  have KX := I.kIn
  have G : s.heap.Ns N (s.heap.nsMap N) := .of_isNs (PySem.W.isNs_of_in KX nok)
  have sat : liftF X.K sp [.ref p, .ref p'] H (fun z H' => ∃ b, z = .bl b ∧ Q (.bl (!b)) H') E0 := ⟨[d, e], S, _, .cons wd (.cons we .nil), rs, q, fun z S' v H' ⟨b, ez, qz⟩ kz rsz wz => by
    subst ez
    cases wz
    exact ⟨b, rfl, k0 _ S' _ H' qz kz rsz .bl⟩⟩
  have rv : Vals [V.ref p, V.ref p'] [Value.ref p, Value.ref p'] := .cons rfl (.cons rfl .nil)
  have ln : [Value.ref p, Value.ref p'].length = ps.length := by rw [← rv.length]; exact F.len _ _ _ _ sat
  have bi2 := bi s [.ref p, .ref p'] KX (by rw [List.append_nil]; exact ln)
  rw [List.append_nil] at bi2
  have run : wpAny (model X.prog X.w) X.A.in1 (call (.ref f2) [.ref p, .ref p']) (fun r s' => ∃ b, r = .bool b ∧ (∃ z H', Inv X pins σ H' s' ∧ RelV z (.bool (!b)) ∧ Q z H')) X.xe s := by
    refine wpAny_call (codeAny_mono (F.run X.A.in1 X.stack s H ⟨[.ref p, .ref p'], []⟩ [.ref p, .ref p'] _ _ _ ((hr.mono hk).in1) I.env0.in1 bi2 rv sat) fun r s' hq => ?_)
    cases r with
    | error e => exact False.elim hq
    | ok fl =>
      cases fl with
      | ret u =>
        obtain ⟨z', H', I', rz, b, ez, qz⟩ := I.after hq
        subst ez
        cases rz
        exact ⟨b, rfl, .bl (!b), H', I', rfl, qz⟩
      | _ => exact hq.elim
  have own : s.heap.OwnEqNoNe p C f2 "object" [.type "object"] := by
    have tf2 : ∃ of, s.heap.get? f2 = some of ∧ of.cls = .type "function" := by
      unfold PySem.W.fnIn at h3
      split at h3
      · rename_i o1 o2 fd2 o4 e
        have e2 := KX _ _ e
        refine ⟨_, e2, ?_⟩
        unfold PySem.W.typeIn at tf
        simp only [e] at tf
        simpa using tf
      · cases h3
    obtain ⟨of, hof, hofc⟩ := tf2
    exact ⟨_, of, nm, qn, N, bs, hdct, sn, sub, ab, col, dd, k1, k2, k3, k4, k5, newId, s.heap.nsMap N, yv, J.at_, J.cls, KX _ _ lC, G, ns_some_of KX G neq, hof, hofc, PySem.F.cmp_object.mro, hy, PySem.W.ns_none_of KX G nne⟩
  obtain ⟨h, g, dd2, t, os⟩ := s
  have hu : X.A.units + 1 < cLine := hu_of hr
  refine compareOp_ne_ownEq PySem.F.cmp_object own J'.at_ J'.cls hu (wpAny_mono run (fun r s' z => ?_) fun _ _ z => z)
  obtain ⟨b, rfl, z, H', I', rz, qz⟩ := z
  exact ⟨b, rfl, z, H', I', rz, qz⟩
end
/-- the groups of lines -/
def groupsN (z : Str) : Option Int := if z = "crossing" then some 0 else if z = "street" then some 1 else none
/-! ### in_one_word -/
abbrev N_in_one_word : List Str := ["things"]
def t_in_one_word : DTS := (dRet (dIf (dTru (dVar 0)) (dBm "str" mJoin (dC (.str ",")) (dCons (dVar 0) dNil)) (dC (.str "-"))))
/-! ### line_of_crossing -/
abbrev N_line_of_crossing : List Str := ["crossing", "ends", "pairs", "one", "other"]
def t_line_of_crossing (sp_in_one_word : DSp) : DTS := (dSeq (dAsg (dLc (dSeqI (dOp oIx (dVar 0) (dC (.int 2)))) (dgTup 2 (dgCons (dgName 3) (dgCons (dgName 4) dgNil))) dYes (dOp oAdd (dOp oAdd (dBlt bStr (dCons (dVar 3) dNil)) (dC (.str "-"))) (dBlt bStr (dCons (dVar 4) dNil))) [3, 4]) (dgName 2))
    (dRet (dBm "str" mJoin (dC (.str " ")) (dCons (dLstF (dCons (dC (.str "crossing")) (dCons (dOp oIx (dVar 0) (dC (.int 0))) (dCons (dVar 1) (dCons (dCall sp_in_one_word (dCons (dVar 2) dNil)) (dCons (dCall sp_in_one_word (dCons (dOp oIx (dVar 0) (dC (.int 3))) dNil)) dNil)))))) dNil))))
/-! ### line_of_street -/
abbrev N_line_of_street : List Str := ["street", "stop", "word"]
def t_line_of_street : DTS := (dRet (dBm "str" mJoin (dC (.str " ")) (dCons (dLstF (dCons (dC (.str "street")) (dStar (dLc2 (dSeqI (dVar 0)) (dgName 1) dYes (dSeqI (dVar 1)) (dgName 2) dYes (dBlt bStr (dCons (dVar 2) dNil)) [1, 2] [2]) dNil))) dNil)))
/-! ### show_town -/
abbrev N_show_town : List Str := ["town", "crossings", "row", "street"]
def t_show_town (C : Addr) (sp_line_of_crossing : DSp) (sp_line_of_street : DSp) (sp_Town_p_crossings : DSp) (sp_Town_p_streets : DSp) : DTS := (dSeq (dAsg (dLc (dSeqI (dProp C sp_Town_p_crossings (dVar 0))) (dgName 2) dYes (dCall sp_line_of_crossing (dCons (dVar 2) (dCons (dBlt bStr (dCons (dOp oIx (dVar 2) (dC (.int 1))) dNil)) dNil))) [2]) (dgName 1))
    (dRet (dBm "str" mJoin (dC (.str "\n")) (dCons (dOp oAdd (dVar 1) (dLc (dSeqI (dProp C sp_Town_p_streets (dVar 0))) (dgName 3) dYes (dCall sp_line_of_street (dCons (dVar 3) dNil)) [3])) dNil))))
/-! ### number_of -/
abbrev N_number_of : List Str := ["word"]
def t_number_of : DTS := (dSeq (dIfS (dOr (dNot (dTst (dBm0 "str" mIsAscii (dVar 0) ))) (dOr (dNot (dTst (dBm0 "str" mIsDigit (dVar 0) ))) (dAnd (dTst (dOp (oEq false) (dOp oIxS (dVar 0) (dC (.int 0))) (dC (.str "0")))) (dTst (dOp (oEq true) (dVar 0) (dC (.str "0")))))))
    (dRet (dC .non))
    dNext)
    (dRet (dBlt bIntS (dCons (dVar 0) dNil))))
/-! ### name_of -/
abbrev N_name_of : List Str := ["word"]
def t_name_of (sp_is_name : DSp) : DTS := (dRet (dIf (dTst (dCall sp_is_name (dCons (dVar 0) dNil))) (dVar 0) (dC .non)))
/-! ### names_of -/
abbrev N_names_of : List Str := ["word", "names", "name"]
def t_names_of (sp_is_name : DSp) : DTS := (dSeq (dIfS (dTst (dOp (oEq false) (dVar 0) (dC (.str "-"))))
    (dRet (dTup dNil))
    dNext)
    (dSeq (dAsg (dBlt bTup (dCons (dBm "str" mSplit (dVar 0) (dCons (dC (.str ",")) dNil)) dNil)) (dgName 1))
    (dRet (dIf (dTst (dBlt bAll (dCons (dLc (dSeqI (dVar 1)) (dgName 2) dYes (dCall sp_is_name (dCons (dVar 2) dNil)) [2]) dNil))) (dVar 1) (dC .non)))))
/-! ### pairs_of -/
abbrev N_pairs_of : List Str := ["word", "end_of", "pairs", "pair", "end"]
def t_pairs_of (f_end_of : Addr) (sp_end_of : DSp) : DTS := (dSeq (dIfS (dTst (dOp (oEq false) (dVar 0) (dC (.str "-"))))
    (dRet (dTup dNil))
    dNext)
    (dSeq (dAsg (dLc (dSeqI (dBm "str" mSplit (dVar 0) (dCons (dC (.str ",")) dNil))) (dgName 3) dYes (dBlt bTup (dCons (dLc (dSeqI (dBm "str" mSplit (dVar 3) (dCons (dC (.str "-")) dNil))) (dgName 4) dYes (dCallL 1 f_end_of sp_end_of (dCons (dVar 4) dNil)) [4]) dNil)) [3]) (dgName 2))
    (dRet (dIf (dTst (dBlt bAll (dCons (dLc (dSeqI (dVar 2)) (dgName 3) dYes (dAndV (dOp (oEq false) (dBlt bLen (dCons (dVar 3) dNil)) (dC (.int 2))) (dOp (oIn true) (dC .non) (dVar 3))) [3]) dNil))) (dBlt bTup (dCons (dVar 2) dNil)) (dC .non)))))
/-! ### net_row -/
abbrev N_net_row : List Str := ["words", "ends_of", "end_of", "row"]
def t_net_row (f_ends_of : Addr) (sp_ends_of : DSp) (f_end_of : Addr) (sp_end_of : DSp) (sp_names_of : DSp) (sp_pairs_of : DSp) (sp_name_of : DSp) : DTS := (dSeq (dIfS (dTst (dOp (oEq true) (dBlt bLen (dCons (dVar 0) dNil)) (dC (.int 5))))
    (dRet (dC .non))
    dNext)
    (dSeq (dIfS (dTst (dOp (oEq false) (dOp oIx (dVar 0) (dC (.int 0))) (dC (.str "crossing"))))
    (dSeq (dAsg (dTup (dCons (dCall sp_name_of (dCons (dOp oIx (dVar 0) (dC (.int 1))) dNil)) (dCons (dCallL 1 f_ends_of sp_ends_of (dCons (dOp oIx (dVar 0) (dC (.int 2))) dNil)) (dCons (dCall sp_pairs_of (dCons (dOp oIx (dVar 0) (dC (.int 3))) (dCons (dVar 2) dNil))) (dCons (dCall sp_names_of (dCons (dOp oIx (dVar 0) (dC (.int 4))) dNil)) dNil))))) (dgName 3))
    (dRet (dIf (dTst (dOp (oIn false) (dC .non) (dVar 3))) (dC .non) (dVar 3))))
    dNext)
    (dSeq (dIfS (dTst (dOp (oEq false) (dOp oIx (dVar 0) (dC (.int 0))) (dC (.str "street"))))
    (dSeq (dAsg (dTup (dCons (dCall sp_name_of (dCons (dOp oIx (dVar 0) (dC (.int 1))) dNil)) (dCons (dCallL 2 f_end_of sp_end_of (dCons (dOp oIx (dVar 0) (dC (.int 2))) dNil)) (dCons (dCall sp_name_of (dCons (dOp oIx (dVar 0) (dC (.int 3))) dNil)) (dCons (dCallL 2 f_end_of sp_end_of (dCons (dOp oIx (dVar 0) (dC (.int 4))) dNil)) dNil))))) (dgName 3))
    (dRet (dIf (dTst (dOp (oIn false) (dC .non) (dVar 3))) (dC .non) (dTup (dCons (dSl (dVar 3) dNoPart (dPart (dC (.int 2)))) (dCons (dSl (dVar 3) (dPart (dC (.int 2))) dNoPart) dNil))))))
    dNext)
    (dRet (dC .non)))))
/-! ### row_of_town -/
abbrev N_row_of_town : List Str := ["words"]
def t_row_of_town (f_number_of : Addr) (sp_net_row : DSp) : DTS := (dRet (dCall sp_net_row (dCons (dVar 0) (dCons (dC (.ref f_number_of)) (dCons (dC (.ref f_number_of)) dNil)))))
/-! ### lines_of -/
abbrev N_lines_of : List Str := ["text"]
def t_lines_of : DTS := (dSeq (dIfS (dNot (dTst (dBlt bIsi (dCons (dVar 0) (dCons (dC (.ty "str")) dNil)))))
    dNever
    dNext)
    (dRet (dBm "str" mSplit (dVar 0) (dCons (dC (.str "\n")) dNil))))
/-! ### groups_of -/
abbrev N_groups_of : List Str := ["text", "row_of", "found", "last", "number", "line", "words", "row", "rows"]
def t_groups_of (f_row_of : Addr) (sp_row_of : DSp) (sp_lines_of : DSp) : DTS := (dSeq (dAsg (dLst (dCons (dLst dNil) (dCons (dLst dNil) (dCons (dLst dNil) dNil)))) (dgName 2))
    (dSeq (dAsg (dC (.int 0)) (dgName 3))
    (dSeq (dFor (dEnum (dCall sp_lines_of (dCons (dVar 0) dNil))) (dgTup 2 (dgCons (dgName 4) (dgCons (dgName 5) dgNil)))
    (dSeq (dAsg (dBm "str" mSplit (dVar 5) (dCons (dC (.str " ")) dNil)) (dgName 6))
    (dSeq (dAsg (dCallL 1 f_row_of sp_row_of (dCons (dVar 6) dNil)) (dgName 7))
    (dSeq (dIfS (dOr (dTst (dOp (oIs false) (dVar 7) (dC .non))) (dTst (dOp oLt (dKGet groupsN (dOp oIx (dVar 6) (dC (.int 0)))) (dVar 3))))
    dNever
    dNext)
    (dSeq (dAsg (dKGet groupsN (dOp oIx (dVar 6) (dC (.int 0)))) (dgName 3))
    (dDrop (dBm "list" mAppend (dOp oIx (dVar 2) (dVar 3)) (dCons (dVar 7) dNil))))))))
    (dRet (dLc (dSeqI (dVar 2)) (dgName 8) dYes (dBlt bTup (dCons (dVar 8) dNil)) [8])))))
/-! ### read_town -/
abbrev N_read_town : List Str := ["text", "crossings", "streets", "_"]
def t_read_town (C : Addr) (f_row_of_town : Addr) (sp_groups_of : DSp) (sp_Town_init : DSp) : DTS := (dSeq (dAsg (dCall sp_groups_of (dCons (dVar 0) (dCons (dC (.ref f_row_of_town)) dNil))) (dgUnl 3 (dgCons (dgName 1) (dgCons (dgName 2) (dgCons (dgName 3) dgNil)))))
    (dRet (dMake C sp_Town_init (dCons (dVar 1) (dCons (dVar 2) dNil)))))
/-! ### Town_eq -/
abbrev N_Town_eq : List Str := ["self", "other"]
def t_Town_eq (C : Addr) : DTS := (dRet (dAndV (dBlt (bIsiC C) (dCons (dVar 1) (dCons (dC (.ref C)) dNil))) (dAndV (dOp (oEq false) (dFld C "_crossings" (dVar 0)) (dFld C "_crossings" (dVar 1))) (dOp (oEq false) (dFld C "_streets" (dVar 0)) (dFld C "_streets" (dVar 1))))))
/-! ### Town_p_crossings -/
abbrev N_Town_p_crossings : List Str := ["self"]
def t_Town_p_crossings (C : Addr) : DTS := (dRet (dFld C "_crossings" (dVar 0)))
/-! ### Town_p_streets -/
abbrev N_Town_p_streets : List Str := ["self"]
def t_Town_p_streets (C : Addr) : DTS := (dRet (dFld C "_streets" (dVar 0)))
/-! ### _law_parts_word -/
abbrev N__law_parts_word : List Str := ["_law_parts"]
def t__law_parts_word : DTS := (dRet (dIf (dTst (dOp oGt (dBlt bLen (dCons (dVar 0) dNil)) (dC (.int 0)))) (dBm "str" mJoin (dC (.str ",")) (dCons (dVar 0) dNil)) (dC (.str "-"))))
/-! ### _law_net_lines -/
abbrev N__law_net_lines : List Str := ["_law_rows", "_law_lanes", "_law_found", "_law_name", "_law_ends", "_law_straight", "_law_signs_here", "_law_told", "_law_pairs", "_law_one", "_law_other"]
def t__law_net_lines (sp__law_parts_word : DSp) : DTS := (dSeq (dAsg (dLst dNil) (dgName 2))
    (dSeq (dFor (dSeqI (dVar 0)) (dgTup 4 (dgCons (dgName 3) (dgCons (dgName 4) (dgCons (dgName 5) (dgCons (dgName 6) dgNil)))))
    (dSeq (dAsg (dIf (dTst (dBlt bIsi (dCons (dVar 4) (dCons (dC (.ty "tuple")) dNil)))) (dCall sp__law_parts_word (dCons (dVar 4) dNil)) (dBlt bStr (dCons (dVar 4) dNil))) (dgName 7))
    (dSeq (dAsg (dCall sp__law_parts_word (dCons (dLc (dSeqI (dVar 5)) (dgTup 2 (dgCons (dgName 9) (dgCons (dgName 10) dgNil))) dYes (dOp oAdd (dOp oAdd (dBlt bStr (dCons (dVar 9) dNil)) (dC (.str "-"))) (dBlt bStr (dCons (dVar 10) dNil))) [9, 10]) dNil)) (dgName 8))
    (dDrop (dBm "list" mAppend (dVar 2) (dCons (dBm "str" mJoin (dC (.str " ")) (dCons (dLstF (dCons (dC (.str "crossing")) (dCons (dVar 3) (dCons (dVar 7) (dCons (dVar 8) (dCons (dCall sp__law_parts_word (dCons (dVar 6) dNil)) dNil)))))) dNil)) dNil))))))
    (dSeq (dFor (dSeqI (dVar 1)) (dgTup 2 (dgCons (dgName 9) (dgCons (dgName 10) dgNil)))
    (dDrop (dBm "list" mAppend (dVar 2) (dCons (dBm "str" mJoin (dC (.str " ")) (dCons (dLstF (dCons (dC (.str "street")) (dCons (dOp oIx (dVar 9) (dC (.int 0))) (dCons (dBlt bStr (dCons (dOp oIx (dVar 9) (dC (.int 1))) dNil)) (dCons (dOp oIx (dVar 10) (dC (.int 0))) (dCons (dBlt bStr (dCons (dOp oIx (dVar 10) (dC (.int 1))) dNil)) dNil)))))) dNil)) dNil))))
    (dRet (dFrz (dVar 2))))))
/-! ### _law_right -/
abbrev N__law_right53 : List Str := ["_law_pot_here", "_law_town", "_law_made", "_law_text", "_law_image", "_law_told", "_law_found"]
def t__law_right53 (C : Addr) (sp__law_free_town : DSp) (sp__law_net_lines : DSp) (sp_show_town : DSp) (sp_read_town : DSp) (sp_Town_init : DSp) (sp_Town_eq : DSp) (sp_Town_inv : DSp) (sp_Town_p_streets : DSp) (sp_Town_p_crossings : DSp) : DTS := (dSeq (dAsg (dCall sp__law_free_town (dCons (dVar 0) (dCons (dC (.int 8)) (dCons (dLstF (dCons (dC (.int 1)) (dCons (dC (.int 2)) (dCons (dC (.int 2)) (dCons (dC (.int 3)) (dCons (dC (.int 4)) (dCons (dC (.int 5)) (dCons (dC (.int 9)) dNil)))))))) dNil)))) (dgName 1))
    (dSeq (dAsg (dMake C sp_Town_init (dCons (dOp oIx (dVar 1) (dC (.int 0))) (dCons (dOp oIx (dVar 1) (dC (.int 1))) dNil))) (dgName 2))
    (dSeq (dAsg (dBm "str" mJoin (dC (.str "\n")) (dCons (dCall sp__law_net_lines (dCons (dOp oIx (dVar 1) (dC (.int 0))) (dCons (dOp oIx (dVar 1) (dC (.int 1))) dNil))) dNil)) (dgName 3))
    (dSeq (dIfS (dOr (dTst (dOp (oEq true) (dBlt bReprX (dCons (dCall sp_show_town (dCons (dVar 2) dNil)) dNil)) (dBlt bReprX (dCons (dVar 3) dNil)))) (dNot (dTst (dOp (oEqO C sp_Town_eq) (dCall sp_read_town (dCons (dVar 3) dNil)) (dVar 2)))))
    (dRet (dC (.bl false)))
    dNext)
    (dSeq (dAsg (dUn (rInv C sp_Town_inv) (dVar 2)) (dgName 4))
    (dSeq (dAsg (dBm "str" mJoin (dC (.str "\n")) (dCons (dCall sp__law_net_lines (dCons (dProp C sp_Town_p_crossings (dVar 4)) (dCons (dProp C sp_Town_p_streets (dVar 4)) dNil))) dNil)) (dgName 5))
    (dSeq (dAsg (dCall sp_read_town (dCons (dVar 5) dNil)) (dgName 6))
    (dSeq (dIfS (dOr (dTst (dOp (oEq true) (dBlt bReprX (dCons (dCall sp_show_town (dCons (dVar 4) dNil)) dNil)) (dBlt bReprX (dCons (dVar 5) dNil)))) (dOr (dTst (dOp (oNeO C sp_Town_eq) (dVar 6) (dVar 4))) (dTst (dOp (oEq true) (dBlt bReprX (dCons (dCall sp_show_town (dCons (dUn (rInv C sp_Town_inv) (dVar 6)) dNil)) dNil)) (dBlt bReprX (dCons (dVar 3) dNil))))))
    (dRet (dC (.bl false)))
    dNext)
    (dRet (dOp (oEq false) (dBlt bReprX (dCons (dTup (dCons (dProp C sp_Town_p_crossings (dCall sp_read_town (dCons (dVar 3) dNil))) (dCons (dProp C sp_Town_p_streets (dCall sp_read_town (dCons (dVar 3) dNil))) dNil))) dNil)) (dBlt bReprX (dCons (dVar 1) dNil))))))))))))
/-! ### law -/
abbrev N_law53 : List Str := ["_law_script", "_law_place", "_law_pot_here", "_law_lap"]
def t_law53 (sp__law_cells : DSp) (sp__law_pot : DSp) (sp__law_right : DSp) : DTS := (dSeq (dFor (dSeqI (dCall sp__law_cells (dCons (dVar 0) (dCons (dC (.int 3)) dNil)))) (dgName 1)
    (dSeq (dAsg (dCall sp__law_pot (dCons (dVar 0) (dCons (dVar 1) dNil))) (dgName 2))
    (dIfS (dNot (dTst (dBlt bAll (dCons (dLc (dRng1 (dCons (dC (.int 5)) dNil)) (dgName 3) dYes (dCall sp__law_right (dCons (dVar 2) dNil)) [3]) dNil))))
    (dRet (dC (.bl false)))
    dNext)))
    (dRet (dC (.bl true))))
def topS (i : Nat) : Stmt := PySem.Challenge.pw_sketchways_k53_texts_of_towns.main.body.getD i (.Pass ⟨0, 0, 0, 0⟩)
structure Txt (mg : Str → Option Value) : Prop where
  b_int : mg "int" = none
  b_isinstance : mg "isinstance" = none
  b_bool : mg "bool" = none
  b_str : mg "str" = none
  b_len : mg "len" = none
  b_tuple : mg "tuple" = none
  b_range : mg "range" = none
  b_all : mg "all" = none
  b_set : mg "set" = none
  b_list : mg "list" = none
  b_enumerate : mg "enumerate" = none
  b_abs : mg "abs" = none
  b_min : mg "min" = none
  b_max : mg "max" = none
  b_repr : mg "repr" = none
  s_NOTHING : ∃ t, mg "NOTHING" = some (.str "-" t)
  c_MOST_ENDS : ∃ t, mg "MOST_ENDS" = some (.int 20 t)
structure Nts (K : PySem.W.Frag) (C : Addr) : Prop where
  n_crossings : NoAttr K C "_crossings"
  n_streets : NoAttr K C "_streets"
  n_by_name : NoAttr K C "_by_name"
  n_across : NoAttr K C "_across"
section
variable {P : Program} {w : World} {K : PySem.W.Frag} {mg : Str → Option Value} {base : Heap}
abbrev s_is_integer : Stmt := topS 8
theorem sc_is_integer : FnScope N_is_integer ["value"] (defScope s_is_integer) := ⟨rfl, rfl, rfl, by decide +kernel, rfl, by decide +kernel, by decide +kernel⟩
theorem w_is_integer (T : Txt mg) {f : Addr} (cdv : Value) (A : Around) (outer : List Env) (s : Shared) (H : Hp) (E : XK) (hr : Room 0 (A.deeper (envOfC "is_integer" (defScope s_is_integer) s.heap.objs.size f cdv))) :
    DSs (cxOf CX0 P w K mg base N_is_integer "is_integer" (defScope s_is_integer) f cdv A outer s H E).nox (defBody s_is_integer) (t_is_integer) := by
  have sc := sc_is_integer
  exact (dss_one (ds_ret (de_and (de_blt b_isi rfl T.b_isinstance (by decide +kernel) (da_cons (de_var (pv 0)) (da_cons (de_c (pe_bltn (v := .ty "int") rfl T.b_int (by decide +kernel) rfl) fun _ _ => .ty) da_nil))) (de_one (de_not (de_blt b_isi rfl T.b_isinstance (by decide +kernel) (da_cons (de_var (pv 0)) (da_cons (de_c (pe_bltn (v := .ty "bool") rfl T.b_bool (by decide +kernel) rfl) fun _ _ => .ty) da_nil))))))))
abbrev s_is_name : Stmt := topS 9
theorem sc_is_name : FnScope N_is_name ["value"] (defScope s_is_name) := ⟨rfl, rfl, rfl, by decide +kernel, rfl, by decide +kernel, by decide +kernel⟩
theorem w_is_name (T : Txt mg) {f : Addr} (cdv : Value) (A : Around) (outer : List Env) (s : Shared) (H : Hp) (E : XK) (hr : Room 0 (A.deeper (envOfC "is_name" (defScope s_is_name) s.heap.objs.size f cdv))) :
    DSs (cxOf CX0 P w K mg base N_is_name "is_name" (defScope s_is_name) f cdv A outer s H E).nox (defBody s_is_name) (t_is_name) := by
  have sc := sc_is_name
  exact (dss_cons (ds_if (PW.pt (dw_or (dt_not (dt_val (de_blt b_isi rfl T.b_isinstance (by decide +kernel) (da_cons (de_var (pv 0)) (da_cons (de_c (pe_bltn (v := .ty "str") rfl T.b_str (by decide +kernel) rfl) fun _ _ => .ty) da_nil))))) (dw_or1 (dt_cmp (o_gt hr.units) (de_blt b_len rfl T.b_len PySem.boot_len (da_cons (de_var (pv 0)) da_nil)) de_int (nomark _)))))
    (dss_one (ds_ret de_bl))
    dss_nil)
    (dss_one (ds_ret (de_and (de_bm0 PySem.F.plainAttrs_str PySem.F.slot_str_isascii PySem.F.type_str_isascii m_isascii (de_var (pv 0))) (de_and (de_bm0 PySem.F.plainAttrs_str PySem.F.slot_str_isalpha PySem.F.type_str_isalpha m_isalpha (de_var (pv 0))) (de_one (de_bm0 PySem.F.plainAttrs_str PySem.F.slot_str_islower PySem.F.type_str_islower m_islower (de_var (pv 0)))))))))
abbrev s_is_row : Stmt := topS 10
theorem sc_is_row : FnScope N_is_row ["value", "many"] (defScope s_is_row) := ⟨rfl, rfl, rfl, by decide +kernel, rfl, by decide +kernel, by decide +kernel⟩
theorem w_is_row (T : Txt mg) {f : Addr} (cdv : Value) (A : Around) (outer : List Env) (s : Shared) (H : Hp) (E : XK) (hr : Room 0 (A.deeper (envOfC "is_row" (defScope s_is_row) s.heap.objs.size f cdv))) :
    DSs (cxOf CX0 P w K mg base N_is_row "is_row" (defScope s_is_row) f cdv A outer s H E).nox (defBody s_is_row) (t_is_row) := by
  have sc := sc_is_row
  exact (dss_one (ds_ret (de_and (de_blt b_isi rfl T.b_isinstance (by decide +kernel) (da_cons (de_var (pv 0)) (da_cons (de_c (pe_bltn (v := .ty "tuple") rfl T.b_tuple (by decide +kernel) rfl) fun _ _ => .ty) da_nil))) (de_one (de_cmp (o_eq hr.units) (de_blt b_len rfl T.b_len PySem.boot_len (da_cons (de_var (pv 0)) da_nil)) (de_var (pv 1)) (nomark _))))))
abbrev s_ascends : Stmt := topS 11
theorem sc_ascends : FnScope N_ascends ["rows"] (defScope s_ascends) := ⟨rfl, rfl, rfl, by decide +kernel, rfl, by decide +kernel, by decide +kernel⟩
theorem w_ascends (T : Txt mg) {f : Addr} (cdv : Value) (A : Around) (outer : List Env) (s : Shared) (H : Hp) (E : XK) (hr : Room 0 (A.deeper (envOfC "ascends" (defScope s_ascends) s.heap.objs.size f cdv))) :
    DSs (cxOf CX0 P w K mg base N_ascends "ascends" (defScope s_ascends) f cdv A outer s H E).nox (defBody s_ascends) (t_ascends) := by
  have sc := sc_ascends
  exact (dss_one (ds_ret (de_blt (b_all rfl) rfl T.b_all (by decide +kernel) (da_cons (de_lc (own := [("k", 1)]) rfl sc.nd (di_rng1 rfl T.b_range (da_cons (de_op o_sub (de_blt b_len rfl T.b_len PySem.boot_len (da_cons (de_var (pv 0)) da_nil)) de_int) da_nil)) (blkOk_by (N := N_ascends) (sc := defScope s_ascends) (by decide +kernel)) (fun _ _ _ _ _ => (dgv_of (pg_name (i := 1) sc.nd rfl (by first | exact Or.inl rfl | exact Or.inr rfl)) (by decide))) (fun _ _ _ _ _ => dts_nil) (fun _ _ _ _ _ => (de_cmp (o_lt hr.units) (de_ix ix_any (de_var (pv 0)) (de_var (pv 1))) (de_ix ix_any (de_var (pv 0)) (de_op o_add (de_var (pv 1)) de_int)) (nomark _)))) da_nil))))
abbrev s_are_names : Stmt := topS 12
theorem sc_are_names : FnScope N_are_names ["value"] (defScope s_are_names) := ⟨rfl, rfl, rfl, by decide +kernel, rfl, by decide +kernel, by decide +kernel⟩
theorem w_are_names (T : Txt mg) {sp_is_name : DSp} (c_is_name : DCal P w K mg base 1 "is_name" sp_is_name) {sp_ascends : DSp} (c_ascends : DCal P w K mg base 1 "ascends" sp_ascends) {f : Addr} (cdv : Value) (A : Around) (outer : List Env) (s : Shared) (H : Hp) (E : XK) (hr : Room 1 (A.deeper (envOfC "are_names" (defScope s_are_names) s.heap.objs.size f cdv))) :
    DSs (cxOf CX0 P w K mg base N_are_names "are_names" (defScope s_are_names) f cdv A outer s H E).nox (defBody s_are_names) (t_are_names sp_is_name sp_ascends) := by
  have sc := sc_are_names
  exact (dss_one (ds_ret (de_and (de_blt b_isi rfl T.b_isinstance (by decide +kernel) (da_cons (de_var (pv 0)) (da_cons (de_c (pe_bltn (v := .ty "tuple") rfl T.b_tuple (by decide +kernel) rfl) fun _ _ => .ty) da_nil))) (de_and (de_blt (b_all rfl) rfl T.b_all (by decide +kernel) (da_cons (de_lc (own := [("name", 1)]) rfl sc.nd (di_seq (de_var (pv 0))) (blkOk_by (N := N_are_names) (sc := defScope s_are_names) (by decide +kernel)) (fun _ _ _ _ _ => (dgv_of (pg_name (i := 1) sc.nd rfl (by first | exact Or.inl rfl | exact Or.inr rfl)) (by decide))) (fun _ _ _ _ _ => dts_nil) (fun _ _ _ _ _ => (de_call c_is_name hr (by decide) rfl (da_cons (de_var (pv 1)) da_nil)))) da_nil)) (de_one (de_call c_ascends hr (by decide) rfl (da_cons (de_var (pv 0)) da_nil)))))))
abbrev s_is_word : Stmt := topS 13
theorem sc_is_word : FnScope N_is_word ["value"] (defScope s_is_word) := ⟨rfl, rfl, rfl, by decide +kernel, rfl, by decide +kernel, by decide +kernel⟩
theorem w_is_word (T : Txt mg) {sp_is_integer : DSp} (c_is_integer : DCal P w K mg base 1 "is_integer" sp_is_integer) {f : Addr} (cdv : Value) (A : Around) (outer : List Env) (s : Shared) (H : Hp) (E : XK) (hr : Room 1 (A.deeper (envOfC "is_word" (defScope s_is_word) s.heap.objs.size f cdv))) :
    DSs (cxOf CX0 P w K mg base N_is_word "is_word" (defScope s_is_word) f cdv A outer s H E).nox (defBody s_is_word) (t_is_word sp_is_integer) := by
  have sc := sc_is_word
  exact (dss_one (ds_ret (de_or (de_blt b_isi rfl T.b_isinstance (by decide +kernel) (da_cons (de_var (pv 0)) (da_cons (de_c (pe_bltn (v := .ty "str") rfl T.b_str (by decide +kernel) rfl) fun _ _ => .ty) da_nil))) (de_one (de_call c_is_integer hr (by decide) rfl (da_cons (de_var (pv 0)) da_nil))))))
abbrev s_is_told : Stmt := topS 14
theorem sc_is_told : FnScope N_is_told ["value", "told"] (defScope s_is_told) := ⟨rfl, rfl, rfl, by decide +kernel, rfl, by decide +kernel, by decide +kernel⟩
theorem w_is_told (T : Txt mg) {sp_is_row : DSp} (c_is_row : DCal P w K mg base 1 "is_row" sp_is_row) {sp_is_word : DSp} (c_is_word : DCal P w K mg base 2 "is_word" sp_is_word) {f : Addr} (cdv : Value) (A : Around) (outer : List Env) (s : Shared) (H : Hp) (E : XK) (hr : Room 2 (A.deeper (envOfC "is_told" (defScope s_is_told) s.heap.objs.size f cdv))) :
    DSs (cxOf CX0 P w K mg base N_is_told "is_told" (defScope s_is_told) f cdv A outer s H E).nox (defBody s_is_told) (t_is_told sp_is_row sp_is_word) := by
  have sc := sc_is_told
  exact (dss_cons (ds_if (dt_val (de_call c_is_row hr (by decide) rfl (da_cons (de_var (pv 0)) (da_cons de_int da_nil))))
    (dss_one (ds_ret (de_and (de_call c_is_word hr (by decide) rfl (da_cons (de_ix ix_any (de_var (pv 0)) de_int) da_nil)) (de_and (de_call c_is_word hr (by decide) rfl (da_cons (de_ix ix_any (de_var (pv 0)) de_int) da_nil)) (de_one (de_cmp (o_in (units65 hr)) (de_var (pv 0)) (de_var (pv 1)) (by rfl)))))))
    dss_nil)
    (dss_one (ds_ret (de_and (de_call c_is_word hr (by decide) rfl (da_cons (de_var (pv 0)) da_nil)) (de_one (de_cmp (o_in (units65 hr)) (de_var (pv 0)) (de_var (pv 1)) (by rfl)))))))
abbrev s_is_pair : Stmt := topS 15
theorem sc_is_pair : FnScope N_is_pair ["value", "told"] (defScope s_is_pair) := ⟨rfl, rfl, rfl, by decide +kernel, rfl, by decide +kernel, by decide +kernel⟩
theorem w_is_pair (T : Txt mg) {sp_is_row : DSp} (c_is_row : DCal P w K mg base 1 "is_row" sp_is_row) {sp_is_told : DSp} (c_is_told : DCal P w K mg base 3 "is_told" sp_is_told) {f : Addr} (cdv : Value) (A : Around) (outer : List Env) (s : Shared) (H : Hp) (E : XK) (hr : Room 3 (A.deeper (envOfC "is_pair" (defScope s_is_pair) s.heap.objs.size f cdv))) :
    DSs (cxOf CX0 P w K mg base N_is_pair "is_pair" (defScope s_is_pair) f cdv A outer s H E).nox (defBody s_is_pair) (t_is_pair sp_is_row sp_is_told) := by
  have sc := sc_is_pair
  exact (dss_cons (ds_if (dt_not (dt_val (de_call c_is_row hr (by decide) rfl (da_cons (de_var (pv 0)) (da_cons de_int da_nil)))))
    (dss_one (ds_ret de_bl))
    dss_nil)
    (dss_cons (ds_asg (de_var (pv 0)) (dg_tup rfl (dgs_cons (dg_of (pg_name (i := 2) sc.nd rfl (by first | exact Or.inl rfl | exact Or.inr rfl))) (dgs_cons (dg_of (pg_name (i := 3) sc.nd rfl (by first | exact Or.inl rfl | exact Or.inr rfl))) dgs_nil))))
    (dss_one (ds_ret (de_and (de_call c_is_told hr (by decide) rfl (da_cons (de_var (pv 2)) (da_cons (de_var (pv 1)) da_nil))) (de_and (de_call c_is_told hr (by decide) rfl (da_cons (de_var (pv 3)) (da_cons (de_var (pv 1)) da_nil))) (de_one (de_cmp (o_lt hr.units) (de_var (pv 2)) (de_var (pv 3)) (nomark _)))))))))
abbrev s_are_pairs : Stmt := topS 16
theorem sc_are_pairs : FnScope N_are_pairs ["value", "told"] (defScope s_are_pairs) := ⟨rfl, rfl, rfl, by decide +kernel, rfl, by decide +kernel, by decide +kernel⟩
theorem w_are_pairs (T : Txt mg) {sp_is_pair : DSp} (c_is_pair : DCal P w K mg base 4 "is_pair" sp_is_pair) {sp_ascends : DSp} (c_ascends : DCal P w K mg base 1 "ascends" sp_ascends) {f : Addr} (cdv : Value) (A : Around) (outer : List Env) (s : Shared) (H : Hp) (E : XK) (hr : Room 4 (A.deeper (envOfC "are_pairs" (defScope s_are_pairs) s.heap.objs.size f cdv))) :
    DSs (cxOf CX0 P w K mg base N_are_pairs "are_pairs" (defScope s_are_pairs) f cdv A outer s H E).nox (defBody s_are_pairs) (t_are_pairs sp_is_pair sp_ascends) := by
  have sc := sc_are_pairs
  exact (dss_cons (ds_if (PW.pt (dw_or (dt_not (dt_val (de_blt b_isi rfl T.b_isinstance (by decide +kernel) (da_cons (de_var (pv 0)) (da_cons (de_c (pe_bltn (v := .ty "tuple") rfl T.b_tuple (by decide +kernel) rfl) fun _ _ => .ty) da_nil))))) (dw_or1 (dt_not (dt_val (de_blt (b_all rfl) rfl T.b_all (by decide +kernel) (da_cons (de_lc (own := [("pair", 3)]) rfl sc.nd (di_seq (de_var (pv 0))) (blkOk_by (N := N_are_pairs) (sc := defScope s_are_pairs) (by decide +kernel)) (fun _ _ _ _ _ => (dgv_of (pg_name (i := 3) sc.nd rfl (by first | exact Or.inl rfl | exact Or.inr rfl)) (by decide))) (fun _ _ _ _ _ => dts_nil) (fun _ _ _ _ _ => (de_call c_is_pair hr (by decide) rfl (da_cons (de_var (pv 3)) (da_cons (de_var (pv 1)) da_nil))))) da_nil)))))))
    (dss_one (ds_ret de_bl))
    dss_nil)
    (dss_cons (ds_setLc2 (i := 2) (own := [("pair", 3), ("one", 4)]) (vs1 := [4]) rfl sc.nd rfl rfl (sw_true rfl rfl rfl (by decide +kernel)) (di_seq (de_var (pv 0))) (blkOk_by (N := N_are_pairs) (sc := defScope s_are_pairs) (by decide +kernel)) (by decide) (fun _ _ _ _ _ => (dgv_of (pg_name (i := 3) sc.nd rfl (by first | exact Or.inl rfl | exact Or.inr rfl)) (by decide))) (fun _ _ _ _ _ => dts_nil) (fun _ _ _ _ _ => (di_seq (de_var (pv 3)))) (fun _ _ _ _ _ => (dgv_of (pg_name (i := 4) sc.nd rfl (by first | exact Or.inl rfl | exact Or.inr rfl)) (by decide))) (fun _ _ _ _ _ => dts_nil) (fun _ _ _ _ _ => (de_var (pv 4))))
    (dss_one (ds_ret (de_and (de_call c_ascends hr (by decide) rfl (da_cons (de_var (pv 0)) da_nil)) (de_one (de_cmp (o_eq hr.units) (de_lenSet (units65 hr) rfl rfl T.b_len rfl T.b_set (de_var (pv 2))) (de_blt b_len rfl T.b_len PySem.boot_len (da_cons (de_var (pv 2)) da_nil)) (nomark _))))))))
abbrev s_in_order : Stmt := topS 17
theorem sc_in_order : FnScope N_in_order ["rows"] (defScope s_in_order) := ⟨rfl, rfl, rfl, by decide +kernel, rfl, by decide +kernel, by decide +kernel⟩
theorem w_in_order (T : Txt mg) {sp_merged : DSp} (c_merged : DCal P w K mg base 1 "merged" sp_merged) {j k : Nat} (j1 : 1 ≤ k) (jk : j ≤ k) {sp_in_order : DSp} (c_in_order : DCal P w K mg base j "in_order" sp_in_order) {f : Addr} (cdv : Value) (A : Around) (outer : List Env) (s : Shared) (H : Hp) (E : XK) (hr : Room k (A.deeper (envOfC "in_order" (defScope s_in_order) s.heap.objs.size f cdv))) :
    DSs (cxOf CX0 P w K mg base N_in_order "in_order" (defScope s_in_order) f cdv A outer s H E).nox (defBody s_in_order) (t_in_order sp_merged sp_in_order) := by
  have sc := sc_in_order
  exact (dss_cons (ds_if (dt_cmp (o_lt hr.units) (de_blt b_len rfl T.b_len PySem.boot_len (da_cons (de_var (pv 0)) da_nil)) de_int (nomark _))
    (dss_one (ds_ret (de_bty b_lstF rfl T.b_list (by decide +kernel) (da_cons (de_var (pv 0)) da_nil))))
    dss_nil)
    (dss_cons (ds_set (i := 1) sc.nd rfl (by first | exact Or.inl rfl | exact Or.inr rfl) (de_op o_fdiv (de_blt b_len rfl T.b_len PySem.boot_len (da_cons (de_var (pv 0)) da_nil)) de_int))
    (dss_one (ds_ret (de_call c_merged hr j1 rfl (da_cons (de_call c_in_order hr jk rfl (da_cons (de_slice (de_var (pv 0)) do_none (do_some (de_var (pv 1)))) da_nil)) (da_cons (de_call c_in_order hr jk rfl (da_cons (de_slice (de_var (pv 0)) (do_some (de_var (pv 1))) do_none) da_nil)) da_nil)))))))
abbrev s_merged : Stmt := topS 18
theorem sc_merged : FnScope N_merged ["low", "high"] (defScope s_merged) := ⟨rfl, rfl, rfl, by decide +kernel, rfl, by decide +kernel, by decide +kernel⟩
theorem w_merged (T : Txt mg) {f : Addr} (cdv : Value) (A : Around) (outer : List Env) (s : Shared) (H : Hp) (E : XK) (hr : Room 0 (A.deeper (envOfC "merged" (defScope s_merged) s.heap.objs.size f cdv))) :
    DSs (cxOf CX0 P w K mg base N_merged "merged" (defScope s_merged) f cdv A outer s H E).nox (defBody s_merged) (t_merged) := by
  have sc := sc_merged
  exact (dss_cons (ds_set (i := 2) sc.nd rfl (by first | exact Or.inl rfl | exact Or.inr rfl) (de_lst da_nil))
    (dss_cons (ds_set (i := 3) sc.nd rfl (by first | exact Or.inl rfl | exact Or.inr rfl) de_int)
    (dss_cons (ds_for PassesOwn.never rfl (di_seq (de_var (pv 1))) (dg_of (pg_name (i := 4) sc.nd rfl (by first | exact Or.inl rfl | exact Or.inr rfl)))
    (dss_cons (ds_while PassesOwn.never (PW.pt (dw_and (dt_cmp (o_lt hr.units) (de_var (pv 3)) (de_blt b_len rfl T.b_len PySem.boot_len (da_cons (de_var (pv 0)) da_nil)) (nomark _)) (dw_and1 (dt_cmp (o_le hr.units) (de_ix ix_any (de_var (pv 0)) (de_var (pv 3))) (de_var (pv 4)) (nomark _)))))
    (dss_cons (ds_expr (de_bm PySem.F.plainAttrs_list PySem.F.slot_list_append PySem.F.type_list_append m_append (de_var (pv 2)) (da_cons (de_ix ix_any (de_var (pv 0)) (de_var (pv 3))) da_nil)))
    (dss_one (ds_augI (i := 3) sc.nd rfl (by first | exact Or.inl rfl | exact Or.inr rfl | exact ⟨rfl, rfl⟩ | rfl) de_int ip_add))))
    (dss_one (ds_expr (de_bm PySem.F.plainAttrs_list PySem.F.slot_list_append PySem.F.type_list_append m_append (de_var (pv 2)) (da_cons (de_var (pv 4)) da_nil))))))
    (dss_one (ds_ret (de_op o_add (de_var (pv 2)) (de_slice (de_var (pv 0)) (do_some (de_var (pv 3))) do_none)))))))
abbrev s_is_town_crossing : Stmt := topS 21
theorem sc_is_town_crossing : FnScope N_is_town_crossing ["value"] (defScope s_is_town_crossing) := ⟨rfl, rfl, rfl, by decide +kernel, rfl, by decide +kernel, by decide +kernel⟩
theorem w_is_town_crossing (T : Txt mg) {sp_is_row : DSp} (c_is_row : DCal P w K mg base 1 "is_row" sp_is_row) {sp_is_name : DSp} (c_is_name : DCal P w K mg base 1 "is_name" sp_is_name) {sp_is_integer : DSp} (c_is_integer : DCal P w K mg base 1 "is_integer" sp_is_integer) {sp_are_pairs : DSp} (c_are_pairs : DCal P w K mg base 5 "are_pairs" sp_are_pairs) {sp_are_names : DSp} (c_are_names : DCal P w K mg base 2 "are_names" sp_are_names) {f : Addr} (cdv : Value) (A : Around) (outer : List Env) (s : Shared) (H : Hp) (E : XK) (hr : Room 5 (A.deeper (envOfC "is_town_crossing" (defScope s_is_town_crossing) s.heap.objs.size f cdv))) :
    DSs (cxOf CX0 P w K mg base N_is_town_crossing "is_town_crossing" (defScope s_is_town_crossing) f cdv A outer s H E).nox (defBody s_is_town_crossing) (t_is_town_crossing sp_is_row sp_is_name sp_is_integer sp_are_pairs sp_are_names) := by
  have sc := sc_is_town_crossing
  exact (dss_cons (ds_if (dt_not (dt_val (de_call c_is_row hr (by decide) rfl (da_cons (de_var (pv 0)) (da_cons de_int da_nil)))))
    (dss_one (ds_ret de_bl))
    dss_nil)
    (dss_cons (ds_asg (de_var (pv 0)) (dg_tup rfl (dgs_cons (dg_of (pg_name (i := 1) sc.nd rfl (by first | exact Or.inl rfl | exact Or.inr rfl))) (dgs_cons (dg_of (pg_name (i := 2) sc.nd rfl (by first | exact Or.inl rfl | exact Or.inr rfl))) (dgs_cons (dg_of (pg_name (i := 3) sc.nd rfl (by first | exact Or.inl rfl | exact Or.inr rfl))) (dgs_cons (dg_of (pg_name (i := 4) sc.nd rfl (by first | exact Or.inl rfl | exact Or.inr rfl))) dgs_nil))))))
    (dss_cons (ds_if (PW.pt (dw_or (dt_not (dt_val (de_call c_is_name hr (by decide) rfl (da_cons (de_var (pv 1)) da_nil)))) (dw_or (dt_not (dt_val (de_call c_is_integer hr (by decide) rfl (da_cons (de_var (pv 2)) da_nil)))) (dw_or1 (dt_not (dt_chain (o_le hr.units) (o_le hr.units) de_int (de_var (pv 2)) (de_c (pe_glob (v := .int 20) rfl T.c_MOST_ENDS.choose_spec ⟨_, rfl⟩) fun _ _ => .int)))))))
    (dss_one (ds_ret de_bl))
    dss_nil)
    (dss_one (ds_ret (de_and (de_call c_are_pairs hr (by decide) rfl (da_cons (de_var (pv 3)) (da_cons (de_dc (own := [("end", 5)]) rfl sc.nd (di_rng1 rfl T.b_range (da_cons (de_var (pv 2)) da_nil)) (blkOk_by (N := N_is_town_crossing) (sc := defScope s_is_town_crossing) (by decide +kernel)) (fun _ _ _ _ _ => (dgv_of (pg_name (i := 5) sc.nd rfl (by first | exact Or.inl rfl | exact Or.inr rfl)) (by decide))) (fun _ _ _ _ _ => dts_nil) (fun _ _ _ _ _ => (de_var (pv 5))) (fun _ _ _ _ _ => de_bl)) da_nil))) (de_one (de_call c_are_names hr (by decide) rfl (da_cons (de_var (pv 4)) da_nil)))))))))
abbrev s_are_town_crossings : Stmt := topS 22
theorem sc_are_town_crossings : FnScope N_are_town_crossings ["value"] (defScope s_are_town_crossings) := ⟨rfl, rfl, rfl, by decide +kernel, rfl, by decide +kernel, by decide +kernel⟩
theorem w_are_town_crossings (T : Txt mg) {sp_is_town_crossing : DSp} (c_is_town_crossing : DCal P w K mg base 6 "is_town_crossing" sp_is_town_crossing) {sp_ascends : DSp} (c_ascends : DCal P w K mg base 1 "ascends" sp_ascends) {f : Addr} (cdv : Value) (A : Around) (outer : List Env) (s : Shared) (H : Hp) (E : XK) (hr : Room 6 (A.deeper (envOfC "are_town_crossings" (defScope s_are_town_crossings) s.heap.objs.size f cdv))) :
    DSs (cxOf CX0 P w K mg base N_are_town_crossings "are_town_crossings" (defScope s_are_town_crossings) f cdv A outer s H E).nox (defBody s_are_town_crossings) (t_are_town_crossings sp_is_town_crossing sp_ascends) := by
  have sc := sc_are_town_crossings
  exact (dss_cons (ds_if (PW.pt (dw_or (dt_not (dt_val (de_blt b_isi rfl T.b_isinstance (by decide +kernel) (da_cons (de_var (pv 0)) (da_cons (de_c (pe_bltn (v := .ty "tuple") rfl T.b_tuple (by decide +kernel) rfl) fun _ _ => .ty) da_nil))))) (dw_or1 (dt_cmp (o_eq hr.units) (de_var (pv 0)) (de_tup da_nil) (nomark _)))))
    (dss_one (ds_ret de_bl))
    dss_nil)
    (dss_one (ds_ret (de_and (de_blt (b_all rfl) rfl T.b_all (by decide +kernel) (da_cons (de_lc (own := [("row", 1)]) rfl sc.nd (di_seq (de_var (pv 0))) (blkOk_by (N := N_are_town_crossings) (sc := defScope s_are_town_crossings) (by decide +kernel)) (fun _ _ _ _ _ => (dgv_of (pg_name (i := 1) sc.nd rfl (by first | exact Or.inl rfl | exact Or.inr rfl)) (by decide))) (fun _ _ _ _ _ => dts_nil) (fun _ _ _ _ _ => (de_call c_is_town_crossing hr (by decide) rfl (da_cons (de_var (pv 1)) da_nil)))) da_nil)) (de_one (de_call c_ascends hr (by decide) rfl (da_cons (de_lc (own := [("row", 1)]) rfl sc.nd (di_seq (de_var (pv 0))) (blkOk_by (N := N_are_town_crossings) (sc := defScope s_are_town_crossings) (by decide +kernel)) (fun _ _ _ _ _ => (dgv_of (pg_name (i := 1) sc.nd rfl (by first | exact Or.inl rfl | exact Or.inr rfl)) (by decide))) (fun _ _ _ _ _ => dts_nil) (fun _ _ _ _ _ => (de_ix ix_any (de_var (pv 1)) de_int))) da_nil)))))))
abbrev s_are_town_streets : Stmt := topS 23
theorem sc_are_town_streets : FnScope N_are_town_streets ["value", "crossings"] (defScope s_are_town_streets) := ⟨rfl, rfl, rfl, by decide +kernel, rfl, by decide +kernel, by decide +kernel⟩
theorem w_are_town_streets (T : Txt mg) {sp_are_pairs : DSp} (c_are_pairs : DCal P w K mg base 5 "are_pairs" sp_are_pairs) {f : Addr} (cdv : Value) (A : Around) (outer : List Env) (s : Shared) (H : Hp) (E : XK) (hr : Room 5 (A.deeper (envOfC "are_town_streets" (defScope s_are_town_streets) s.heap.objs.size f cdv))) :
    DSs (cxOf CX0 P w K mg base N_are_town_streets "are_town_streets" (defScope s_are_town_streets) f cdv A outer s H E).nox (defBody s_are_town_streets) (t_are_town_streets sp_are_pairs) := by
  have sc := sc_are_town_streets
  exact (dss_cons (ds_setDc2 (i := 2) (own := [("row", 3), ("end", 4)]) (vs1 := [4]) hr.units0 rfl sc.nd rfl rfl (swD_true rfl rfl rfl (by decide +kernel)) (di_seq (de_var (pv 1))) (blkOk_by (N := N_are_town_streets) (sc := defScope s_are_town_streets) (by decide +kernel)) (by decide) (fun _ _ _ _ _ => (dgv_of (pg_name (i := 3) sc.nd rfl (by first | exact Or.inl rfl | exact Or.inr rfl)) (by decide))) (fun _ _ _ _ _ => (di_rng1 rfl T.b_range (da_cons (de_ix ix_any (de_var (pv 3)) de_int) da_nil))) (fun _ _ _ _ _ => (dgv_of (pg_name (i := 4) sc.nd rfl (by first | exact Or.inl rfl | exact Or.inr rfl)) (by decide))) (fun _ _ _ _ _ => (de_tup (da_cons (de_ix ix_any (de_var (pv 3)) de_int) (da_cons (de_var (pv 4)) da_nil)))) (fun _ _ _ _ _ => de_bl))
    (dss_one (ds_ret (de_and (de_call c_are_pairs hr (by decide) rfl (da_cons (de_var (pv 0)) (da_cons (de_var (pv 2)) da_nil))) (de_one (de_cmp (o_eq hr.units) (de_op o_mul de_int (de_blt b_len rfl T.b_len PySem.boot_len (da_cons (de_var (pv 0)) da_nil))) (de_blt b_lenD rfl T.b_len PySem.boot_len (da_cons (de_var (pv 2)) da_nil)) (nomark _)))))))
abbrev s_ways_across : Stmt := topS 24
theorem sc_ways_across : FnScope N_ways_across ["streets"] (defScope s_ways_across) := ⟨rfl, rfl, rfl, by decide +kernel, rfl, by decide +kernel, by decide +kernel⟩
theorem w_ways_across (T : Txt mg) {f : Addr} (cdv : Value) (A : Around) (outer : List Env) (s : Shared) (H : Hp) (E : XK) (hr : Room 0 (A.deeper (envOfC "ways_across" (defScope s_ways_across) s.heap.objs.size f cdv))) :
    DSs (cxOf CX0 P w K mg base N_ways_across "ways_across" (defScope s_ways_across) f cdv A outer s H E).nox (defBody s_ways_across) (t_ways_across) := by
  have sc := sc_ways_across
  exact (dss_cons (ds_set (i := 1) sc.nd rfl (by first | exact Or.inl rfl | exact Or.inr rfl) de_newT)
    (dss_cons (ds_for PassesOwn.never rfl (di_seq (de_var (pv 0))) (dg_tup rfl (dgs_cons (dg_of (pg_name (i := 2) sc.nd rfl (by first | exact Or.inl rfl | exact Or.inr rfl))) (dgs_cons (dg_of (pg_name (i := 3) sc.nd rfl (by first | exact Or.inl rfl | exact Or.inr rfl))) dgs_nil)))
    (dss_cons (ds_dput (units1 hr) (de_var (pv 1)) (de_var (pv 2)) (de_var (pv 3)))
    (dss_one (ds_dput (units1 hr) (de_var (pv 1)) (de_var (pv 3)) (de_var (pv 2))))))
    (dss_one (ds_ret (de_frz (de_var (pv 1)))))))
abbrev s_mirrored_crossing : Stmt := topS 25
theorem sc_mirrored_crossing : FnScope N_mirrored_crossing ["crossing"] (defScope s_mirrored_crossing) := ⟨rfl, rfl, rfl, by decide +kernel, rfl, by decide +kernel, by decide +kernel⟩
theorem w_mirrored_crossing (T : Txt mg) {sp_mirrored_end : DSp} (c_mirrored_end : DCal P w K mg base 1 "mirrored_end" sp_mirrored_end) {sp_in_pairs : DSp} (c_in_pairs : DCal P w K mg base 9 "in_pairs" sp_in_pairs) {f : Addr} (cdv : Value) (A : Around) (outer : List Env) (s : Shared) (H : Hp) (E : XK) (hr : Room 9 (A.deeper (envOfC "mirrored_crossing" (defScope s_mirrored_crossing) s.heap.objs.size f cdv))) :
    DSs (cxOf CX0 P w K mg base N_mirrored_crossing "mirrored_crossing" (defScope s_mirrored_crossing) f cdv A outer s H E).nox (defBody s_mirrored_crossing) (t_mirrored_crossing sp_mirrored_end sp_in_pairs) := by
  have sc := sc_mirrored_crossing
  exact (dss_cons (ds_asg (de_var (pv 0)) (dg_tup rfl (dgs_cons (dg_of (pg_name (i := 1) sc.nd rfl (by first | exact Or.inl rfl | exact Or.inr rfl))) (dgs_cons (dg_of (pg_name (i := 2) sc.nd rfl (by first | exact Or.inl rfl | exact Or.inr rfl))) (dgs_cons (dg_of (pg_name (i := 3) sc.nd rfl (by first | exact Or.inl rfl | exact Or.inr rfl))) (dgs_cons (dg_of (pg_name (i := 4) sc.nd rfl (by first | exact Or.inl rfl | exact Or.inr rfl))) dgs_nil))))))
    (dss_cons (ds_setLc (i := 5) (own := [("one", 6), ("other", 7)]) rfl sc.nd rfl rfl (sw_true rfl rfl rfl (by decide +kernel)) (di_seq (de_var (pv 3))) (blkOk_by (N := N_mirrored_crossing) (sc := defScope s_mirrored_crossing) (by decide +kernel)) (fun _ _ _ _ _ => (dgv_tup2 rfl (pg_name (i := 6) sc.nd rfl (by first | exact Or.inl rfl | exact Or.inr rfl)) (pg_name (i := 7) sc.nd rfl (by first | exact Or.inl rfl | exact Or.inr rfl)) (by decide) (by decide))) (fun _ _ _ _ _ => dts_nil) (fun _ _ _ _ _ => (de_tup (da_cons (de_call c_mirrored_end hr (by decide) rfl (da_cons (de_var (pv 2)) (da_cons (de_var (pv 6)) da_nil))) (da_cons (de_call c_mirrored_end hr (by decide) rfl (da_cons (de_var (pv 2)) (da_cons (de_var (pv 7)) da_nil))) da_nil)))))
    (dss_one (ds_ret (de_tup (da_cons (de_var (pv 1)) (da_cons (de_var (pv 2)) (da_cons (de_call c_in_pairs hr (by decide) rfl (da_cons (de_var (pv 5)) da_nil)) (da_cons (de_var (pv 4)) da_nil)))))))))
abbrev s_mirrored_end : Stmt := topS 26
theorem sc_mirrored_end : FnScope N_mirrored_end ["ends", "end"] (defScope s_mirrored_end) := ⟨rfl, rfl, rfl, by decide +kernel, rfl, by decide +kernel, by decide +kernel⟩
theorem w_mirrored_end (T : Txt mg) {f : Addr} (cdv : Value) (A : Around) (outer : List Env) (s : Shared) (H : Hp) (E : XK) (hr : Room 0 (A.deeper (envOfC "mirrored_end" (defScope s_mirrored_end) s.heap.objs.size f cdv))) :
    DSs (cxOf CX0 P w K mg base N_mirrored_end "mirrored_end" (defScope s_mirrored_end) f cdv A outer s H E).nox (defBody s_mirrored_end) (t_mirrored_end) := by
  have sc := sc_mirrored_end
  exact (dss_one (ds_ret (de_op o_mod (de_op o_sub (de_var (pv 0)) (de_var (pv 1))) (de_var (pv 0)))))
abbrev s_in_pairs : Stmt := topS 27
theorem sc_in_pairs : FnScope N_in_pairs ["pairs"] (defScope s_in_pairs) := ⟨rfl, rfl, rfl, by decide +kernel, rfl, by decide +kernel, by decide +kernel⟩
theorem w_in_pairs (T : Txt mg) {sp_in_order : DSp} (c_in_order : DCal P w K mg base 8 "in_order" sp_in_order) {f : Addr} (cdv : Value) (A : Around) (outer : List Env) (s : Shared) (H : Hp) (E : XK) (hr : Room 8 (A.deeper (envOfC "in_pairs" (defScope s_in_pairs) s.heap.objs.size f cdv))) :
    DSs (cxOf CX0 P w K mg base N_in_pairs "in_pairs" (defScope s_in_pairs) f cdv A outer s H E).nox (defBody s_in_pairs) (t_in_pairs sp_in_order) := by
  have sc := sc_in_pairs
  exact (dss_one (ds_ret (de_bty b_tup rfl T.b_tuple (by decide +kernel) (da_cons (de_call c_in_order hr (by decide) rfl (da_cons (de_lc (own := [("one", 1), ("other", 2)]) rfl sc.nd (di_seq (de_var (pv 0))) (blkOk_by (N := N_in_pairs) (sc := defScope s_in_pairs) (by decide +kernel)) (fun _ _ _ _ _ => (dgv_tup2 rfl (pg_name (i := 1) sc.nd rfl (by first | exact Or.inl rfl | exact Or.inr rfl)) (pg_name (i := 2) sc.nd rfl (by first | exact Or.inl rfl | exact Or.inr rfl)) (by decide) (by decide))) (fun _ _ _ _ _ => dts_nil) (fun _ _ _ _ _ => (de_if (dt_cmp (o_lt hr.units) (de_var (pv 1)) (de_var (pv 2)) (nomark _)) (de_tup (da_cons (de_var (pv 1)) (da_cons (de_var (pv 2)) da_nil))) (de_tup (da_cons (de_var (pv 2)) (da_cons (de_var (pv 1)) da_nil)))))) da_nil)) da_nil))))
abbrev s_in_one_word : Stmt := topS 32
theorem sc_in_one_word : FnScope N_in_one_word ["things"] (defScope s_in_one_word) := ⟨rfl, rfl, rfl, by decide +kernel, rfl, by decide +kernel, by decide +kernel⟩
theorem w_in_one_word (T : Txt mg) {f : Addr} (cdv : Value) (A : Around) (outer : List Env) (s : Shared) (H : Hp) (E : XK) (hr : Room 0 (A.deeper (envOfC "in_one_word" (defScope s_in_one_word) s.heap.objs.size f cdv))) :
    DSs (cxOf CX0 P w K mg base N_in_one_word "in_one_word" (defScope s_in_one_word) f cdv A outer s H E).nox (defBody s_in_one_word) (t_in_one_word) := by
  have sc := sc_in_one_word
  exact (dss_one (ds_ret (de_if (dt_tru (de_var (pv 0))) (de_bm PySem.F.plainAttrs_str PySem.F.slot_str_join PySem.F.type_str_join m_join de_str (da_cons (de_var (pv 0)) da_nil)) (de_c (pe_glob (v := .str "-") rfl T.s_NOTHING.choose_spec ⟨_, rfl⟩) fun _ _ => .str))))
abbrev s_line_of_crossing : Stmt := topS 33
theorem sc_line_of_crossing : FnScope N_line_of_crossing ["crossing", "ends"] (defScope s_line_of_crossing) := ⟨rfl, rfl, rfl, by decide +kernel, rfl, by decide +kernel, by decide +kernel⟩
theorem w_line_of_crossing (T : Txt mg) {sp_in_one_word : DSp} (c_in_one_word : DCal P w K mg base 1 "in_one_word" sp_in_one_word) {f : Addr} (cdv : Value) (A : Around) (outer : List Env) (s : Shared) (H : Hp) (E : XK) (hr : Room 1 (A.deeper (envOfC "line_of_crossing" (defScope s_line_of_crossing) s.heap.objs.size f cdv))) :
    DSs (cxOf CX0 P w K mg base N_line_of_crossing "line_of_crossing" (defScope s_line_of_crossing) f cdv A outer s H E).nox (defBody s_line_of_crossing) (t_line_of_crossing sp_in_one_word) := by
  have sc := sc_line_of_crossing
  exact (dss_cons (ds_setLc (i := 2) (own := [("one", 3), ("other", 4)]) rfl sc.nd rfl rfl (sw_true rfl rfl rfl (by decide +kernel)) (di_seq (de_ix ix_any (de_var (pv 0)) de_int)) (blkOk_by (N := N_line_of_crossing) (sc := defScope s_line_of_crossing) (by decide +kernel)) (fun _ _ _ _ _ => (dgv_tup2 rfl (pg_name (i := 3) sc.nd rfl (by first | exact Or.inl rfl | exact Or.inr rfl)) (pg_name (i := 4) sc.nd rfl (by first | exact Or.inl rfl | exact Or.inr rfl)) (by decide) (by decide))) (fun _ _ _ _ _ => dts_nil) (fun _ _ _ _ _ => (de_op o_add (de_op o_add (de_bty b_str rfl T.b_str (by decide +kernel) (da_cons (de_var (pv 3)) da_nil)) de_str) (de_bty b_str rfl T.b_str (by decide +kernel) (da_cons (de_var (pv 4)) da_nil)))))
    (dss_one (ds_ret (de_bm PySem.F.plainAttrs_str PySem.F.slot_str_join PySem.F.type_str_join m_join de_str (da_cons (de_lstF (da_cons de_str (da_cons (de_ix ix_any (de_var (pv 0)) de_int) (da_cons (de_var (pv 1)) (da_cons (de_call c_in_one_word hr (by decide) rfl (da_cons (de_var (pv 2)) da_nil)) (da_cons (de_call c_in_one_word hr (by decide) rfl (da_cons (de_ix ix_any (de_var (pv 0)) de_int) da_nil)) da_nil)))))) da_nil)))))
abbrev s_line_of_street : Stmt := topS 34
theorem sc_line_of_street : FnScope N_line_of_street ["street"] (defScope s_line_of_street) := ⟨rfl, rfl, rfl, by decide +kernel, rfl, by decide +kernel, by decide +kernel⟩
theorem w_line_of_street (T : Txt mg) {f : Addr} (cdv : Value) (A : Around) (outer : List Env) (s : Shared) (H : Hp) (E : XK) (hr : Room 0 (A.deeper (envOfC "line_of_street" (defScope s_line_of_street) s.heap.objs.size f cdv))) :
    DSs (cxOf CX0 P w K mg base N_line_of_street "line_of_street" (defScope s_line_of_street) f cdv A outer s H E).nox (defBody s_line_of_street) (t_line_of_street) := by
  have sc := sc_line_of_street
  exact (dss_one (ds_ret (de_bm PySem.F.plainAttrs_str PySem.F.slot_str_join PySem.F.type_str_join m_join de_str (da_cons (de_lstF (da_cons de_str (da_star (de_lc2 (own := [("stop", 1), ("word", 2)]) (vs1 := [2]) rfl sc.nd (di_seq (de_var (pv 0))) (blkOk_by (N := N_line_of_street) (sc := defScope s_line_of_street) (by decide +kernel)) (by decide) (fun _ _ _ _ _ => (dgv_of (pg_name (i := 1) sc.nd rfl (by first | exact Or.inl rfl | exact Or.inr rfl)) (by decide))) (fun _ _ _ _ _ => dts_nil) (fun _ _ _ _ _ => (di_seq (de_var (pv 1)))) (fun _ _ _ _ _ => (dgv_of (pg_name (i := 2) sc.nd rfl (by first | exact Or.inl rfl | exact Or.inr rfl)) (by decide))) (fun _ _ _ _ _ => dts_nil) (fun _ _ _ _ _ => (de_bty b_str rfl T.b_str (by decide +kernel) (da_cons (de_var (pv 2)) da_nil)))) da_nil))) da_nil))))
abbrev s_show_town : Stmt := topS 35
theorem sc_show_town : FnScope N_show_town ["town"] (defScope s_show_town) := ⟨rfl, rfl, rfl, by decide +kernel, rfl, by decide +kernel, by decide +kernel⟩
theorem w_show_town (T : Txt mg) {C : Addr} (cC : Cls K C) (N : Nts K C) {sp_line_of_crossing : DSp} (c_line_of_crossing : DCal P w K mg base 2 "line_of_crossing" sp_line_of_crossing) {sp_line_of_street : DSp} (c_line_of_street : DCal P w K mg base 1 "line_of_street" sp_line_of_street) {sp_Town_p_crossings : DSp} (k_Town_p_crossings : DPrp P w K mg base 1 C "crossings" sp_Town_p_crossings) {sp_Town_p_streets : DSp} (k_Town_p_streets : DPrp P w K mg base 1 C "streets" sp_Town_p_streets) {f : Addr} (cdv : Value) (A : Around) (outer : List Env) (s : Shared) (H : Hp) (E : XK) (hr : Room 2 (A.deeper (envOfC "show_town" (defScope s_show_town) s.heap.objs.size f cdv))) :
    DSs (cxOf CX0 P w K mg base N_show_town "show_town" (defScope s_show_town) f cdv A outer s H E).nox (defBody s_show_town) (t_show_town C sp_line_of_crossing sp_line_of_street sp_Town_p_crossings sp_Town_p_streets) := by
  have sc := sc_show_town
  exact (dss_cons (ds_setLc (i := 1) (own := [("row", 2)]) rfl sc.nd rfl rfl (sw_true rfl rfl rfl (by decide +kernel)) (di_seq (de_prop k_Town_p_crossings hr (by decide) (de_var (pv 0)))) (blkOk_by (N := N_show_town) (sc := defScope s_show_town) (by decide +kernel)) (fun _ _ _ _ _ => (dgv_of (pg_name (i := 2) sc.nd rfl (by first | exact Or.inl rfl | exact Or.inr rfl)) (by decide))) (fun _ _ _ _ _ => dts_nil) (fun _ _ _ _ _ => (de_call c_line_of_crossing hr (by decide) rfl (da_cons (de_var (pv 2)) (da_cons (de_bty b_str rfl T.b_str (by decide +kernel) (da_cons (de_ix ix_any (de_var (pv 2)) de_int) da_nil)) da_nil)))))
    (dss_one (ds_ret (de_bm PySem.F.plainAttrs_str PySem.F.slot_str_join PySem.F.type_str_join m_join de_str (da_cons (de_op o_add (de_var (pv 1)) (de_lc (own := [("street", 3)]) rfl sc.nd (di_seq (de_prop k_Town_p_streets hr (by decide) (de_var (pv 0)))) (blkOk_by (N := N_show_town) (sc := defScope s_show_town) (by decide +kernel)) (fun _ _ _ _ _ => (dgv_of (pg_name (i := 3) sc.nd rfl (by first | exact Or.inl rfl | exact Or.inr rfl)) (by decide))) (fun _ _ _ _ _ => dts_nil) (fun _ _ _ _ _ => (de_call c_line_of_street hr (by decide) rfl (da_cons (de_var (pv 3)) da_nil))))) da_nil)))))
abbrev s_number_of : Stmt := topS 36
theorem sc_number_of : FnScope N_number_of ["word"] (defScope s_number_of) := ⟨rfl, rfl, rfl, by decide +kernel, rfl, by decide +kernel, by decide +kernel⟩
theorem w_number_of (T : Txt mg) {f : Addr} (cdv : Value) (A : Around) (outer : List Env) (s : Shared) (H : Hp) (E : XK) (hr : Room 0 (A.deeper (envOfC "number_of" (defScope s_number_of) s.heap.objs.size f cdv))) :
    DSs (cxOf CX0 P w K mg base N_number_of "number_of" (defScope s_number_of) f cdv A outer s H E).nox (defBody s_number_of) (t_number_of) := by
  have sc := sc_number_of
  exact (dss_cons (ds_if (PW.pt (dw_or (dt_not (dt_val (de_bm0 PySem.F.plainAttrs_str PySem.F.slot_str_isascii PySem.F.type_str_isascii m_isascii (de_var (pv 0))))) (dw_or (dt_not (dt_val (de_bm0 PySem.F.plainAttrs_str PySem.F.slot_str_isdigit PySem.F.type_str_isdigit m_isdigit (de_var (pv 0))))) (dw_or1 (PW.pt (dw_and (dt_cmp (o_eq hr.units) (de_ix ix_strD (de_var (pv 0)) de_int) de_str (nomark _)) (dw_and1 (dt_cmp (o_ne hr.units) (de_var (pv 0)) de_str (nomark _)))))))))
    (dss_one (ds_ret de_non))
    dss_nil)
    (dss_one (ds_ret (de_bty b_intS rfl T.b_int (by decide +kernel) (da_cons (de_var (pv 0)) da_nil)))))
abbrev s_name_of : Stmt := topS 37
theorem sc_name_of : FnScope N_name_of ["word"] (defScope s_name_of) := ⟨rfl, rfl, rfl, by decide +kernel, rfl, by decide +kernel, by decide +kernel⟩
theorem w_name_of (T : Txt mg) {sp_is_name : DSp} (c_is_name : DCal P w K mg base 1 "is_name" sp_is_name) {f : Addr} (cdv : Value) (A : Around) (outer : List Env) (s : Shared) (H : Hp) (E : XK) (hr : Room 1 (A.deeper (envOfC "name_of" (defScope s_name_of) s.heap.objs.size f cdv))) :
    DSs (cxOf CX0 P w K mg base N_name_of "name_of" (defScope s_name_of) f cdv A outer s H E).nox (defBody s_name_of) (t_name_of sp_is_name) := by
  have sc := sc_name_of
  exact (dss_one (ds_ret (de_if (dt_val (de_call c_is_name hr (by decide) rfl (da_cons (de_var (pv 0)) da_nil))) (de_var (pv 0)) de_non)))
abbrev s_names_of : Stmt := topS 38
theorem sc_names_of : FnScope N_names_of ["word"] (defScope s_names_of) := ⟨rfl, rfl, rfl, by decide +kernel, rfl, by decide +kernel, by decide +kernel⟩
theorem w_names_of (T : Txt mg) {sp_is_name : DSp} (c_is_name : DCal P w K mg base 1 "is_name" sp_is_name) {f : Addr} (cdv : Value) (A : Around) (outer : List Env) (s : Shared) (H : Hp) (E : XK) (hr : Room 1 (A.deeper (envOfC "names_of" (defScope s_names_of) s.heap.objs.size f cdv))) :
    DSs (cxOf CX0 P w K mg base N_names_of "names_of" (defScope s_names_of) f cdv A outer s H E).nox (defBody s_names_of) (t_names_of sp_is_name) := by
  have sc := sc_names_of
  exact (dss_cons (ds_if (dt_cmp (o_eq hr.units) (de_var (pv 0)) (de_c (pe_glob (v := .str "-") rfl T.s_NOTHING.choose_spec ⟨_, rfl⟩) fun _ _ => .str) (nomark _))
    (dss_one (ds_ret (de_tup da_nil)))
    dss_nil)
    (dss_cons (ds_set (i := 1) sc.nd rfl (by first | exact Or.inl rfl | exact Or.inr rfl) (de_bty b_tup rfl T.b_tuple (by decide +kernel) (da_cons (de_bm PySem.F.plainAttrs_str PySem.F.slot_str_split PySem.F.type_str_split m_split (de_var (pv 0)) (da_cons de_str da_nil)) da_nil)))
    (dss_one (ds_ret (de_if (dt_val (de_blt (b_all rfl) rfl T.b_all (by decide +kernel) (da_cons (de_lc (own := [("name", 2)]) rfl sc.nd (di_seq (de_var (pv 1))) (blkOk_by (N := N_names_of) (sc := defScope s_names_of) (by decide +kernel)) (fun _ _ _ _ _ => (dgv_of (pg_name (i := 2) sc.nd rfl (by first | exact Or.inl rfl | exact Or.inr rfl)) (by decide))) (fun _ _ _ _ _ => dts_nil) (fun _ _ _ _ _ => (de_call c_is_name hr (by decide) rfl (da_cons (de_var (pv 2)) da_nil)))) da_nil))) (de_var (pv 1)) de_non)))))
abbrev s_pairs_of : Stmt := topS 39
theorem sc_pairs_of : FnScope N_pairs_of ["word", "end_of"] (defScope s_pairs_of) := ⟨rfl, rfl, rfl, by decide +kernel, rfl, by decide +kernel, by decide +kernel⟩
theorem w_pairs_of (T : Txt mg) {f_end_of : Addr} {sp_end_of : DSp} (l_end_of : DCalAt P w K mg base 1 f_end_of sp_end_of) {f : Addr} (cdv : Value) (A : Around) (outer : List Env) (s : Shared) (H : Hp) (E : XK) (hr : Room 1 (A.deeper (envOfC "pairs_of" (defScope s_pairs_of) s.heap.objs.size f cdv))) :
    DSs (cxOf CX0 P w K mg base N_pairs_of "pairs_of" (defScope s_pairs_of) f cdv A outer s H E).nox (defBody s_pairs_of) (t_pairs_of f_end_of sp_end_of) := by
  have sc := sc_pairs_of
  exact (dss_cons (ds_if (dt_cmp (o_eq hr.units) (de_var (pv 0)) (de_c (pe_glob (v := .str "-") rfl T.s_NOTHING.choose_spec ⟨_, rfl⟩) fun _ _ => .str) (nomark _))
    (dss_one (ds_ret (de_tup da_nil)))
    dss_nil)
    (dss_cons (ds_setLc (i := 2) (own := [("pair", 3)]) rfl sc.nd rfl rfl (sw_true rfl rfl rfl (by decide +kernel)) (di_seq (de_bm PySem.F.plainAttrs_str PySem.F.slot_str_split PySem.F.type_str_split m_split (de_var (pv 0)) (da_cons de_str da_nil))) (blkOk_by (N := N_pairs_of) (sc := defScope s_pairs_of) (by decide +kernel)) (fun _ _ _ _ _ => (dgv_of (pg_name (i := 3) sc.nd rfl (by first | exact Or.inl rfl | exact Or.inr rfl)) (by decide))) (fun _ _ _ _ _ => dts_nil) (fun _ _ _ _ _ => (de_bty b_tup rfl T.b_tuple (by decide +kernel) (da_cons (de_lc (own := [("end", 4)]) rfl sc.nd (di_seq (de_bm PySem.F.plainAttrs_str PySem.F.slot_str_split PySem.F.type_str_split m_split (de_var (pv 3)) (da_cons de_str da_nil))) (blkOk_by (by rfl)) (fun _ _ _ _ _ => (dgv_of (pg_name (i := 4) sc.nd rfl (by first | exact Or.inl rfl | exact Or.inr rfl)) (by decide))) (fun _ _ _ _ _ => dts_nil) (fun _ _ _ _ _ => (de_callL (i := 1) l_end_of hr (by decide) rfl (by first | exact .inl rfl | exact .inr (.inl rfl) | exact .inr (.inr rfl)) (da_cons (de_var (pv 4)) da_nil)))) da_nil))))
    (dss_one (ds_ret (de_if (dt_val (de_blt (b_all rfl) rfl T.b_all (by decide +kernel) (da_cons (de_lc (own := [("pair", 3)]) rfl sc.nd (di_seq (de_var (pv 2))) (blkOk_by (N := N_pairs_of) (sc := defScope s_pairs_of) (by decide +kernel)) (fun _ _ _ _ _ => (dgv_of (pg_name (i := 3) sc.nd rfl (by first | exact Or.inl rfl | exact Or.inr rfl)) (by decide))) (fun _ _ _ _ _ => dts_nil) (fun _ _ _ _ _ => (de_and (de_cmp (o_eq hr.units) (de_blt b_len rfl T.b_len PySem.boot_len (da_cons (de_var (pv 3)) da_nil)) de_int (nomark _)) (de_one (de_cmp (o_notin (units65 hr)) de_non (de_var (pv 3)) (by rfl)))))) da_nil))) (de_bty b_tup rfl T.b_tuple (by decide +kernel) (da_cons (de_var (pv 2)) da_nil)) de_non)))))
abbrev s_net_row : Stmt := topS 40
theorem sc_net_row : FnScope N_net_row ["words", "ends_of", "end_of"] (defScope s_net_row) := ⟨rfl, rfl, rfl, by decide +kernel, rfl, by decide +kernel, by decide +kernel⟩
theorem w_net_row (T : Txt mg) {sp_names_of : DSp} (c_names_of : DCal P w K mg base 2 "names_of" sp_names_of) {sp_pairs_of : DSp} (c_pairs_of : DCal P w K mg base 2 "pairs_of" sp_pairs_of) {sp_name_of : DSp} (c_name_of : DCal P w K mg base 2 "name_of" sp_name_of) {f_ends_of : Addr} {sp_ends_of : DSp} (l_ends_of : DCalAt P w K mg base 1 f_ends_of sp_ends_of) {f_end_of : Addr} {sp_end_of : DSp} (l_end_of : DCalAt P w K mg base 1 f_end_of sp_end_of) {f : Addr} (cdv : Value) (A : Around) (outer : List Env) (s : Shared) (H : Hp) (E : XK) (hr : Room 2 (A.deeper (envOfC "net_row" (defScope s_net_row) s.heap.objs.size f cdv))) :
    DSs (cxOf CX0 P w K mg base N_net_row "net_row" (defScope s_net_row) f cdv A outer s H E).nox (defBody s_net_row) (t_net_row f_ends_of sp_ends_of f_end_of sp_end_of sp_names_of sp_pairs_of sp_name_of) := by
  have sc := sc_net_row
  exact (dss_cons (ds_if (dt_cmp (o_ne hr.units) (de_blt b_len rfl T.b_len PySem.boot_len (da_cons (de_var (pv 0)) da_nil)) de_int (nomark _))
    (dss_one (ds_ret de_non))
    dss_nil)
    (dss_cons (ds_if (dt_cmp (o_eq hr.units) (de_ix ix_any (de_var (pv 0)) de_int) de_str (nomark _))
    (dss_cons (ds_set (i := 3) sc.nd rfl (by first | exact Or.inl rfl | exact Or.inr rfl) (de_tup (da_cons (de_call c_name_of hr (by decide) rfl (da_cons (de_ix ix_any (de_var (pv 0)) de_int) da_nil)) (da_cons (de_callL (i := 1) l_ends_of hr (by decide) rfl (by first | exact .inl rfl | exact .inr (.inl rfl) | exact .inr (.inr rfl)) (da_cons (de_ix ix_any (de_var (pv 0)) de_int) da_nil)) (da_cons (de_call c_pairs_of hr (by decide) rfl (da_cons (de_ix ix_any (de_var (pv 0)) de_int) (da_cons (de_var (pv 2)) da_nil))) (da_cons (de_call c_names_of hr (by decide) rfl (da_cons (de_ix ix_any (de_var (pv 0)) de_int) da_nil)) da_nil))))))
    (dss_one (ds_ret (de_if (dt_cmp (o_in (units65 hr)) de_non (de_var (pv 3)) (by rfl)) de_non (de_var (pv 3))))))
    dss_nil)
    (dss_cons (ds_if (dt_cmp (o_eq hr.units) (de_ix ix_any (de_var (pv 0)) de_int) de_str (nomark _))
    (dss_cons (ds_set (i := 3) sc.nd rfl (by first | exact Or.inl rfl | exact Or.inr rfl) (de_tup (da_cons (de_call c_name_of hr (by decide) rfl (da_cons (de_ix ix_any (de_var (pv 0)) de_int) da_nil)) (da_cons (de_callL (i := 2) l_end_of hr (by decide) rfl (by first | exact .inl rfl | exact .inr (.inl rfl) | exact .inr (.inr rfl)) (da_cons (de_ix ix_any (de_var (pv 0)) de_int) da_nil)) (da_cons (de_call c_name_of hr (by decide) rfl (da_cons (de_ix ix_any (de_var (pv 0)) de_int) da_nil)) (da_cons (de_callL (i := 2) l_end_of hr (by decide) rfl (by first | exact .inl rfl | exact .inr (.inl rfl) | exact .inr (.inr rfl)) (da_cons (de_ix ix_any (de_var (pv 0)) de_int) da_nil)) da_nil))))))
    (dss_one (ds_ret (de_if (dt_cmp (o_in (units65 hr)) de_non (de_var (pv 3)) (by rfl)) de_non (de_tup (da_cons (de_slice (de_var (pv 3)) do_none (do_some de_int)) (da_cons (de_slice (de_var (pv 3)) (do_some de_int) do_none) da_nil)))))))
    dss_nil)
    (dss_one (ds_ret de_non)))))
abbrev s_row_of_town : Stmt := topS 41
theorem sc_row_of_town : FnScope N_row_of_town ["words"] (defScope s_row_of_town) := ⟨rfl, rfl, rfl, by decide +kernel, rfl, by decide +kernel, by decide +kernel⟩
theorem w_row_of_town (T : Txt mg) {sp_net_row : DSp} (c_net_row : DCal P w K mg base 3 "net_row" sp_net_row) {f_number_of : Addr} (g_number_of : mg "number_of" = some (.ref f_number_of)) {f : Addr} (cdv : Value) (A : Around) (outer : List Env) (s : Shared) (H : Hp) (E : XK) (hr : Room 3 (A.deeper (envOfC "row_of_town" (defScope s_row_of_town) s.heap.objs.size f cdv))) :
    DSs (cxOf CX0 P w K mg base N_row_of_town "row_of_town" (defScope s_row_of_town) f cdv A outer s H E).nox (defBody s_row_of_town) (t_row_of_town f_number_of sp_net_row) := by
  have sc := sc_row_of_town
  exact (dss_one (ds_ret (de_call c_net_row hr (by decide) rfl (da_cons (de_var (pv 0)) (da_cons (de_c (pe_glob (v := .ref f_number_of) rfl g_number_of rfl) fun _ _ => .ref) (da_cons (de_c (pe_glob (v := .ref f_number_of) rfl g_number_of rfl) fun _ _ => .ref) da_nil))))))
abbrev s_lines_of : Stmt := topS 42
theorem sc_lines_of : FnScope N_lines_of ["text"] (defScope s_lines_of) := ⟨rfl, rfl, rfl, by decide +kernel, rfl, by decide +kernel, by decide +kernel⟩
theorem w_lines_of (T : Txt mg) {f : Addr} (cdv : Value) (A : Around) (outer : List Env) (s : Shared) (H : Hp) (E : XK) (hr : Room 0 (A.deeper (envOfC "lines_of" (defScope s_lines_of) s.heap.objs.size f cdv))) :
    DSs (cxOf CX0 P w K mg base N_lines_of "lines_of" (defScope s_lines_of) f cdv A outer s H E).nox (defBody s_lines_of) (t_lines_of) := by
  have sc := sc_lines_of
  exact (dss_cons (ds_if (dt_not (dt_val (de_blt b_isi rfl T.b_isinstance (by decide +kernel) (da_cons (de_var (pv 0)) (da_cons (de_c (pe_bltn (v := .ty "str") rfl T.b_str (by decide +kernel) rfl) fun _ _ => .ty) da_nil)))))
    (dss_one ds_never)
    dss_nil)
    (dss_one (ds_ret (de_bm PySem.F.plainAttrs_str PySem.F.slot_str_split PySem.F.type_str_split m_split (de_var (pv 0)) (da_cons de_str da_nil)))))
abbrev s_groups_of : Stmt := topS 43
theorem sc_groups_of : FnScope N_groups_of ["text", "row_of"] (defScope s_groups_of) := ⟨rfl, rfl, rfl, by decide +kernel, rfl, by decide +kernel, by decide +kernel⟩
theorem w_groups_of (T : Txt mg) {sp_lines_of : DSp} (c_lines_of : DCal P w K mg base 1 "lines_of" sp_lines_of) {f_row_of : Addr} {sp_row_of : DSp} (l_row_of : DCalAt P w K mg base 5 f_row_of sp_row_of) {A_GROUPS : Addr} (g_GROUPS : mg "GROUPS" = some (.ref A_GROUPS)) (kd_GROUPS : ∀ z i, groupsN z = some i → KDct K w A_GROUPS z (.int i)) {f : Addr} (cdv : Value) (A : Around) (outer : List Env) (s : Shared) (H : Hp) (E : XK) (hr : Room 5 (A.deeper (envOfC "groups_of" (defScope s_groups_of) s.heap.objs.size f cdv))) :
    DSs (cxOf CX0 P w K mg base N_groups_of "groups_of" (defScope s_groups_of) f cdv A outer s H E).nox (defBody s_groups_of) (t_groups_of f_row_of sp_row_of sp_lines_of) := by
  have sc := sc_groups_of
  exact (dss_cons (ds_set (i := 2) sc.nd rfl (by first | exact Or.inl rfl | exact Or.inr rfl) (de_lst (da_cons (de_lst da_nil) (da_cons (de_lst da_nil) (da_cons (de_lst da_nil) da_nil)))))
    (dss_cons (ds_set (i := 3) sc.nd rfl (by first | exact Or.inl rfl | exact Or.inr rfl) de_int)
    (dss_cons (ds_for PassesOwn.never rfl (di_enum rfl T.b_enumerate (de_call c_lines_of hr (by decide) rfl (da_cons (de_var (pv 0)) da_nil))) (dg_tup rfl (dgs_cons (dg_of (pg_name (i := 4) sc.nd rfl (by first | exact Or.inl rfl | exact Or.inr rfl))) (dgs_cons (dg_of (pg_name (i := 5) sc.nd rfl (by first | exact Or.inl rfl | exact Or.inr rfl))) dgs_nil)))
    (dss_cons (ds_set (i := 6) sc.nd rfl (by first | exact Or.inl rfl | exact Or.inr rfl) (de_bm PySem.F.plainAttrs_str PySem.F.slot_str_split PySem.F.type_str_split m_split (de_var (pv 5)) (da_cons de_str da_nil)))
    (dss_cons (ds_set (i := 7) sc.nd rfl (by first | exact Or.inl rfl | exact Or.inr rfl) (de_callL (i := 1) l_row_of hr (by decide) rfl (by first | exact .inl rfl | exact .inr (.inl rfl) | exact .inr (.inr rfl)) (da_cons (de_var (pv 6)) da_nil)))
    (dss_cons (ds_if (PW.pt (dw_or (dt_cmp o_is (de_var (pv 7)) de_non (nomark _)) (dw_or1 (dt_cmp (o_lt hr.units) (de_kget (de_c (pe_glob (v := .ref A_GROUPS) rfl g_GROUPS rfl) fun _ _ => .ref) kd_GROUPS (de_ix ix_any (de_var (pv 6)) de_int)) (de_var (pv 3)) (nomark _)))))
    (dss_one ds_never)
    dss_nil)
    (dss_cons (ds_set (i := 3) sc.nd rfl (by first | exact Or.inl rfl | exact Or.inr rfl) (de_kget (de_c (pe_glob (v := .ref A_GROUPS) rfl g_GROUPS rfl) fun _ _ => .ref) kd_GROUPS (de_ix ix_any (de_var (pv 6)) de_int)))
    (dss_one (ds_expr (de_bm PySem.F.plainAttrs_list PySem.F.slot_list_append PySem.F.type_list_append m_append (de_ix ix_any (de_var (pv 2)) (de_var (pv 3))) (da_cons (de_var (pv 7)) da_nil)))))))))
    (dss_one (ds_ret (de_lc (own := [("rows", 8)]) rfl sc.nd (di_seq (de_var (pv 2))) (blkOk_by (N := N_groups_of) (sc := defScope s_groups_of) (by decide +kernel)) (fun _ _ _ _ _ => (dgv_of (pg_name (i := 8) sc.nd rfl (by first | exact Or.inl rfl | exact Or.inr rfl)) (by decide))) (fun _ _ _ _ _ => dts_nil) (fun _ _ _ _ _ => (de_bty b_tup rfl T.b_tuple (by decide +kernel) (da_cons (de_var (pv 8)) da_nil)))))))))
abbrev s_read_town : Stmt := topS 44
theorem sc_read_town : FnScope N_read_town ["text"] (defScope s_read_town) := ⟨rfl, rfl, rfl, by decide +kernel, rfl, by decide +kernel, by decide +kernel⟩
theorem w_read_town (T : Txt mg) {C : Addr} (cC : Cls K C) (N : Nts K C) {sp_groups_of : DSp} (c_groups_of : DCal P w K mg base 6 "groups_of" sp_groups_of) {sp_Town_init : DSp} (k_Town_init : DMak P w K mg base 8 "Town" C sp_Town_init) {f_row_of_town : Addr} (g_row_of_town : mg "row_of_town" = some (.ref f_row_of_town)) {f : Addr} (cdv : Value) (A : Around) (outer : List Env) (s : Shared) (H : Hp) (E : XK) (hr : Room 9 (A.deeper (envOfC "read_town" (defScope s_read_town) s.heap.objs.size f cdv))) :
    DSs (cxOf CX0 P w K mg base N_read_town "read_town" (defScope s_read_town) f cdv A outer s H E).nox (defBody s_read_town) (t_read_town C f_row_of_town sp_groups_of sp_Town_init) := by
  have sc := sc_read_town
  exact (dss_cons (ds_asg (de_call c_groups_of hr (by decide) rfl (da_cons (de_var (pv 0)) (da_cons (de_c (pe_glob (v := .ref f_row_of_town) rfl g_row_of_town rfl) fun _ _ => .ref) da_nil))) (dg_unl rfl (dgs_cons (dg_of (pg_name (i := 1) sc.nd rfl (by first | exact Or.inl rfl | exact Or.inr rfl))) (dgs_cons (dg_of (pg_name (i := 2) sc.nd rfl (by first | exact Or.inl rfl | exact Or.inr rfl))) (dgs_cons (dg_of (pg_name (i := 3) sc.nd rfl (by first | exact Or.inl rfl | exact Or.inr rfl))) dgs_nil)))))
    (dss_one (ds_ret (de_make k_Town_init hr (by decide) rfl (da_cons (de_var (pv 1)) (da_cons (de_var (pv 2)) da_nil))))))
abbrev s_Town_init : Stmt := inClass (topS 28) 0
theorem sc_Town_init : FnScope N_Town_init ["self", "crossings", "streets"] (defScope s_Town_init) := ⟨rfl, rfl, rfl, by decide +kernel, rfl, by decide +kernel, by decide +kernel⟩
theorem w_Town_init (T : Txt mg) {C : Addr} (cC : Cls K C) (N : Nts K C) {sp_are_town_crossings : DSp} (c_are_town_crossings : DCal P w K mg base 7 "are_town_crossings" sp_are_town_crossings) {sp_are_town_streets : DSp} (c_are_town_streets : DCal P w K mg base 6 "are_town_streets" sp_are_town_streets) {sp_ways_across : DSp} (c_ways_across : DCal P w K mg base 1 "ways_across" sp_ways_across) {f : Addr} (cdv : Value) (A : Around) (outer : List Env) (s : Shared) (H : Hp) (E : XK) (hr : Room 7 (A.deeper (envOfC "Town.__init__" (defScope s_Town_init) s.heap.objs.size f cdv))) :
    DSs (cxOf CX0 P w K mg base N_Town_init "Town.__init__" (defScope s_Town_init) f cdv A outer s H E).nox (defBody s_Town_init) (t_Town_init C sp_are_town_crossings sp_are_town_streets sp_ways_across) := by
  have sc := sc_Town_init
  exact (dss_cons (ds_if (dt_not (dt_val (de_call c_are_town_crossings hr (by decide) rfl (da_cons (de_var (pv 1)) da_nil))))
    (dss_one ds_never)
    dss_nil)
    (dss_cons (ds_if (dt_not (dt_val (de_call c_are_town_streets hr (by decide) rfl (da_cons (de_var (pv 2)) (da_cons (de_var (pv 1)) da_nil)))))
    (dss_one ds_never)
    dss_nil)
    (dss_cons (ds_fld cC N.n_crossings (de_var (pv 0)) (de_var (pv 1)))
    (dss_cons (ds_fld cC N.n_streets (de_var (pv 0)) (de_var (pv 2)))
    (dss_cons (ds_fld cC N.n_by_name (de_var (pv 0)) (de_dc (own := [("row", 3)]) rfl sc.nd (di_seq (de_var (pv 1))) (blkOk_by (N := N_Town_init) (sc := defScope s_Town_init) (by decide +kernel)) (fun _ _ _ _ _ => (dgv_of (pg_name (i := 3) sc.nd rfl (by first | exact Or.inl rfl | exact Or.inr rfl)) (by decide))) (fun _ _ _ _ _ => dts_nil) (fun _ _ _ _ _ => (de_ix ix_any (de_var (pv 3)) de_int)) (fun _ _ _ _ _ => (de_var (pv 3)))))
    (dss_one (ds_fld cC N.n_across (de_var (pv 0)) (de_call c_ways_across hr (by decide) rfl (da_cons (de_var (pv 2)) da_nil)))))))))
abbrev s_Town_eq : Stmt := inClass (topS 28) 8
theorem sc_Town_eq : FnScope N_Town_eq ["self", "other"] (defScope s_Town_eq) := ⟨rfl, rfl, rfl, by decide +kernel, rfl, by decide +kernel, by decide +kernel⟩
theorem w_Town_eq (T : Txt mg) {C : Addr} (cC : Cls K C) (N : Nts K C) (oC : OwnC K C) (cG : mg "Town" = some (.ref C)) {f : Addr} (cdv : Value) (A : Around) (outer : List Env) (s : Shared) (H : Hp) (E : XK) (hr : Room 0 (A.deeper (envOfC "Town.__eq__" (defScope s_Town_eq) s.heap.objs.size f cdv))) :
    DSs (cxOf CX0 P w K mg base N_Town_eq "Town.__eq__" (defScope s_Town_eq) f cdv A outer s H E).nox (defBody s_Town_eq) (t_Town_eq C) := by
  have sc := sc_Town_eq
  exact (dss_one (ds_ret (de_and (de_blt (b_isiC oC) rfl T.b_isinstance (by decide +kernel) (da_cons (de_var (pv 1)) (da_cons (de_c (pe_glob (v := .ref C) rfl cG rfl) fun _ _ => .ref) da_nil))) (de_and (de_cmp (o_eq hr.units) (de_fld cC N.n_crossings (de_var (pv 0))) (de_fld cC N.n_crossings (de_var (pv 1))) (nomark _)) (de_one (de_cmp (o_eq hr.units) (de_fld cC N.n_streets (de_var (pv 0))) (de_fld cC N.n_streets (de_var (pv 1))) (nomark _)))))))
abbrev s_Town_inv : Stmt := inClass (topS 28) 9
theorem sc_Town_inv : FnScope N_Town_inv ["self"] (defScope s_Town_inv) := ⟨rfl, rfl, rfl, by decide +kernel, rfl, by decide +kernel, by decide +kernel⟩
theorem w_Town_inv (T : Txt mg) {C : Addr} (cC : Cls K C) (N : Nts K C) {sp_mirrored_end : DSp} (c_mirrored_end : DCal P w K mg base 1 "mirrored_end" sp_mirrored_end) {sp_mirrored_crossing : DSp} (c_mirrored_crossing : DCal P w K mg base 10 "mirrored_crossing" sp_mirrored_crossing) {sp_in_pairs : DSp} (c_in_pairs : DCal P w K mg base 9 "in_pairs" sp_in_pairs) {sp_Town_init : DSp} (k_Town_init : DMak P w K mg base 8 "Town" C sp_Town_init) {f : Addr} (cdv : Value) (A : Around) (outer : List Env) (s : Shared) (H : Hp) (E : XK) (hr : Room 10 (A.deeper (envOfC "Town.__invert__" (defScope s_Town_inv) s.heap.objs.size f cdv))) :
    DSs (cxOf CX0 P w K mg base N_Town_inv "Town.__invert__" (defScope s_Town_inv) f cdv A outer s H E).nox (defBody s_Town_inv) (t_Town_inv C sp_mirrored_end sp_mirrored_crossing sp_in_pairs sp_Town_init) := by
  have sc := sc_Town_inv
  exact (dss_cons (ds_set (i := 1) sc.nd rfl (by first | exact Or.inl rfl | exact Or.inr rfl) de_newT)
    (dss_cons (ds_for PassesOwn.never rfl (di_seq (de_fld cC N.n_crossings (de_var (pv 0)))) (dg_tup rfl (dgs_cons (dg_of (pg_name (i := 2) sc.nd rfl (by first | exact Or.inl rfl | exact Or.inr rfl))) (dgs_cons (dg_of (pg_name (i := 3) sc.nd rfl (by first | exact Or.inl rfl | exact Or.inr rfl))) (dgs_cons (dg_of (pg_name (i := 4) sc.nd rfl (by first | exact Or.inl rfl | exact Or.inr rfl))) (dgs_cons (dg_of (pg_name (i := 5) sc.nd rfl (by first | exact Or.inl rfl | exact Or.inr rfl))) dgs_nil)))))
    (dss_one (ds_for PassesOwn.never rfl (di_rng1 rfl T.b_range (da_cons (de_var (pv 3)) da_nil)) (dg_of (pg_name (i := 6) sc.nd rfl (by first | exact Or.inl rfl | exact Or.inr rfl)))
    (dss_one (ds_dput (units1 hr) (de_var (pv 1)) (de_tup (da_cons (de_var (pv 2)) (da_cons (de_var (pv 6)) da_nil))) (de_tup (da_cons (de_var (pv 2)) (da_cons (de_call c_mirrored_end hr (by decide) rfl (da_cons (de_var (pv 3)) (da_cons (de_var (pv 6)) da_nil))) da_nil))))))))
    (dss_cons (ds_set (i := 7) sc.nd rfl (by first | exact Or.inl rfl | exact Or.inr rfl) (de_bty b_tup rfl T.b_tuple (by decide +kernel) (da_cons (de_lc (own := [("row", 8)]) rfl sc.nd (di_seq (de_fld cC N.n_crossings (de_var (pv 0)))) (blkOk_by (N := N_Town_inv) (sc := defScope s_Town_inv) (by decide +kernel)) (fun _ _ _ _ _ => (dgv_of (pg_name (i := 8) sc.nd rfl (by first | exact Or.inl rfl | exact Or.inr rfl)) (by decide))) (fun _ _ _ _ _ => dts_nil) (fun _ _ _ _ _ => (de_call c_mirrored_crossing hr (by decide) rfl (da_cons (de_var (pv 8)) da_nil)))) da_nil)))
    (dss_one (ds_ret (de_make k_Town_init hr (by decide) rfl (da_cons (de_var (pv 7)) (da_cons (de_call c_in_pairs hr (by decide) rfl (da_cons (de_lc (own := [("one", 9), ("other", 10)]) rfl sc.nd (di_seq (de_fld cC N.n_streets (de_var (pv 0)))) (blkOk_by (N := N_Town_inv) (sc := defScope s_Town_inv) (by decide +kernel)) (fun _ _ _ _ _ => (dgv_tup2 rfl (pg_name (i := 9) sc.nd rfl (by first | exact Or.inl rfl | exact Or.inr rfl)) (pg_name (i := 10) sc.nd rfl (by first | exact Or.inl rfl | exact Or.inr rfl)) (by decide) (by decide))) (fun _ _ _ _ _ => dts_nil) (fun _ _ _ _ _ => (de_tup (da_cons (de_dget (units1 hr) (de_var (pv 1)) (de_var (pv 9))) (da_cons (de_dget (units1 hr) (de_var (pv 1)) (de_var (pv 10))) da_nil))))) da_nil)) da_nil))))))))
abbrev s_Town_p_crossings : Stmt := inClass (topS 28) 1
theorem sc_Town_p_crossings : FnScope N_Town_p_crossings ["self"] (defScope s_Town_p_crossings) := ⟨rfl, rfl, rfl, by decide +kernel, rfl, by decide +kernel, by decide +kernel⟩
theorem w_Town_p_crossings (T : Txt mg) {C : Addr} (cC : Cls K C) (N : Nts K C) {f : Addr} (cdv : Value) (A : Around) (outer : List Env) (s : Shared) (H : Hp) (E : XK) (hr : Room 0 (A.deeper (envOfC "Town.crossings" (defScope s_Town_p_crossings) s.heap.objs.size f cdv))) :
    DSs (cxOf CX0 P w K mg base N_Town_p_crossings "Town.crossings" (defScope s_Town_p_crossings) f cdv A outer s H E).nox (defBody s_Town_p_crossings) (t_Town_p_crossings C) := by
  have sc := sc_Town_p_crossings
  exact (dss_one (ds_ret (de_fld cC N.n_crossings (de_var (pv 0)))))
abbrev s_Town_p_streets : Stmt := inClass (topS 28) 2
theorem sc_Town_p_streets : FnScope N_Town_p_streets ["self"] (defScope s_Town_p_streets) := ⟨rfl, rfl, rfl, by decide +kernel, rfl, by decide +kernel, by decide +kernel⟩
theorem w_Town_p_streets (T : Txt mg) {C : Addr} (cC : Cls K C) (N : Nts K C) {f : Addr} (cdv : Value) (A : Around) (outer : List Env) (s : Shared) (H : Hp) (E : XK) (hr : Room 0 (A.deeper (envOfC "Town.streets" (defScope s_Town_p_streets) s.heap.objs.size f cdv))) :
    DSs (cxOf CX0 P w K mg base N_Town_p_streets "Town.streets" (defScope s_Town_p_streets) f cdv A outer s H E).nox (defBody s_Town_p_streets) (t_Town_p_streets C) := by
  have sc := sc_Town_p_streets
  exact (dss_one (ds_ret (de_fld cC N.n_streets (de_var (pv 0)))))
abbrev s__law_pot : Stmt := topS 46
theorem sc__law_pot : FnScope N__law_pot ["_law_script", "_law_place"] (defScope s__law_pot) := ⟨rfl, rfl, rfl, by decide +kernel, rfl, by decide +kernel, by decide +kernel⟩
theorem w__law_pot (T : Txt mg) {f : Addr} (cdv : Value) (A : Around) (outer : List Env) (s : Shared) (H : Hp) (E : XK) (hr : Room 0 (A.deeper (envOfC "_law_pot" (defScope s__law_pot) s.heap.objs.size f cdv))) :
    DSs (cxOf CX0 P w K mg base N__law_pot "_law_pot" (defScope s__law_pot) f cdv A outer s H E).nox (defBody s__law_pot) (t__law_pot) := by
  have sc := sc__law_pot
  exact (dss_cons (ds_set (i := 2) sc.nd rfl (by first | exact Or.inl rfl | exact Or.inr rfl) (de_if (dt_cmp (o_lt hr.units) (de_var (pv 1)) (de_blt b_len rfl T.b_len PySem.boot_len (da_cons (de_var (pv 0)) da_nil)) (nomark _)) (de_ix ix_any (de_var (pv 0)) (de_var (pv 1))) (de_op o_add (de_op o_mul de_int (de_var (pv 1))) de_int)))
    (dss_cons (ds_set (i := 3) sc.nd rfl (by first | exact Or.inl rfl | exact Or.inr rfl) (de_op o_mul (de_op o_mod (de_bty b_int rfl T.b_int (by decide +kernel) (da_cons (de_blt b_abs rfl T.b_abs (by decide +kernel) (da_cons (de_var (pv 2)) da_nil)) da_nil)) (de_op o_pow (de_op o_pow de_int de_int) de_int)) (de_bty b_int rfl T.b_int (by decide +kernel) (da_cons (de_cmp (o_ge hr.units) (de_blt b_abs rfl T.b_abs (by decide +kernel) (da_cons (de_var (pv 2)) da_nil)) (de_op o_pow de_int de_int) (nomark _)) da_nil))))
    (dss_cons (ds_set (i := 4) sc.nd rfl (by first | exact Or.inl rfl | exact Or.inr rfl) (de_op o_mod (de_bty b_int rfl T.b_int (by decide +kernel) (da_cons (de_var (pv 2)) da_nil)) de_int))
    (dss_one (ds_ret (de_lst (da_cons (de_var (pv 3)) (da_cons (de_op o_mod (de_bty b_int rfl T.b_int (by decide +kernel) (da_cons (de_op o_add (de_op o_add (de_op o_mul (de_var (pv 4)) de_int) (de_op o_mul (de_op o_mul de_int (de_var (pv 1))) (de_var (pv 1)))) de_int) da_nil)) de_int) (da_cons de_int da_nil)))))))))
abbrev s__law_take : Stmt := topS 47
theorem sc__law_take : FnScope N__law_take ["_law_pot_here", "_law_upto"] (defScope s__law_take) := ⟨rfl, rfl, rfl, by decide +kernel, rfl, by decide +kernel, by decide +kernel⟩
theorem w__law_take (T : Txt mg) {f : Addr} (cdv : Value) (A : Around) (outer : List Env) (s : Shared) (H : Hp) (E : XK) (hr : Room 0 (A.deeper (envOfC "_law_take" (defScope s__law_take) s.heap.objs.size f cdv))) :
    DSs (cxOf CX0 P w K mg base N__law_take "_law_take" (defScope s__law_take) f cdv A outer s H E).nox (defBody s__law_take) (t__law_take) := by
  have sc := sc__law_take
  exact (dss_cons (ds_if (dt_cmp (o_gt hr.units) (de_ix ix_any (de_var (pv 0)) de_int) de_int (nomark _))
    (dss_cons (ds_set (i := 2) sc.nd rfl (by first | exact Or.inl rfl | exact Or.inr rfl) (de_op o_mod (de_bty b_int rfl T.b_int (by decide +kernel) (da_cons (de_ix ix_any (de_var (pv 0)) de_int) da_nil)) (de_var (pv 1))))
    (dss_cons (ds_asg (de_op o_fdiv (de_ix ix_any (de_var (pv 0)) de_int) (de_var (pv 1))) (dg_ix (de_var (pv 0)) de_int))
    (dss_one (ds_ret (de_var (pv 2))))))
    dss_nil)
    (dss_cons (ds_asg (de_op o_add (de_ix ix_any (de_var (pv 0)) de_int) de_int) (dg_ix (de_var (pv 0)) de_int))
    (dss_cons (ds_set (i := 3) sc.nd rfl (by first | exact Or.inl rfl | exact Or.inr rfl) (de_ix ix_any (de_lstF (da_cons de_int (da_cons de_int (da_cons de_int (da_cons de_int (da_cons de_int da_nil)))))) (de_op o_mod (de_bty b_int rfl T.b_int (by decide +kernel) (da_cons (de_ix ix_any (de_var (pv 0)) de_int) da_nil)) de_int)))
    (dss_cons (ds_set (i := 4) sc.nd rfl (by first | exact Or.inl rfl | exact Or.inr rfl) (de_op o_mod (de_bty b_int rfl T.b_int (by decide +kernel) (da_cons (de_op o_pow (de_bty b_int rfl T.b_int (by decide +kernel) (da_cons (de_op o_add (de_op o_add (de_ix ix_any (de_var (pv 0)) de_int) (de_op o_mul (de_op o_mul de_int (de_ix ix_any (de_var (pv 0)) de_int)) (de_ix ix_any (de_var (pv 0)) de_int))) de_int) da_nil)) de_int) da_nil)) (de_var (pv 3))))
    (dss_cons (ds_set (i := 4) sc.nd rfl (by first | exact Or.inl rfl | exact Or.inr rfl) (de_op o_mod (de_bty b_int rfl T.b_int (by decide +kernel) (da_cons (de_op o_mul (de_var (pv 4)) (de_op o_add (de_op o_mod (de_bty b_int rfl T.b_int (by decide +kernel) (da_cons (de_var (pv 4)) da_nil)) de_int) (de_op o_mul de_int (de_ix ix_any (de_var (pv 0)) de_int)))) da_nil)) de_int))
    (dss_one (ds_ret (de_op o_mod (de_bty b_int rfl T.b_int (by decide +kernel) (da_cons (de_op o_fdiv (de_var (pv 4)) de_int) da_nil)) (de_var (pv 1))))))))))
abbrev s__law_of : Stmt := topS 48
theorem sc__law_of : FnScope N__law_of ["_law_pot_here", "_law_some_here"] (defScope s__law_of) := ⟨rfl, rfl, rfl, by decide +kernel, rfl, by decide +kernel, by decide +kernel⟩
theorem w__law_of (T : Txt mg) {sp__law_take : DSp} (c__law_take : DCal P w K mg base 1 "_law_take" sp__law_take) {f : Addr} (cdv : Value) (A : Around) (outer : List Env) (s : Shared) (H : Hp) (E : XK) (hr : Room 1 (A.deeper (envOfC "_law_of" (defScope s__law_of) s.heap.objs.size f cdv))) :
    DSs (cxOf CX0 P w K mg base N__law_of "_law_of" (defScope s__law_of) f cdv A outer s H E).nox (defBody s__law_of) (t__law_of sp__law_take) := by
  have sc := sc__law_of
  exact (dss_one (ds_ret (de_ix ix_any (de_var (pv 1)) (de_call c__law_take hr (by decide) rfl (da_cons (de_var (pv 0)) (da_cons (de_blt b_len rfl T.b_len PySem.boot_len (da_cons (de_var (pv 1)) da_nil)) da_nil))))))
abbrev s__law_some : Stmt := topS 49
theorem sc__law_some : FnScope N__law_some ["_law_pot_here", "_law_pool", "_law_many"] (defScope s__law_some) := ⟨rfl, rfl, rfl, by decide +kernel, rfl, by decide +kernel, by decide +kernel⟩
theorem w__law_some (T : Txt mg) {sp__law_take : DSp} (c__law_take : DCal P w K mg base 1 "_law_take" sp__law_take) {f : Addr} (cdv : Value) (A : Around) (outer : List Env) (s : Shared) (H : Hp) (E : XK) (hr : Room 1 (A.deeper (envOfC "_law_some" (defScope s__law_some) s.heap.objs.size f cdv))) :
    DSs (cxOf CX0 P w K mg base N__law_some "_law_some" (defScope s__law_some) f cdv A outer s H E).nox (defBody s__law_some) (t__law_some sp__law_take) := by
  have sc := sc__law_some
  exact (dss_cons (ds_par2 3 4 sc.nd (da_cons (de_bty b_lst rfl T.b_list (by decide +kernel) (da_cons (de_var (pv 1)) da_nil)) (da_cons (de_lst da_nil) da_nil)))
    (dss_cons (ds_for PassesOwn.never rfl (di_rng1 rfl T.b_range (da_cons (de_var (pv 2)) da_nil)) (dg_of (pg_name (i := 5) sc.nd rfl (by first | exact Or.inl rfl | exact Or.inr rfl)))
    (dss_one (ds_expr (de_bm PySem.F.plainAttrs_list PySem.F.slot_list_append PySem.F.type_list_append m_append (de_var (pv 4)) (da_cons (de_bm PySem.F.plainAttrs_list PySem.F.slot_list_pop PySem.F.type_list_pop m_popAt (de_var (pv 3)) (da_cons (de_call c__law_take hr (by decide) rfl (da_cons (de_var (pv 0)) (da_cons (de_blt b_len rfl T.b_len PySem.boot_len (da_cons (de_var (pv 3)) da_nil)) da_nil))) da_nil)) da_nil)))))
    (dss_one (ds_ret (de_frz (de_var (pv 4)))))))
abbrev s__law_cells : Stmt := topS 50
theorem sc__law_cells : FnScope N__law_cells ["_law_script", "_law_most"] (defScope s__law_cells) := ⟨rfl, rfl, rfl, by decide +kernel, rfl, by decide +kernel, by decide +kernel⟩
theorem w__law_cells (T : Txt mg) {f : Addr} (cdv : Value) (A : Around) (outer : List Env) (s : Shared) (H : Hp) (E : XK) (hr : Room 0 (A.deeper (envOfC "_law_cells" (defScope s__law_cells) s.heap.objs.size f cdv))) :
    DSs (cxOf CX0 P w K mg base N__law_cells "_law_cells" (defScope s__law_cells) f cdv A outer s H E).nox (defBody s__law_cells) (t__law_cells) := by
  have sc := sc__law_cells
  exact (dss_one (ds_ret (de_lrng1 rfl rfl T.b_list rfl T.b_range (de_blt (b_max rfl) rfl T.b_max (by decide +kernel) (da_cons de_int (da_cons (de_blt (b_min rfl) rfl T.b_min (by decide +kernel) (da_cons (de_var (pv 1)) (da_cons (de_blt b_len rfl T.b_len PySem.boot_len (da_cons (de_var (pv 0)) da_nil)) da_nil))) da_nil))))))
abbrev s__law_ordered : Stmt := topS 51
theorem sc__law_ordered : FnScope N__law_ordered ["_law_rows"] (defScope s__law_ordered) := ⟨rfl, rfl, rfl, by decide +kernel, rfl, by decide +kernel, by decide +kernel⟩
theorem w__law_ordered (T : Txt mg) {f : Addr} (cdv : Value) (A : Around) (outer : List Env) (s : Shared) (H : Hp) (E : XK) (hr : Room 0 (A.deeper (envOfC "_law_ordered" (defScope s__law_ordered) s.heap.objs.size f cdv))) :
    DSs (cxOf CX0 P w K mg base N__law_ordered "_law_ordered" (defScope s__law_ordered) f cdv A outer s H E).nox (defBody s__law_ordered) (t__law_ordered) := by
  have sc := sc__law_ordered
  exact (dss_cons (ds_set (i := 1) sc.nd rfl (by first | exact Or.inl rfl | exact Or.inr rfl) (de_lst da_nil))
    (dss_cons (ds_for PassesOwn.never rfl (di_seq (de_var (pv 0))) (dg_of (pg_name (i := 2) sc.nd rfl (by first | exact Or.inl rfl | exact Or.inr rfl)))
    (dss_cons (ds_set (i := 3) sc.nd rfl (by first | exact Or.inl rfl | exact Or.inr rfl) de_int)
    (dss_cons (ds_while PassesOwn.never (PW.pt (dw_and (dt_cmp (o_lt hr.units) (de_var (pv 3)) (de_blt b_len rfl T.b_len PySem.boot_len (da_cons (de_var (pv 1)) da_nil)) (nomark _)) (dw_and1 (dt_cmp (o_lt hr.units) (de_ix ix_any (de_var (pv 1)) (de_var (pv 3))) (de_var (pv 2)) (nomark _)))))
    (dss_one (ds_set (i := 3) sc.nd rfl (by first | exact Or.inl rfl | exact Or.inr rfl) (de_op o_add (de_var (pv 3)) de_int))))
    (dss_one (ds_if (PW.pt (dw_or (dt_cmp (o_eq hr.units) (de_var (pv 3)) (de_blt b_len rfl T.b_len PySem.boot_len (da_cons (de_var (pv 1)) da_nil)) (nomark _)) (dw_or1 (dt_cmp (o_ne hr.units) (de_ix ix_any (de_var (pv 1)) (de_var (pv 3))) (de_var (pv 2)) (nomark _)))))
    (dss_one (ds_expr (de_bm PySem.F.plainAttrs_list PySem.F.slot_list_insert PySem.F.type_list_insert m_insert (de_var (pv 1)) (da_cons (de_var (pv 3)) (da_cons (de_var (pv 2)) da_nil)))))
    dss_nil)))))
    (dss_one (ds_ret (de_frz (de_var (pv 1)))))))
abbrev s__law_two : Stmt := topS 52
theorem sc__law_two : FnScope N__law_two ["_law_one", "_law_other"] (defScope s__law_two) := ⟨rfl, rfl, rfl, by decide +kernel, rfl, by decide +kernel, by decide +kernel⟩
theorem w__law_two (T : Txt mg) {f : Addr} (cdv : Value) (A : Around) (outer : List Env) (s : Shared) (H : Hp) (E : XK) (hr : Room 0 (A.deeper (envOfC "_law_two" (defScope s__law_two) s.heap.objs.size f cdv))) :
    DSs (cxOf CX0 P w K mg base N__law_two "_law_two" (defScope s__law_two) f cdv A outer s H E).nox (defBody s__law_two) (t__law_two) := by
  have sc := sc__law_two
  exact (dss_one (ds_ret (de_if (dt_cmp (o_lt hr.units) (de_var (pv 0)) (de_var (pv 1)) (nomark _)) (de_tup (da_cons (de_var (pv 0)) (da_cons (de_var (pv 1)) da_nil))) (de_tup (da_cons (de_var (pv 1)) (da_cons (de_var (pv 0)) da_nil))))))
abbrev s__law_signs : Stmt := topS 53
theorem sc__law_signs : FnScope N__law_signs [] (defScope s__law_signs) := ⟨rfl, rfl, rfl, by decide +kernel, rfl, by decide +kernel, by decide +kernel⟩
theorem w__law_signs (T : Txt mg) {f : Addr} (cdv : Value) (A : Around) (outer : List Env) (s : Shared) (H : Hp) (E : XK) (hr : Room 0 (A.deeper (envOfC "_law_signs" (defScope s__law_signs) s.heap.objs.size f cdv))) :
    DSs (cxOf CX0 P w K mg base N__law_signs "_law_signs" (defScope s__law_signs) f cdv A outer s H E).nox (defBody s__law_signs) (t__law_signs) := by
  have sc := sc__law_signs
  exact (dss_one (ds_ret (de_lstF (da_cons de_str (da_cons de_str (da_cons de_str (da_cons de_str da_nil)))))))
abbrev s__law_a_name : Stmt := topS 54
theorem sc__law_a_name : FnScope N__law_a_name ["_law_pot_here"] (defScope s__law_a_name) := ⟨rfl, rfl, rfl, by decide +kernel, rfl, by decide +kernel, by decide +kernel⟩
theorem w__law_a_name (T : Txt mg) {sp__law_take : DSp} (c__law_take : DCal P w K mg base 1 "_law_take" sp__law_take) {sp__law_of : DSp} (c__law_of : DCal P w K mg base 2 "_law_of" sp__law_of) {f : Addr} (cdv : Value) (A : Around) (outer : List Env) (s : Shared) (H : Hp) (E : XK) (hr : Room 2 (A.deeper (envOfC "_law_a_name" (defScope s__law_a_name) s.heap.objs.size f cdv))) :
    DSs (cxOf CX0 P w K mg base N__law_a_name "_law_a_name" (defScope s__law_a_name) f cdv A outer s H E).nox (defBody s__law_a_name) (t__law_a_name sp__law_take sp__law_of) := by
  have sc := sc__law_a_name
  exact (dss_cons (ds_set (i := 1) sc.nd rfl (by first | exact Or.inl rfl | exact Or.inr rfl) (de_call c__law_take hr (by decide) rfl (da_cons (de_var (pv 0)) (da_cons de_int da_nil))))
    (dss_cons (ds_if (dt_cmp (o_lt hr.units) (de_var (pv 1)) de_int (nomark _))
    (dss_one (ds_ret (de_call c__law_of hr (by decide) rfl (da_cons (de_var (pv 0)) (da_cons (de_bty (b_lstS rfl) rfl T.b_list (by decide +kernel) (da_cons de_str da_nil)) da_nil)))))
    dss_nil)
    (dss_cons (ds_if (dt_cmp (o_eq hr.units) (de_var (pv 1)) de_int (nomark _))
    (dss_one (ds_ret (de_call c__law_of hr (by decide) rfl (da_cons (de_var (pv 0)) (da_cons (de_lstF (da_cons de_str (da_cons de_str (da_cons de_str (da_cons de_str (da_cons de_str (da_cons de_str (da_cons de_str (da_cons de_str (da_cons de_str (da_cons de_str da_nil))))))))))) da_nil)))))
    dss_nil)
    (dss_cons (ds_set (i := 2) sc.nd rfl (by first | exact Or.inl rfl | exact Or.inr rfl) (de_op o_add de_int (de_call c__law_take hr (by decide) rfl (da_cons (de_var (pv 0)) (da_cons de_int da_nil)))))
    (dss_one (ds_ret (de_bm PySem.F.plainAttrs_str PySem.F.slot_str_join PySem.F.type_str_join m_join de_str (da_cons (de_lc (own := [("_law_lap", 3)]) rfl sc.nd (di_rng1 rfl T.b_range (da_cons (de_var (pv 2)) da_nil)) (blkOk_by (N := N__law_a_name) (sc := defScope s__law_a_name) (by decide +kernel)) (fun _ _ _ _ _ => (dgv_of (pg_name (i := 3) sc.nd rfl (by first | exact Or.inl rfl | exact Or.inr rfl)) (by decide))) (fun _ _ _ _ _ => dts_nil) (fun _ _ _ _ _ => (de_call c__law_of hr (by decide) rfl (da_cons (de_var (pv 0)) (da_cons (de_bty (b_lstS rfl) rfl T.b_list (by decide +kernel) (da_cons de_str da_nil)) da_nil))))) da_nil))))))))
abbrev s__law_many_names : Stmt := topS 55
theorem sc__law_many_names : FnScope N__law_many_names ["_law_pot_here", "_law_many"] (defScope s__law_many_names) := ⟨rfl, rfl, rfl, by decide +kernel, rfl, by decide +kernel, by decide +kernel⟩
theorem w__law_many_names (T : Txt mg) {sp__law_a_name : DSp} (c__law_a_name : DCal P w K mg base 3 "_law_a_name" sp__law_a_name) {f : Addr} (cdv : Value) (A : Around) (outer : List Env) (s : Shared) (H : Hp) (E : XK) (hr : Room 3 (A.deeper (envOfC "_law_many_names" (defScope s__law_many_names) s.heap.objs.size f cdv))) :
    DSs (cxOf CX0 P w K mg base N__law_many_names "_law_many_names" (defScope s__law_many_names) f cdv A outer s H E).nox (defBody s__law_many_names) (t__law_many_names sp__law_a_name) := by
  have sc := sc__law_many_names
  exact (dss_cons (ds_set (i := 2) sc.nd rfl (by first | exact Or.inl rfl | exact Or.inr rfl) (de_lst da_nil))
    (dss_cons (ds_for PassesOwn.never rfl (di_rng1 rfl T.b_range (da_cons (de_var (pv 1)) da_nil)) (dg_of (pg_name (i := 3) sc.nd rfl (by first | exact Or.inl rfl | exact Or.inr rfl)))
    (dss_cons (ds_set (i := 4) sc.nd rfl (by first | exact Or.inl rfl | exact Or.inr rfl) (de_call c__law_a_name hr (by decide) rfl (da_cons (de_var (pv 0)) da_nil)))
    (dss_cons (ds_if (dt_cmp (o_in (units65 hr)) (de_var (pv 4)) (de_var (pv 2)) (by rfl))
    (dss_one (ds_set (i := 4) sc.nd rfl (by first | exact Or.inl rfl | exact Or.inr rfl) (de_ix ix_any (de_lc (own := [("_law_one", 5)]) rfl sc.nd (di_seq (de_bty (b_lstS rfl) rfl T.b_list (by decide +kernel) (da_cons de_str da_nil))) (blkOk_by (N := N__law_many_names) (sc := defScope s__law_many_names) (by decide +kernel)) (fun _ _ _ _ _ => (dgv_of (pg_name (i := 5) sc.nd rfl (by first | exact Or.inl rfl | exact Or.inr rfl)) (by decide))) (fun _ _ _ _ _ => (dts_one (dt_cmp (o_notin (units65 hr)) (de_var (pv 5)) (de_var (pv 2)) (by rfl)))) (fun _ _ _ _ _ => (de_var (pv 5)))) de_int)))
    dss_nil)
    (dss_one (ds_expr (de_bm PySem.F.plainAttrs_list PySem.F.slot_list_append PySem.F.type_list_append m_append (de_var (pv 2)) (da_cons (de_var (pv 4)) da_nil)))))))
    (dss_one (ds_ret (de_frz (de_var (pv 2)))))))
abbrev s__law_free_row : Stmt := topS 56
theorem sc__law_free_row : FnScope N__law_free_row ["_law_pot_here", "_law_name", "_law_ends", "_law_signs_here"] (defScope s__law_free_row) := ⟨rfl, rfl, rfl, by decide +kernel, rfl, by decide +kernel, by decide +kernel⟩
theorem w__law_free_row (T : Txt mg) {sp__law_of : DSp} (c__law_of : DCal P w K mg base 2 "_law_of" sp__law_of) {sp__law_some : DSp} (c__law_some : DCal P w K mg base 2 "_law_some" sp__law_some) {sp__law_take : DSp} (c__law_take : DCal P w K mg base 1 "_law_take" sp__law_take) {sp__law_two : DSp} (c__law_two : DCal P w K mg base 1 "_law_two" sp__law_two) {sp__law_ordered : DSp} (c__law_ordered : DCal P w K mg base 1 "_law_ordered" sp__law_ordered) {f : Addr} (cdv : Value) (A : Around) (outer : List Env) (s : Shared) (H : Hp) (E : XK) (hr : Room 2 (A.deeper (envOfC "_law_free_row" (defScope s__law_free_row) s.heap.objs.size f cdv))) :
    DSs (cxOf CX0 P w K mg base N__law_free_row "_law_free_row" (defScope s__law_free_row) f cdv A outer s H E).nox (defBody s__law_free_row) (t__law_free_row sp__law_of sp__law_some sp__law_take sp__law_two sp__law_ordered) := by
  have sc := sc__law_free_row
  exact (dss_cons (ds_set (i := 4) sc.nd rfl (by first | exact Or.inl rfl | exact Or.inr rfl) (de_call c__law_of hr (by decide) rfl (da_cons (de_var (pv 0)) (da_cons (de_var (pv 2)) da_nil))))
    (dss_cons (ds_par2 5 6 sc.nd (da_cons (de_call c__law_some hr (by decide) rfl (da_cons (de_var (pv 0)) (da_cons (de_lrng1 rfl rfl T.b_list rfl T.b_range (de_var (pv 4))) (da_cons (de_var (pv 4)) da_nil)))) (da_cons (de_lst da_nil) da_nil)))
    (dss_cons (ds_for PassesOwn.never rfl (di_rng1 rfl T.b_range (da_cons (de_call c__law_take hr (by decide) rfl (da_cons (de_var (pv 0)) (da_cons (de_op o_add (de_op o_fdiv (de_var (pv 4)) de_int) de_int) da_nil))) da_nil)) (dg_of (pg_name (i := 7) sc.nd rfl (by first | exact Or.inl rfl | exact Or.inr rfl)))
    (dss_one (ds_expr (de_bm PySem.F.plainAttrs_list PySem.F.slot_list_append PySem.F.type_list_append m_append (de_var (pv 6)) (da_cons (de_call c__law_two hr (by decide) rfl (da_cons (de_ix ix_any (de_var (pv 5)) (de_op o_mul de_int (de_var (pv 7)))) (da_cons (de_ix ix_any (de_var (pv 5)) (de_op o_add (de_op o_mul de_int (de_var (pv 7))) de_int)) da_nil))) da_nil)))))
    (dss_cons (ds_setLc (i := 8) (own := [("_law_sign", 9)]) rfl sc.nd rfl rfl (sw_true rfl rfl rfl (by decide +kernel)) (di_seq (de_var (pv 3))) (blkOk_by (N := N__law_free_row) (sc := defScope s__law_free_row) (by decide +kernel)) (fun _ _ _ _ _ => (dgv_of (pg_name (i := 9) sc.nd rfl (by first | exact Or.inl rfl | exact Or.inr rfl)) (by decide))) (fun _ _ _ _ _ => (dts_one (dt_cmp (o_eq hr.units) (de_call c__law_take hr (by decide) rfl (da_cons (de_var (pv 0)) (da_cons de_int da_nil))) de_int (nomark _)))) (fun _ _ _ _ _ => (de_var (pv 9))))
    (dss_one (ds_ret (de_tup (da_cons (de_var (pv 1)) (da_cons (de_var (pv 4)) (da_cons (de_bty b_tup rfl T.b_tuple (by decide +kernel) (da_cons (de_call c__law_ordered hr (by decide) rfl (da_cons (de_var (pv 6)) da_nil)) da_nil)) (da_cons (de_bty b_tup rfl T.b_tuple (by decide +kernel) (da_cons (de_call c__law_ordered hr (by decide) rfl (da_cons (de_var (pv 8)) da_nil)) da_nil)) da_nil)))))))))))
abbrev s__law_each_stop : Stmt := topS 57
theorem sc__law_each_stop : FnScope N__law_each_stop ["_law_town"] (defScope s__law_each_stop) := ⟨rfl, rfl, rfl, by decide +kernel, rfl, by decide +kernel, by decide +kernel⟩
theorem w__law_each_stop (T : Txt mg) {f : Addr} (cdv : Value) (A : Around) (outer : List Env) (s : Shared) (H : Hp) (E : XK) (hr : Room 0 (A.deeper (envOfC "_law_each_stop" (defScope s__law_each_stop) s.heap.objs.size f cdv))) :
    DSs (cxOf CX0 P w K mg base N__law_each_stop "_law_each_stop" (defScope s__law_each_stop) f cdv A outer s H E).nox (defBody s__law_each_stop) (t__law_each_stop) := by
  have sc := sc__law_each_stop
  exact (dss_cons (ds_set (i := 1) sc.nd rfl (by first | exact Or.inl rfl | exact Or.inr rfl) (de_lst da_nil))
    (dss_cons (ds_for PassesOwn.never rfl (di_seq (de_ix ix_any (de_var (pv 0)) de_int)) (dg_of (pg_name (i := 2) sc.nd rfl (by first | exact Or.inl rfl | exact Or.inr rfl)))
    (dss_one (ds_expr (de_bm PySem.F.plainAttrs_list PySem.F.slot_list_extend PySem.F.type_list_extend m_extend (de_var (pv 1)) (da_cons (de_lc (own := [("_law_end", 3)]) rfl sc.nd (di_rng1 rfl T.b_range (da_cons (de_ix ix_any (de_var (pv 2)) de_int) da_nil)) (blkOk_by (N := N__law_each_stop) (sc := defScope s__law_each_stop) (by decide +kernel)) (fun _ _ _ _ _ => (dgv_of (pg_name (i := 3) sc.nd rfl (by first | exact Or.inl rfl | exact Or.inr rfl)) (by decide))) (fun _ _ _ _ _ => dts_nil) (fun _ _ _ _ _ => (de_tup (da_cons (de_ix ix_any (de_var (pv 2)) de_int) (da_cons (de_var (pv 3)) da_nil))))) da_nil)))))
    (dss_one (ds_ret (de_var (pv 1))))))
abbrev s__law_free_town : Stmt := topS 58
theorem sc__law_free_town : FnScope N__law_free_town ["_law_pot_here", "_law_most", "_law_ends"] (defScope s__law_free_town) := ⟨rfl, rfl, rfl, by decide +kernel, rfl, by decide +kernel, by decide +kernel⟩
theorem w__law_free_town (T : Txt mg) {sp__law_many_names : DSp} (c__law_many_names : DCal P w K mg base 4 "_law_many_names" sp__law_many_names) {sp__law_take : DSp} (c__law_take : DCal P w K mg base 1 "_law_take" sp__law_take) {sp__law_free_row : DSp} (c__law_free_row : DCal P w K mg base 3 "_law_free_row" sp__law_free_row) {sp__law_signs : DSp} (c__law_signs : DCal P w K mg base 1 "_law_signs" sp__law_signs) {sp__law_each_stop : DSp} (c__law_each_stop : DCal P w K mg base 1 "_law_each_stop" sp__law_each_stop) {sp__law_two : DSp} (c__law_two : DCal P w K mg base 1 "_law_two" sp__law_two) {sp__law_ordered : DSp} (c__law_ordered : DCal P w K mg base 1 "_law_ordered" sp__law_ordered) {f : Addr} (cdv : Value) (A : Around) (outer : List Env) (s : Shared) (H : Hp) (E : XK) (hr : Room 4 (A.deeper (envOfC "_law_free_town" (defScope s__law_free_town) s.heap.objs.size f cdv))) :
    DSs (cxOf CX0 P w K mg base N__law_free_town "_law_free_town" (defScope s__law_free_town) f cdv A outer s H E).nox (defBody s__law_free_town) (t__law_free_town sp__law_many_names sp__law_take sp__law_free_row sp__law_signs sp__law_each_stop sp__law_two sp__law_ordered) := by
  have sc := sc__law_free_town
  exact (dss_cons (ds_set (i := 3) sc.nd rfl (by first | exact Or.inl rfl | exact Or.inr rfl) (de_call c__law_many_names hr (by decide) rfl (da_cons (de_var (pv 0)) (da_cons (de_op o_add de_int (de_call c__law_take hr (by decide) rfl (da_cons (de_var (pv 0)) (da_cons (de_var (pv 1)) da_nil)))) da_nil))))
    (dss_cons (ds_setLcM (i := 4) (own := [("_law_name", 9)]) rfl sc.nd rfl rfl (sw_true rfl rfl rfl (by decide +kernel)) (di_seq (de_var (pv 3))) (blkOk_by (N := N__law_free_town) (sc := defScope s__law_free_town) (by decide +kernel)) (fun _ _ _ _ _ => (dgv_of (pg_name (i := 9) sc.nd rfl (by first | exact Or.inl rfl | exact Or.inr rfl)) (by decide))) (fun _ _ _ _ _ => dts_nil) (fun _ _ _ _ _ => (de_call c__law_free_row hr (by decide) rfl (da_cons (de_var (pv 0)) (da_cons (de_var (pv 9)) (da_cons (de_var (pv 2)) (da_cons (de_call0 c__law_signs hr (by decide) rfl) da_nil)))))))
    (dss_cons (ds_par2 5 6 sc.nd (da_cons (de_call c__law_each_stop hr (by decide) rfl (da_cons (de_tup (da_cons (de_var (pv 4)) da_nil)) da_nil)) (da_cons (de_lst da_nil) da_nil)))
    (dss_cons (ds_if (dt_cmp (o_eq hr.units) (de_op o_mod (de_blt b_len rfl T.b_len PySem.boot_len (da_cons (de_var (pv 5)) da_nil)) de_int) de_int (nomark _))
    (dss_cons (ds_set (i := 7) sc.nd rfl (by first | exact Or.inl rfl | exact Or.inr rfl) (de_ix ix_any (de_lc (own := [("_law_one", 8)]) rfl sc.nd (di_seq (de_bty (b_lstS rfl) rfl T.b_list (by decide +kernel) (da_cons de_str da_nil))) (blkOk_by (N := N__law_free_town) (sc := defScope s__law_free_town) (by decide +kernel)) (fun _ _ _ _ _ => (dgv_of (pg_name (i := 8) sc.nd rfl (by first | exact Or.inl rfl | exact Or.inr rfl)) (by decide))) (fun _ _ _ _ _ => (dts_one (dt_cmp (o_notin (units65 hr)) (de_var (pv 8)) (de_var (pv 3)) (by rfl)))) (fun _ _ _ _ _ => (de_var (pv 8)))) (de_un o_neg de_int)))
    (dss_cons (ds_expr (de_bm PySem.F.plainAttrs_list PySem.F.slot_list_append PySem.F.type_list_append m_append (de_var (pv 4)) (da_cons (de_tup (da_cons (de_var (pv 7)) (da_cons de_int (da_cons (de_tup da_nil) (da_cons (de_tup da_nil) da_nil))))) da_nil)))
    (dss_one (ds_expr (de_bm PySem.F.plainAttrs_list PySem.F.slot_list_append PySem.F.type_list_append m_append (de_var (pv 5)) (da_cons (de_tup (da_cons (de_var (pv 7)) (da_cons de_int da_nil))) da_nil))))))
    dss_nil)
    (dss_cons (ds_while PassesOwn.never (dt_cmp (o_neR hr.units) (de_var (pv 5)) (de_lstF da_nil) (nomark _))
    (dss_cons (ds_set (i := 8) sc.nd rfl (by first | exact Or.inl rfl | exact Or.inr rfl) (de_bm0 PySem.F.plainAttrs_list PySem.F.slot_list_pop PySem.F.type_list_pop m_pop (de_var (pv 5))))
    (dss_one (ds_expr (de_bm PySem.F.plainAttrs_list PySem.F.slot_list_append PySem.F.type_list_append m_append (de_var (pv 6)) (da_cons (de_call c__law_two hr (by decide) rfl (da_cons (de_var (pv 8)) (da_cons (de_bm PySem.F.plainAttrs_list PySem.F.slot_list_pop PySem.F.type_list_pop m_popAt (de_var (pv 5)) (da_cons (de_call c__law_take hr (by decide) rfl (da_cons (de_var (pv 0)) (da_cons (de_blt b_len rfl T.b_len PySem.boot_len (da_cons (de_var (pv 5)) da_nil)) da_nil))) da_nil)) da_nil))) da_nil))))))
    (dss_one (ds_ret (de_tup (da_cons (de_bty b_tup rfl T.b_tuple (by decide +kernel) (da_cons (de_call c__law_ordered hr (by decide) rfl (da_cons (de_var (pv 4)) da_nil)) da_nil)) (da_cons (de_bty b_tup rfl T.b_tuple (by decide +kernel) (da_cons (de_call c__law_ordered hr (by decide) rfl (da_cons (de_var (pv 6)) da_nil)) da_nil)) da_nil))))))))))
abbrev s__law_parts_word : Stmt := topS 59
theorem sc__law_parts_word : FnScope N__law_parts_word ["_law_parts"] (defScope s__law_parts_word) := ⟨rfl, rfl, rfl, by decide +kernel, rfl, by decide +kernel, by decide +kernel⟩
theorem w__law_parts_word (T : Txt mg) {f : Addr} (cdv : Value) (A : Around) (outer : List Env) (s : Shared) (H : Hp) (E : XK) (hr : Room 0 (A.deeper (envOfC "_law_parts_word" (defScope s__law_parts_word) s.heap.objs.size f cdv))) :
    DSs (cxOf CX0 P w K mg base N__law_parts_word "_law_parts_word" (defScope s__law_parts_word) f cdv A outer s H E).nox (defBody s__law_parts_word) (t__law_parts_word) := by
  have sc := sc__law_parts_word
  exact (dss_one (ds_ret (de_if (dt_cmp (o_gt hr.units) (de_blt b_len rfl T.b_len PySem.boot_len (da_cons (de_var (pv 0)) da_nil)) de_int (nomark _)) (de_bm PySem.F.plainAttrs_str PySem.F.slot_str_join PySem.F.type_str_join m_join de_str (da_cons (de_var (pv 0)) da_nil)) de_str)))
abbrev s__law_net_lines : Stmt := topS 60
theorem sc__law_net_lines : FnScope N__law_net_lines ["_law_rows", "_law_lanes"] (defScope s__law_net_lines) := ⟨rfl, rfl, rfl, by decide +kernel, rfl, by decide +kernel, by decide +kernel⟩
theorem w__law_net_lines (T : Txt mg) {sp__law_parts_word : DSp} (c__law_parts_word : DCal P w K mg base 1 "_law_parts_word" sp__law_parts_word) {f : Addr} (cdv : Value) (A : Around) (outer : List Env) (s : Shared) (H : Hp) (E : XK) (hr : Room 1 (A.deeper (envOfC "_law_net_lines" (defScope s__law_net_lines) s.heap.objs.size f cdv))) :
    DSs (cxOf CX0 P w K mg base N__law_net_lines "_law_net_lines" (defScope s__law_net_lines) f cdv A outer s H E).nox (defBody s__law_net_lines) (t__law_net_lines sp__law_parts_word) := by
  have sc := sc__law_net_lines
  exact (dss_cons (ds_set (i := 2) sc.nd rfl (by first | exact Or.inl rfl | exact Or.inr rfl) (de_lst da_nil))
    (dss_cons (ds_for PassesOwn.never rfl (di_seq (de_var (pv 0))) (dg_tup rfl (dgs_cons (dg_of (pg_name (i := 3) sc.nd rfl (by first | exact Or.inl rfl | exact Or.inr rfl))) (dgs_cons (dg_of (pg_name (i := 4) sc.nd rfl (by first | exact Or.inl rfl | exact Or.inr rfl))) (dgs_cons (dg_of (pg_name (i := 5) sc.nd rfl (by first | exact Or.inl rfl | exact Or.inr rfl))) (dgs_cons (dg_of (pg_name (i := 6) sc.nd rfl (by first | exact Or.inl rfl | exact Or.inr rfl))) dgs_nil)))))
    (dss_cons (ds_set (i := 7) sc.nd rfl (by first | exact Or.inl rfl | exact Or.inr rfl) (de_if (dt_val (de_blt b_isi rfl T.b_isinstance (by decide +kernel) (da_cons (de_var (pv 4)) (da_cons (de_c (pe_bltn (v := .ty "tuple") rfl T.b_tuple (by decide +kernel) rfl) fun _ _ => .ty) da_nil)))) (de_call c__law_parts_word hr (by decide) rfl (da_cons (de_var (pv 4)) da_nil)) (de_bty b_str rfl T.b_str (by decide +kernel) (da_cons (de_var (pv 4)) da_nil))))
    (dss_cons (ds_set (i := 8) sc.nd rfl (by first | exact Or.inl rfl | exact Or.inr rfl) (de_call c__law_parts_word hr (by decide) rfl (da_cons (de_lc (own := [("_law_one", 9), ("_law_other", 10)]) rfl sc.nd (di_seq (de_var (pv 5))) (blkOk_by (N := N__law_net_lines) (sc := defScope s__law_net_lines) (by decide +kernel)) (fun _ _ _ _ _ => (dgv_tup2 rfl (pg_name (i := 9) sc.nd rfl (by first | exact Or.inl rfl | exact Or.inr rfl)) (pg_name (i := 10) sc.nd rfl (by first | exact Or.inl rfl | exact Or.inr rfl)) (by decide) (by decide))) (fun _ _ _ _ _ => dts_nil) (fun _ _ _ _ _ => (de_op o_add (de_op o_add (de_bty b_str rfl T.b_str (by decide +kernel) (da_cons (de_var (pv 9)) da_nil)) de_str) (de_bty b_str rfl T.b_str (by decide +kernel) (da_cons (de_var (pv 10)) da_nil))))) da_nil)))
    (dss_one (ds_expr (de_bm PySem.F.plainAttrs_list PySem.F.slot_list_append PySem.F.type_list_append m_append (de_var (pv 2)) (da_cons (de_bm PySem.F.plainAttrs_str PySem.F.slot_str_join PySem.F.type_str_join m_join de_str (da_cons (de_lstF (da_cons de_str (da_cons (de_var (pv 3)) (da_cons (de_var (pv 7)) (da_cons (de_var (pv 8)) (da_cons (de_call c__law_parts_word hr (by decide) rfl (da_cons (de_var (pv 6)) da_nil)) da_nil)))))) da_nil)) da_nil)))))))
    (dss_cons (ds_for PassesOwn.never rfl (di_seq (de_var (pv 1))) (dg_tup rfl (dgs_cons (dg_of (pg_name (i := 9) sc.nd rfl (by first | exact Or.inl rfl | exact Or.inr rfl))) (dgs_cons (dg_of (pg_name (i := 10) sc.nd rfl (by first | exact Or.inl rfl | exact Or.inr rfl))) dgs_nil)))
    (dss_one (ds_expr (de_bm PySem.F.plainAttrs_list PySem.F.slot_list_append PySem.F.type_list_append m_append (de_var (pv 2)) (da_cons (de_bm PySem.F.plainAttrs_str PySem.F.slot_str_join PySem.F.type_str_join m_join de_str (da_cons (de_lstF (da_cons de_str (da_cons (de_ix ix_any (de_var (pv 9)) de_int) (da_cons (de_bty b_str rfl T.b_str (by decide +kernel) (da_cons (de_ix ix_any (de_var (pv 9)) de_int) da_nil)) (da_cons (de_ix ix_any (de_var (pv 10)) de_int) (da_cons (de_bty b_str rfl T.b_str (by decide +kernel) (da_cons (de_ix ix_any (de_var (pv 10)) de_int) da_nil)) da_nil)))))) da_nil)) da_nil)))))
    (dss_one (ds_ret (de_frz (de_var (pv 2))))))))
abbrev s__law_right : Stmt := topS 61
theorem sc__law_right : FnScope N__law_right53 ["_law_pot_here"] (defScope s__law_right) := ⟨rfl, rfl, rfl, by decide +kernel, rfl, by decide +kernel, by decide +kernel⟩
theorem w__law_right (T : Txt mg) {C : Addr} (cC : Cls K C) (N : Nts K C) (nC : NeC K C) {sp__law_free_town : DSp} (c__law_free_town : DCal P w K mg base 5 "_law_free_town" sp__law_free_town) {sp__law_net_lines : DSp} (c__law_net_lines : DCal P w K mg base 2 "_law_net_lines" sp__law_net_lines) {sp_show_town : DSp} (c_show_town : DCal P w K mg base 3 "show_town" sp_show_town) {sp_read_town : DSp} (c_read_town : DCal P w K mg base 10 "read_town" sp_read_town) {sp_Town_init : DSp} (k_Town_init : DMak P w K mg base 8 "Town" C sp_Town_init) {sp_Town_eq : DSp} (k_Town_eq : DOwn P w K mg base 1 C "__eq__" sp_Town_eq) {sp_Town_inv : DSp} (k_Town_inv : DOwn P w K mg base 11 C "__invert__" sp_Town_inv) {sp_Town_p_streets : DSp} (k_Town_p_streets : DPrp P w K mg base 1 C "streets" sp_Town_p_streets) {sp_Town_p_crossings : DSp} (k_Town_p_crossings : DPrp P w K mg base 1 C "crossings" sp_Town_p_crossings) (k_Town_eq : DOwn P w K mg base 1 C "__eq__" sp_Town_eq) {f : Addr} (cdv : Value) (A : Around) (outer : List Env) (s : Shared) (H : Hp) (E : XK) (fr : Free A) (hr : Room 12 (A.deeper (envOfC "_law_right" (defScope s__law_right) s.heap.objs.size f cdv))) :
    DSs (cxOf CX0 P w K mg base N__law_right53 "_law_right" (defScope s__law_right) f cdv A outer s H E).nox (defBody s__law_right) (t__law_right53 C sp__law_free_town sp__law_net_lines sp_show_town sp_read_town sp_Town_init sp_Town_eq sp_Town_inv sp_Town_p_streets sp_Town_p_crossings) := by
  have sc := sc__law_right
  exact (dss_cons (ds_set (i := 1) sc.nd rfl (by first | exact Or.inl rfl | exact Or.inr rfl) (de_call c__law_free_town hr (by decide) rfl (da_cons (de_var (pv 0)) (da_cons de_int (da_cons (de_lstF (da_cons de_int (da_cons de_int (da_cons de_int (da_cons de_int (da_cons de_int (da_cons de_int (da_cons de_int da_nil)))))))) da_nil)))))
    (dss_cons (ds_set (i := 2) sc.nd rfl (by first | exact Or.inl rfl | exact Or.inr rfl) (de_make k_Town_init hr (by decide) rfl (da_cons (de_ix ix_any (de_var (pv 1)) de_int) (da_cons (de_ix ix_any (de_var (pv 1)) de_int) da_nil))))
    (dss_cons (ds_set (i := 3) sc.nd rfl (by first | exact Or.inl rfl | exact Or.inr rfl) (de_bm PySem.F.plainAttrs_str PySem.F.slot_str_join PySem.F.type_str_join m_join de_str (da_cons (de_call c__law_net_lines hr (by decide) rfl (da_cons (de_ix ix_any (de_var (pv 1)) de_int) (da_cons (de_ix ix_any (de_var (pv 1)) de_int) da_nil))) da_nil)))
    (dss_cons (ds_if (PW.pt (dw_or (dt_cmp (o_ne hr.units) (de_blt (b_reprX fr (units65 hr)) rfl T.b_repr (by decide +kernel) (da_cons (de_call c_show_town hr (by decide) rfl (da_cons (de_var (pv 2)) da_nil)) da_nil)) (de_blt (b_reprX fr (units65 hr)) rfl T.b_repr (by decide +kernel) (da_cons (de_var (pv 3)) da_nil)) (nomark _)) (dw_or1 (dt_not (dt_cmp (o_eqO k_Town_eq hr (by decide)) (de_call c_read_town hr (by decide) rfl (da_cons (de_var (pv 3)) da_nil)) (de_var (pv 2)) (nomark _))))))
    (dss_one (ds_ret de_bl))
    dss_nil)
    (dss_cons (ds_set (i := 4) sc.nd rfl (by first | exact Or.inl rfl | exact Or.inr rfl) (de_un (un_own k_Town_inv hr (by decide)) (de_var (pv 2))))
    (dss_cons (ds_set (i := 5) sc.nd rfl (by first | exact Or.inl rfl | exact Or.inr rfl) (de_bm PySem.F.plainAttrs_str PySem.F.slot_str_join PySem.F.type_str_join m_join de_str (da_cons (de_call c__law_net_lines hr (by decide) rfl (da_cons (de_prop k_Town_p_crossings hr (by decide) (de_var (pv 4))) (da_cons (de_prop k_Town_p_streets hr (by decide) (de_var (pv 4))) da_nil))) da_nil)))
    (dss_cons (ds_set (i := 6) sc.nd rfl (by first | exact Or.inl rfl | exact Or.inr rfl) (de_call c_read_town hr (by decide) rfl (da_cons (de_var (pv 5)) da_nil)))
    (dss_cons (ds_if (PW.pt (dw_or (dt_cmp (o_ne hr.units) (de_blt (b_reprX fr (units65 hr)) rfl T.b_repr (by decide +kernel) (da_cons (de_call c_show_town hr (by decide) rfl (da_cons (de_var (pv 4)) da_nil)) da_nil)) (de_blt (b_reprX fr (units65 hr)) rfl T.b_repr (by decide +kernel) (da_cons (de_var (pv 5)) da_nil)) (nomark _)) (dw_or (dt_cmp (o_neO k_Town_eq nC hr (by decide)) (de_var (pv 6)) (de_var (pv 4)) (nomark _)) (dw_or1 (dt_cmp (o_ne hr.units) (de_blt (b_reprX fr (units65 hr)) rfl T.b_repr (by decide +kernel) (da_cons (de_call c_show_town hr (by decide) rfl (da_cons (de_un (un_own k_Town_inv hr (by decide)) (de_var (pv 6))) da_nil)) da_nil)) (de_blt (b_reprX fr (units65 hr)) rfl T.b_repr (by decide +kernel) (da_cons (de_var (pv 3)) da_nil)) (nomark _))))))
    (dss_one (ds_ret de_bl))
    dss_nil)
    (dss_one (ds_ret (de_cmp (o_eq hr.units) (de_blt (b_reprX fr (units65 hr)) rfl T.b_repr (by decide +kernel) (da_cons (de_tup (da_cons (de_prop k_Town_p_crossings hr (by decide) (de_call c_read_town hr (by decide) rfl (da_cons (de_var (pv 3)) da_nil))) (da_cons (de_prop k_Town_p_streets hr (by decide) (de_call c_read_town hr (by decide) rfl (da_cons (de_var (pv 3)) da_nil))) da_nil))) da_nil)) (de_blt (b_reprX fr (units65 hr)) rfl T.b_repr (by decide +kernel) (da_cons (de_var (pv 1)) da_nil)) (nomark _))))))))))))
abbrev s_law : Stmt := topS 62
theorem sc_law : FnScope N_law53 ["_law_script"] (defScope s_law) := ⟨rfl, rfl, rfl, by decide +kernel, rfl, by decide +kernel, by decide +kernel⟩
theorem w_law (T : Txt mg) {sp__law_cells : DSp} (c__law_cells : DCal P w K mg base 1 "_law_cells" sp__law_cells) {sp__law_pot : DSp} (c__law_pot : DCal P w K mg base 1 "_law_pot" sp__law_pot) {sp__law_right : DSp} (c__law_right : DCalG P w K mg base 13 "_law_right" sp__law_right) {f : Addr} (cdv : Value) (A : Around) (outer : List Env) (s : Shared) (H : Hp) (E : XK) (fr : Free A) (hr : Room 13 (A.deeper (envOfC "law" (defScope s_law) s.heap.objs.size f cdv))) :
    DSs (cxOf CX0 P w K mg base N_law53 "law" (defScope s_law) f cdv A outer s H E).nox (defBody s_law) (t_law53 sp__law_cells sp__law_pot sp__law_right) := by
  have sc := sc_law
  exact (dss_cons (ds_for PassesOwn.never rfl (di_seq (de_call c__law_cells hr (by decide) rfl (da_cons (de_var (pv 0)) (da_cons de_int da_nil)))) (dg_of (pg_name (i := 1) sc.nd rfl (by first | exact Or.inl rfl | exact Or.inr rfl)))
    (dss_cons (ds_set (i := 2) sc.nd rfl (by first | exact Or.inl rfl | exact Or.inr rfl) (de_call c__law_pot hr (by decide) rfl (da_cons (de_var (pv 0)) (da_cons (de_var (pv 1)) da_nil))))
    (dss_one (ds_if (dt_not (dt_val (de_blt (b_all rfl) rfl T.b_all (by decide +kernel) (da_cons (de_lc (own := [("_law_lap", 3)]) rfl sc.nd (di_rng1 rfl T.b_range (da_cons de_int da_nil)) (blkOk_by (N := N_law53) (sc := defScope s_law) (by decide +kernel)) (fun _ _ _ _ _ => (dgv_of (pg_name (i := 3) sc.nd rfl (by first | exact Or.inl rfl | exact Or.inr rfl)) (by decide))) (fun _ _ _ _ _ => dts_nil) (fun _ _ _ _ _ => (de_callG c__law_right fr hr (by decide) rfl (da_cons (de_var (pv 2)) da_nil)))) da_nil))))
    (dss_one (ds_ret de_bl))
    dss_nil))))
    (dss_one (ds_ret de_bl)))
end
/-! H1: from the law's own promise, where no repr is under way, to what the statement asks. -/
section
variable {P : Program} {w : World} {K : PySem.W.Frag} {mg mb : Str → Option Value} {s₁ : Shared} {a : Addr} {us : List Value} {ns : List Int}
/-- the script is all that may be told of -/
structure Lone (P : Program) (w : World) (K : PySem.W.Frag) (a : Addr) (ns : List Int) (hp : Heap) (H : Hp) : Prop where
  only : Only H
  seq : SqL K H a (ns.map V.int)
  hok : HOk P w H hp
  dom : ∀ c, H c ≠ none → c = a
  off : H a ≠ none → K.lookup a = none
theorem lone_env (L : Lone P w K a ns s₁.heap H) (kin : K.In s₁.heap) (gl : s₁.heap.Ns mainGlobals mg) (bu : s₁.heap.Ns builtinsNs mb) (boot : ∀ x : Str, x ≠ "__name__" → mb x = bootBuiltins x) (nol : s₁.heap.NoLimit) (gen : s₁.gens = #[])
    (at_ : s₁.heap.get? a = some { cls := .type "list", data := .seq us.toArray }) : Env0 P w K mg (hidT s₁.heap H) callerA [] s₁ H ∧ K.In (hidT s₁.heap H) ∧ (hidT s₁.heap H).Ns mainGlobals mg := by
  have away : ∀ {c : Addr} {ob : PySem.Obj}, s₁.heap.get? c = some ob → (∀ sq, ob.data ≠ .seq sq) → H c = none := fun {c ob} e n => by
    by_cases q : H c = none
    · exact q
    · have hc := L.dom c q
      rw [hc, at_] at e
      cases e
      exact absurd rfl (n _)
  have seen : ∀ {c : Addr} {ob : PySem.Obj}, s₁.heap.get? c = some ob → H c = none → (hidT s₁.heap H).get? c = some ob := fun e n => hidT_get e n
  have space : ∀ {c : Addr} {m : Str → Option Value}, s₁.heap.Ns c m → (hidT s₁.heap H).Ns c m := fun {c m} ⟨ob, es, ep, e, d, r⟩ => ⟨ob, es, ep, seen e (away e fun sq z => by rw [d] at z; cases z), d, r⟩
  have kin2 : K.In (hidT s₁.heap H) := fun c ob e => by
    refine seen (kin c ob e) ?_
    by_cases q : H c = none
    · exact q
    · have hc := L.dom c q
      rw [hc] at e q
      rw [L.off q] at e
      cases e
  obtain ⟨mc, nl1, nl2⟩ := nol
  have md : Mod K mg (hidT s₁.heap H) := ⟨kin2, space gl, ⟨mb, space bu, boot⟩, mc, space nl1, nl2⟩
  exact ⟨⟨rfl, md, fun c ob e => of_hidT e, Nat.le_of_eq (hidT_size _ _), trivial, fun c hc => absurd (show c ∈ ([] : List Addr) from hc) List.not_mem_nil, L.hok, .of_eq gen⟩, kin2, space gl⟩
theorem lone_any (kin : K.In s₁.heap) (at_ : s₁.heap.get? a = some { cls := .type "list", data := .seq us.toArray }) (hi : IntsAre us ns) (few : ns.length ≤ sizeLine) : ∃ H, Lone P w K a ns s₁.heap H := by
  have rv := vals_ints hi
  cases hk : K.lookup a with
  | some ob =>
    have e := (kin a ob hk).symm.trans at_
    cases e
    exact ⟨fun _ => none, fun _ => .inl rfl, .inr ⟨_, us.toArray, _, hk, rfl, rfl, rfl, by rw [List.size_toArray, hi.length]; exact few, by simpa using rv⟩, fun c u z => (by cases (show (none : Option HO) = some u from z)), fun c z => absurd rfl z, fun z => absurd rfl z⟩
  | none =>
    let one : Hp := fun c => if c = a then some (.frz { cls := .type "list", data := .seq us.toArray } (.lst (ns.map V.int))) else none
    have y : one a = some (.frz { cls := .type "list", data := .seq us.toArray } (.lst (ns.map V.int))) := if_pos rfl
    have n : ∀ c, c ≠ a → one c = none := fun c h => if_neg h
    refine ⟨one, fun c => ?_, .inl (.inr ⟨_, y⟩), fun c u z => ?_, fun c z => ?_, fun _ => hk⟩
    · by_cases h : c = a
      · subst h
        exact .inr ⟨_, _, y⟩
      · exact .inl (n c h)
    · by_cases h : c = a
      · subst h
        rw [y] at z
        cases z
        exact ⟨at_, by rw [List.length_map]; exact few, us, _, rv, at_⟩
      · rw [n c h] at z
        cases z
    · by_cases h : c = a
      · exact h
      · exact absurd (n c h) z
theorem law_runG {k : Nat} {fa : Addr} {fd : FuncData} {x : Str} {sp : Sp} (kin : K.In s₁.heap) (gl : s₁.heap.Ns mainGlobals mg) (bu : s₁.heap.Ns builtinsNs mb) (boot : ∀ x : Str, x ≠ "__name__" → mb x = bootBuiltins x) (nol : s₁.heap.NoLimit) (gen : s₁.gens = #[])
    (at_ : s₁.heap.get? a = some { cls := .type "list", data := .seq us.toArray }) (hi : IntsAre us ns) (few : ns.length ≤ sizeLine) (room : Room k callerA)
    (fn : ∀ base : Heap, K.In base → base.Ns mainGlobals mg → FnG P w K mg base k fa fd [x] sp) (bind : ∀ (s : Shared) (u : Value), BindsTo s fd ⟨[u], []⟩ [(x, u)])
    (hsp : ∀ H : Hp, Only H → SqL K H a (ns.map V.int) → sp [.ref a] H (fun v _ => v = .bl true) fun _ _ _ => False) :
    codeAny (model P w) callerA (.call (.ref fa) ⟨[.ref a], []⟩) (fun r s' => r = .ok (.ret (.bool true)) ∧ OldK s₁.heap s'.heap ∧ s'.os = s₁.os ∧ AllBare s'.gens) s₁ := by
  obtain ⟨H, L⟩ := lone_any (P := P) (w := w) kin at_ hi few
  obtain ⟨e0, k2, g2⟩ := lone_env L kin gl bu boot nol gen at_
  have got := (fn _ k2 g2).run callerA [] s₁ H ⟨[.ref a], []⟩ [.ref a] [.ref a] _ _ rfl room e0 (bind s₁ (.ref a)) (.cons rfl .nil) (hsp H L.only L.seq)
  refine codeAny_mono got fun r s' out => ?_
  match r, out with
  | .error e, out => exact False.elim out
  | .ok .next, out => exact False.elim out
  | .ok .brk, out => exact False.elim out
  | .ok .cont, out => exact False.elim out
  | .ok (.ret u), ⟨v, H', os, bare, un, hok', ru, q⟩ =>
    have q2 : v = .bl true := q
    subst q2
    have ru2 : u = Value.bool true := ru
    subst ru2
    refine ⟨rfl, OldK.of_keep fun c ob e => ?_, os, bare⟩
    by_cases hc : H c = none
    · exact un.keep c ob e hc (fun z => absurd (show c ∈ ([] : List Addr) from z) List.not_mem_nil) (by simp)
    · rcases L.only c with z | ⟨fo, xs, z⟩
      · exact absurd z hc
      · have z2 := un.frzs c fo _ z
        have f1 := (L.hok c _ z).1
        have f2 := (hok' c _ z2).1
        exact f2.trans (f1.symm.trans e)
end
/-- the goal of the law's head, where no repr is under way -/
theorem walk_G {l : PySem.W.OpenLaw} {n k : Nat} {q : Program} {loose : List Str} {XP : (Str → Option Value) → Heap → Prop} {YP : World → Heap → Prop} {d : DefRec} {K : Params → PySem.W.Frag} {sp : PySem.W.Frag → Sp} {x : Str}
    (most : l.most = some n) (small : n ≤ sizeLine) (nod : d.params.defaults = []) (room : Room k callerA) (kin : ∀ (w : World) (h : Heap), YP w h → (K w.params).In h)
    (fn : ∀ (w : World) (mg : Str → Option Value) (fa : Addr) (h : Heap), (K w.params).In h → h.Ns mainGlobals mg → mg d.name = some (.ref fa) →
      ∃ fd : FuncData, (∀ (s : Shared) (u : Value), BindsTo s fd ⟨[u], []⟩ [(x, u)]) ∧ ∀ base : Heap, (K w.params).In base → base.Ns mainGlobals mg → FnG l.prog w (K w.params) mg base k fa fd [x] (sp (K w.params)))
    (hsp : ∀ (K : PySem.W.Frag) (H : Hp) (a : Addr) (ns : List Int), ns.length ≤ n → Only H → SqL K H a (ns.map V.int) → sp K [.ref a] H (fun v _ => v = .bl true) fun _ _ _ => False) :
    PySem.W.WalkO q loose XP YP l.row.toRowW d [] (fun f vs => PySem.call f vs) := by
  refine Att.attach_call most nod fun w _ s mg mb fa _ _ _ _ a us ns G Y _ _ _ hm at_ hi few gen => ?_
  obtain ⟨fd, bi, f2⟩ := fn w mg fa _ (kin w _ Y) G.T.g hm
  exact law_runG (kin w _ Y) G.T.g G.T.b G.T.builtins G.T.nolimit gen at_ hi (Nat.le_trans few small) room f2 bi fun H o sq => hsp _ H a ns few o sq
/-- the pot of draws at p, b draws to come -/
def Pot (o : Nd × List D) (b : Nat) : Prop := ∃ x y n : Int, o = (.lst, [.int x, .int y, .int n]) ∧ 0 ≤ y ∧ y < 2 ^ 61 ∧ 0 ≤ n ∧ n + b ≤ 2 ^ 30
def sp__law_take : DSp := fun ds S Q => ∃ p o u b, ds = [.ref p, .int u] ∧ 0 < u ∧ u < 2 ^ 30 ∧ S p = some o ∧ Pot o (b + 1) ∧ ∀ r o', 0 ≤ r → r < u → Pot o' b → Q (.int r) (put S p o')
theorem bits_of {i : Int} {k : Nat} (h : i.natAbs < 2 ^ k) : Builtin.Int.intBits i ≤ k := by
  unfold Builtin.Int.intBits
  split
  · omega
  · rename_i h0
    have : i.natAbs.log2 < k := by
      have hn : i.natAbs ≠ 0 := by simpa using h0
      exact (Nat.log2_lt hn).mpr h
    omega
theorem mulx_nn {i j : Int} {a b : Nat} (h0 : 0 ≤ i) (h1 : i < 2 ^ a) (h2 : 0 ≤ j) (h3 : j < 2 ^ b) (h : a + b ≤ 134217728) : CMulX i j := by
  have e1 : i.natAbs < 2 ^ a := by
    have : ((i.natAbs : Nat) : Int) < ((2 ^ a : Nat) : Int) := by
      rw [Int.natAbs_of_nonneg h0]
      exact_mod_cast h1
    exact_mod_cast this
  have e2 : j.natAbs < 2 ^ b := by
    have : ((j.natAbs : Nat) : Int) < ((2 ^ b : Nat) : Int) := by
      rw [Int.natAbs_of_nonneg h2]
      exact_mod_cast h3
    exact_mod_cast this
  exact mulx_ok e1 e2 h
theorem mul_lt_pow {i j : Int} {a b : Nat} (h0 : 0 ≤ i) (h1 : i < 2 ^ a) (h2 : 0 ≤ j) (h3 : j < 2 ^ b) : 0 ≤ i * j ∧ i * j < 2 ^ (a + b) := by
  refine ⟨Int.mul_nonneg h0 h2, ?_⟩
  rw [Int.pow_add]
  have hb : (0 : Int) < 2 ^ b := Int.pow_pos (by decide)
  calc i * j ≤ i * 2 ^ b := Int.mul_le_mul_of_nonneg_left (Int.le_of_lt h3) h0
    _ < 2 ^ a * 2 ^ b := Int.mul_lt_mul_of_pos_right h1 hb
theorem prime_at {i : Int} (h0 : 0 ≤ i) (h5 : i < 5) : ∃ q : Int, L2.atI [D.int 2147483647, .int 2147483629, .int 2147483587, .int 2147483579, .int 2147483563] i = some (.int q) ∧ 0 < q ∧ q < 2 ^ 31 := by
  have : i = 0 ∨ i = 1 ∨ i = 2 ∨ i = 3 ∨ i = 4 := by omega
  rcases this with rfl | rfl | rfl | rfl | rfl <;> exact ⟨_, rfl, by decide, by decide⟩
theorem nat_lt {i : Int} {k : Nat} (h0 : 0 ≤ i) (h1 : i < 2 ^ k) : i.natAbs < 2 ^ k := by
  have : ((i.natAbs : Nat) : Int) < ((2 ^ k : Nat) : Int) := by
    rw [Int.natAbs_of_nonneg h0]
    exact_mod_cast h1
  exact_mod_cast this
theorem d__law_take (ds S Q) (h : sp__law_take ds S Q) : t__law_take (endsF Q) (startD N__law_take.length ds) S := by
  obtain ⟨p, o, u, b, rfl, hu, hu2, hp, ⟨x, y, n, rfl, hy0, hy1, hn0, hn1⟩, k⟩ := h
  unfold t__law_take
  have e0 : startD N__law_take.length [D.ref p, D.int u] = [some (.ref p), some (.int u), none, none, none] := rfl
  rw [e0]
  refine seq_g fun K hK => ifs_g fun T U hT hU => ?_
  k_with "ev" => simp only [hp]
  by_cases h0 : 0 < x
  · simp only [h0, decide_true, if_true]
    subst hT
    refine seq_g fun K1 hK1 => ?_
    k_with "ev" => simp only [hp]
    refine ⟨hu, ?_⟩
    subst hK1
    refine seq_g fun K1 hK1 => ?_
    k_with "ev" => simp only [hp]
    refine ⟨wide_div hu (b := 30) (by omega) (by decide) (by decide), ?_⟩
    subst hK1
    walk_at "ev"
    refine ⟨_, Less.refl, k _ _ (Int.emod_nonneg _ (by omega)) (Int.emod_lt_of_pos _ hu) ⟨_, y, n, rfl, hy0, hy1, hn0, by omega⟩⟩
  · simp only [h0, decide_false, Bool.false_eq_true, if_false]
    clear hT
    subst hU
    walk_at "ev"
    subst hK
    refine seq_g fun K1 hK1 => ?_
    k_with "ev" => simp only [hp]
    subst hK1
    refine seq_g fun K1 hK1 => ?_
    k_with "ev" => simp only [hp]
    refine ⟨by decide, by decide, ?_⟩
    obtain ⟨q, eq, hq0, hq1⟩ := prime_at (Int.emod_nonneg (n + 1) (by decide)) (Int.emod_lt_of_pos (n + 1) (by decide))
    k_with "ev" => simp only [eq]
    subst hK1
    refine seq_g fun K1 hK1 => ?_
    walk_at "ev"
    have hn2 : n + 1 < 2 ^ 31 := by omega
    obtain ⟨a0, a1⟩ := mul_lt_pow (i := 102647) (j := n + 1) (a := 17) (b := 31) (by decide) (by decide) (by omega) hn2
    obtain ⟨c0, c1⟩ := mul_lt_pow a0 a1 (by omega) hn2
    refine ⟨mulx_nn (a := 17) (b := 31) (by decide) (by decide) (by omega) hn2 (by decide), mulx_nn a0 a1 (by omega) hn2 (by decide), ?_⟩
    generalize 102647 * (n + 1) * (n + 1) = m2 at c0 c1 ⊢
    have hb1 : y + m2 + 31 < 2 ^ 80 := by
      have e : (2 : Int) ^ (17 + 31 + 31) = 604462909807314587353088 := by decide
      omega
    have hbits := bits_of (nat_lt (k := 80) (by omega) hb1)
    refine ⟨⟨by decide, by omega⟩, hq0, ?_⟩
    generalize (y + m2 + 31) ^ (3 : Int).toNat = z
    subst hK1
    refine seq_g fun K1 hK1 => ?_
    walk_at "ev"
    have hz0 := Int.emod_nonneg z (Int.ne_of_gt hq0)
    have hz1 := Int.emod_lt_of_pos z hq0
    generalize z % q = m at hz0 hz1 ⊢
    have hm1 := Int.emod_nonneg m (b := 10037) (by decide)
    have hm2 := Int.emod_lt_of_pos m (b := 10037) (by decide)
    refine ⟨by decide, mulx_nn (a := 7) (b := 31) (by decide) (by decide) (by omega) hn2 (by decide), mulx_nn (a := 31) (b := 40) hz0 (by omega) (by omega) (by omega) (by decide), by decide, ?_⟩
    subst hK1
    walk_at "ev"
    generalize m * (m % 10037 + 89 * (n + 1)) % 2305843009213693907 = m'
    refine ⟨wide_div (b := 7) (by decide) (by decide) (by decide) (by decide), hu, _, Less.refl, ?_⟩
    exact k _ _ (Int.emod_nonneg _ (by omega)) (Int.emod_lt_of_pos _ hu) ⟨x, y, n + 1, rfl, hy0, hy1, by omega, by omega⟩
/-! ### the drawing of towns: one def after the other -/
def sp__law_of : DSp := fun ds S Q => ∃ p o d src b, ds = [.ref p, d] ∧ itemsOf S d = some src ∧ d ≠ .ref p ∧ 0 < src.items.length ∧ src.items.length < 2 ^ 24 ∧ S p = some o ∧ Pot o (b + 1) ∧ ∀ r ∈ src.items, ∀ o', Pot o' b → Q r (put S p o')
theorem items_put2 {S : DHp} {d : D} {src : Src} {q : Addr} {o : Nd × List D} (hi : itemsOf S d = some src) (hq : d ≠ .ref q) : itemsOf (put S q o) d = some src := by
  unfold itemsOf at hi ⊢
  split at hi
  · exact hi
  · exact hi
  · exact hi
  · rename_i p
    have : p ≠ q := fun z => hq (by rw [z])
    simp only [put_ne this]
    exact hi
  · cases hi
theorem items_ix {S : DHp} {d : D} {src : Src} {i : Int} {x : D} {Q : DQ} (hi : itemsOf S d = some src) (hx : L2.atI src.items i = some x) (q : Q x S) : oIx d (.int i) S Q := by
  unfold oIx
  cases d with
  | str z => unfold itemsOf at hi; cases hi
  | _ => simp only [hi, hx]; exact q
theorem items_len {S : DHp} {d : D} {src : Src} {Q : DQ} (hi : itemsOf S d = some src) (q : Q (.int src.items.length) S) : bLen [d] S Q := by
  have hl : lenOf S d = some src.items.length := by
    cases d with
    | str z => unfold itemsOf at hi; cases hi
    | _ => unfold lenOf; simp only [hi, Option.map]
  unfold bLen
  simp only [hl]
  exact q
theorem at_lt {l : List D} {i : Int} (h0 : 0 ≤ i) (h1 : i < l.length) : ∃ d, L2.atI l i = some d ∧ d ∈ l := by
  have hl : i.toNat < l.length := by omega
  refine ⟨l[i.toNat], ?_, List.getElem_mem hl⟩
  rw [at_pos h0, List.getElem?_eq_getElem hl]
theorem d__law_of (ds S Q) (h : sp__law_of ds S Q) : t__law_of sp__law_take (endsF Q) (startD N__law_of.length ds) S := by
  obtain ⟨p, o, d, src, b, rfl, hi, hne, h0, h1, hp, po, k⟩ := h
  unfold t__law_of
  have e0 : startD N__law_of.length [D.ref p, d] = [some (.ref p), some d] := rfl
  rw [e0]
  walk_at "ev"
  refine items_len hi ?_
  refine ⟨p, o, src.items.length, b, rfl, by omega, by omega, hp, po, fun r o' hr0 hr1 po' => ?_⟩
  obtain ⟨x, e, m⟩ := at_lt hr0 hr1
  refine items_ix (items_put2 hi hne) e ?_
  exact ⟨_, Less.refl, k x m o' po'⟩
def twoD (a b : D) : D := if ltD a b = true then .tup [a, b] else .tup [b, a]
def sp__law_two : DSp := fun ds S Q => ∃ a b, ds = [a, b] ∧ alikeD a b = true ∧ isNon a = false ∧ dep a ≤ 64 ∧ Q (twoD a b) S
theorem cmp_e {f : Bool → Bool → Bool} {a b : D} {S : DHp} {Q : DQ} : oCmp f a b S Q = ((alikeD a b = true ∧ isNon a = false ∧ dep a ≤ 64) ∧ Q (.bl (f (ltD a b) (ltD b a))) S) := rfl
theorem d__law_two (ds S Q) (h : sp__law_two ds S Q) : t__law_two (endsF Q) (startD N__law_two.length ds) S := by
  obtain ⟨a, b, rfl, c1, c2, c3, q⟩ := h
  unfold t__law_two
  have e0 : startD N__law_two.length [a, b] = [some a, some b] := rfl
  rw [e0]
  walk_at "ev"
  refine ⟨⟨c1, c2, c3⟩, ?_⟩
  unfold twoD at q
  cases hlt : ltD a b with
  | true =>
    simp only [hlt, if_true] at q ⊢
    exact ⟨by simp only [List.length_cons, List.length_nil]; decide, _, Less.refl, q⟩
  | false =>
    simp only [hlt, Bool.false_eq_true, if_false] at q ⊢
    exact ⟨by simp only [List.length_cons, List.length_nil]; decide, _, Less.refl, q⟩
def sp__law_signs : DSp := fun ds S Q => ds = [] ∧ Q (.lst [.str "inn", .str "left", .str "bread", .str "q"]) S
theorem d__law_signs (ds S Q) (h : sp__law_signs ds S Q) : t__law_signs (endsF Q) (startD N__law_signs.length ds) S := by
  obtain ⟨rfl, q⟩ := h
  unfold t__law_signs
  walk_at "ev"
  exact ⟨by simp only [List.length_cons, List.length_nil]; decide, _, Less.refl, q⟩
def sp__law_cells : DSp := fun ds S Q => ∃ xs m, ds = [.nd .flst xs, .int m] ∧ 0 ≤ m ∧ m < 2 ^ 20 ∧ ∀ n : Nat, 0 < n → n ≤ max 1 m.toNat → n ≤ max 1 xs.length → Q (.lst (intsD 0 n)) S
theorem d__law_cells (ds S Q) (h : sp__law_cells ds S Q) : t__law_cells (endsF Q) (startD N__law_cells.length ds) S := by
  obtain ⟨xs, m, rfl, h0, h1, k⟩ := h
  unfold t__law_cells
  have e0 : startD N__law_cells.length [.nd .flst xs, .int m] = [some (.nd .flst xs), some (.int m)] := rfl
  rw [e0]
  unfold bMax bMin
  walk_at "ev"
  generalize hz : (if (if (xs.length : Int) < m then (xs.length : Int) else m) > 1 then if (xs.length : Int) < m then (xs.length : Int) else m else 1) = z
  have hz1 : 1 ≤ z ∧ z ≤ max 1 m ∧ z ≤ max 1 (xs.length : Int) := by
    rw [← hz]
    split <;> split <;> omega
  rw [Int.sub_zero]
  refine ⟨⟨by omega, by omega, by omega, by omega, by omega⟩, _, Less.refl, k z.toNat (by omega) (by omega) (by omega)⟩
theorem erase_perm {α : Type} : ∀ {l : List α} {i : Nat} (h : i < l.length), (l[i] :: l.eraseIdx i).Perm l
  | x :: l, 0, _ => List.Perm.refl _
  | x :: l, i + 1, h => (List.Perm.swap x _ _).trans ((erase_perm (l := l) (i := i) (by simpa using h)).cons x)
/-- what is not told of stays -/
def Off (S S' : DHp) (l : List Addr) : Prop := ∀ a, a ∉ l → S' a = S a
theorem Off.put {S S' : DHp} {l : List Addr} (h : Off S S' l) {p : Addr} {o : Nd × List D} (m : p ∈ l) : Off S (put S' p o) l := fun a n => by
  rw [put_ne (show a ≠ p from fun e => n (by rw [e]; exact m))]
  exact h a n
theorem Off.refl {S : DHp} {l : List Addr} : Off S S l := fun _ _ => rfl
theorem Off.more {S S' : DHp} {l l' : List Addr} (h : Off S S' l) (s : ∀ a ∈ l, a ∈ l') : Off S S' l' := fun a n => h a fun m => n (s a m)
theorem off_less {S S' : DHp} {p : Addr} {o : Nd × List D} {l : List Addr} (h : Off S S' (p :: l)) (hp : S' p = some o) (hn : ∀ a ∈ l, S a = none) : Less (put S p o) S' := fun a u e => by
  by_cases ea : a = p
  · subst ea
    rw [put_same] at e
    rw [hp, e]
  · rw [put_ne ea] at e
    have nm : a ∉ p :: l := fun m => by
      rcases List.mem_cons.mp m with m | m
      · exact ea m
      · rw [hn a m] at e; cases e
    rw [h a nm, e]
theorem less_era {S S' : DHp} {q : Addr} (h : Less S S') (hq : S q = none) : Less S (era S' q) := fun a u e => by
  have : a ≠ q := fun z => by subst z; rw [hq] at e; cases e
  rw [era_ne this]
  exact h a u e
def sp__law_some : DSp := fun ds S Q => ∃ p o pool m b, ds = [.ref p, .lst pool, .int m] ∧ 0 ≤ m ∧ m.toNat ≤ pool.length ∧ pool.length < 2 ^ 24 ∧ S p = some o ∧ Pot o (b + m.toNat) ∧
  ∀ found left, found.length = m.toNat → (found ++ left).Perm pool → ∀ o', Pot o' b → Q (.lst found) (put S p o')
theorem rng_e {ta : DTA} {ρ : DSt} {S : DHp} {R : Src → DHp → Prop} : dRng1 ta ρ S R = ta ρ S fun ds S1 => match ds with
  | [.int n] => -(2 ^ 62) ≤ n ∧ n < 2 ^ 62 ∧ R ⟨intsD 0 n.toNat, fun _ => True⟩ S1
  | _ => False := rfl
theorem seqI_e {te : DTE} {ρ : DSt} {S : DHp} {R : Src → DHp → Prop} : dSeqI te ρ S R = te ρ S fun d S1 => match itemsOf S1 d with
  | some src => R src S1
  | none => False := rfl
theorem for_e {ti : DTI} {g : DTG} {tb : DTS} {E : DEnds} {ρ : DSt} {S : DHp} : dFor ti g tb E ρ S = ti ρ S fun src S1 => forD src.live g tb E src.items ρ S1 := rfl
theorem d__law_some (ds S Q) (h : sp__law_some ds S Q) : t__law_some sp__law_take (endsF Q) (startD N__law_some.length ds) S := by
  obtain ⟨p, o, pool, m, b, rfl, h0, h1, h2, hp, po, k⟩ := h
  unfold t__law_some
  have e0 : startD N__law_some.length [.ref p, .lst pool, .int m] = [some (.ref p), some (.lst pool), some (.int m), none, none, none] := rfl
  rw [e0]
  refine seq_g fun K hK => ?_
  walk_at "ev"
  intro q hq
  refine ⟨Nat.zero_le _, fun r hr => ?_⟩
  have hqp : q ≠ p := fun z => by subst z; rw [hp] at hq; cases hq
  have hrq : r ≠ q := fun z => by subst z; rw [put_same] at hr; cases hr
  rw [put_ne hrq] at hr
  have hrp : r ≠ p := fun z => by subst z; rw [hp] at hr; cases hr
  subst hK
  refine seq_g fun K hK => ?_
  simp only [for_e, rng_e]
  walk_at "ev"
  refine ⟨by omega, by omega, ?_⟩
  refine forD_ind (fun l ρ S' => ∃ o' found left x, ρ = [some (.ref p), some (.lst pool), some (.int m), some (.ref q), some (.ref r), x] ∧ S' p = some o' ∧ S' q = some (.lst, left) ∧ S' r = some (.lst, found) ∧ Off S S' [p, q, r] ∧ Pot o' (b + l.length) ∧ (found ++ left).Perm pool ∧ found.length + l.length = m.toNat)
    (fun _ _ _ _ => trivial) (fun ρ S' h => ?_) (fun d l ρ S' h K2 hK2 => ?_) ?_
  · obtain ⟨o', found, left, x, rfl, ap, aq, ar, off, po', pm, ln⟩ := h
    subst hK
    walk_at "ev"
    refine frzv_i rfl ar ?_
    refine ⟨put S p o', less_era (off_less off ap (by simp [hq, hr])) (by rw [put_ne hrp]; exact hr), ?_⟩
    exact k found left (by simpa using ln) pm o' po'
  · obtain ⟨o', found, left, x, rfl, ap, aq, ar, off, po', pm, ln⟩ := h
    have hpl := pm.length_eq
    rw [List.length_append] at hpl
    simp only [List.length_cons] at ln po'
    k_with "ev" => simp only [ar, aq, ap, put_ne hqp.symm, put_ne hqp, put_ne hrp, put_ne hrp.symm, put_ne hrq, put_ne hrq.symm]
    refine ⟨p, o', left.length, b + l.length, rfl, by omega, by omega, ap, po', fun i o2 i0 i1 po2 => ?_⟩
    k_with "ev" => simp only [ar, aq, ap, put_ne hqp.symm, put_ne hqp, put_ne hrp, put_ne hrp.symm, put_ne hrq, put_ne hrq.symm]
    have hi : i.toNat < left.length := by omega
    refine ⟨⟨i0, by omega⟩, ?_⟩
    rw [List.getElem?_eq_getElem hi]
    k_with "ev" => simp only [ar, aq, ap, put_ne hqp.symm, put_ne hqp, put_ne hrp, put_ne hrp.symm, put_ne hrq, put_ne hrq.symm]
    refine ⟨by show found.length < 2 ^ 24; omega, ?_⟩
    refine hK2 _ _ ⟨o2, found ++ [left[i.toNat]], left.eraseIdx i.toNat, _, rfl, ?_, ?_, put_same, ((off.put (by simp)).put (by simp)).put (by simp), po2, ?_, by rw [List.length_append]; simp; omega⟩
    · rw [put_ne hrp.symm, put_ne hqp.symm, put_same]
    · rw [put_ne hrq.symm, put_same]
    · refine List.Perm.trans ?_ pm
      rw [List.append_assoc]
      refine List.Perm.append_left _ ?_
      exact erase_perm hi
  · refine ⟨o, [], pool, none, rfl, ?_, ?_, put_same, ?_, by rw [intsD_len]; exact po, List.Perm.refl _, by rw [intsD_len]; simp⟩
    · rw [put_ne hrp.symm, put_ne hqp.symm]; exact hp
    · rw [put_ne hrq.symm, put_same]
    · exact (Off.put (Off.put Off.refl (by simp)) (by simp))
def sp__law_pot : DSp := fun ds S Q => ∃ xs i, ds = [.nd .flst xs, .int i] ∧ (∀ d ∈ xs, ∃ c, d = D.int c) ∧ 0 ≤ i ∧ i < 2 ^ 20 ∧ ∀ p, S p = none → ∀ o, Pot o (2 ^ 30) → Q (.ref p) (put S p o)
theorem d__law_pot (ds S Q) (h : sp__law_pot ds S Q) : t__law_pot (endsF Q) (startD N__law_pot.length ds) S := by
  obtain ⟨xs, i, rfl, hx, h0, h1, k⟩ := h
  unfold t__law_pot
  have e0 : startD N__law_pot.length [.nd .flst xs, .int i] = [some (.nd .flst xs), some (.int i), none, none, none] := rfl
  rw [e0]
  refine seq_g fun K hK => ?_
  have main : ∀ c : Int, K [some (.nd .flst xs), some (.int i), some (.int c), none, none] S := by
    intro c
    subst hK
    refine seq_g fun K hK => ?_
    walk_at "ev"
    have e1 : (10 : Int) ^ (60 : Int).toNat = 10 ^ 60 := rfl
    have e2 : (10 : Int) ^ (18 : Int).toNat = 10 ^ 18 := rfl
    have e3 : (10 ^ 60 : Int) ^ (5 : Int).toNat = 10 ^ 300 := by decide
    have b1 : Builtin.Int.intBits 10 ≤ 4 := bits_of (by decide)
    have b2 : Builtin.Int.intBits (10 ^ 60) ≤ 200 := bits_of (by decide)
    rw [e1, e2, e3]
    generalize hu : (if c < 0 then -c else c) = u
    have hz0 := Int.emod_nonneg u (b := 10 ^ 300) (by decide)
    have hz1 := Int.emod_lt_of_pos u (b := 10 ^ 300) (by decide)
    generalize u % 10 ^ 300 = z at hz0 hz1
    have hv : ∃ v : Int, (if (!decide (u < 10 ^ 18)) = true then (1 : Int) else 0) = v ∧ 0 ≤ v ∧ v < 2 ^ 1 := by
      split
      · exact ⟨1, rfl, by decide, by decide⟩
      · exact ⟨0, rfl, by decide, by decide⟩
    obtain ⟨v, ev, hv0, hv1⟩ := hv
    rw [ev]
    have hz2 : z < 2 ^ 1000 := Int.lt_trans hz1 (by decide)
    refine ⟨⟨by decide, by omega⟩, ⟨by decide, by omega⟩, by decide, ⟨by decide, by omega⟩, mulx_nn hz0 hz2 hv0 hv1 (by decide), ?_⟩
    have hw : 0 ≤ z * v := Int.mul_nonneg hz0 hv0
    generalize z * v = w at hw
    subst hK
    refine seq_g fun K hK => ?_
    walk_at "ev"
    have hs0 := Int.emod_nonneg c (b := 2305843009213693951) (by decide)
    have hs1 := Int.emod_lt_of_pos c (b := 2305843009213693951) (by decide)
    refine ⟨by decide, ?_⟩
    generalize c % 2305843009213693951 = t at hs0 hs1
    subst hK
    walk_at "ev"
    obtain ⟨a0, a1⟩ := mul_lt_pow (i := 8209) (j := i) (a := 14) (b := 20) (by decide) (by decide) h0 h1
    refine ⟨mulx_nn (a := 61) (b := 16) hs0 (by omega) (by decide) (by decide) (by decide), mulx_nn (a := 14) (b := 20) (by decide) (by decide) h0 h1 (by decide), mulx_nn a0 a1 h0 h1 (by decide), by decide, ?_⟩
    refine ⟨by simp only [List.length_cons, List.length_nil]; decide, fun p hp => ⟨_, Less.refl, k p hp _ ⟨w, _, 0, rfl, Int.emod_nonneg _ (by decide), Int.lt_trans (Int.emod_lt_of_pos _ (by decide)) (by decide), by decide, by decide⟩⟩⟩
  walk_at "ev"
  by_cases hlt : i < xs.length
  · simp only [hlt, decide_true, if_true]
    obtain ⟨d, e, m⟩ := at_lt h0 hlt
    obtain ⟨c, rfl⟩ := hx d m
    simp only [e]
    exact main c
  · simp only [hlt, decide_false, Bool.false_eq_true, if_false]
    exact ⟨mulx_nn (a := 5) (b := 20) (by decide) (by decide) h0 h1 (by decide), main _⟩
/-- where x goes in an ascending list -/
def insD (x : D) : List D → List D
  | [] => [x]
  | y :: l => if ltD y x = true then y :: insD x l else if eqD y x = true then y :: l else x :: y :: l
def ordD (l : List D) : List D := l.foldl (fun acc x => insD x acc) []
theorem ins_at {x : D} : ∀ {l : List D} {n : Nat}, n ≤ l.length → (∀ j, j < n → ∃ y, l[j]? = some y ∧ ltD y x = true) → (∀ y, l[n]? = some y → ltD y x = false) →
    insD x l = match l[n]? with
      | some y => if eqD y x = true then l else l.take n ++ [x] ++ l.drop n
      | none => l.take n ++ [x] ++ l.drop n
  | [], 0, _, _, _ => rfl
  | [], n + 1, h, _, _ => absurd h (by simp)
  | y :: l, 0, _, _, h => by
    have hy := h y rfl
    unfold insD
    simp only [hy, Bool.false_eq_true, if_false, List.getElem?_cons_zero, List.take_zero, List.nil_append, List.drop_zero, List.cons_append]
  | y :: l, n + 1, hl, h1, h2 => by
    obtain ⟨y0, e0, hy⟩ := h1 0 (by omega)
    simp only [List.getElem?_cons_zero, Option.some.injEq] at e0
    subst e0
    have ih := ins_at (x := x) (l := l) (n := n) (by simpa using hl) (fun j hj => by simpa using h1 (j + 1) (by omega)) (fun z hz => h2 z (by simpa using hz))
    unfold insD
    simp only [hy, if_true, List.getElem?_cons_succ, List.take_succ_cons, List.drop_succ_cons, List.cons_append]
    rw [ih]
    cases l[n]? with
    | none => rfl
    | some z =>
      show (y :: if eqD z x = true then l else _) = if eqD z x = true then y :: l else _
      cases eqD z x <;> rfl
theorem ins_len {x : D} : ∀ {l : List D}, (insD x l).length ≤ l.length + 1
  | [] => Nat.le_refl _
  | y :: l => by
    unfold insD
    have := ins_len (x := x) (l := l)
    split
    · simp only [List.length_cons]; omega
    · split <;> simp
theorem ins_mem {x z : D} : ∀ {l : List D}, z ∈ insD x l → z = x ∨ z ∈ l
  | [], h => by simpa [insD] using h
  | y :: l, h => by
    unfold insD at h
    split at h
    · rcases List.mem_cons.mp h with h | h
      · exact .inr (by simp [h])
      · rcases ins_mem h with h | h
        · exact .inl h
        · exact .inr (by simp [h])
    · split at h
      · exact .inr h
      · rcases List.mem_cons.mp h with h | h
        · exact .inl h
        · exact .inr h
theorem live_off {S S' : DHp} {d : D} {src : Src} {l : List Addr} (h : itemsOf S d = some src) (off : Off S S' l) (hn : ∀ a ∈ l, S a = none) : src.live S' := by
  unfold itemsOf at h
  split at h
  · cases h; trivial
  · cases h; trivial
  · cases h; trivial
  · rename_i p
    split at h
    · rename_i ds hS
      cases h
      have : p ∉ l := fun m => by rw [hn p m] at hS; cases hS
      show S' p = _
      rw [off p this, hS]
    · cases h
  · cases h
/-- values that may be held against each other -/
def CmpL (l : List D) : Prop := ∀ x ∈ l, okD x = true ∧ isNon x = false ∧ dep x ≤ 64 ∧ ∀ y ∈ l, alikeD x y = true
def sp__law_ordered : DSp := fun ds S Q => ∃ d src, ds = [d] ∧ itemsOf S d = some src ∧ CmpL src.items ∧ src.items.length < 2 ^ 24 ∧ Q (.lst (ordD src.items)) S
theorem while_e {c : DTT} {tb : DTS} {E : DEnds} {ρ : DSt} {S : DHp} : dWhile c tb E ρ S = ∃ n, whileD c tb E n ρ S := rfl
theorem d__law_ordered (ds S Q) (h : sp__law_ordered ds S Q) : t__law_ordered (endsF Q) (startD N__law_ordered.length ds) S := by
  obtain ⟨d, src, rfl, hi, hc, hz, k⟩ := h
  unfold t__law_ordered
  have e0 : startD N__law_ordered.length [d] = [some d, none, none, none] := rfl
  rw [e0]
  refine seq_g fun K hK => ?_
  walk_at "ev"
  refine ⟨Nat.zero_le _, fun q hq => ?_⟩
  subst hK
  refine seq_g fun K hK => ?_
  simp only [for_e, seqI_e]
  walk_at "ev"
  have hi2 : itemsOf (put S q (Nd.lst, [])) d = some src := by
    unfold itemsOf at hi ⊢
    split at hi
    · exact hi
    · exact hi
    · exact hi
    · rename_i p
      split at hi
      · rename_i ds hS
        have : p ≠ q := fun z => by subst z; rw [hq] at hS; cases hS
        simp only [put_ne this, hS]
        exact hi
      · cases hi
    · cases hi
  simp only [hi2]
  refine forD_ind (fun l ρ S' => ∃ l1 x1 x2, src.items = l1 ++ l ∧ ρ = [some d, some (.ref q), x1, x2] ∧ S' = put S q (.lst, ordD l1))
    (fun l ρ S' h => ?_) (fun ρ S' h => ?_) (fun x l ρ S' h K2 hK2 => ?_) ⟨[], none, none, rfl, rfl, rfl⟩
  · obtain ⟨l1, x1, x2, e, rfl, rfl⟩ := h
    exact live_off (l := [q]) hi (Off.put Off.refl (by simp)) (by simp [hq])
  · obtain ⟨l1, x1, x2, e, rfl, rfl⟩ := h
    rw [List.append_nil] at e
    subst hK
    walk_at "ev"
    refine frzv_i rfl put_same ?_
    refine ⟨S, ?_, by rw [← e]; exact k⟩
    rw [era_put hq]
    exact Less.refl
  · obtain ⟨l1, x1, x2, e, rfl, rfl⟩ := h
    have hx : x ∈ src.items := by rw [e]; simp
    have hl1 : ∀ y ∈ ordD l1, y ∈ src.items := by
      have : ∀ (m : List D) (acc : List D), (∀ y ∈ acc, y ∈ src.items) → (∀ y ∈ m, y ∈ src.items) → ∀ y ∈ m.foldl (fun acc x => insD x acc) acc, y ∈ src.items := by
        intro m
        induction m with
        | nil => intro acc h _; exact h
        | cons a m ih => exact fun acc h h2 => ih _ (fun y hy => (ins_mem hy).elim (fun z => z ▸ h2 a (by simp)) (h y)) fun y hy => h2 y (by simp [hy])
      exact this l1 [] (by simp) (fun y hy => by rw [e]; simp [hy])
    have hlen : (ordD l1).length ≤ l1.length := by
      have : ∀ (m : List D) (acc : List D), (m.foldl (fun acc x => insD x acc) acc).length ≤ acc.length + m.length := by
        intro m
        induction m with
        | nil => intro acc; simp
        | cons a m ih =>
          intro acc
          have h1 := ih (insD a acc)
          have h2 := ins_len (x := a) (l := acc)
          simp only [List.foldl_cons, List.length_cons]
          omega
      have h3 := this l1 []
      rw [List.length_nil, Nat.zero_add] at h3
      exact h3
    have hl2 : src.items.length = l1.length + (l.length + 1) := by rw [e]; simp
    have eo : ordD (l1 ++ [x]) = insD x (ordD l1) := by unfold ordD; rw [List.foldl_append]; rfl
    generalize ordD l1 = f at hl1 hlen eo
    obtain ⟨c1, c2, c3, c4⟩ := hc x hx
    walk_at "ev"
    refine seq_g fun K3 hK3 => ?_
    walk_at "ev"
    subst hK3
    refine seq_g fun K3 hK3 => ?_
    refine while_ind (fun n ρ S' => ∃ m : Nat, ρ = [some d, some (.ref q), some x, some (.int m)] ∧ S' = put S q (.lst, f) ∧ m ≤ f.length ∧ n = f.length - m + 1 ∧ ∀ j, j < m → ∃ y, f[j]? = some y ∧ ltD y x = true)
      (fun ρ S' ⟨m, _, _, _, z, _⟩ => by omega) (fun n ρ S' h K4 hK4 => ?_) ⟨0, rfl, rfl, Nat.zero_le _, rfl, fun j h => absurd h (by omega)⟩
    obtain ⟨m, rfl, rfl, hm, hn, hlt⟩ := h
    have done : (∀ y, f[m]? = some y → ltD y x = false) → K3 [some d, some (.ref q), some x, some (.int m)] (put S q (.lst, f)) := by
      intro hd
      have ei := ins_at hm hlt hd
      subst hK3
      refine ifs_g fun T U hT hU => ?_
      walk_at "ev"
      by_cases he : m = f.length
      · have : ((m : Int) == (f.length : Int)) = true := by simp [he]
        simp only [this, if_true]
        subst hT
        walk_at "ev"
        refine ⟨⟨by show f.length < 2 ^ 24; omega, by omega, by omega⟩, ?_⟩
        refine hK2 _ _ ⟨l1 ++ [x], _, _, by rw [e]; simp, rfl, ?_⟩
        rw [eo, ei, List.getElem?_eq_none (by omega)]
        rfl
      · have : ((m : Int) == (f.length : Int)) = false := by simp; omega
        simp only [this, Bool.false_eq_true, if_false]
        have hmf : m < f.length := by omega
        rw [at_nat, List.getElem?_eq_getElem hmf]
        obtain ⟨d1, d2, d3, d4⟩ := hc f[m] (hl1 _ (List.getElem_mem hmf))
        walk_at "ev"
        refine ⟨.inr ⟨d1, c1, d3, c3⟩, ?_⟩
        rw [List.getElem?_eq_getElem hmf] at ei
        cases heq : eqD f[m] x with
        | true =>
          simp only [heq, if_true, Bool.not_true, Bool.false_eq_true, if_false] at ei ⊢
          subst hU
          walk_at "ev"
          exact hK2 _ _ ⟨l1 ++ [x], _, _, by rw [e]; simp, rfl, by rw [eo, ei]⟩
        | false =>
          simp only [heq, Bool.false_eq_true, if_false, Bool.not_false, if_true] at ei ⊢
          subst hT
          walk_at "ev"
          refine ⟨⟨by show f.length < 2 ^ 24; omega, by omega, by omega⟩, ?_⟩
          exact hK2 _ _ ⟨l1 ++ [x], _, _, by rw [e]; simp, rfl, by rw [eo, ei]; rfl⟩
    walk_at "ev"
    by_cases hmf : m < f.length
    · have : ((m : Int) < (f.length : Int)) := by omega
      simp only [this, decide_true, if_true]
      rw [at_nat, List.getElem?_eq_getElem hmf]
      obtain ⟨d1, d2, d3, d4⟩ := hc f[m] (hl1 _ (List.getElem_mem hmf))
      walk_at "ev"
      refine ⟨⟨d4 x hx, d2, d3⟩, ?_⟩
      cases hl : ltD f[m] x with
      | true =>
        simp only [if_true]
        refine hK4 _ _ ⟨m + 1, rfl, rfl, hmf, by omega, fun j hj => ?_⟩
        rcases Nat.lt_or_ge j m with h | h
        · exact hlt j h
        · have : j = m := by omega
          subst this
          exact ⟨_, List.getElem?_eq_getElem hmf, hl⟩
      | false =>
        simp only [Bool.false_eq_true, if_false]
        refine done fun y hy => ?_
        rw [List.getElem?_eq_getElem hmf] at hy
        cases hy
        exact hl
    · have : ¬ ((m : Int) < (f.length : Int)) := by omega
      simp only [this, decide_false, Bool.false_eq_true, if_false]
      exact done fun y hy => by rw [List.getElem?_eq_none (by omega)] at hy; cases hy
/-- a crossing's row: its name, its ends, what else -/
abbrev RowD := D × Nat × List D
def rowD (r : RowD) : D := .tup (r.1 :: .int r.2.1 :: r.2.2)
def stopsD (rows : List RowD) : List D := rows.flatMap fun r => (List.range r.2.1).map fun (e : Nat) => D.tup [r.1, .int (e : Int)]
theorem stops_add {a b : List RowD} : stopsD (a ++ b) = stopsD a ++ stopsD b := by
  unfold stopsD
  rw [List.flatMap_append]
def sp__law_each_stop : DSp := fun ds S Q => ∃ d more src rows, ds = [.tup (d :: more)] ∧ itemsOf S d = some src ∧ src.items = rows.map rowD ∧ (stopsD rows).length < 2 ^ 24 ∧ ∀ q, S q = none → Q (.ref q) (put S q (.lst, stopsD rows))
theorem at_0t {d : D} {r : List D} {S : DHp} {Q : DQ} : oIx (.nd .tup (d :: r)) (.int 0) S Q = Q d S := by
  rw [ix_t, at_0]
theorem at_1t {d e : D} {r : List D} {S : DHp} {Q : DQ} : oIx (.nd .tup (d :: e :: r)) (.int 1) S Q = Q e S := by
  rw [ix_t, at_1]
theorem ints_map {f : D → D} {n : Nat} : (intsD 0 n).map f = (List.range n).map fun (e : Nat) => f (.int (e : Int)) := by
  unfold intsD
  rw [List.map_map]
  refine List.map_congr_left fun a _ => ?_
  show f (.int (0 + (a : Int))) = _
  rw [Int.zero_add]
theorem items_put {S : DHp} {d : D} {src : Src} {q : Addr} {o : Nd × List D} (hi : itemsOf S d = some src) (hq : S q = none) : itemsOf (put S q o) d = some src := by
  unfold itemsOf at hi ⊢
  split at hi
  · exact hi
  · exact hi
  · exact hi
  · rename_i p
    split at hi
    · rename_i ds hS
      have : p ≠ q := fun z => by subst z; rw [hq] at hS; cases hS
      simp only [put_ne this, hS]
      exact hi
    · cases hi
  · cases hi
theorem d__law_each_stop (ds S Q) (h : sp__law_each_stop ds S Q) : t__law_each_stop (endsF Q) (startD N__law_each_stop.length ds) S := by
  obtain ⟨d, more, src, rows, rfl, hi, er, hz, k⟩ := h
  unfold t__law_each_stop
  have e0 : startD N__law_each_stop.length [.tup (d :: more)] = [some (.tup (d :: more)), none, none, none] := rfl
  rw [e0]
  refine seq_g fun K hK => ?_
  walk_at "ev"
  refine ⟨Nat.zero_le _, fun q hq => ?_⟩
  subst hK
  refine seq_g fun K hK => ?_
  simp only [for_e, seqI_e]
  k_with "ev" => simp only [at_0t]
  simp only [items_put hi hq, er]
  refine forD_ind (fun l ρ S' => ∃ r1 r2 x1 x2, rows = r1 ++ r2 ∧ l = r2.map rowD ∧ ρ = [some (.tup (d :: more)), some (.ref q), x1, x2] ∧ S' = put S q (.lst, stopsD r1))
    (fun l ρ S' h => ?_) (fun ρ S' h => ?_) (fun x l ρ S' h K2 hK2 => ?_) ⟨[], rows, none, none, rfl, rfl, rfl, rfl⟩
  · obtain ⟨r1, r2, x1, x2, e, rfl, rfl, rfl⟩ := h
    exact live_off (l := [q]) hi (Off.put Off.refl (by simp)) (by simp [hq])
  · obtain ⟨r1, r2, x1, x2, e, el, rfl, rfl⟩ := h
    have : r2 = [] := by cases r2 with
      | nil => rfl
      | cons _ _ => cases el
    subst this
    rw [List.append_nil] at e
    subst hK
    walk_at "ev"
    exact ⟨_, Less.refl, by rw [← e]; exact k q hq⟩
  · obtain ⟨r1, r2, x1, x2, e, el, rfl, rfl⟩ := h
    cases r2 with
    | nil => cases el
    | cons r r2 =>
      obtain ⟨nm, n, mo⟩ := r
      rw [List.map_cons] at el
      obtain ⟨rfl, rfl⟩ := List.cons.inj el
      have hs : (stopsD rows).length = (stopsD r1).length + (n + (stopsD r2).length) := by
        rw [e, stops_add, List.length_append]
        show _ + (((List.range n).map _) ++ stopsD r2).length = _
        rw [List.length_append, List.length_map, List.length_range]
      walk_at "ev"
      refine lc_map (fun z => .tup [nm, z]) (l := intsD 0 n) (live := fun _ => True) (fun R hR => ?_) (fun _ _ _ => trivial) (by rw [intsD_len]; show n ≤ 2 ^ 24; omega) (fun z hz S2 sub Y hY => ?_) ?_
      · rw [rng_e]
        unfold rowD
        k_with "ev" => simp only [at_1t]
        exact ⟨by omega, by omega, by rw [Int.toNat_natCast]; exact hR⟩
      · have ew : wipeD [some (D.tup (d :: more)), some (.ref q), some (rowD (nm, n, mo)), x2] [3] = [some (D.tup (d :: more)), some (.ref q), some (rowD (nm, n, mo)), none] := rfl
        rw [ew]
        unfold rowD
        k_with "ev" => simp only [at_0t]
        exact ⟨by simp only [List.length_cons, List.length_nil]; decide, hY⟩
      · walk_at "ev"
        refine ⟨by rw [List.length_map, intsD_len]; show _ ≤ 2 ^ 24; omega, ?_⟩
        refine hK2 _ _ ⟨r1 ++ [(nm, n, mo)], r2, _, _, by rw [e]; simp, rfl, rfl, ?_⟩
        rw [stops_add, ints_map]
        congr 3
        simp [stopsD]
theorem Pot.less {o : Nd × List D} {a b : Nat} (h : Pot o a) (l : b ≤ a) : Pot o b := by
  obtain ⟨x, y, n, e, h1, h2, h3, h4⟩ := h
  exact ⟨x, y, n, e, h1, h2, h3, by omega⟩
/-- a name: up to eight letters a to z -/
structure NameS (x : Str) : Prop where
  pos : 0 < x.cps.size
  most : x.cps.size ≤ 8
  abc : ∀ c ∈ x.cps.toList, 97 ≤ c ∧ c ≤ 122
instance (x : Str) : Decidable (0 < x.cps.size ∧ x.cps.size ≤ 8 ∧ ∀ c ∈ x.cps.toList, 97 ≤ c ∧ c ≤ 122) := inferInstance
theorem NameS.of {x : Str} (h : 0 < x.cps.size ∧ x.cps.size ≤ 8 ∧ ∀ c ∈ x.cps.toList, 97 ≤ c ∧ c ≤ 122) : NameS x := ⟨h.1, h.2.1, h.2.2⟩
abbrev abcS : Str := "abcdefghijklmnopqrstuvwxyz"
theorem abc_cps : abcS.cps.toList = (List.range 26).map (· + 97) := by decide +kernel
theorem abc_len : (signsD abcS).length = 26 := by
  unfold signsD
  rw [abc_cps]
  simp
theorem abc_mem {d : D} (h : d ∈ signsD abcS) : ∃ c, d = .str ⟨#[c]⟩ ∧ 97 ≤ c ∧ c ≤ 122 := by
  unfold signsD at h
  rw [abc_cps, List.map_map, List.mem_map] at h
  obtain ⟨c, hc, rfl⟩ := h
  have := List.mem_range.mp hc
  exact ⟨c + 97, rfl, by omega, by omega⟩
theorem one_name {c : Nat} (h0 : 97 ≤ c) (h1 : c ≤ 122) : NameS ⟨#[c]⟩ := ⟨by simp, by simp, fun x hx => by
  have : x = c := by simpa using hx
  subst this
  exact ⟨h0, h1⟩⟩
theorem glue_fold (glue : Str) (hg : glue.cps.toList = []) : ∀ (l : List Str) (a : Array Nat), (l.foldl (fun acc p => acc ++ glue.cps ++ p.cps) a).toList = a.toList ++ l.flatMap fun s => s.cps.toList
  | [], a => by simp
  | s :: l, a => by
    rw [List.foldl_cons, glue_fold glue hg l, List.flatMap_cons, Array.toList_append, Array.toList_append, hg, List.append_nil, List.append_assoc]
theorem join_cps {ss : List Str} : (Txt.join "" ss).cps.toList = ss.flatMap fun s => s.cps.toList := by
  have hg : ("" : Str).cps.toList = [] := by decide +kernel
  unfold Txt.join Builtin.Str.glued
  show (List.foldl (fun acc p => acc ++ ("" : Str).cps ++ p.cps) (ss.headD Str.empty).cps (ss.drop 1)).toList = _
  rw [glue_fold "" hg]
  cases ss with
  | nil => rfl
  | cons s ss => rfl
theorem join_name {ss : List Str} (h0 : 0 < ss.length) (h1 : ss.length ≤ 8) (h : ∀ s ∈ ss, ∃ c, s = ⟨#[c]⟩ ∧ 97 ≤ c ∧ c ≤ 122) : NameS (Txt.join "" ss) := by
  have hl : ∀ l : List Str, (∀ s ∈ l, ∃ c, s = (⟨#[c]⟩ : Str) ∧ 97 ≤ c ∧ c ≤ 122) → (l.flatMap fun s => s.cps.toList).length = l.length := by
    intro l
    induction l with
    | nil => intro _; rfl
    | cons s l ih =>
      intro h
      obtain ⟨c, rfl, _⟩ := h s (by simp)
      rw [List.flatMap_cons, List.length_append, ih fun s hs => h s (by simp [hs])]
      show 1 + l.length = l.length + 1
      omega
  have hs : (Txt.join "" ss).cps.size = ss.length := by
    rw [← Array.length_toList, join_cps, hl ss h]
  refine ⟨by omega, by omega, fun c hc => ?_⟩
  rw [join_cps, List.mem_flatMap] at hc
  obtain ⟨s, m, hc⟩ := hc
  obtain ⟨x, rfl, x0, x1⟩ := h s m
  have : c = x := by simpa using hc
  subst this
  exact ⟨x0, x1⟩
theorem strs_map : ∀ {ss : List Str}, D.strs (ss.map .str) = some ss
  | [] => rfl
  | s :: ss => by
    rw [List.map_cons, D.strs, strs_map]
    rfl
theorem lc_e {ti : DTI} {g : DTG} {tt : DTT} {te : DTE} {vs : List Nat} {ρ : DSt} {S : DHp} {Q : DQ} : dLc ti g tt te vs ρ S Q = ti ρ S fun src S1 => ∀ q, S1 q = none → compD q src.live g tt te (wipeD ρ vs) (fun acc S' => Q (.lst acc) (era S' q)) src.items [] (put S1 q (.lst, [])) := rfl
theorem yes_e {ρ : DSt} {S : DHp} {F : Bool → DHp → Prop} : dYes ρ S F = F true S := rfl
theorem join_l {x : Str} {as : List D} {S : DHp} {Q : DQ} : mJoin (.str x) [.nd .lst as] S Q = match D.strs as with
  | some ys => (ys.map (·.length)).sum + ys.length * x.length ≤ 16777216 ∧ Q (.str (Txt.join x ys)) S
  | none => False := rfl
theorem sum_ones {ss : List Str} (h : ∀ s ∈ ss, ∃ c, s = (⟨#[c]⟩ : Str) ∧ 97 ≤ c ∧ c ≤ 122) : (ss.map (·.length)).sum = ss.length := by
  induction ss with
  | nil => rfl
  | cons s ss ih =>
    obtain ⟨c, rfl, _⟩ := h s (by simp)
    rw [List.map_cons, List.sum_cons, ih fun s hs => h s (by simp [hs])]
    show 1 + ss.length = ss.length + 1
    omega
def sp__law_a_name : DSp := fun ds S Q => ∃ p o b, ds = [.ref p] ∧ S p = some o ∧ Pot o (b + 10) ∧ ∀ x, NameS x → ∀ o', Pot o' b → Q (.str x) (put S p o')
theorem menu_name : ∀ x ∈ ([.str "bridge", .str "orders", .str "street", .str "step", .str "start", .str "crossing", .str "go", .str "only", .str "zzzzzzzz", .str "aa"] : List D), ∃ s, x = .str s ∧ NameS s := by
  intro x hx
  simp only [List.mem_cons, List.not_mem_nil, or_false] at hx
  rcases hx with rfl | rfl | rfl | rfl | rfl | rfl | rfl | rfl | rfl | rfl <;> exact ⟨_, rfl, NameS.of (by decide +kernel)⟩
theorem d__law_a_name (ds S Q) (h : sp__law_a_name ds S Q) : t__law_a_name sp__law_take sp__law_of (endsF Q) (startD N__law_a_name.length ds) S := by
  obtain ⟨p, o, b, rfl, hp, po, k⟩ := h
  unfold t__law_a_name
  have e0 : startD N__law_a_name.length [.ref p] = [some (.ref p), none, none, none] := rfl
  rw [e0]
  refine seq_g fun K hK => ?_
  walk_at "ev"
  refine ⟨p, o, 4, b + 9, rfl, by decide, by decide, hp, po.less (by omega), fun r o1 r0 r1 po1 => ?_⟩
  subst hK
  refine seq_g fun K hK => ifs_g fun T U hT hU => ?_
  walk_at "ev"
  have hab : ∃ xs, xs = signsD abcS := ⟨_, rfl⟩
  obtain ⟨xs, exs⟩ := hab
  by_cases h2 : r < 2
  · simp only [h2, decide_true, if_true]
    subst hT
    walk_at "ev"
    refine ⟨by decide +kernel, p, o1, .lst (signsD abcS), ⟨signsD abcS, fun _ => True⟩, b, rfl, rfl, nofun, by show 0 < (signsD abcS).length; rw [abc_len]; decide, by show (signsD abcS).length < _; rw [abc_len]; decide, put_same, po1.less (by omega), fun d hd o2 po2 => ?_⟩
    obtain ⟨c, rfl, c0, c1⟩ := abc_mem hd
    rw [put_put]
    exact ⟨_, Less.refl, k _ (one_name c0 c1) o2 po2⟩
  simp only [h2, decide_false, Bool.false_eq_true, if_false]
  subst hU
  walk_at "ev"
  subst hK
  refine seq_g fun K hK => ifs_g fun T U hT hU => ?_
  walk_at "ev"
  by_cases h3 : r = 2
  · have : (r == 2) = true := by simp [h3]
    simp only [this, Bool.false_eq_true, if_false, if_true]
    subst hT
    walk_at "ev"
    refine ⟨by simp only [List.length_cons, List.length_nil]; decide, p, o1, .lst _, ⟨_, fun _ => True⟩, b, rfl, rfl, nofun, by simp, by simp, put_same, po1.less (by omega), fun d hd o2 po2 => ?_⟩
    obtain ⟨s, rfl, hs⟩ := menu_name d hd
    rw [put_put]
    exact ⟨_, Less.refl, k _ hs o2 po2⟩
  have : (r == 2) = false := by simp [h3]
  simp only [this, Bool.false_eq_true, if_false]
  subst hU
  walk_at "ev"
  subst hK
  refine seq_g fun K hK => ?_
  walk_at "ev"
  refine ⟨p, o1, 7, b + 8, rfl, by decide, by decide, put_same, po1.less (by omega), fun r2 o2 r20 r21 po2 => ?_⟩
  walk_at "ev"
  subst hK
  walk_at "ev"
  simp only [lc_e, rng_e]
  walk_at "ev"
  refine ⟨by omega, by omega, fun q hq => ?_⟩
  have hqp : q ≠ p := fun z => by subst z; simp only [put_same] at hq; cases hq
  have hq0 : S q = none := by simpa only [put_ne hqp] using hq
  have ew : wipeD [some (D.ref p), some (.int r), some (.int (2 + r2)), none] [3] = [some (D.ref p), some (.int r), some (.int (2 + r2)), none] := rfl
  rw [ew]
  refine compD_ind (fun l acc S' => ∃ (o' : Nd × List D) (ss : List Str), acc = ss.map D.str ∧ (∀ s ∈ ss, ∃ c, s = (⟨#[c]⟩ : Str) ∧ 97 ≤ c ∧ c ≤ 122) ∧ ss.length + l.length = (2 + r2).toNat ∧ S' p = some o' ∧ S' q = some (.lst, acc) ∧ Off S S' [p, q] ∧ Pot o' (b + l.length))
    (fun _ _ _ _ => trivial) (fun acc S' h => ?_) (fun d l acc S' h K2 hK2 => ?_) ?_
  · obtain ⟨o', ss, rfl, hss, ln, ap, aq, off, po'⟩ := h
    refine ⟨aq, ?_⟩
    rw [List.length_nil, Nat.add_zero] at ln
    rw [join_l, strs_map]
    refine ⟨?_, put S p o', less_era (off_less off ap (by simp [hq0])) (by rw [put_ne hqp]; exact hq0), k _ (join_name (by omega) (by omega) hss) o' po'⟩
    have : ("" : Str).length = 0 := by decide +kernel
    rw [this, Nat.mul_zero, sum_ones hss]
    omega
  · obtain ⟨o', ss, rfl, hss, ln, ap, aq, off, po'⟩ := h
    simp only [yes_e, if_true]
    walk_at "ev"
    rw [List.length_cons] at ln po'
    refine ⟨by decide +kernel, p, o', .lst (signsD abcS), ⟨signsD abcS, fun _ => True⟩, b + l.length, rfl, rfl, nofun, by show 0 < (signsD abcS).length; rw [abc_len]; decide, by show (signsD abcS).length < _; rw [abc_len]; decide, ap, po', fun d2 hd o3 po3 => ?_⟩
    obtain ⟨c, rfl, c0, c1⟩ := abc_mem hd
    refine ⟨by rw [put_ne hqp]; exact aq, by rw [List.length_map]; show ss.length < 2 ^ 24; omega, ?_⟩
    refine hK2 _ _ ⟨o3, ss ++ [⟨#[c]⟩], by rw [List.map_append]; rfl, fun s hs => ?_, by rw [List.length_append, List.length_cons, List.length_nil]; omega, by rw [put_ne hqp.symm, put_same], put_same, (off.put (by simp)).put (by simp), po3⟩
    rcases List.mem_append.mp hs with hs | hs
    · exact hss s hs
    · exact ⟨c, by simpa using hs, c0, c1⟩
  · refine ⟨o2, [], rfl, by simp, by rw [intsD_len]; simp, by rw [put_ne hqp.symm, put_same], put_same, (Off.put (Off.put Off.refl (by simp)) (by simp)), ?_⟩
    refine po2.less ?_
    rw [intsD_len]
    omega
theorem name_ok {x : Str} (h : NameS x) : PyData.strOk x = true := by
  unfold PyData.strOk
  rw [Array.all_eq_true_iff_forall_mem]
  intro c hc
  have := h.abc c (by simpa using hc)
  simp only [decide_eq_true_eq]
  omega
theorem dep_str {x : Str} : dep (.str x) = 0 := by
  rw [dep]
  intro k ds h
  cases h
theorem dep_int {i : Int} : dep (.int i) = 0 := by
  rw [dep]
  intro k ds h
  cases h
theorem names_ok {ns : List Str} (h : ∀ x ∈ ns, NameS x) : okL (ns.map D.str) = true ∧ depL (ns.map D.str) = 0 := by
  induction ns with
  | nil => exact ⟨by rw [List.map_nil, okL], by rw [List.map_nil, depL]⟩
  | cons x ns ih =>
    obtain ⟨h1, h2⟩ := ih fun y hy => h y (by simp [hy])
    refine ⟨?_, ?_⟩
    · rw [List.map_cons, okL, okD, name_ok (h x (by simp)), h1]
      rfl
    · rw [List.map_cons, depL, dep_str, h2]
      rfl
theorem any_str {x : Str} {ns : List Str} : ((ns.map D.str).any fun z => eqD z (.str x)) = decide (x ∈ ns) := by
  induction ns with
  | nil => rfl
  | cons y ns ih =>
    rw [List.map_cons, List.any_cons, ih, eqD]
    by_cases h : y = x
    · subst h; simp
    · have h2 : x ≠ y := fun z => h z.symm
      simp [h, h2]
theorem in_names {n : Bool} {x : Str} {q : Addr} {ns : List Str} {S : DHp} {Q : DQ} (hq : S q = some (.lst, ns.map D.str)) (hx : NameS x) (hn : ∀ y ∈ ns, NameS y) (h : Q (.bl (if n then !decide (x ∈ ns) else decide (x ∈ ns))) S) : oIn n (.str x) (.ref q) S Q := by
  unfold oIn dictOf itemsOf
  simp only [hq]
  rw [any_str]
  obtain ⟨h1, h2⟩ := names_ok hn
  exact ⟨⟨by rw [okD]; exact name_ok hx, h1, by rw [dep_str]; omega, by omega⟩, h⟩
theorem len_le {α : Type} [DecidableEq α] : ∀ {l m : List α}, l.Nodup → (∀ x ∈ l, x ∈ m) → l.length ≤ m.length
  | [], _, _, _ => Nat.zero_le _
  | x :: l, m, hn, hs => by
    have hx := hs x (by simp)
    rw [List.nodup_cons] at hn
    have := len_le (l := l) (m := m.erase x) hn.2 fun y hy => by
      have : y ≠ x := fun z => hn.1 (z ▸ hy)
      exact (List.mem_erase_of_ne this).mpr (hs y (by simp [hy]))
    rw [List.length_erase_of_mem hx] at this
    have h0 : 0 < m.length := List.length_pos_of_mem hx
    rw [List.length_cons]
    omega
def abcL : List Str := (List.range 26).map fun c => ⟨#[c + 97]⟩
theorem abc_signs : signsD abcS = abcL.map D.str := by
  unfold signsD abcL
  rw [abc_cps, List.map_map, List.map_map]
  rfl
theorem abcL_nodup : abcL.Nodup := by decide +kernel
theorem abcL_name {x : Str} (h : x ∈ abcL) : NameS x := by
  unfold abcL at h
  obtain ⟨c, hc, rfl⟩ := List.mem_map.mp h
  have := List.mem_range.mp hc
  exact one_name (by omega) (by omega)
/-- letters that are not among the names -/
theorem abc_free {ns : List Str} (h : ns.length < 26) : ∃ x r, (abcL.filter fun y => decide (y ∉ ns)) = x :: r ∧ x ∈ abcL ∧ x ∉ ns := by
  cases e : abcL.filter fun y => decide (y ∉ ns) with
  | nil =>
    exfalso
    have : ∀ x ∈ abcL, x ∈ ns := fun x hx => by
      by_cases hn : x ∈ ns
      · exact hn
      · have : x ∈ abcL.filter fun y => decide (y ∉ ns) := List.mem_filter.mpr ⟨hx, by simpa using hn⟩
        rw [e] at this
        cases this
    have := len_le abcL_nodup this
    have h2 : abcL.length = 26 := by decide
    omega
  | cons x r =>
    have : x ∈ abcL.filter fun y => decide (y ∉ ns) := by rw [e]; simp
    obtain ⟨h1, h2⟩ := List.mem_filter.mp this
    exact ⟨x, r, rfl, h1, by simpa using h2⟩
theorem filter_map {ns : List Str} (f : D → Option D) (hf : ∀ x ∈ abcL, f (.str x) = if x ∈ ns then none else some (.str x)) : (abcL.map D.str).filterMap f = (abcL.filter fun y => decide (y ∉ ns)).map D.str := by
  have : ∀ l : List Str, (∀ x ∈ l, f (.str x) = if x ∈ ns then none else some (.str x)) → (l.map D.str).filterMap f = (l.filter fun y => decide (y ∉ ns)).map D.str := by
    intro l
    induction l with
    | nil => intro _; rfl
    | cons x l ih =>
      intro h
      have hx := h x (by simp)
      have ih := ih fun y hy => h y (by simp [hy])
      rw [List.map_cons, List.filterMap_cons, hx, ih, List.filter_cons]
      by_cases hn : x ∈ ns <;> simp [hn]
  exact this abcL hf
def sp__law_many_names : DSp := fun ds S Q => ∃ p o m b, ds = [.ref p, .int m] ∧ 0 ≤ m ∧ m < 26 ∧ S p = some o ∧ Pot o (b + 10 * m.toNat) ∧
  ∀ ns : List Str, ns.length = m.toNat → (∀ x ∈ ns, NameS x) → ns.Nodup → ∀ o', Pot o' b → Q (.lst (ns.map D.str)) (put S p o')
theorem d__law_many_names (ds S Q) (h : sp__law_many_names ds S Q) : t__law_many_names sp__law_a_name (endsF Q) (startD N__law_many_names.length ds) S := by
  obtain ⟨p, o, m, b, rfl, h0, h1, hp, po, k⟩ := h
  unfold t__law_many_names
  have e0 : startD N__law_many_names.length [.ref p, .int m] = [some (.ref p), some (.int m), none, none, none, none] := rfl
  rw [e0]
  refine seq_g fun K hK => ?_
  walk_at "ev"
  refine ⟨Nat.zero_le _, fun q hq => ?_⟩
  have hqp : q ≠ p := fun z => by subst z; rw [hp] at hq; cases hq
  subst hK
  refine seq_g fun K hK => ?_
  simp only [for_e, rng_e]
  walk_at "ev"
  refine ⟨by omega, by omega, ?_⟩
  refine forD_ind (fun l ρ S' => ∃ (o' : Nd × List D) (ns : List Str) (x1 x2 x3 : Option D), ρ = [some (.ref p), some (.int m), some (.ref q), x1, x2, x3] ∧ S' p = some o' ∧ S' q = some (.lst, ns.map D.str) ∧ Off S S' [p, q] ∧ Pot o' (b + 10 * l.length) ∧ ns.length + l.length = m.toNat ∧ (∀ x ∈ ns, NameS x) ∧ ns.Nodup)
    (fun _ _ _ _ => trivial) (fun ρ S' h => ?_) (fun d l ρ S' h K2 hK2 => ?_) ?_
  · obtain ⟨o', ns, x1, x2, x3, rfl, ap, aq, off, po', ln, hn, nd⟩ := h
    subst hK
    walk_at "ev"
    refine frzv_i rfl aq ?_
    exact ⟨put S p o', less_era (off_less off ap (by simp [hq])) (by rw [put_ne hqp]; exact hq), k ns (by simpa using ln) hn nd o' po'⟩
  · obtain ⟨o', ns, x1, x2, x3, rfl, ap, aq, off, po', ln, hn, nd⟩ := h
    rw [List.length_cons] at ln po'
    walk_at "ev"
    refine seq_g fun K3 hK3 => ?_
    walk_at "ev"
    refine ⟨p, o', b + 10 * l.length, rfl, ap, po'.less (by omega), fun x hx o3 po3 => ?_⟩
    have aq3 : put S' p o3 q = some (.lst, ns.map D.str) := by rw [put_ne hqp]; exact aq
    have fin : ∀ y x3, NameS y → y ∉ ns → dDrop (dBm "list" mAppend (dVar 2) (dCons (dVar 4) dNil)) { nx := K2, rt := (endsF Q).rt, bk := (endsF Q).bk, ct := K2 } [some (D.ref p), some (.int m), some (.ref q), some d, some (.str y), x3] (put S' p o3) := by
      intro y x3 hy hyn
      k_with "ev" => simp only [aq3]
      refine ⟨by rw [List.length_map]; show ns.length < 2 ^ 24; omega, ?_⟩
      refine hK2 _ _ ⟨o3, ns ++ [y], _, _, _, rfl, by rw [put_ne hqp.symm, put_same], ?_, (off.put (by simp)).put (by simp), po3, by rw [List.length_append, List.length_cons, List.length_nil]; omega, fun z hz => ?_, ?_⟩
      · rw [put_same, List.map_append]
        rfl
      · rcases List.mem_append.mp hz with hz | hz
        · exact hn z hz
        · have : z = y := by simpa using hz
          exact this ▸ hy
      · rw [List.nodup_append]
        refine ⟨nd, by simp, fun a ha c hc => ?_⟩
        have : c = y := by simpa using hc
        subst this
        exact fun z => hyn (z ▸ ha)
    subst hK3
    refine seq_g fun K3 hK3 => ifs_g fun T U hT hU => ?_
    walk_at "ev"
    refine in_names aq3 hx hn ?_
    by_cases hm : x ∈ ns
    · simp only [hm, decide_true, Bool.false_eq_true, if_false, if_true]
      subst hT
      walk_at "ev"
      refine lc_pure (fun z => match z with
        | .str y => if y ∈ ns then none else some (.str y)
        | _ => none) (l := abcL.map D.str) (live := fun _ => True) (fun R hR => ?_) (fun _ _ _ => trivial) (by rw [List.length_map]; decide) (fun z hz S2 sub Y N hY => ?_) ?_
      · rw [seqI_e]
        walk_at "ev"
        refine ⟨by decide +kernel, ?_⟩
        rw [abc_signs]
        exact hR
      · obtain ⟨y, hy, rfl⟩ := List.mem_map.mp hz
        have ew : wipeD [some (D.ref p), some (.int m), some (.ref q), some d, some (.str x), x3] [5] = [some (D.ref p), some (.int m), some (.ref q), some d, some (.str x), none] := rfl
        rw [ew]
        walk_at "ev"
        refine in_names (sub q _ aq3) (abcL_name hy) hn ?_
        by_cases hyn : y ∈ ns
        · simp only [hyn, decide_true, if_true, Bool.not_true, Bool.false_eq_true, if_false] at hY ⊢
          exact hY
        · simp only [hyn, decide_false, if_true, Bool.not_false, if_false] at hY ⊢
          exact hY
      · rw [filter_map (ns := ns) _ fun y _ => rfl]
        obtain ⟨y, r, e, hy, hyn⟩ := abc_free (ns := ns) (by omega)
        rw [e, List.map_cons]
        walk_at "ev"
        subst hK3
        exact fin y _ (abcL_name hy) hyn
    · simp only [hm, decide_false, Bool.false_eq_true, if_false]
      subst hU
      walk_at "ev"
      subst hK3
      exact fin x _ hx hm
  · refine ⟨o, [], none, none, none, rfl, by rw [put_ne hqp.symm]; exact hp, put_same, Off.put Off.refl (by simp), ?_, by rw [intsD_len]; simp, by simp, List.nodup_nil⟩
    rw [intsD_len]
    exact po
/-! ### values that stand for things with an order -/
structure Emb {κ : Type} (P : κ → Prop) (f : κ → D) (lt : κ → κ → Bool) : Prop where
  lt_ : ∀ {a b}, P a → P b → ltD (f a) (f b) = lt a b
  eq_ : ∀ {a b}, P a → P b → (eqD (f a) (f b) = true ↔ a = b)
  irr : ∀ {a}, P a → lt a a = false
  tr : ∀ {a b c}, P a → P b → P c → lt a b = true → lt b c = true → lt a c = true
  tot : ∀ {a b}, P a → P b → lt a b = false → a = b ∨ lt b a = true
  ok : ∀ {a}, P a → okD (f a) = true
  non : ∀ {a}, P a → isNon (f a) = false
  dp : ∀ {a}, P a → dep (f a) ≤ 8
  al : ∀ {a b}, P a → P b → alikeD (f a) (f b) = true
def insK {κ : Type} [DecidableEq κ] (lt : κ → κ → Bool) (x : κ) : List κ → List κ
  | [] => [x]
  | y :: l => if lt y x = true then y :: insK lt x l else if y = x then y :: l else x :: y :: l
def ordK {κ : Type} [DecidableEq κ] (lt : κ → κ → Bool) (l : List κ) : List κ := l.foldl (fun acc x => insK lt x acc) []
section
variable {κ : Type} [DecidableEq κ] {P : κ → Prop} {f : κ → D} {lt : κ → κ → Bool}
theorem ins_map (e : Emb P f lt) {x : κ} (hx : P x) : ∀ {l : List κ}, (∀ y ∈ l, P y) → insD (f x) (l.map f) = (insK lt x l).map f
  | [], _ => rfl
  | y :: l, h => by
    have hy := h y (by simp)
    rw [List.map_cons, insD, insK, e.lt_ hy hx, ins_map e hx fun z hz => h z (by simp [hz])]
    by_cases c : lt y x = true
    · simp only [c, if_true, List.map_cons]
    · simp only [c, Bool.false_eq_true, if_false]
      by_cases c2 : y = x
      · rw [if_pos ((e.eq_ hy hx).mpr c2), if_pos c2, List.map_cons]
      · rw [if_neg (fun z => c2 ((e.eq_ hy hx).mp z)), if_neg c2, List.map_cons, List.map_cons]
theorem insK_mem {x z : κ} : ∀ {l : List κ}, z ∈ insK lt x l ↔ z = x ∨ z ∈ l
  | [] => by simp [insK]
  | y :: l => by
    unfold insK
    split
    · rw [List.mem_cons, insK_mem, List.mem_cons]
      constructor
      · rintro (h | h | h)
        · exact .inr (.inl h)
        · exact .inl h
        · exact .inr (.inr h)
      · rintro (h | h | h)
        · exact .inr (.inl h)
        · exact .inl h
        · exact .inr (.inr h)
    · split
      · rename_i c
        subst c
        constructor
        · exact .inr
        · rintro (h | h)
          · simp [h]
          · exact h
      · rw [List.mem_cons]
theorem insK_perm {x : κ} : ∀ {l : List κ}, x ∉ l → (insK lt x l).Perm (x :: l)
  | [], _ => List.Perm.refl _
  | y :: l, h => by
    rw [List.mem_cons, not_or] at h
    unfold insK
    split
    · exact ((insK_perm h.2).cons y).trans (List.Perm.swap x y l)
    · rw [if_neg (fun z => h.1 z.symm)]
theorem insK_sorted (e : Emb P f lt) {x : κ} (hx : P x) : ∀ {l : List κ}, (∀ y ∈ l, P y) → l.Pairwise (fun a b => lt a b = true) → (insK lt x l).Pairwise (fun a b => lt a b = true)
  | [], _, _ => by simp [insK]
  | y :: l, h, s => by
    have hy := h y (by simp)
    have hl : ∀ z ∈ l, P z := fun z hz => h z (by simp [hz])
    rw [List.pairwise_cons] at s
    unfold insK
    split
    · rename_i c
      rw [List.pairwise_cons]
      refine ⟨fun z hz => ?_, insK_sorted e hx hl s.2⟩
      rcases insK_mem.mp hz with rfl | hz
      · exact c
      · exact s.1 z hz
    · split
      · rw [List.pairwise_cons]; exact s
      · rename_i c c2
        have hxy : lt x y = true := by
          rcases e.tot hy hx (by simpa using c) with z | z
          · exact absurd z c2
          · exact z
        rw [List.pairwise_cons]
        refine ⟨fun z hz => ?_, List.pairwise_cons.mpr s⟩
        rcases List.mem_cons.mp hz with rfl | hz
        · exact hxy
        · exact e.tr hx hy (hl z hz) hxy (s.1 z hz)
theorem ordK_all (e : Emb P f lt) : ∀ {l acc : List κ}, (∀ y ∈ l, P y) → (∀ y ∈ acc, P y) → acc.Pairwise (fun a b => lt a b = true) →
    (l.map f).foldl (fun acc x => insD x acc) (acc.map f) = (l.foldl (fun acc x => insK lt x acc) acc).map f ∧ (l.foldl (fun acc x => insK lt x acc) acc).Pairwise (fun a b => lt a b = true) ∧ (∀ z, z ∈ l.foldl (fun acc x => insK lt x acc) acc ↔ z ∈ acc ∨ z ∈ l) ∧ ((acc ++ l).Nodup → (l.foldl (fun acc x => insK lt x acc) acc).Perm (acc ++ l))
  | [], acc, _, _, s => ⟨rfl, s, fun z => by simp, fun _ => by simp⟩
  | x :: l, acc, h, ha, s => by
    have hx := h x (by simp)
    obtain ⟨h1, h2, h3, h4⟩ := ordK_all e (l := l) (acc := insK lt x acc) (fun y hy => h y (by simp [hy])) (fun y hy => (insK_mem.mp hy).elim (fun z => z ▸ hx) (ha y)) (insK_sorted e hx ha s)
    refine ⟨?_, h2, fun z => ?_, fun nd => ?_⟩
    · rw [List.map_cons, List.foldl_cons, ins_map e hx ha, h1, List.foldl_cons]
    · rw [List.foldl_cons, h3, insK_mem, List.mem_cons]
      constructor
      · rintro ((h | h) | h)
        · exact .inr (.inl h)
        · exact .inl h
        · exact .inr (.inr h)
      · rintro (h | h | h)
        · exact .inl (.inr h)
        · exact .inl (.inl h)
        · exact .inr h
    · have hn : x ∉ acc := fun m => by
        rw [List.nodup_append] at nd
        exact nd.2.2 x m x (by simp) rfl
      have p1 : (insK lt x acc ++ l).Perm (acc ++ x :: l) := ((insK_perm hn).append_right l).trans List.perm_middle.symm
      exact (h4 (p1.nodup_iff.mpr nd)).trans p1
theorem ord_map (e : Emb P f lt) {l : List κ} (h : ∀ y ∈ l, P y) : ordD (l.map f) = (ordK lt l).map f := (ordK_all e (acc := []) h (by simp) List.Pairwise.nil).1
theorem ord_sorted (e : Emb P f lt) {l : List κ} (h : ∀ y ∈ l, P y) : (ordK lt l).Pairwise (fun a b => lt a b = true) := (ordK_all e (acc := []) h (by simp) List.Pairwise.nil).2.1
theorem ord_mem (e : Emb P f lt) {l : List κ} (h : ∀ y ∈ l, P y) {z : κ} : z ∈ ordK lt l ↔ z ∈ l := by
  have h2 := (ordK_all e (acc := []) h (by simp) List.Pairwise.nil).2.2.1 z
  exact h2.trans (by simp)
theorem ord_perm (e : Emb P f lt) {l : List κ} (h : ∀ y ∈ l, P y) (nd : l.Nodup) : (ordK lt l).Perm l := (ordK_all e (acc := []) h (by simp) List.Pairwise.nil).2.2.2 nd
theorem emb_cmp (e : Emb P f lt) {l : List κ} (h : ∀ y ∈ l, P y) : CmpL (l.map f) := fun x hx => by
  obtain ⟨a, ha, rfl⟩ := List.mem_map.mp hx
  refine ⟨e.ok (h a ha), e.non (h a ha), Nat.le_trans (e.dp (h a ha)) (by decide), fun y hy => ?_⟩
  obtain ⟨b, hb, rfl⟩ := List.mem_map.mp hy
  exact e.al (h a ha) (h b hb)
end
/-! ints, texts, pairs -/
theorem emb_nat : Emb (fun _ : Nat => True) (fun n => D.int (n : Int)) (fun a b => decide (a < b)) where
  lt_ := fun {a b} _ _ => by
    rw [ltD]
    by_cases h : a < b
    · have : (a : Int) < b := by omega
      simp [h]
    · have : ¬ (a : Int) < b := by omega
      simp [h]
  eq_ := fun {a b} _ _ => by
    rw [eqD, beq_iff_eq]
    exact Int.ofNat_inj
  irr := fun _ => by simp
  tr := fun _ _ _ h1 h2 => by simp at h1 h2 ⊢; omega
  tot := fun {a b} _ _ h => by simp at h ⊢; omega
  ok := fun _ => by rw [okD]
  non := fun _ => rfl
  dp := fun _ => by rw [dep_int]; omega
  al := fun _ _ => by rw [alikeD]
def ltS (x y : Str) : Bool := decide (x.cps.toList < y.cps.toList)
theorem str_ext {x y : Str} (h : x.cps.toList = y.cps.toList) : x = y := by
  cases x; cases y
  exact congrArg Str.mk (Array.toList_inj.mp h)
theorem eqD_str {x y : Str} : eqD (.str x) (.str y) = true ↔ x = y := by
  rw [eqD]
  exact beq_iff_eq
theorem emb_str : Emb NameS D.str ltS where
  lt_ := fun _ _ => by rw [ltD]; rfl
  eq_ := fun _ _ => eqD_str
  irr := fun {a} _ => by unfold ltS; simp [List.lt_irrefl]
  tr := fun {a b c} _ _ _ h1 h2 => by
    unfold ltS at h1 h2 ⊢
    rw [decide_eq_true_eq] at h1 h2 ⊢
    exact List.lt_trans h1 h2
  tot := fun {a b} _ _ h => by
    unfold ltS at h ⊢
    rw [decide_eq_false_iff_not, List.not_lt] at h
    rw [decide_eq_true_eq]
    by_cases e : a.cps.toList = b.cps.toList
    · exact .inl (str_ext e)
    · by_cases l : b.cps.toList < a.cps.toList
      · exact .inr l
      · exact absurd (List.le_antisymm (List.not_lt.mp l) h) e
  ok := fun h => by rw [okD]; exact name_ok h
  non := fun _ => rfl
  dp := fun _ => by rw [dep_str]; omega
  al := fun _ _ => by rw [alikeD]
/-! ### pairs -/
theorem ltL_nil : ltL [] [] = false := by simp [ltL]
theorem alL_nil {l : List D} : alikeL [] l = true := by simp [alikeL]
def pairD {κ κ' : Type} (f : κ → D) (g : κ' → D) (x : κ × κ') : D := .tup [f x.1, g x.2]
def lexP {κ κ' : Type} [DecidableEq κ] (lt : κ → κ → Bool) (lt' : κ' → κ' → Bool) (x y : κ × κ') : Bool := if x.1 = y.1 then lt' x.2 y.2 else lt x.1 y.1
theorem emb_pair {κ κ' : Type} [DecidableEq κ] {P : κ → Prop} {P' : κ' → Prop} {f : κ → D} {g : κ' → D} {lt : κ → κ → Bool} {lt' : κ' → κ' → Bool} (e : Emb P f lt) (e' : Emb P' g lt') (d : ∀ a, P a → dep (f a) ≤ 7) (d' : ∀ a, P' a → dep (g a) ≤ 7) :
    Emb (fun x : κ × κ' => P x.1 ∧ P' x.2) (pairD f g) (lexP lt lt') where
  lt_ := fun {a b} ha hb => by
    unfold pairD lexP
    rw [ltD, ltL, ltL, ltL_nil]
    by_cases h : a.1 = b.1
    · rw [if_pos ((e.eq_ ha.1 hb.1).mpr h), if_pos h]
      by_cases h2 : a.2 = b.2
      · rw [if_pos ((e'.eq_ ha.2 hb.2).mpr h2), h2, e'.irr hb.2]
      · rw [if_neg fun z => h2 ((e'.eq_ ha.2 hb.2).mp z), e'.lt_ ha.2 hb.2]
    · rw [if_neg fun z => h ((e.eq_ ha.1 hb.1).mp z), if_neg h, e.lt_ ha.1 hb.1]
  eq_ := fun {a b} ha hb => by
    unfold pairD
    rw [eqD, eqL, eqL, eqL, Bool.and_true, Bool.and_eq_true, e.eq_ ha.1 hb.1, e'.eq_ ha.2 hb.2]
    exact ⟨fun h => Prod.ext h.1 h.2, fun h => by rw [h]; exact ⟨rfl, rfl⟩⟩
  irr := fun {a} ha => by
    unfold lexP
    rw [if_pos rfl, e'.irr ha.2]
  tr := fun {a b c} ha hb hc h1 h2 => by
    unfold lexP at h1 h2 ⊢
    by_cases c1 : a.1 = b.1
    · rw [if_pos c1] at h1
      by_cases c2 : b.1 = c.1
      · rw [if_pos c2] at h2
        rw [if_pos (c1.trans c2)]
        exact e'.tr ha.2 hb.2 hc.2 h1 h2
      · rw [if_neg c2] at h2
        rw [if_neg (by rw [c1]; exact c2), c1]
        exact h2
    · rw [if_neg c1] at h1
      by_cases c2 : b.1 = c.1
      · rw [if_neg (by rw [← c2]; exact c1), ← c2]
        exact h1
      · rw [if_neg c2] at h2
        have h3 := e.tr ha.1 hb.1 hc.1 h1 h2
        have c3 : a.1 ≠ c.1 := fun z => by
          rw [← z] at h2
          have h4 := e.tr ha.1 hb.1 ha.1 h1 h2
          rw [e.irr ha.1] at h4
          cases h4
        rw [if_neg c3]
        exact h3
  tot := fun {a b} ha hb h => by
    unfold lexP at h ⊢
    by_cases c1 : a.1 = b.1
    · rw [if_pos c1] at h
      rw [if_pos c1.symm]
      rcases e'.tot ha.2 hb.2 h with z | z
      · exact .inl (Prod.ext c1 z)
      · exact .inr z
    · rw [if_neg c1] at h
      rw [if_neg fun z => c1 z.symm]
      rcases e.tot ha.1 hb.1 h with z | z
      · exact absurd z c1
      · exact .inr z
  ok := fun {a} ha => by
    unfold pairD
    rw [okD, okL, okL, okL, e.ok ha.1, e'.ok ha.2]
    rfl
  non := fun _ => rfl
  dp := fun {a} ha => by
    unfold pairD
    rw [dep, depL, depL, depL]
    have := d a.1 ha.1
    have := d' a.2 ha.2
    omega
  al := fun {a b} ha hb => by
    unfold pairD
    rw [alikeD, alikeL, alikeL, alL_nil, e.al ha.1 hb.1, e'.al ha.2 hb.2]
    have h1 : okL [f a.1, g a.2] = true := by rw [okL, okL, okL, e.ok ha.1, e'.ok ha.2]; rfl
    have h2 : okL [f b.1, g b.2] = true := by rw [okL, okL, okL, e.ok hb.1, e'.ok hb.2]; rfl
    obtain ⟨ps, e1⟩ := okL_py h1
    obtain ⟨qs, e2⟩ := okL_py h2
    rw [e1, e2]
    rfl
theorem pair_dep {κ κ' : Type} {f : κ → D} {g : κ' → D} {n : Nat} {x : κ × κ'} (h : dep (f x.1) ≤ n) (h' : dep (g x.2) ≤ n) : dep (pairD f g x) ≤ n + 1 := by
  unfold pairD
  rw [dep, depL, depL, depL]
  omega
/-- the two of a pair, the less one first -/
def twoK {κ : Type} (lt : κ → κ → Bool) (a b : κ) : κ × κ := if lt a b = true then (a, b) else (b, a)
theorem two_map {κ : Type} {P : κ → Prop} {f : κ → D} {lt : κ → κ → Bool} (e : Emb P f lt) {a b : κ} (ha : P a) (hb : P b) : twoD (f a) (f b) = pairD f f (twoK lt a b) := by
  unfold twoD twoK pairD
  rw [e.lt_ ha hb]
  by_cases h : lt a b = true
  · rw [if_pos h, if_pos h]
  · rw [if_neg h, if_neg h]
/-- both ends of each pair -/
def flatK {κ : Type} (l : List (κ × κ)) : List κ := l.flatMap fun x => [x.1, x.2]
theorem flat_add {κ : Type} {l m : List (κ × κ)} : flatK (l ++ m) = flatK l ++ flatK m := List.flatMap_append
theorem flat_two {κ : Type} {lt : κ → κ → Bool} {a b : κ} : (flatK [twoK lt a b]).Perm [a, b] := by
  unfold flatK twoK
  by_cases h : lt a b = true
  · rw [if_pos h]
    exact List.Perm.refl _
  · rw [if_neg h]
    exact List.Perm.swap a b []
theorem flat_perm {κ : Type} {l m : List (κ × κ)} (h : l.Perm m) : (flatK l).Perm (flatK m) := List.Perm.flatMap_right _ h
theorem flat_nodup {κ : Type} {l : List (κ × κ)} (h : (flatK l).Nodup) : l.Nodup := by
  induction l with
  | nil => exact List.nodup_nil
  | cons x l ih =>
    have e : flatK (x :: l) = [x.1, x.2] ++ flatK l := by simp [flatK]
    rw [e, List.nodup_append] at h
    refine List.nodup_cons.mpr ⟨fun m => ?_, ih h.2.1⟩
    exact h.2.2 x.1 (by simp) x.1 (List.mem_flatMap.mpr ⟨x, m, by simp⟩) rfl
theorem ints_cons {lo : Int} {n : Nat} : intsD lo (n + 1) = .int lo :: intsD (lo + 1) n := by
  unfold intsD
  rw [List.range_succ_eq_map, List.map_cons, List.map_map]
  congr 1
  · simp
  · refine List.map_congr_left fun a _ => ?_
    show D.int (lo + ((a + 1 : Nat) : Int)) = D.int (lo + 1 + (a : Int))
    congr 1
    omega
abbrev natD (n : Nat) : D := .int (n : Int)
abbrev ltN (a b : Nat) : Bool := decide (a < b)
theorem ints_nat {n : Nat} : intsD 0 n = (List.range n).map natD := by
  unfold intsD
  refine List.map_congr_left fun a _ => ?_
  show D.int (0 + (a : Int)) = _
  rw [Int.zero_add]
def unN : D → Nat
  | .int i => i.toNat
  | _ => 0
theorem perm_nat {l : List D} {m : List Nat} (h : l.Perm (m.map natD)) : ∃ k : List Nat, l = k.map natD ∧ k.Perm m := by
  refine ⟨l.map unN, ?_, ?_⟩
  · rw [List.map_map]
    have : ∀ d ∈ l, (natD ∘ unN) d = d := fun d hd => by
      obtain ⟨n, _, rfl⟩ := List.mem_map.mp (h.mem_iff.mp hd)
      rfl
    have h2 := List.map_congr_left this
    rw [h2, List.map_id']
  · have := h.map unN
    rw [List.map_map] at this
    have e : m.map (unN ∘ natD) = m := by
      rw [show m.map (unN ∘ natD) = m.map id from List.map_congr_left fun n _ => by show ((n : Int)).toNat = n; omega]
      exact List.map_id m
    rwa [e] at this
abbrev natP : Nat × Nat → D := pairD natD natD
abbrev ltNP : Nat × Nat → Nat × Nat → Bool := lexP ltN ltN
theorem emb_np : Emb (fun _ : Nat × Nat => True ∧ True) natP ltNP := emb_pair emb_nat emb_nat (fun a _ => by rw [dep_int]; omega) (fun a _ => by rw [dep_int]; omega)
/-- straight pairs of a crossing of n ends -/
structure Strt (n : Nat) (l : List (Nat × Nat)) : Prop where
  up : ∀ x ∈ l, x.1 < x.2 ∧ x.2 < n
  nd : (flatK l).Nodup
  srt : l.Pairwise (fun a b => ltNP a b = true)
/-- ascending names -/
structure Asc (l : List Str) : Prop where
  nm : ∀ x ∈ l, NameS x
  srt : l.Pairwise (fun a b => ltS a b = true)
def sp__law_free_row : DSp := fun ds S Q => ∃ (p : Addr) (o : Nd × List D) (nm : D) (es : List Nat) (ss : List Str) (b : Nat), ds = [.ref p, nm, .lst (es.map natD), .lst (ss.map D.str)] ∧ (∀ n ∈ es, 1 ≤ n ∧ n ≤ 20) ∧ 0 < es.length ∧ es.length < 2 ^ 10 ∧ (∀ x ∈ ss, NameS x) ∧ ss.length ≤ 8 ∧ S p = some o ∧ Pot o (b + 40) ∧
  ∀ (n : Nat) (pairs : List (Nat × Nat)) (signs : List Str), n ∈ es → Strt n pairs → Asc signs → (∀ x ∈ signs, x ∈ ss) → ∀ o', Pot o' b → Q (.tup [nm, natD n, .tup (pairs.map natP), .tup (signs.map D.str)]) (put S p o')
theorem two_up {a b n : Nat} (ha : a < n) (hb : b < n) (h : a ≠ b) : (twoK ltN a b).1 < (twoK ltN a b).2 ∧ (twoK ltN a b).2 < n := by
  unfold twoK
  by_cases c : ltN a b = true
  · rw [if_pos c]
    have : a < b := by simpa using c
    exact ⟨this, hb⟩
  · rw [if_neg c]
    have : ¬ a < b := by simpa using c
    exact ⟨by show b < a; omega, ha⟩
theorem at_map {l : List Nat} {i : Nat} (h : i < l.length) : L2.atI (l.map natD) (i : Int) = some (natD l[i]) := by
  rw [at_nat, List.getElem?_map, List.getElem?_eq_getElem h]
  rfl
theorem take_two {α : Type} {l : List α} {i : Nat} (h : 2 * i + 1 < l.length) : l.take (2 * (i + 1)) = l.take (2 * i) ++ [l[2 * i], l[2 * i + 1]] := by
  have e : 2 * (i + 1) = 2 * i + 1 + 1 := by omega
  rw [e, List.take_succ_eq_append_getElem h, List.take_succ_eq_append_getElem (by omega), List.append_assoc]
  rfl
theorem ordered_l {κ : Type} [DecidableEq κ] {P : κ → Prop} {f : κ → D} {lt : κ → κ → Bool} (e : Emb P f lt) {l : List κ} {d : D} {src : Src} {S : DHp} {Q : DQ} (hi : itemsOf S d = some src) (es : src.items = l.map f) (h : ∀ y ∈ l, P y) (hz : l.length < 2 ^ 24) (q : Q (.lst ((ordK lt l).map f)) S) : sp__law_ordered [d] S Q :=
  ⟨d, src, rfl, hi, by rw [es]; exact emb_cmp e h, by rw [es, List.length_map]; exact hz, by rw [es, ord_map e h]; exact q⟩
theorem d__law_free_row (ds S Q) (h : sp__law_free_row ds S Q) : t__law_free_row sp__law_of sp__law_some sp__law_take sp__law_two sp__law_ordered (endsF Q) (startD N__law_free_row.length ds) S := by
  obtain ⟨p, o, nm, es, ss, b, rfl, he, he0, he1, hss, hsl, hp, po, k⟩ := h
  unfold t__law_free_row
  have e0 : startD N__law_free_row.length [.ref p, nm, .lst (es.map natD), .lst (ss.map D.str)] = [some (.ref p), some nm, some (.lst (es.map natD)), some (.lst (ss.map D.str)), none, none, none, none, none, none] := rfl
  rw [e0]
  refine seq_g fun K hK => ?_
  walk_at "ev"
  refine ⟨p, o, .lst (es.map natD), ⟨es.map natD, fun _ => True⟩, b + 39, rfl, rfl, nofun, by show 0 < (es.map natD).length; rw [List.length_map]; exact he0, by show (es.map natD).length < _; rw [List.length_map]; omega, hp, po.less (by omega), fun r hr o1 po1 => ?_⟩
  obtain ⟨n, hn, rfl⟩ := List.mem_map.mp hr
  obtain ⟨n0, n1⟩ := he n hn
  subst hK
  refine seq_g fun K hK => ?_
  walk_at "ev"
  refine ⟨⟨by omega, by omega, by omega, by omega, by omega⟩, ?_⟩
  rw [Int.sub_zero, Int.toNat_natCast]
  refine ⟨p, o1, intsD 0 n, (n : Int), b + 19, rfl, by omega, by rw [intsD_len]; omega, by rw [intsD_len]; omega, put_same, po1.less (by omega), fun found left hf pm o2 po2 => ?_⟩
  rw [put_put]
  have hl : left = [] := by
    have h1 := pm.length_eq
    rw [List.length_append, intsD_len] at h1
    have : left.length = 0 := by omega
    exact List.length_eq_zero_iff.mp this
  subst hl
  rw [List.append_nil, ints_nat] at pm
  obtain ⟨od, rfl, pmo⟩ := perm_nat pm
  rw [List.length_map] at hf
  have hod : od.length = n := by omega
  have hmem : ∀ x ∈ od, x < n := fun x hx => List.mem_range.mp (pmo.mem_iff.mp hx)
  have hnd : od.Nodup := pmo.nodup_iff.mpr List.nodup_range
  walk_at "ev"
  refine ⟨Nat.zero_le _, fun q hq => ?_⟩
  have hqp : q ≠ p := fun z => by subst z; simp only [put_same] at hq; cases hq
  have hq0 : S q = none := by simpa only [put_ne hqp] using hq
  subst hK
  refine seq_g fun K hK => ?_
  simp only [for_e, rng_e]
  walk_at "ev"
  refine ⟨wide_div (b := 2) (by decide) (by decide) (by decide) (by decide), ?_⟩
  have hdv : ((n : Int) / 2) = ((n / 2 : Nat) : Int) := by omega
  rw [hdv]
  refine ⟨p, o2, ((n / 2 : Nat) : Int) + 1, b + 18, rfl, by omega, by omega, by rw [put_ne hqp.symm, put_same], po2.less (by omega), fun r2 o3 r20 r21 po3 => ?_⟩
  walk_at "ev"
  refine ⟨by omega, by omega, ?_⟩
  obtain ⟨lp, rfl⟩ := Int.eq_ofNat_of_zero_le r20
  rw [Int.toNat_natCast]
  have hlp : 2 * lp ≤ n := by omega
  refine forD_ind (fun l ρ S' => ∃ (i : Nat) (pl : List (Nat × Nat)) (x7 : Option D), ρ = [some (.ref p), some nm, some (.lst (es.map natD)), some (.lst (ss.map D.str)), some (natD n), some (.lst (od.map natD)), some (.ref q), x7, none, none] ∧ S' p = some o3 ∧ S' q = some (.lst, pl.map natP) ∧ Off S S' [p, q] ∧ i + l.length = lp ∧ l = intsD i l.length ∧ (flatK pl).Perm (od.take (2 * i)) ∧ (∀ x ∈ pl, x.1 < x.2 ∧ x.2 < n) ∧ pl.length = i)
    (fun _ _ _ _ => trivial) (fun ρ S' h => ?_) (fun d l ρ S' h K2 hK2 => ?_) ?_
  · obtain ⟨i, pl, x7, rfl, ap, aq, off, hi, _, hfl, hup, hpl⟩ := h
    have hpn : (flatK pl).Nodup := hfl.nodup_iff.mpr (hnd.sublist (List.take_sublist _ _))
    have hall : ∀ y ∈ pl, True ∧ True := fun _ _ => ⟨trivial, trivial⟩
    have hst : Strt n (ordK ltNP pl) := by
      have pm2 := ord_perm emb_np hall (flat_nodup hpn)
      exact ⟨fun x hx => hup x (pm2.mem_iff.mp hx), (flat_perm pm2).nodup_iff.mpr hpn, ord_sorted emb_np hall⟩
    subst hK
    simp only []
    refine seq_g fun K hK => ?_
    walk_at "ev"
    rw [lc_e, seqI_e]
    walk_at "ev"
    intro q2 hq2
    have h2p : q2 ≠ p := fun z => by subst z; rw [ap] at hq2; cases hq2
    have h2q : q2 ≠ q := fun z => by subst z; rw [aq] at hq2; cases hq2
    have hq20 : S q2 = none := by rw [← off q2 (by simp [h2p, h2q])]; exact hq2
    have ew : wipeD [some (D.ref p), some nm, some (.lst (es.map natD)), some (.lst (ss.map D.str)), some (natD n), some (.lst (od.map natD)), some (.ref q), x7, none, none] [9] = [some (.ref p), some nm, some (.lst (es.map natD)), some (.lst (ss.map D.str)), some (natD n), some (.lst (od.map natD)), some (.ref q), x7, none, none] := rfl
    rw [ew]
    refine compD_ind (fun l acc S2 => ∃ (o' : Nd × List D) (sg l' : List Str), acc = sg.map D.str ∧ l = l'.map D.str ∧ (∀ x ∈ sg, x ∈ ss) ∧ (∀ x ∈ l', x ∈ ss) ∧ sg.length + l'.length ≤ ss.length ∧ S2 p = some o' ∧ S2 q = some (.lst, pl.map natP) ∧ S2 q2 = some (.lst, acc) ∧ Off S S2 [p, q, q2] ∧ Pot o' (b + l'.length))
      (fun _ _ _ _ => trivial) (fun acc S2 h => ?_) (fun d l acc S2 h K3 hK3 => ?_) ⟨o3, [], ss, rfl, rfl, by simp, fun _ h => h, by simp, by rw [put_ne h2p.symm]; exact ap, by rw [put_ne h2q.symm]; exact aq, put_same, (off.more (by intro a ha; simp only [List.mem_cons, List.not_mem_nil, or_false] at ha ⊢; rcases ha with h | h <;> simp [h])).put (by simp), po3.less (by omega)⟩
    · obtain ⟨o', sg, l', rfl, el, hsg, _, hle, bp, bq, b2, off2, po'⟩ := h
      refine ⟨b2, ?_⟩
      have hsn : ∀ y ∈ sg, NameS y := fun y hy => hss y (hsg y hy)
      have ha : Asc (ordK ltS sg) := ⟨fun x hx => hsn x ((ord_mem emb_str hsn).mp hx), ord_sorted emb_str hsn⟩
      subst hK
      have bq2 : era S2 q2 q = some (.lst, pl.map natP) := by rw [era_ne h2q.symm]; exact bq
      walk_at "ev"
      refine ordered_l emb_np (src := ⟨pl.map natP, fun S' => S' q = some (.lst, pl.map natP)⟩) (by unfold itemsOf; simp only [bq2]) rfl hall (by show pl.length < 2 ^ 24; omega) ?_
      walk_at "ev"
      refine ordered_l emb_str (src := ⟨sg.map D.str, fun _ => True⟩) rfl rfl hsn (by omega) ?_
      walk_at "ev"
      refine ⟨by simp only [List.length_cons, List.length_nil]; decide, put S p o', less_era (off_less off2 bp (by simp [hq0, hq20])) (by rw [put_ne h2p]; exact hq20), ?_⟩
      exact k n _ _ hn hst ha (fun x hx => hsg x ((ord_mem emb_str hsn).mp hx)) o' (po'.less (by omega))
    · obtain ⟨o', sg, l', rfl, el, hsg, hl', hle, bp, bq, b2, off2, po'⟩ := h
      cases l' with
      | nil => cases el
      | cons x l' =>
        rw [List.map_cons] at el
        obtain ⟨rfl, rfl⟩ := List.cons.inj el
        rw [List.length_cons] at hle po'
        walk_at "ev"
        refine ⟨p, o', 4, b + l'.length, rfl, by decide, by decide, bp, po', fun r o4 r0 r1 po4 => ?_⟩
        walk_at "ev"
        have b24 : put S2 p o4 q2 = some (.lst, sg.map D.str) := by rw [put_ne h2p]; exact b2
        have bq4 : put S2 p o4 q = some (.lst, pl.map natP) := by rw [put_ne hqp]; exact bq
        by_cases c : (r == 0) = true
        · simp only [c, if_true]
          refine ⟨b24, by rw [List.length_map]; show sg.length < 2 ^ 24; omega, ?_⟩
          refine hK3 _ _ ⟨o4, sg ++ [x], l', by rw [List.map_append]; rfl, rfl, fun y hy => ?_, fun y hy => hl' y (by simp [hy]), by rw [List.length_append, List.length_cons, List.length_nil]; omega, by rw [put_ne h2p.symm, put_same], by rw [put_ne h2q.symm]; exact bq4, put_same, (off2.put (by simp)).put (by simp), po4⟩
          rcases List.mem_append.mp hy with hy | hy
          · exact hsg y hy
          · have : y = x := by simpa using hy
            exact this ▸ hl' x (by simp)
        · simp only [c, if_false]
          exact hK3 _ _ ⟨o4, sg, l', rfl, rfl, hsg, fun y hy => hl' y (by simp [hy]), by omega, put_same, bq4, b24, off2.put (by simp), po4⟩
  · obtain ⟨i, pl, x7, rfl, ap, aq, off, hi, hil, hfl, hup, hpl⟩ := h
    rw [List.length_cons] at hi hil
    rw [ints_cons] at hil
    obtain ⟨rfl, hil2⟩ := List.cons.inj hil
    have h1 : 2 * i + 1 < od.length := by omega
    have c1 : ((2 : Int) * (i : Int)) = ((2 * i : Nat) : Int) := by omega
    have c2 : ((2 * i : Nat) : Int) + 1 = ((2 * i + 1 : Nat) : Int) := by omega
    k_with "ev" => simp only [aq]
    refine ⟨mulx_nn (a := 2) (b := 20) (by decide) (by decide) (by omega) (by omega) (by decide), ?_⟩
    rw [c1, at_map (by omega)]
    walk_at "ev"
    refine ⟨mulx_nn (a := 2) (b := 20) (by decide) (by decide) (by omega) (by omega) (by decide), ?_⟩
    rw [c2, at_map h1]
    walk_at "ev"
    refine ⟨natD od[2 * i], natD od[2 * i + 1], rfl, by rw [alikeD], rfl, by rw [dep_int]; omega, ?_⟩
    rw [two_map emb_nat trivial trivial]
    k_with "ev" => simp only [aq]
    refine ⟨by rw [List.length_map]; show pl.length < 2 ^ 24; omega, ?_⟩
    have hne : od[2 * i] ≠ od[2 * i + 1] := List.pairwise_iff_getElem.mp hnd (2 * i) (2 * i + 1) (by omega) h1 (by omega)
    refine hK2 _ _ ⟨i + 1, pl ++ [twoK ltN od[2 * i] od[2 * i + 1]], _, rfl, by rw [put_ne hqp.symm]; exact ap, by rw [put_same, List.map_append]; rfl, off.put (by simp), by omega, ?_, ?_, fun x hx => ?_, by rw [List.length_append, hpl]; rfl⟩
    · rw [hil2, intsD_len]
      congr 1
    · rw [take_two h1, flat_add]
      exact hfl.append flat_two
    · rcases List.mem_append.mp hx with hx | hx
      · exact hup x hx
      · have : x = twoK ltN od[2 * i] od[2 * i + 1] := by simpa using hx
        rw [this]
        exact two_up (hmem _ (List.getElem_mem _)) (hmem _ (List.getElem_mem _)) hne
  · refine ⟨0, [], none, rfl, put_same, by rw [put_ne hqp, put_same]; rfl, ?_, by rw [intsD_len]; omega, by rw [intsD_len]; rfl, by simp [flatK], by simp, rfl⟩
    refine Off.put (Off.put (Off.put Off.refl (by simp)) (by simp)) (by simp)
structure RowS where
  name : Str
  ends : Nat
  pairs : List (Nat × Nat)
  signs : List Str
  deriving DecidableEq
def RowS.d (r : RowS) : D := .tup [.str r.name, natD r.ends, .tup (r.pairs.map natP), .tup (r.signs.map D.str)]
structure RowOk (r : RowS) : Prop where
  nm : NameS r.name
  e0 : 1 ≤ r.ends
  e1 : r.ends ≤ 20
  st : Strt r.ends r.pairs
  sg : Asc r.signs
def RowS.t (r : RowS) : RowD := (.str r.name, r.ends, [.tup (r.pairs.map natP), .tup (r.signs.map D.str)])
abbrev Stop := Str × Nat
abbrev stopD : Stop → D := pairD D.str natD
abbrev ltT : Stop → Stop → Bool := lexP ltS ltN
abbrev laneD : Stop × Stop → D := pairD stopD stopD
abbrev ltLn : Stop × Stop → Stop × Stop → Bool := lexP ltT ltT
theorem emb_stop : Emb (fun x : Stop => NameS x.1 ∧ True) stopD ltT := emb_pair emb_str emb_nat (fun a _ => by rw [dep_str]; omega) (fun a _ => by rw [dep_int]; omega)
theorem stop_dep (x : Stop) : dep (stopD x) ≤ 1 := pair_dep (n := 0) (by rw [dep_str]; omega) (by rw [dep_int]; omega)
theorem emb_lane : Emb (fun x : Stop × Stop => (NameS x.1.1 ∧ True) ∧ (NameS x.2.1 ∧ True)) laneD ltLn := emb_pair emb_stop emb_stop (fun a _ => Nat.le_trans (stop_dep a) (by decide)) (fun a _ => Nat.le_trans (stop_dep a) (by decide))
def stopsS (rows : List RowS) : List Stop := rows.flatMap fun r => (List.range r.ends).map fun e => (r.name, e)
theorem stops_map {rows : List RowS} : stopsD (rows.map RowS.t) = (stopsS rows).map stopD := by
  unfold stopsD stopsS
  rw [List.flatMap_map, List.map_flatMap]
  congr 1
  funext r
  rw [List.map_map]
  rfl
theorem rows_map {rows : List RowS} : (rows.map RowS.t).map rowD = rows.map RowS.d := by
  rw [List.map_map]
  rfl
theorem stopsS_add {a b : List RowS} : stopsS (a ++ b) = stopsS a ++ stopsS b := by
  unfold stopsS
  rw [List.flatMap_append]
theorem stopsS_len {rows : List RowS} (h : ∀ r ∈ rows, RowOk r) : (stopsS rows).length ≤ 20 * rows.length := by
  induction rows with
  | nil => simp [stopsS]
  | cons r rows ih =>
    have := ih fun x hx => h x (by simp [hx])
    have h1 := (h r (by simp)).e1
    have e : stopsS (r :: rows) = ((List.range r.ends).map fun e => (r.name, e)) ++ stopsS rows := by simp [stopsS]
    rw [e, List.length_append, List.length_map, List.length_range, List.length_cons]
    omega
theorem stop_name {rows : List RowS} {x : Stop} (h : ∀ r ∈ rows, RowOk r) (hx : x ∈ stopsS rows) : NameS x.1 := by
  unfold stopsS at hx
  obtain ⟨r, hr, hx⟩ := List.mem_flatMap.mp hx
  obtain ⟨e, _, rfl⟩ := List.mem_map.mp hx
  exact (h r hr).nm
theorem okL_all {l : List D} (h : ∀ x ∈ l, okD x = true) : okL l = true := by
  induction l with
  | nil => rw [okL]
  | cons x l ih => rw [okL, h x (by simp), ih fun y hy => h y (by simp [hy])]; rfl
theorem depL_all {l : List D} {n : Nat} (h : ∀ x ∈ l, dep x ≤ n) : depL l ≤ n := by
  induction l with
  | nil => rw [depL]; omega
  | cons x l ih =>
    rw [depL]
    have := h x (by simp)
    have := ih fun y hy => h y (by simp [hy])
    omega
theorem eqL_refl {l : List D} (h : ∀ x ∈ l, eqD x x = true) : eqL l l = true := by
  induction l with
  | nil => rw [eqL]
  | cons x l ih => rw [eqL, h x (by simp), ih fun y hy => h y (by simp [hy])]; rfl
theorem alL_all : ∀ {l m : List D}, (∀ x ∈ l, ∀ y ∈ m, alikeD x y = true) → alikeL l m = true
  | [], _, _ => alL_nil
  | _ :: _, [], _ => by simp [alikeL]
  | x :: l, y :: m, h => by
    rw [alikeL, h x (by simp) y (by simp), alL_all (l := l) (m := m) fun a ha b hb => h a (by simp [ha]) b (by simp [hb])]
    rfl
theorem al_tup {l m : List D} (hl : okL l = true) (hm : okL m = true) (h : alikeL l m = true) : alikeD (.tup l) (.tup m) = true := by
  obtain ⟨ps, e1⟩ := okL_py hl
  obtain ⟨qs, e2⟩ := okL_py hm
  rw [alikeD, e1, e2, h]
  rfl
theorem pairs_ok {l : List (Nat × Nat)} : okL (l.map natP) = true := okL_all fun x hx => by
  obtain ⟨a, _, rfl⟩ := List.mem_map.mp hx
  exact emb_np.ok ⟨trivial, trivial⟩
theorem asc_ok {l : List Str} (h : ∀ x ∈ l, NameS x) : okL (l.map D.str) = true := okL_all fun x hx => by
  obtain ⟨a, ha, rfl⟩ := List.mem_map.mp hx
  exact emb_str.ok (h a ha)
theorem row_ok {r : RowS} (h : RowOk r) : okD r.d = true := by
  unfold RowS.d
  rw [okD, okL, okL, okL, okL, okL, okD, okD, okD, okD, name_ok h.nm, pairs_ok, asc_ok h.sg.nm]
  rfl
theorem row_dep {r : RowS} : dep r.d ≤ 3 := by
  unfold RowS.d
  have h1 : depL (r.pairs.map natP) ≤ 1 := depL_all fun x hx => by
    obtain ⟨a, _, rfl⟩ := List.mem_map.mp hx
    exact pair_dep (n := 0) (by rw [dep_int]; omega) (by rw [dep_int]; omega)
  have h2 : depL (r.signs.map D.str) ≤ 0 := depL_all fun x hx => by
    obtain ⟨a, _, rfl⟩ := List.mem_map.mp hx
    rw [dep_str]; omega
  rw [dep, depL, depL, depL, depL, depL, dep_str, dep_int, dep, dep]
  omega
theorem name_inj : ∀ {l : List RowS}, (l.map RowS.name).Nodup → ∀ {a b : RowS}, a ∈ l → b ∈ l → a.name = b.name → a = b
  | [], _, _, _, h, _, _ => by cases h
  | r :: l, nd, a, b, ha, hb, e => by
    rw [List.map_cons, List.nodup_cons] at nd
    rcases List.mem_cons.mp ha with rfl | ha
    · rcases List.mem_cons.mp hb with rfl | hb
      · rfl
      · exact absurd (List.mem_map.mpr ⟨b, hb, e.symm⟩) nd.1
    · rcases List.mem_cons.mp hb with rfl | hb
      · exact (nd.1 (List.mem_map.mpr ⟨a, by assumption, e⟩)).elim
      · exact name_inj nd.2 ha hb e
theorem eqD_refl_row (a : RowS) : eqD a.d a.d = true := by
  unfold RowS.d
  rw [eqD, eqL, eqL, eqL, eqL, eqL, eqD_str.mpr rfl, eqD, eqD, eqD, eqL_refl, eqL_refl]
  · simp
  · intro x hx
    obtain ⟨s, _, rfl⟩ := List.mem_map.mp hx
    exact eqD_str.mpr rfl
  · intro x hx
    obtain ⟨s, _, rfl⟩ := List.mem_map.mp hx
    exact (emb_np.eq_ ⟨trivial, trivial⟩ ⟨trivial, trivial⟩).mpr rfl
theorem emb_row {l : List RowS} (h : ∀ r ∈ l, RowOk r) (nd : (l.map RowS.name).Nodup) : Emb (fun r => r ∈ l) RowS.d (fun a b => ltS a.name b.name) where
  lt_ := fun {a b} ha hb => by
    by_cases e : a.name = b.name
    · have : a = b := name_inj nd ha hb e
      subst this
      have h1 : ltL [.str a.name, natD a.ends, .tup (a.pairs.map natP), .tup (a.signs.map D.str)] [.str a.name, natD a.ends, .tup (a.pairs.map natP), .tup (a.signs.map D.str)] = false := by
        have h2 := eqD_refl_row a
        unfold RowS.d at h2
        rw [eqD, eqL, eqL, eqL, eqL, Bool.and_eq_true, Bool.and_eq_true, Bool.and_eq_true, Bool.and_eq_true] at h2
        rw [ltL, if_pos h2.1, ltL, if_pos h2.2.1, ltL, if_pos h2.2.2.1, ltL, if_pos h2.2.2.2.1, ltL_nil]
      unfold RowS.d
      rw [ltD, h1, emb_str.irr (h a ha).nm]
    · unfold RowS.d
      rw [ltD, ltL, if_neg fun z => e (eqD_str.mp z), emb_str.lt_ (h a ha).nm (h b hb).nm]
  eq_ := fun {a b} ha hb => by
    constructor
    · intro z
      unfold RowS.d at z
      rw [eqD, eqL, Bool.and_eq_true] at z
      exact name_inj nd ha hb (eqD_str.mp z.1)
    · rintro rfl
      exact eqD_refl_row a
  irr := fun ha => emb_str.irr (h _ ha).nm
  tr := fun ha hb hc => emb_str.tr (h _ ha).nm (h _ hb).nm (h _ hc).nm
  tot := fun ha hb z => (emb_str.tot (h _ ha).nm (h _ hb).nm z).elim (fun e => .inl (name_inj nd ha hb e)) .inr
  ok := fun ha => row_ok (h _ ha)
  non := fun _ => rfl
  dp := fun _ => Nat.le_trans row_dep (by decide)
  al := fun {a b} ha hb => by
    have h1 := row_ok (h a ha)
    have h2 := row_ok (h b hb)
    unfold RowS.d at h1 h2 ⊢
    rw [okD] at h1 h2
    refine al_tup h1 h2 ?_
    have p : alikeD (.tup (a.pairs.map natP)) (.tup (b.pairs.map natP)) = true := al_tup pairs_ok pairs_ok (alL_all fun x hx y hy => by
      obtain ⟨s, _, rfl⟩ := List.mem_map.mp hx
      obtain ⟨t, _, rfl⟩ := List.mem_map.mp hy
      exact emb_np.al ⟨trivial, trivial⟩ ⟨trivial, trivial⟩)
    have q : alikeD (.tup (a.signs.map D.str)) (.tup (b.signs.map D.str)) = true := al_tup (asc_ok (h a ha).sg.nm) (asc_ok (h b hb).sg.nm) (alL_all fun x hx y hy => by
      obtain ⟨s, _, rfl⟩ := List.mem_map.mp hx
      obtain ⟨t, _, rfl⟩ := List.mem_map.mp hy
      rw [alikeD])
    rw [alikeL, alikeL, alikeL, alikeL, alL_nil, alikeD, alikeD, p, q]
    rfl
/-- a town that is right -/
structure GoodTown (rows : List RowS) (lanes : List (Stop × Stop)) : Prop where
  ok : ∀ r ∈ rows, RowOk r
  ne : 0 < rows.length
  few : rows.length ≤ 11
  srt : rows.Pairwise (fun a b => ltS a.name b.name = true)
  up : ∀ x ∈ lanes, ltT x.1 x.2 = true
  all : (flatK lanes).Perm (stopsS rows)
  ord : lanes.Pairwise (fun a b => ltLn a b = true)
def townD (rows : List RowS) (lanes : List (Stop × Stop)) : D := .tup [.tup (rows.map RowS.d), .tup (lanes.map laneD)]
theorem lcM_e {ti : DTI} {g : DTG} {tt : DTT} {te : DTE} {vs : List Nat} {ρ : DSt} {S : DHp} {Q : DQ} : dLcM ti g tt te vs ρ S Q = ti ρ S fun src S1 => ∀ q, S1 q = none → compD q src.live g tt te (wipeD ρ vs) (fun _ S' => Q (.ref q) S') src.items [] (put S1 q (.lst, [])) := rfl
theorem eqR_r {neg : Bool} {q : Addr} {ds : List D} {y : D} {S : DHp} {Q : DQ} (hq : S q = some (.lst, ds)) (c1 : okL ds = true) (c2 : okD y = true) (c3 : depL ds ≤ 63) (c4 : dep y ≤ 64) (h : Q (.bl (if neg then !eqD (.lst ds) y else eqD (.lst ds) y)) S) : oEqR neg (.ref q) y S Q := by
  unfold oEqR
  simp only [hq]
  exact ⟨⟨c1, c2, c3, c4⟩, h⟩
theorem in_namesF {n : Bool} {x : Str} {ns : List Str} {S : DHp} {Q : DQ} (hx : NameS x) (hn : ∀ y ∈ ns, NameS y) (h : Q (.bl (if n then !decide (x ∈ ns) else decide (x ∈ ns))) S) : oIn n (.str x) (.lst (ns.map D.str)) S Q := by
  unfold oIn dictOf itemsOf
  show _ ∧ _
  rw [any_str]
  obtain ⟨h1, h2⟩ := names_ok hn
  exact ⟨⟨by rw [okD]; exact name_ok hx, h1, by rw [dep_str]; omega, by show depL (ns.map D.str) ≤ 63; omega⟩, h⟩
theorem at_last {l : List D} (h : 0 < l.length) : ∃ d, L2.atI l (-1) = some d ∧ d ∈ l := by
  refine ⟨l[l.length - 1]'(by omega), ?_, List.getElem_mem _⟩
  unfold L2.atI L2.ixN
  rw [if_neg (by decide), if_pos (by omega)]
  have : ((-1 + (l.length : Int)).toNat) = l.length - 1 := by omega
  simp only [Option.bind_some, this]
  rw [List.getElem?_eq_getElem (by omega)]
theorem stops_nodup : ∀ {rows : List RowS}, (rows.map RowS.name).Nodup → (stopsS rows).Nodup
  | [], _ => List.nodup_nil
  | r :: rows, nd => by
    rw [List.map_cons, List.nodup_cons] at nd
    have e : stopsS (r :: rows) = ((List.range r.ends).map fun e => (r.name, e)) ++ stopsS rows := by simp [stopsS]
    rw [e, List.nodup_append]
    refine ⟨?_, stops_nodup nd.2, fun a ha c hc z => ?_⟩
    · refine List.pairwise_map.mpr (List.Pairwise.imp (fun h z => h (Prod.mk.inj z).2) List.nodup_range)
    · obtain ⟨x, _, rfl⟩ := List.mem_map.mp ha
      subst z
      unfold stopsS at hc
      obtain ⟨r2, h2, hc⟩ := List.mem_flatMap.mp hc
      obtain ⟨y, _, e2⟩ := List.mem_map.mp hc
      exact nd.1 (List.mem_map.mpr ⟨r2, h2, (Prod.mk.inj e2).1⟩)
theorem stops_perm {a b : List RowS} (h : a.Perm b) : (stopsS a).Perm (stopsS b) := List.Perm.flatMap_right _ h
theorem two_lt {a b : Stop} (ha : NameS a.1) (hb : NameS b.1) (h : a ≠ b) : ltT (twoK ltT a b).1 (twoK ltT a b).2 = true := by
  unfold twoK
  by_cases c : ltT a b = true
  · rw [if_pos c]; exact c
  · rw [if_neg c]
    rcases emb_stop.tot ⟨ha, trivial⟩ ⟨hb, trivial⟩ (by simpa using c) with z | z
    · exact absurd z h
    · exact z
/-- as many ends as drawn, or one; the signs of the menu -/
structure FromMenu (es : List Nat) (r : RowS) : Prop where
  en : r.ends ∈ es ∨ r.ends = 1
  sg : ∀ x ∈ r.signs, x ∈ (["inn", "left", "bread", "q"] : List Str)
theorem few_stops {es : List Nat} {m : Nat} (he : ∀ n ∈ es, n ≤ m) (h1 : 1 ≤ m) : ∀ {rows : List RowS}, (∀ r ∈ rows, FromMenu es r) → (stopsS rows).length ≤ m * rows.length
  | [], _ => by simp [stopsS]
  | r :: rows, h => by
    have ih := few_stops he h1 (rows := rows) fun x hx => h x (by simp [hx])
    have hr : r.ends ≤ m := by
      rcases (h r (by simp)).en with z | z
      · exact he _ z
      · omega
    have e : stopsS (r :: rows) = ((List.range r.ends).map fun e => (r.name, e)) ++ stopsS rows := rfl
    rw [e, List.length_append, List.length_map, List.length_range, List.length_cons, Nat.mul_succ]
    omega
def sp__law_free_town : DSp := fun ds S Q => ∃ (p : Addr) (o : Nd × List D) (mo : Int) (es : List Nat) (b : Nat), ds = [.ref p, .int mo, .lst (es.map natD)] ∧ 1 ≤ mo ∧ mo ≤ 10 ∧ (∀ n ∈ es, 1 ≤ n ∧ n ≤ 20) ∧ 0 < es.length ∧ es.length < 2 ^ 10 ∧ S p = some o ∧ Pot o (b + 1000) ∧
  ∀ rows lanes, GoodTown rows lanes → (∀ r ∈ rows, FromMenu es r) → (rows.length : Int) ≤ mo + 1 → (∀ m, (∀ n ∈ es, n ≤ m) → 1 ≤ m → (stopsS rows).length ≤ m * mo.toNat + 1) → ∀ o', Pot o' b → Q (townD rows lanes) (put S p o')
theorem good_of {rows : List RowS} {pl : List (Stop × Stop)} (ok : ∀ r ∈ rows, RowOk r) (nd : (rows.map RowS.name).Nodup) (ne : 0 < rows.length) (few : rows.length ≤ 11) (up : ∀ x ∈ pl, ltT x.1 x.2 = true) (all : (flatK pl).Perm (stopsS rows)) :
    (∀ x ∈ pl, (NameS x.1.1 ∧ True) ∧ (NameS x.2.1 ∧ True)) ∧ GoodTown (ordK (fun a b => ltS a.name b.name) rows) (ordK ltLn pl) := by
  have ndr : rows.Nodup := List.Pairwise.imp (fun h z => h (by rw [z])) (List.pairwise_map.mp nd)
  have e := emb_row ok nd
  have hm : ∀ r ∈ rows, r ∈ rows := fun _ h => h
  have pr := ord_perm e hm ndr
  have fl : (flatK pl).Nodup := all.nodup_iff.mpr (stops_nodup nd)
  have hn : ∀ x ∈ pl, (NameS x.1.1 ∧ True) ∧ (NameS x.2.1 ∧ True) := fun x hx => by
    have h1 : x.1 ∈ stopsS rows := all.mem_iff.mp (List.mem_flatMap.mpr ⟨x, hx, by simp⟩)
    have h2 : x.2 ∈ stopsS rows := all.mem_iff.mp (List.mem_flatMap.mpr ⟨x, hx, by simp⟩)
    exact ⟨⟨stop_name ok h1, trivial⟩, stop_name ok h2, trivial⟩
  have pp := ord_perm emb_lane hn (flat_nodup fl)
  exact ⟨hn, ⟨fun r hr => ok r (pr.mem_iff.mp hr), by rw [pr.length_eq]; exact ne, by rw [pr.length_eq]; exact few, ord_sorted e hm, fun x hx => up x (pp.mem_iff.mp hx), (flat_perm pp).trans (all.trans (stops_perm pr).symm), ord_sorted emb_lane hn⟩⟩
theorem lanes_ok {l : List Stop} (h : ∀ x ∈ l, NameS x.1) : okL (l.map stopD) = true ∧ depL (l.map stopD) ≤ 63 := ⟨okL_all fun x hx => by
    obtain ⟨a, ha, rfl⟩ := List.mem_map.mp hx
    exact emb_stop.ok ⟨h a ha, trivial⟩, depL_all fun x hx => by
    obtain ⟨a, ha, rfl⟩ := List.mem_map.mp hx
    exact Nat.le_trans (stop_dep a) (by decide)⟩
theorem erase_map {α β : Type} {f : α → β} : ∀ {l : List α} {i : Nat}, (l.map f).eraseIdx i = (l.eraseIdx i).map f
  | [], _ => rfl
  | _ :: _, 0 => rfl
  | x :: l, i + 1 => by
    rw [List.map_cons, List.eraseIdx_cons_succ, List.eraseIdx_cons_succ, List.map_cons, erase_map]
theorem last_of {κ : Type} {l : List κ} (h : l ≠ []) : ∃ m a, l = m ++ [a] := ⟨l.dropLast, l.getLast h, (List.dropLast_concat_getLast h).symm⟩
theorem d__law_free_town (ds S Q) (h : sp__law_free_town ds S Q) : t__law_free_town sp__law_many_names sp__law_take sp__law_free_row sp__law_signs sp__law_each_stop sp__law_two sp__law_ordered (endsF Q) (startD N__law_free_town.length ds) S := by
  obtain ⟨p, o, mo, es, b, rfl, m0, m1, he, he0, he1, hp, po, k⟩ := h
  unfold t__law_free_town
  have e0 : startD N__law_free_town.length [.ref p, .int mo, .lst (es.map natD)] = [some (.ref p), some (.int mo), some (.lst (es.map natD)), none, none, none, none, none, none, none] := rfl
  rw [e0]
  refine seq_g fun K hK => ?_
  walk_at "ev"
  refine ⟨p, o, mo, b + 999, rfl, by omega, by omega, hp, po, fun r o1 r0 r1 po1 => ?_⟩
  walk_at "ev"
  refine ⟨p, o1, 1 + r, b + 899, rfl, by omega, by omega, put_same, po1.less (by omega), fun ns ln hn nd o2 po2 => ?_⟩
  rw [put_put]
  subst hK
  refine seq_g fun K hK => ?_
  walk_at "ev"
  rw [lcM_e, seqI_e]
  walk_at "ev"
  intro q hq
  have hqp : q ≠ p := fun z => by subst z; simp only [put_same] at hq; cases hq
  have hq0 : S q = none := by simpa only [put_ne hqp] using hq
  have ew : wipeD [some (D.ref p), some (.int mo), some (.lst (es.map natD)), some (.lst (ns.map D.str)), none, none, none, none, none, none] [9] = [some (D.ref p), some (.int mo), some (.lst (es.map natD)), some (.lst (ns.map D.str)), none, none, none, none, none, none] := rfl
  rw [ew]
  refine compD_ind (fun l acc S2 => ∃ (o' : Nd × List D) (rs : List RowS) (l' : List Str), acc = rs.map RowS.d ∧ l = l'.map D.str ∧ rs.map RowS.name ++ l' = ns ∧ (∀ r ∈ rs, RowOk r) ∧ (∀ r ∈ rs, FromMenu es r) ∧ S2 p = some o' ∧ S2 q = some (.lst, acc) ∧ Off S S2 [p, q] ∧ Pot o' (b + 400 + 40 * l'.length))
    (fun _ _ _ _ => trivial) (fun acc S2 h => ?_) (fun d l acc S2 h K3 hK3 => ?_) ⟨o2, [], ns, rfl, rfl, rfl, by simp, by simp, by rw [put_ne hqp.symm, put_same], put_same, (Off.put (Off.put Off.refl (by simp)) (by simp)), po2.less (by omega)⟩
  · obtain ⟨o3, rs, l', rfl, el, en, hrs, hfm, ap, aq, off, po3⟩ := h
    have : l' = [] := by cases l' with
      | nil => rfl
      | cons _ _ => cases el
    subst this
    rw [List.append_nil] at en
    refine ⟨aq, ?_⟩
    have hlen : rs.length = (1 + r).toNat := by rw [← ln, ← en, List.length_map]
    have hst := stopsS_len hrs
    subst hK
    refine seq_g fun K hK => ?_
    k_with "ev" => simp only [aq]
    refine ⟨by simp only [List.length_cons, List.length_nil]; decide, .ref q, [], ⟨rs.map RowS.d, fun S' => S' q = some (.lst, rs.map RowS.d)⟩, rs.map RowS.t, rfl, by unfold itemsOf; simp only [aq], rows_map.symm, by rw [stops_map, List.length_map]; omega, fun q5 h5 => ?_⟩
    walk_at "ev"
    refine ⟨Nat.zero_le _, fun q6 h6 => ?_⟩
    have h5p : q5 ≠ p := fun z => by subst z; rw [ap] at h5; cases h5
    have h5q : q5 ≠ q := fun z => by subst z; rw [aq] at h5; cases h5
    have h65 : q6 ≠ q5 := fun z => by subst z; rw [put_same] at h6; cases h6
    rw [put_ne h65] at h6
    have h6p : q6 ≠ p := fun z => by subst z; rw [ap] at h6; cases h6
    have h6q : q6 ≠ q := fun z => by subst z; rw [aq] at h6; cases h6
    have h50 : S q5 = none := by rw [← off q5 (by simp [h5p, h5q])]; exact h5
    have h60 : S q6 = none := by rw [← off q6 (by simp [h6p, h6q])]; exact h6
    rw [stops_map]
    have a_p : put (put S2 q5 (Nd.lst, (stopsS rs).map stopD)) q6 (Nd.lst, []) p = some o3 := by rw [put_ne h6p.symm, put_ne h5p.symm]; exact ap
    have a_q : put (put S2 q5 (Nd.lst, (stopsS rs).map stopD)) q6 (Nd.lst, []) q = some (.lst, rs.map RowS.d) := by rw [put_ne h6q.symm, put_ne h5q.symm]; exact aq
    have a_5 : put (put S2 q5 (Nd.lst, (stopsS rs).map stopD)) q6 (Nd.lst, []) q5 = some (.lst, (stopsS rs).map stopD) := by rw [put_ne h65.symm, put_same]
    have a_6 : put (put S2 q5 (Nd.lst, (stopsS rs).map stopD)) q6 (Nd.lst, []) q6 = some (.lst, []) := put_same
    have off6 : Off S (put (put S2 q5 (Nd.lst, (stopsS rs).map stopD)) q6 (Nd.lst, [])) [p, q, q5, q6] := ((off.more (by intro a ha; simp only [List.mem_cons, List.not_mem_nil, or_false] at ha ⊢; rcases ha with h | h <;> simp [h])).put (by simp)).put (by simp)
    generalize put (put S2 q5 (Nd.lst, (stopsS rs).map stopD)) q6 (Nd.lst, []) = S6 at a_p a_q a_5 a_6 off6 ⊢
    subst hK
    refine seq_g fun K hK => ?_
    have main : ∀ (rows : List RowS) (x7 : Option D) (S7 : DHp), (∀ r ∈ rows, RowOk r) → (∀ r ∈ rows, FromMenu es r) → (rows.length : Int) ≤ mo + 1 → (rows.map RowS.name).Nodup → 0 < rows.length → rows.length ≤ 11 → (stopsS rows).length % 2 = 0 → (∀ m, (∀ n ∈ es, n ≤ m) → 1 ≤ m → (stopsS rows).length ≤ m * mo.toNat + 1) → S7 p = some o3 → S7 q = some (.lst, rows.map RowS.d) → S7 q5 = some (.lst, (stopsS rows).map stopD) → S7 q6 = some (.lst, []) → Off S S7 [p, q, q5, q6] →
        K [some (.ref p), some (.int mo), some (.lst (es.map natD)), some (.lst (ns.map D.str)), some (.ref q), some (.ref q5), some (.ref q6), x7, none, none] S7 := by
      intro rows x7 S7 ok fm fw ndr ne few ev hst b_p b_q b_5 b_6 off7
      subst hK
      refine seq_g fun K hK => ?_
      have hsl := stopsS_len ok
      have hsn := stops_nodup ndr
      refine while_ind (fun n ρ S' => ∃ (o' : Nd × List D) (lf : List Stop) (pl : List (Stop × Stop)) (x8 : Option D), ρ = [some (.ref p), some (.int mo), some (.lst (es.map natD)), some (.lst (ns.map D.str)), some (.ref q), some (.ref q5), some (.ref q6), x7, x8, none] ∧ S' p = some o' ∧ S' q = some (.lst, rows.map RowS.d) ∧ S' q5 = some (.lst, lf.map stopD) ∧ S' q6 = some (.lst, pl.map laneD) ∧ Off S S' [p, q, q5, q6] ∧ Pot o' (b + lf.length) ∧ lf.length % 2 = 0 ∧ n = lf.length / 2 + 1 ∧ (flatK pl ++ lf).Perm (stopsS rows) ∧ (∀ x ∈ pl, ltT x.1 x.2 = true) ∧ 2 * pl.length + lf.length = (stopsS rows).length)
        (fun ρ S' ⟨_, lf, _, _, _, _, _, _, _, _, _, _, z, _⟩ => by omega) (fun n ρ S' h K4 hK4 => ?_)
        ⟨o3, stopsS rows, [], none, rfl, b_p, b_q, b_5, b_6, off7, po3.less (by rw [List.length_nil]; omega), ev, rfl, List.Perm.refl _, by simp, by simp⟩
      obtain ⟨o', lf, pl, x8, rfl, c_p, c_q, c_5, c_6, off8, po', lev, hn8, pm, up, cnt⟩ := h
      have lfn : ∀ x ∈ lf, NameS x.1 := fun x hx => stop_name ok (pm.mem_iff.mp (by simp [hx]))
      walk_at "ev"
      refine ⟨Nat.zero_le _, ?_⟩
      refine eqR_r c_5 (lanes_ok lfn).1 (by rw [okD, okL]) (lanes_ok lfn).2 (by rw [dep, depL]; omega) ?_
      by_cases hl : lf = []
      · subst hl
        have : eqD (.lst (([] : List Stop).map stopD)) (.lst []) = true := by rw [List.map_nil, eqD, eqL]
        simp only [this, if_true, Bool.not_true, Bool.false_eq_true, if_false]
        rw [List.append_nil] at pm
        obtain ⟨hnm, good⟩ := good_of ok ndr ne few up pm
        have pmr := ord_perm (emb_row ok ndr) (fun _ h => h) (List.Pairwise.imp (fun h z => h (by rw [z])) (List.pairwise_map.mp ndr) : rows.Nodup)
        subst hK
        walk_at "ev"
        refine ordered_l (emb_row ok ndr) (src := ⟨rows.map RowS.d, fun S' => S' q = some (.lst, rows.map RowS.d)⟩) (by unfold itemsOf; simp only [c_q]) rfl (fun _ h => h) (by omega) ?_
        walk_at "ev"
        refine ordered_l emb_lane (src := ⟨pl.map laneD, fun S' => S' q6 = some (.lst, pl.map laneD)⟩) (by unfold itemsOf; simp only [c_6]) rfl hnm (by omega) ?_
        walk_at "ev"
        exact ⟨by simp only [List.length_cons, List.length_nil]; decide, put S p o', off_less off8 c_p (by simp [hq0, h50, h60]), k _ _ good (fun x hx => fm x (pmr.mem_iff.mp hx)) (by rw [pmr.length_eq]; exact fw) (fun m h1 h2 => by rw [(stops_perm pmr).length_eq]; exact hst m h1 h2) o' (po'.less (by omega))⟩
      · obtain ⟨lf', a, rfl⟩ := last_of hl
        have : eqD (.lst ((lf' ++ [a]).map stopD)) (.lst []) = false := by
          rw [eqD]
          cases lf' <;> simp [eqL]
        simp only [this, if_true, Bool.not_false]
        have hll : (lf' ++ [a]).length = lf'.length + 1 := by simp
        have h_last : ((lf' ++ [a]).map stopD)[((lf' ++ [a]).map stopD).length - 1]? = some (stopD a) := by simp
        have h_drop : ((lf' ++ [a]).map stopD).dropLast = lf'.map stopD := by simp
        rw [hll] at po' lev cnt hn8
        refine seq_g fun K5 hK5 => ?_
        k_with "ev" => simp only [c_5, h_last, h_drop]
        subst hK5
        k_with "ev" => simp only [c_6, put_ne h65]
        refine ⟨p, o', ((lf'.map stopD).length : Int), b + lf'.length, rfl, by rw [List.length_map]; omega, by rw [List.length_map]; omega, by rw [put_ne h5p.symm]; exact c_p, po'.less (by omega), fun i o4 i0 i1 po4 => ?_⟩
        rw [List.length_map] at i1
        have d_5 : put (put S' q5 (Nd.lst, lf'.map stopD)) p o4 q5 = some (.lst, lf'.map stopD) := by rw [put_ne h5p, put_same]
        have hi : i.toNat < lf'.length := by omega
        k_with "ev" => simp only [d_5]
        refine ⟨⟨i0, by omega⟩, ?_⟩
        have h_get : (lf'.map stopD)[i.toNat]? = some (stopD lf'[i.toNat]) := by rw [List.getElem?_map, List.getElem?_eq_getElem hi]; rfl
        simp only [h_get]
        have hna := lfn a (by simp)
        have hnc := lfn lf'[i.toNat] (by simp)
        refine ⟨stopD a, stopD lf'[i.toNat], rfl, emb_stop.al ⟨hna, trivial⟩ ⟨hnc, trivial⟩, rfl, Nat.le_trans (stop_dep a) (by decide), ?_⟩
        rw [two_map emb_stop ⟨hna, trivial⟩ ⟨hnc, trivial⟩]
        have d_6 : put (put (put S' q5 (Nd.lst, lf'.map stopD)) p o4) q5 (Nd.lst, (lf'.map stopD).eraseIdx i.toNat) q6 = some (.lst, pl.map laneD) := by rw [put_ne h65, put_ne h6p, put_ne h65]; exact c_6
        k_with "ev" => simp only [d_6]
        have hne : a ≠ lf'[i.toNat] := fun z => by
          have h1 := pm.nodup_iff.mpr hsn
          rw [List.nodup_append, List.nodup_append] at h1
          exact h1.2.1.2.2 _ (List.getElem_mem hi) a (by simp) z.symm
        refine ⟨by rw [List.length_map]; show pl.length < 2 ^ 24; omega, ?_⟩
        refine hK4 _ _ ⟨o4, lf'.eraseIdx i.toNat, pl ++ [twoK ltT a lf'[i.toNat]], _, rfl, ?_, ?_, ?_, ?_, (((off8.put (by simp)).put (by simp)).put (by simp)).put (by simp), ?_, ?_, ?_, ?_, ?_, ?_⟩
        · rw [put_ne h6p.symm, put_ne h5p.symm, put_same]
        · rw [put_ne h6q.symm, put_ne h5q.symm, put_ne hqp, put_ne h5q.symm]; exact c_q
        · rw [put_ne h65.symm, put_same, erase_map]
        · rw [put_same, List.map_append]; rfl
        · rw [List.length_eraseIdx_of_lt hi]; exact po4.less (by omega)
        · rw [List.length_eraseIdx_of_lt hi]; omega
        · rw [List.length_eraseIdx_of_lt hi]; omega
        · refine List.Perm.trans ?_ pm
          rw [flat_add, List.append_assoc]
          refine List.Perm.append_left _ ?_
          refine (flat_two.append_right _).trans ?_
          show (a :: lf'[i.toNat] :: lf'.eraseIdx i.toNat).Perm (lf' ++ [a])
          exact ((erase_perm hi).cons a).trans (List.perm_append_singleton a lf').symm
        · intro x hx
          rcases List.mem_append.mp hx with hx | hx
          · exact up x hx
          · have : x = twoK ltT a lf'[i.toNat] := by simpa using hx
            rw [this]
            exact two_lt hna hnc hne
        · rw [List.length_eraseIdx_of_lt hi, List.length_append, List.length_cons, List.length_nil]; omega
    refine ifs_g fun T U hT hU => ?_
    k_with "ev" => simp only [a_5]
    rw [List.length_map]
    refine ⟨by decide, ?_⟩
    by_cases odd : (stopsS rs).length % 2 = 1
    · have : (((stopsS rs).length : Int) % 2 == 1) = true := by rw [beq_iff_eq]; omega
      simp only [this, Bool.false_eq_true, if_false, if_true]
      subst hT
      refine seq_g fun K5 hK5 => ?_
      walk_at "ev"
      refine lc_pure (fun z => match z with
        | .str y => if y ∈ ns then none else some (.str y)
        | _ => none) (l := abcL.map D.str) (live := fun _ => True) (fun R hR => ?_) (fun _ _ _ => trivial) (by rw [List.length_map]; decide) (fun z hz S2 sub Y N hY => ?_) ?_
      · rw [seqI_e]
        walk_at "ev"
        refine ⟨by decide +kernel, ?_⟩
        rw [abc_signs]
        exact hR
      · obtain ⟨y, hy, rfl⟩ := List.mem_map.mp hz
        have ew : wipeD [some (D.ref p), some (.int mo), some (.lst (es.map natD)), some (.lst (ns.map D.str)), some (.ref q), some (.ref q5), some (.ref q6), none, none, none] [8] = [some (D.ref p), some (.int mo), some (.lst (es.map natD)), some (.lst (ns.map D.str)), some (.ref q), some (.ref q5), some (.ref q6), none, none, none] := rfl
        rw [ew]
        walk_at "ev"
        refine in_namesF (abcL_name hy) hn ?_
        by_cases hyn : y ∈ ns
        · simp only [hyn, decide_true, if_true, Bool.not_true, Bool.false_eq_true, if_false] at hY ⊢
          exact hY
        · simp only [hyn, decide_false, if_true, Bool.not_false, if_false] at hY ⊢
          exact hY
      · rw [filter_map (ns := ns) _ fun y _ => rfl]
        obtain ⟨y0, r0', e0', _, _⟩ := abc_free (ns := ns) (by omega)
        obtain ⟨z, ez, mz⟩ := at_last (l := (abcL.filter fun y => decide (y ∉ ns)).map D.str) (by rw [e0']; simp)
        obtain ⟨y, hy, rfl⟩ := List.mem_map.mp mz
        obtain ⟨hy1, hy2⟩ := List.mem_filter.mp hy
        have hyn : y ∉ ns := by simpa using hy2
        walk_at "ev"
        simp only [ez]
        subst hK5
        refine seq_g fun K5 hK5 => ?_
        k_with "ev" => simp only [a_q]
        refine ⟨Nat.zero_le _, Nat.zero_le _, by simp only [List.length_cons, List.length_nil]; decide, by rw [List.length_map]; show rs.length < 2 ^ 24; omega, ?_⟩
        subst hK5
        have g_5 : put S6 q (Nd.lst, rs.map RowS.d ++ [.tup [.str y, .int 1, .tup [], .tup []]]) q5 = some (.lst, (stopsS rs).map stopD) := by rw [put_ne h5q]; exact a_5
        k_with "ev" => simp only [g_5]
        refine ⟨by simp only [List.length_cons, List.length_nil]; decide, by rw [List.length_map]; show (stopsS rs).length < 2 ^ 24; omega, ?_⟩
        have es1 : stopsS (rs ++ [⟨y, 1, [], []⟩]) = stopsS rs ++ [(y, 0)] := by rw [stopsS_add]; rfl
        refine main (rs ++ [⟨y, 1, [], []⟩]) _ _ (fun x hx => ?_) (fun x hx => ?_) (by rw [List.length_append, List.length_cons, List.length_nil]; omega) ?_ (by simp) (by rw [List.length_append, List.length_cons, List.length_nil]; omega) (by rw [es1, List.length_append, List.length_cons, List.length_nil]; omega) (fun m h1 h2 => by
          have := few_stops h1 h2 hfm
          have h3 : m * rs.length ≤ m * mo.toNat := Nat.mul_le_mul (Nat.le_refl _) (by omega)
          rw [es1, List.length_append, List.length_cons, List.length_nil]; omega) ?_ ?_ ?_ ?_ ((off6.put (by simp)).put (by simp))
        · rcases List.mem_append.mp hx with hx | hx
          · exact hrs x hx
          · have : x = ⟨y, 1, [], []⟩ := by simpa using hx
            subst this
            exact ⟨abcL_name hy1, Nat.le_refl _, by show 1 ≤ 20; decide, ⟨by simp, by simp [flatK], List.Pairwise.nil⟩, ⟨by simp, List.Pairwise.nil⟩⟩
        · rcases List.mem_append.mp hx with hx | hx
          · exact hfm x hx
          · have : x = ⟨y, 1, [], []⟩ := by simpa using hx
            subst this
            exact ⟨.inr rfl, by simp⟩
        · rw [List.map_append, en, List.nodup_append]
          refine ⟨nd, by simp, fun a ha c hc => ?_⟩
          have : c = y := by simpa using hc
          subst this
          exact fun z => hyn (z ▸ ha)
        · rw [put_ne h5p.symm, put_ne hqp.symm]; exact a_p
        · rw [put_ne h5q.symm, put_same, List.map_append]; rfl
        · rw [put_same, es1, List.map_append]; rfl
        · rw [put_ne h65, put_ne h6q]; exact a_6
    · have : (((stopsS rs).length : Int) % 2 == 1) = false := by rw [beq_eq_false_iff_ne]; omega
      simp only [this, Bool.false_eq_true, if_false]
      subst hU
      walk_at "ev"
      exact main rs none S6 hrs hfm (by omega) (by rw [en]; exact nd) (by omega) (by omega) (by omega) (fun m h1 h2 => by
        have := few_stops h1 h2 hfm
        have h3 : m * rs.length ≤ m * mo.toNat := Nat.mul_le_mul (Nat.le_refl _) (by omega)
        omega) a_p a_q a_5 a_6 off6
  · obtain ⟨o3, rs, l', rfl, el, en, hrs, hfm, ap, aq, off, po3⟩ := h
    cases l' with
    | nil => cases el
    | cons x l' =>
      rw [List.map_cons] at el
      obtain ⟨rfl, rfl⟩ := List.cons.inj el
      rw [List.length_cons] at po3
      have hx : NameS x := hn x (by rw [← en]; simp)
      have hrl : rs.length + (l'.length + 1) = (1 + r).toNat := by rw [← ln, ← en, List.length_append, List.length_map, List.length_cons]
      simp only [yes_e, if_true]
      walk_at "ev"
      refine ⟨rfl, ?_⟩
      refine ⟨p, o3, .str x, es, ["inn", "left", "bread", "q"], b + 400 + 40 * l'.length, rfl, he, he0, he1, fun y hy => ?_, by decide, ap, po3.less (by omega), fun n pairs signs hn1 hst ha hsm o4 po4 => ?_⟩
      · simp only [List.mem_cons, List.not_mem_nil, or_false] at hy
        rcases hy with rfl | rfl | rfl | rfl <;> exact NameS.of (by decide +kernel)
      · refine ⟨by rw [put_ne hqp]; exact aq, by rw [List.length_map]; show rs.length < 2 ^ 24; omega, ?_⟩
        refine hK3 _ _ ⟨o4, rs ++ [⟨x, n, pairs, signs⟩], l', by rw [List.map_append]; rfl, rfl, by rw [List.map_append, ← en, List.append_assoc]; rfl, fun y hy => ?_, fun y hy => ?_, by rw [put_ne hqp.symm, put_same], put_same, (off.put (by simp)).put (by simp), po4⟩
        rcases List.mem_append.mp hy with hy | hy
        · exact hrs y hy
        · have : y = ⟨x, n, pairs, signs⟩ := by simpa using hy
          subst this
          exact ⟨hx, (he n hn1).1, (he n hn1).2, hst, ha⟩
        · rcases List.mem_append.mp hy with hy | hy
          · exact hfm y hy
          · have : y = ⟨x, n, pairs, signs⟩ := by simpa using hy
            subst this
            exact ⟨.inl hn1, hsm⟩
theorem isi_e {d : D} {t n : String} {r : Bool} {S : DHp} {Q : DQ} (h : tyN d = some t) (h2 : kitB t n = some r) : bIsi [d, .ty n] S Q = Q (.bl r) S := by
  unfold bIsi
  simp only [h, h2]
def sp_is_integer : DSp := fun ds S Q => ∃ d t, ds = [d] ∧ tyN d = some t ∧ ((t = "int" ∧ Q (.bl true) S) ∨ ((t = "str" ∨ t = "tuple") ∧ Q (.bl false) S))
theorem d_is_integer (ds S Q) (h : sp_is_integer ds S Q) : t_is_integer (endsF Q) (startD N_is_integer.length ds) S := by
  obtain ⟨d, t, rfl, ht, h⟩ := h
  unfold t_is_integer
  have e0 : startD N_is_integer.length [d] = [some d] := rfl
  rw [e0]
  walk_at "ev"
  rcases h with ⟨rfl, q⟩ | ⟨rfl | rfl, q⟩
  · rw [isi_e ht (r := true) (by decide +kernel)]
    simp only []
    rw [isi_e ht (r := false) (by decide +kernel)]
    exact ⟨_, Less.refl, q⟩
  · rw [isi_e ht (r := false) (by decide +kernel)]
    exact ⟨_, Less.refl, q⟩
  · rw [isi_e ht (r := false) (by decide +kernel)]
    exact ⟨_, Less.refl, q⟩
theorem st0_e {f : Str → D} {z : Str} {S : DHp} {Q : DQ} : mStr0 f (.str z) [] S Q = Q (f z) S := rfl
theorem uni_abc : ∀ c ∈ List.range 26, Unicode.isAlpha (c + 97) = true ∧ Unicode.isLower (c + 97) = true ∧ Unicode.isUpper (c + 97) = false ∧ Unicode.isTitle (c + 97) = false := by decide +kernel
theorem uni_c {c : Nat} (h0 : 97 ≤ c) (h1 : c ≤ 122) : Unicode.isAlpha c = true ∧ Unicode.isLower c = true ∧ Unicode.isUpper c = false ∧ Unicode.isTitle c = false := by
  have := uni_abc (c - 97) (List.mem_range.mpr (by omega))
  rwa [Nat.sub_add_cancel h0] at this
theorem name_txt {x : Str} (h : NameS x) : Txt.isascii x = true ∧ Txt.isalpha x = true ∧ Txt.islower x = true := by
  have hm : ∀ c ∈ x.cps, 97 ≤ c ∧ c ≤ 122 := fun c hc => h.abc c (by simpa using hc)
  refine ⟨?_, ?_, ?_⟩
  · unfold Txt.isascii
    rw [Array.all_eq_true_iff_forall_mem]
    intro c hc
    have := hm c hc
    simp only [decide_eq_true_eq]
    omega
  · unfold Txt.isalpha
    rw [Bool.and_eq_true, Array.all_eq_true_iff_forall_mem]
    exact ⟨by simp only [decide_eq_true_eq]; exact h.pos, fun c hc => (uni_c (hm c hc).1 (hm c hc).2).1⟩
  · unfold Txt.islower
    rw [Bool.and_eq_true]
    refine ⟨?_, ?_⟩
    · rw [Array.any_eq_true]
      refine ⟨0, h.pos, ?_⟩
      have hc : x.cps[0]'h.pos ∈ x.cps := Array.getElem_mem h.pos
      exact (uni_c (hm _ hc).1 (hm _ hc).2).2.1
    · rw [Bool.not_eq_true', Array.any_eq_false]
      intro i hi
      have hc : x.cps[i] ∈ x.cps := Array.getElem_mem hi
      obtain ⟨_, _, a, b⟩ := uni_c (hm _ hc).1 (hm _ hc).2
      simp [a, b]
def sp_is_name : DSp := fun ds S Q => ∃ x, ds = [.str x] ∧ NameS x ∧ Q (.bl true) S
theorem d_is_name (ds S Q) (h : sp_is_name ds S Q) : t_is_name (endsF Q) (startD N_is_name.length ds) S := by
  obtain ⟨x, rfl, hx, q⟩ := h
  unfold t_is_name
  have e0 : startD N_is_name.length [.str x] = [some (.str x)] := rfl
  rw [e0]
  have hl : x.length ≤ 8 := hx.most
  refine seq_g fun K hK => ifs_g fun T U hT hU => ?_
  walk_at "ev"
  rw [isi_e (t := "str") rfl (r := true) (by decide +kernel)]
  simp only [Bool.not_true, Bool.false_eq_true, if_false]
  rw [len_s (by show x.length ≤ 2 ^ 24; omega)]
  walk_at "ev"
  have : ¬ ((8 : Int) < x.length) := by omega
  simp only [this, decide_false, Bool.false_eq_true, if_false]
  subst hU
  walk_at "ev"
  subst hK
  obtain ⟨a, b, c⟩ := name_txt hx
  walk_at "ev"
  simp only [st0_e, a, b, c]
  exact ⟨_, Less.refl, q⟩
def sp_is_row : DSp := fun ds S Q => ∃ d m, ds = [d, .int m] ∧ ((∃ l, d = .nd .tup l ∧ Q (.bl (decide ((l.length : Int) = m))) S) ∨ ((tyN d = some "int" ∨ tyN d = some "str") ∧ Q (.bl false) S))
theorem d_is_row (ds S Q) (h : sp_is_row ds S Q) : t_is_row (endsF Q) (startD N_is_row.length ds) S := by
  obtain ⟨d, m, rfl, h⟩ := h
  unfold t_is_row
  have e0 : startD N_is_row.length [d, .int m] = [some d, some (.int m)] := rfl
  rw [e0]
  walk_at "ev"
  rcases h with ⟨l, rfl, q⟩ | ⟨h | h, q⟩
  · rw [isi_e (t := "tuple") rfl (r := true) (by decide +kernel)]
    walk_at "ev"
    refine ⟨_, Less.refl, ?_⟩
    have : ((l.length : Int) == m) = decide ((l.length : Int) = m) := rfl
    simp only [Bool.false_eq_true, if_false]
    exact q
  · rw [isi_e h (r := false) (by decide +kernel)]
    exact ⟨_, Less.refl, q⟩
  · rw [isi_e h (r := false) (by decide +kernel)]
    exact ⟨_, Less.refl, q⟩
def sp_is_word : DSp := fun ds S Q => ∃ d t, ds = [d] ∧ tyN d = some t ∧ (t = "int" ∨ t = "str") ∧ Q (.bl true) S
theorem d_is_word (ds S Q) (h : sp_is_word ds S Q) : t_is_word sp_is_integer (endsF Q) (startD N_is_word.length ds) S := by
  obtain ⟨d, t, rfl, ht, h, q⟩ := h
  unfold t_is_word
  have e0 : startD N_is_word.length [d] = [some d] := rfl
  rw [e0]
  walk_at "ev"
  rcases h with rfl | rfl
  · rw [isi_e ht (r := false) (by decide +kernel)]
    exact ⟨d, "int", rfl, ht, .inl ⟨rfl, _, Less.refl, q⟩⟩
  · rw [isi_e ht (r := true) (by decide +kernel)]
    exact ⟨_, Less.refl, q⟩
theorem bls_map : ∀ {bs : List Bool}, D.bls (bs.map D.bl) = some bs
  | [] => rfl
  | b :: bs => by
    rw [List.map_cons, D.bls, bls_map]
    rfl
theorem all_l {bs : List Bool} {S : DHp} {Q : DQ} : bAll [.lst (bs.map D.bl)] S Q = Q (.bl (bs.all id)) S := by
  unfold bAll bQuant lstOf
  simp only [bls_map]
theorem all_true {α : Type} {l : List α} {S : DHp} {Q : DQ} (q : Q (.bl true) S) : bAll [.lst (l.map fun _ => D.bl true)] S Q := by
  have e : (l.map fun _ => D.bl true) = (l.map fun _ => true).map D.bl := by rw [List.map_map]; rfl
  rw [e, all_l]
  have : (l.map fun _ => true).all id = true := by simp
  rw [this]
  exact q
theorem items_sub {S S' : DHp} {d : D} {src : Src} (hi : itemsOf S d = some src) (sub : ∀ q o, S q = some o → S' q = some o) : itemsOf S' d = some src := by
  unfold itemsOf at hi ⊢
  split at hi
  · exact hi
  · exact hi
  · exact hi
  · rename_i p
    split at hi
    · rename_i ds hS
      simp only [sub _ _ hS]
      exact hi
    · cases hi
  · cases hi
theorem at_mapf {κ : Type} {f : κ → D} {l : List κ} {i : Nat} (h : i < l.length) : L2.atI (l.map f) (i : Int) = some (f l[i]) := by
  rw [at_nat, List.getElem?_map, List.getElem?_eq_getElem h]
  rfl
def sp_ascends : DSp := fun ds S Q => ∃ (κ : Type) (P : κ → Prop) (f : κ → D) (lt : κ → κ → Bool) (l : List κ) (d : D) (src : Src), ds = [d] ∧ Emb P f lt ∧ itemsOf S d = some src ∧ src.items = l.map f ∧ (∀ x ∈ l, P x) ∧ l.Pairwise (fun a b => lt a b = true) ∧ l.length < 2 ^ 24 ∧ Q (.bl true) S
theorem d_ascends (ds S Q) (h : sp_ascends ds S Q) : t_ascends (endsF Q) (startD N_ascends.length ds) S := by
  obtain ⟨κ, P, f, lt, l, d, src, rfl, e, hi, es, hp, hs, hz, q⟩ := h
  unfold t_ascends
  have e0 : startD N_ascends.length [d] = [some d, none] := rfl
  rw [e0]
  walk_at "ev"
  have hlen : src.items.length = l.length := by rw [es, List.length_map]
  refine lc_map (fun _ => .bl true) (l := intsD 0 ((l.length : Int) - 1).toNat) (live := fun _ => True) (fun R hR => ?_) (fun _ _ _ => trivial) (by rw [intsD_len]; show _ ≤ 2 ^ 24; omega) (fun z hz2 S' sub Y hY => ?_) ?_
  · rw [rng_e]
    walk_at "ev"
    refine items_len hi ?_
    rw [hlen]
    walk_at "ev"
    exact ⟨by omega, by omega, hR⟩
  · rw [ints_nat] at hz2
    obtain ⟨k, hk, rfl⟩ := List.mem_map.mp hz2
    have hk := List.mem_range.mp hk
    have h1 : k + 1 < l.length := by omega
    have ew : wipeD [some d, none] [1] = [some d, none] := rfl
    rw [ew]
    walk_at "ev"
    refine items_ix (items_sub hi sub) (by rw [es]; exact at_mapf (by omega)) ?_
    have c2 : ((k : Int) + 1) = ((k + 1 : Nat) : Int) := by omega
    rw [c2]
    refine items_ix (items_sub hi sub) (by rw [es]; exact at_mapf h1) ?_
    have p0 := hp l[k] (List.getElem_mem _)
    have p1 := hp l[k + 1] (List.getElem_mem _)
    have hlt : lt l[k] l[k + 1] = true := List.pairwise_iff_getElem.mp hs k (k + 1) (by omega) h1 (by omega)
    refine ⟨⟨e.al p0 p1, e.non p0, Nat.le_trans (e.dp p0) (by decide)⟩, ?_⟩
    rw [e.lt_ p0 p1, hlt]
    exact hY
  · exact all_true ⟨_, Less.refl, q⟩
def sp_are_names : DSp := fun ds S Q => ∃ l, ds = [.tup (l.map D.str)] ∧ Asc l ∧ l.length < 2 ^ 24 ∧ Q (.bl true) S
theorem d_are_names (ds S Q) (h : sp_are_names ds S Q) : t_are_names sp_is_name sp_ascends (endsF Q) (startD N_are_names.length ds) S := by
  obtain ⟨l, rfl, ha, hz, q⟩ := h
  unfold t_are_names
  have e0 : startD N_are_names.length [.tup (l.map D.str)] = [some (.tup (l.map D.str)), none] := rfl
  rw [e0]
  walk_at "ev"
  rw [isi_e (t := "tuple") rfl (r := true) (by decide +kernel)]
  walk_at "ev"
  refine lc_map (fun _ => .bl true) (l := l.map D.str) (live := fun _ => True) (fun R hR => ?_) (fun _ _ _ => trivial) (by rw [List.length_map]; show _ ≤ 2 ^ 24; omega) (fun z hz2 S' sub Y hY => ?_) ?_
  · rw [seqI_e]
    walk_at "ev"
    exact hR
  · obtain ⟨x, hx, rfl⟩ := List.mem_map.mp hz2
    have ew : wipeD [some (D.tup (l.map D.str)), none] [1] = [some (D.tup (l.map D.str)), none] := rfl
    rw [ew]
    walk_at "ev"
    exact ⟨x, rfl, ha.nm x hx, hY⟩
  · refine all_true ?_
    exact ⟨Str, NameS, D.str, ltS, l, _, ⟨l.map D.str, fun _ => True⟩, rfl, emb_str, rfl, rfl, ha.nm, ha.srt, hz, _, Less.refl, q⟩
def sp_mirrored_end : DSp := fun ds S Q => ∃ n e : Int, ds = [.int n, .int e] ∧ 0 < n ∧ Q (.int ((n - e) % n)) S
theorem d_mirrored_end (ds S Q) (h : sp_mirrored_end ds S Q) : t_mirrored_end (endsF Q) (startD N_mirrored_end.length ds) S := by
  obtain ⟨n, e, rfl, h0, q⟩ := h
  unfold t_mirrored_end
  have e0 : startD N_mirrored_end.length [.int n, .int e] = [some (.int n), some (.int e)] := rfl
  rw [e0]
  walk_at "ev"
  exact ⟨h0, _, Less.refl, q⟩
/-- what goes straight on from an end -/
def strN : List (Nat × Nat) → Nat → Option Nat
  | [], _ => none
  | x :: l, e => if x.1 = e then some x.2 else if x.2 = e then some x.1 else strN l e
def optD : Option Nat → D
  | none => .non
  | some n => natD n
theorem tup2_e {i j : Nat} {a b : D} {ρ : DSt} {S : DHp} {R : DSt → DHp → Prop} (h : R ((ρ.set i (some a)).set j (some b)) S) : dgTup 2 (dgCons (dgName i) (dgCons (dgName j) dgNil)) (.tup [a, b]) ρ S R := by
  first
    | exact h
    | exact ⟨rfl, h⟩
    | exact ⟨_, rfl, rfl, h⟩
    | exact ⟨[a, b], rfl, rfl, h⟩
def sp_straight_from : DSp := fun ds S Q => ∃ (l : List (Nat × Nat)) (e : Nat), ds = [.tup (l.map natP), natD e] ∧ Q (optD (strN l e)) S
theorem nat_eq {a b : Nat} : ((a : Int) == (b : Int)) = decide (a = b) := by
  by_cases h : a = b
  · simp [h]
  · have : ¬ (a : Int) = b := by omega
    simp [h, this]
theorem d_straight_from (ds S Q) (h : sp_straight_from ds S Q) : t_straight_from (endsF Q) (startD N_straight_from.length ds) S := by
  obtain ⟨l, e, rfl, q⟩ := h
  unfold t_straight_from
  have e0 : startD N_straight_from.length [.tup (l.map natP), natD e] = [some (.tup (l.map natP)), some (natD e), none, none] := rfl
  rw [e0]
  refine seq_g fun K hK => ?_
  simp only [for_e, seqI_e]
  walk_at "ev"
  show forD _ _ _ _ (l.map natP) _ _
  refine forD_ind (fun m ρ S' => ∃ (l' : List (Nat × Nat)) (x2 x3 : Option D), m = l'.map natP ∧ ρ = [some (.tup (l.map natP)), some (natD e), x2, x3] ∧ S' = S ∧ strN l e = strN l' e)
    (fun _ _ _ _ => trivial) (fun ρ S' h => ?_) (fun d m ρ S' h K2 hK2 => ?_) ⟨l, none, none, rfl, rfl, rfl, rfl⟩
  · obtain ⟨l', x2, x3, em, rfl, rfl, es⟩ := h
    have : l' = [] := by cases l' with
      | nil => rfl
      | cons _ _ => cases em
    subst this
    subst hK
    walk_at "ev"
    refine ⟨_, Less.refl, ?_⟩
    rw [es] at q
    exact q
  · obtain ⟨l', x2, x3, em, rfl, rfl, es⟩ := h
    cases l' with
    | nil => cases em
    | cons x l' =>
      obtain ⟨a, b⟩ := x
      rw [List.map_cons] at em
      obtain ⟨rfl, rfl⟩ := List.cons.inj em
      refine tup2_e ?_
      walk_at "ev"
      refine seq_g fun K3 hK3 => ifs_g fun T U hT hU => ?_
      walk_at "ev"
      simp only [nat_eq, Bool.false_eq_true, if_false]
      rw [strN] at es
      by_cases c : a = e
      · simp only [c, decide_true, if_true] at es ⊢
        subst hT
        walk_at "ev"
        rw [es] at q
        exact ⟨_, Less.refl, q⟩
      · simp only [c, decide_false, Bool.false_eq_true, if_false] at es ⊢
        subst hU
        walk_at "ev"
        subst hK3
        refine ifs_g fun T U hT hU => ?_
        walk_at "ev"
        simp only [nat_eq, Bool.false_eq_true, if_false]
        by_cases c2 : b = e
        · simp only [c2, decide_true, if_true] at es ⊢
          subst hT
          walk_at "ev"
          rw [es] at q
          exact ⟨_, Less.refl, q⟩
        · simp only [c2, decide_false, Bool.false_eq_true, if_false] at es ⊢
          subst hU
          walk_at "ev"
          exact hK2 _ _ ⟨l', _, _, rfl, rfl, rfl, es⟩
/-- the ends of a round behind b, b left out -/
def othN (n b : Nat) : List Nat := (List.range (n - 1)).map fun i => (b + (1 + i)) % n
theorem cut_to {xs : List D} {j : Nat} (h : j ≤ xs.length) : cutD xs none (some (j : Int)) = xs.take j := by
  unfold cutD HT.sIx
  have : ¬ ((j : Int) < 0) := by omega
  simp only [this, if_false, List.drop_zero, Nat.sub_zero, Int.toNat_natCast, Nat.min_eq_left h]
theorem cut_from {xs : List D} {j : Nat} (h : j ≤ xs.length) : cutD xs (some (j : Int)) none = xs.drop j := by
  unfold cutD HT.sIx
  have : ¬ ((j : Int) < 0) := by omega
  simp only [this, if_false, Int.toNat_natCast, Nat.min_eq_left h]
  rw [← List.length_drop, List.take_length]
theorem ints_of {l : List Nat} : intsOf (l.map natD) = some (l.map fun (n : Nat) => (n : Int)) := by
  induction l with
  | nil => rfl
  | cons x l ih =>
    rw [List.map_cons, intsOf, ih]
    rfl
theorem rng2_e {ta : DTA} {ρ : DSt} {S : DHp} {R : Src → DHp → Prop} : dRng2 ta ρ S R = ta ρ S fun ds S1 => match ds with
  | [.int i, .int j] => (-(2 ^ 62) ≤ i ∧ i < 2 ^ 62 ∧ -(2 ^ 62) ≤ j ∧ j < 2 ^ 62) ∧ R ⟨intsD i (j - i).toNat, fun _ => True⟩ S1
  | _ => False := rfl
theorem rev_e {te : DTE} {ρ : DSt} {S : DHp} {Q : DQ} : dRev te ρ S Q = te ρ S fun x S1 => match x with
  | .nd .lst ds => Q (.lst ds.reverse) S1
  | _ => False := rfl
theorem sl_e {te : DTE} {tl th : DTO} {ρ : DSt} {S : DHp} {Q : DQ} : dSl te tl th ρ S Q = te ρ S fun x S1 => tl ρ S1 fun lo S2 => th ρ S2 fun hi S3 => match x with
  | .nd .tup ds => Q (.tup (cutD ds lo hi)) S3
  | .nd .lst ds => Q (.lst (cutD ds lo hi)) S3
  | .ref p => match S3 p with
    | some (.lst, ds) => Q (.lst (cutD ds lo hi)) S3
    | _ => False
  | _ => False := rfl
theorem nopart_e {ρ : DSt} {S : DHp} {R : Option Int → DHp → Prop} : dNoPart ρ S R = R none S := rfl
theorem part_e {t : DTE} {ρ : DSt} {S : DHp} {R : Option Int → DHp → Prop} : dPart t ρ S R = t ρ S fun d S1 => match d with
  | .int i => R (some i) S1
  | _ => False := rfl
theorem index_e {ds : List D} {i : Int} {S : DHp} {Q : DQ} : mIndex (.nd .lst ds) [.int i] S Q = match intsOf ds with
    | some ns => ∃ j : Nat, ns[j]? = some i ∧ (∀ m, m < j → ns[m]? ≠ some i) ∧ Q (.int j) S
    | none => False := rfl
def sp_sides_of : DSp := fun ds S Q => ∃ (n b : Nat) (on : Option Nat), ds = [natD n, optD on, natD b] ∧ 1 ≤ n ∧ n < 2 ^ 20 ∧ match on with
  | none => Q (.tup [.lst ((othN n b).map natD), .lst ((othN n b).reverse.map natD)]) S
  | some o => ∃ j : Nat, (othN n b)[j]? = some o ∧ (∀ m, m < j → (othN n b)[m]? ≠ some o) ∧ Q (.tup [.lst (((othN n b).take j).map natD), .lst (((othN n b).drop (j + 1)).reverse.map natD)]) S
theorem d_sides_of (ds S Q) (h : sp_sides_of ds S Q) : t_sides_of (endsF Q) (startD N_sides_of.length ds) S := by
  obtain ⟨n, b, on, rfl, n0, n1, h⟩ := h
  unfold t_sides_of
  have e0 : startD N_sides_of.length [natD n, optD on, natD b] = [some (natD n), some (optD on), some (natD b), none, none, none] := rfl
  rw [e0]
  refine seq_g fun K hK => ?_
  walk_at "ev"
  have hr : ((n : Int) - 1).toNat = n - 1 := by omega
  refine lc_map (fun z => match z with
    | .int k => .int (((b : Int) + k) % (n : Int))
    | z => z) (l := intsD 1 (n - 1)) (live := fun _ => True) (fun R hR => ?_) (fun _ _ _ => trivial) (by rw [intsD_len]; show _ ≤ 2 ^ 24; omega) (fun z hz2 S' sub Y hY => ?_) ?_
  · rw [rng2_e]
    walk_at "ev"
    refine ⟨by omega, ?_⟩
    rw [hr]
    exact hR
  · unfold intsD at hz2
    obtain ⟨i, hi, rfl⟩ := List.mem_map.mp hz2
    have ew : wipeD [some (natD n), some (optD on), some (natD b), none, none, none] [5] = [some (natD n), some (optD on), some (natD b), none, none, none] := rfl
    rw [ew]
    walk_at "ev"
    exact ⟨by omega, hY⟩
  · have em : (intsD 1 (n - 1)).map (fun z => match z with
        | .int k => D.int (((b : Int) + k) % (n : Int))
        | z => z) = (othN n b).map natD := by
      unfold intsD othN
      rw [List.map_map, List.map_map]
      refine List.map_congr_left fun i _ => ?_
      show D.int (((b : Int) + (1 + (i : Int))) % (n : Int)) = D.int (((b + (1 + i)) % n : Nat) : Int)
      congr 1
    rw [em]
    have hl : (othN n b).length = n - 1 := by unfold othN; rw [List.length_map, List.length_range]
    generalize othN n b = os at h hl ⊢
    subst hK
    refine seq_g fun K hK => ifs_g fun T U hT hU => ?_
    walk_at "ev"
    cases on with
    | none =>
      simp only [optD, isNon, Bool.false_eq_true, if_false, if_true]
      subst hT
      walk_at "ev"
      simp only [rev_e]
      walk_at "ev"
      rw [← List.map_reverse]
      exact ⟨by simp only [List.length_cons, List.length_nil]; decide, _, Less.refl, h⟩
    | some o =>
      simp only [optD, isNon, Bool.false_eq_true, if_false]
      subst hU
      walk_at "ev"
      obtain ⟨j, h1, h2, q⟩ := h
      have hj : j < os.length := by
        have := (List.getElem?_eq_some_iff.mp h1).1
        exact this
      subst hK
      refine seq_g fun K hK => ?_
      walk_at "ev"
      simp only [optD, index_e, ints_of]
      refine ⟨j, by rw [List.getElem?_map, h1]; rfl, fun m hm hz => ?_, ?_⟩
      · rw [List.getElem?_map] at hz
        cases e : os[m]? with
        | none => rw [e] at hz; cases hz
        | some v =>
          rw [e] at hz
          have hv : (v : Int) = (o : Int) := Option.some.inj hz
          have hv2 : v = o := by omega
          exact h2 m hm (by rw [e, hv2])
      · subst hK
        simp only [ret_e, tup_e, cons_e, nil_e, rev_e, sl_e, nopart_e, part_e]
        k_with "ev" => simp only [nopart_e, part_e]
        have c2 : ((j : Int) + 1) = ((j + 1 : Nat) : Int) := by omega
        rw [c2, cut_to (by rw [List.length_map]; omega), cut_from (by rw [List.length_map]; omega), ← List.map_take, ← List.map_drop, ← List.map_reverse]
        exact ⟨by simp only [List.length_cons, List.length_nil]; decide, _, Less.refl, q⟩
/-- a number, or a name with a number -/
inductive Wd : D → Prop
  | nat (n : Nat) : Wd (natD n)
  | stop (x : Stop) : Wd (stopD x)
  | word (x : Str) : Wd (.str x)
  | gap (x : Str × Str) : Wd (pairD D.str D.str x)
theorem in_dict {n : Bool} {x y : D} {o : Nd × List D} {r : Option D} {S : DHp} {Q : DQ} (h1 : dictOf S y = some o) (h2 : atKey o x = some r) (q : Q (.bl (if n then !r.isSome else r.isSome)) S) : oIn n x y S Q := by
  unfold oIn
  simp only [h1, h2]
  exact q
def sp_is_told : DSp := fun ds S Q => ∃ (v t : D) (o : Nd × List D) (r : Option D), ds = [v, t] ∧ Wd v ∧ dictOf S t = some o ∧ atKey o v = some r ∧ Q (.bl r.isSome) S
theorem d_is_told (ds S Q) (h : sp_is_told ds S Q) : t_is_told sp_is_row sp_is_word (endsF Q) (startD N_is_told.length ds) S := by
  obtain ⟨v, t, o, r, rfl, hw, h1, h2, q⟩ := h
  unfold t_is_told
  have e0 : startD N_is_told.length [v, t] = [some v, some t] := rfl
  rw [e0]
  refine seq_g fun K hK => ifs_g fun T U hT hU => ?_
  walk_at "ev"
  cases hw with
  | nat n =>
    refine ⟨natD n, 2, rfl, .inr ⟨.inl rfl, ?_⟩⟩
    simp only [Bool.false_eq_true, if_false]
    subst hU
    walk_at "ev"
    subst hK
    walk_at "ev"
    refine ⟨natD n, "int", rfl, rfl, .inl rfl, ?_⟩
    refine in_dict h1 h2 ?_
    exact ⟨_, Less.refl, q⟩
  | word x =>
    refine ⟨.str x, 2, rfl, .inr ⟨.inr rfl, ?_⟩⟩
    simp only [Bool.false_eq_true, if_false]
    subst hU
    walk_at "ev"
    subst hK
    walk_at "ev"
    refine ⟨.str x, "str", rfl, rfl, .inr rfl, ?_⟩
    refine in_dict h1 h2 ?_
    exact ⟨_, Less.refl, q⟩
  | gap x =>
    refine ⟨pairD D.str D.str x, 2, rfl, .inl ⟨_, rfl, ?_⟩⟩
    have : decide ((([D.str x.1, D.str x.2].length : Nat) : Int) = 2) = true := by simp
    simp only [this, if_true]
    subst hT
    have p0 : ∀ (S' : DHp) (Q' : DQ), oIx (pairD D.str D.str x) (.int 0) S' Q' = Q' (.str x.1) S' := fun _ _ => at_0t
    have p1 : ∀ (S' : DHp) (Q' : DQ), oIx (pairD D.str D.str x) (.int 1) S' Q' = Q' (.str x.2) S' := fun _ _ => at_1t
    k_with "ev" => simp only [p0, p1]
    refine ⟨.str x.1, "str", rfl, rfl, .inr rfl, ?_⟩
    k_with "ev" => simp only [p0, p1]
    refine ⟨.str x.2, "str", rfl, rfl, .inr rfl, ?_⟩
    refine in_dict h1 h2 ?_
    exact ⟨_, Less.refl, q⟩
  | stop x =>
    refine ⟨stopD x, 2, rfl, .inl ⟨_, rfl, ?_⟩⟩
    have : decide ((([D.str x.1, natD x.2].length : Nat) : Int) = 2) = true := by simp
    simp only [this, if_true]
    subst hT
    k_with "ev" => simp only [at_0t, at_1t]
    refine ⟨.str x.1, "str", rfl, rfl, .inr rfl, ?_⟩
    k_with "ev" => simp only [at_0t, at_1t]
    refine ⟨natD x.2, "int", rfl, rfl, .inl rfl, ?_⟩
    refine in_dict h1 h2 ?_
    exact ⟨_, Less.refl, q⟩
theorem tup2b_e {g h : DTG} {a b : D} {ρ : DSt} {S : DHp} {R : DSt → DHp → Prop} (k : g a ρ S fun ρ' S' => h b ρ' S' R) : dgTup 2 (dgCons g (dgCons h dgNil)) (.tup [a, b]) ρ S R := ⟨rfl, k⟩
def sp_is_pair : DSp := fun ds S Q => ∃ (a b t : D) (o : Nd × List D) (da db : D), ds = [.tup [a, b], t] ∧ Wd a ∧ Wd b ∧ dictOf S t = some o ∧ atKey o a = some (some da) ∧ atKey o b = some (some db) ∧ alikeD a b = true ∧ isNon a = false ∧ dep a ≤ 64 ∧ ltD a b = true ∧ Q (.bl true) S
theorem d_is_pair (ds S Q) (h : sp_is_pair ds S Q) : t_is_pair sp_is_row sp_is_told (endsF Q) (startD N_is_pair.length ds) S := by
  obtain ⟨a, b, t, o, da, db, rfl, wa, wb, h1, h2, h3, c1, c2, c3, hl, q⟩ := h
  unfold t_is_pair
  have e0 : startD N_is_pair.length [.tup [a, b], t] = [some (.tup [a, b]), some t, none, none] := rfl
  rw [e0]
  refine seq_g fun K hK => ifs_g fun T U hT hU => ?_
  walk_at "ev"
  refine ⟨.tup [a, b], 2, rfl, .inl ⟨_, rfl, ?_⟩⟩
  have : decide ((([a, b].length : Nat) : Int) = 2) = true := by simp
  simp only [this, Bool.not_true, Bool.false_eq_true, if_false]
  subst hU
  walk_at "ev"
  subst hK
  refine seq_g fun K hK => ?_
  walk_at "ev"
  refine tup2_e ?_
  walk_at "ev"
  subst hK
  walk_at "ev"
  refine ⟨a, t, o, some da, rfl, wa, h1, h2, ?_⟩
  walk_at "ev"
  refine ⟨b, t, o, some db, rfl, wb, h1, h3, ?_⟩
  walk_at "ev"
  refine ⟨⟨c1, c2, c3⟩, ?_⟩
  rw [hl]
  exact ⟨_, Less.refl, q⟩
/-- two ascending lists as one -/
def mergeN {κ : Type} (lt : κ → κ → Bool) : List κ → List κ → List κ
  | low, [] => low
  | low, r :: high => low.takeWhile (fun x => !lt r x) ++ r :: mergeN lt (low.dropWhile (fun x => !lt r x)) high
section
variable {κ : Type} {lt : κ → κ → Bool}
theorem merge_low {x r : κ} {low high : List κ} (c : lt r x = false) : mergeN lt (x :: low) (r :: high) = x :: mergeN lt low (r :: high) := by
  rw [mergeN, mergeN, List.takeWhile_cons, List.dropWhile_cons]
  simp [c]
theorem merge_high {r : κ} {low high : List κ} (c : ∀ x l, low = x :: l → lt r x = true) : mergeN lt low (r :: high) = r :: mergeN lt low high := by
  rw [mergeN]
  cases low with
  | nil => rfl
  | cons x l =>
    have := c x l rfl
    rw [List.takeWhile_cons, List.dropWhile_cons]
    simp [this]
theorem merge_perm : ∀ {high low : List κ}, (mergeN lt low high).Perm (low ++ high)
  | [], low => by rw [mergeN, List.append_nil]
  | r :: high, low => by
    rw [mergeN]
    have h1 := (merge_perm (high := high) (low := low.dropWhile fun x => !lt r x)).cons r
    refine (h1.append_left _).trans ?_
    have e : low = low.takeWhile (fun x => !lt r x) ++ low.dropWhile (fun x => !lt r x) := List.takeWhile_append_dropWhile.symm
    refine List.Perm.trans ?_ (List.Perm.append_right _ (List.Perm.of_eq e.symm))
    rw [List.append_assoc]
    exact List.Perm.append_left _ List.perm_middle.symm
end
def sp_merged : DSp := fun ds S Q => ∃ (κ : Type) (P : κ → Prop) (f : κ → D) (lt : κ → κ → Bool) (low high : List κ), ds = [.lst (low.map f), .lst (high.map f)] ∧ Emb P f lt ∧ (∀ x ∈ low, P x) ∧ (∀ x ∈ high, P x) ∧ low.length + high.length < 2 ^ 20 ∧ Q (.lst ((mergeN lt low high).map f)) S
theorem aug_e {i : Nat} {g : Int → Int → Int} {te : DTE} {E : DEnds} {ρ : DSt} {S : DHp} : sAug i g te E ρ S = match slot ρ i with
  | some (.int x) => te ρ S fun y S1 => match y with
    | .int y => E.nx (ρ.set i (some (.int (g x y)))) S1
    | _ => False
  | _ => False := rfl
theorem d_merged (ds S Q) (h : sp_merged ds S Q) : t_merged (endsF Q) (startD N_merged.length ds) S := by
  obtain ⟨κ, P, f, lt, low, high, rfl, e, pl, ph, hz, q⟩ := h
  unfold t_merged
  have e0 : startD N_merged.length [.lst (low.map f), .lst (high.map f)] = [some (.lst (low.map f)), some (.lst (high.map f)), none, none, none] := rfl
  rw [e0]
  refine seq_g fun K hK => ?_
  walk_at "ev"
  refine ⟨Nat.zero_le _, fun p hp => ?_⟩
  subst hK
  refine seq_g fun K hK => ?_
  walk_at "ev"
  subst hK
  refine seq_g fun K hK => ?_
  simp only [for_e, seqI_e]
  walk_at "ev"
  show forD _ _ _ _ (high.map f) _ _
  refine forD_ind (fun m ρ S' => ∃ (k : Nat) (out h2 : List κ) (x4 : Option D), m = h2.map f ∧ ρ = [some (.lst (low.map f)), some (.lst (high.map f)), some (.ref p), some (.int k), x4] ∧ S' = put S p (.lst, out.map f) ∧ k ≤ low.length ∧ out ++ mergeN lt (low.drop k) h2 = mergeN lt low high ∧ (∀ x ∈ h2, P x))
    (fun _ _ _ _ => trivial) (fun ρ S' h => ?_) (fun d m ρ S' h K2 hK2 => ?_) ⟨0, [], high, none, rfl, rfl, rfl, Nat.zero_le _, rfl, ph⟩
  · obtain ⟨k, out, h2, x4, em, rfl, rfl, hk, eq, _⟩ := h
    have : h2 = [] := by cases h2 with
      | nil => rfl
      | cons _ _ => cases em
    subst this
    rw [mergeN] at eq
    have hlen : (mergeN lt low high).length = low.length + high.length := by rw [merge_perm.length_eq, List.length_append]
    rw [← eq, List.length_append] at hlen
    subst hK
    simp only [ret_e, op_e, sl_e, nopart_e, part_e]
    k_with "ev" => simp only [nopart_e, part_e]
    rw [cut_from (by rw [List.length_map]; exact hk), ← List.map_drop]
    refine oAdd_lst (i := out.map f) (j := (low.drop k).map f) ?_ rfl ?_ ?_
    · unfold lstOf
      simp only [put_same]
    · rw [List.length_map, List.length_map]; show _ ≤ 2 ^ 24; omega
    · rw [← List.map_append, eq]
      refine ⟨S, fun a o ha => ?_, q⟩
      have : a ≠ p := fun z => by subst z; rw [hp] at ha; cases ha
      rw [put_ne this]; exact ha
  · obtain ⟨k, out, h2, x4, em, rfl, rfl, hk, eq, p2⟩ := h
    cases h2 with
    | nil => cases em
    | cons r h2 =>
      rw [List.map_cons] at em
      obtain ⟨rfl, rfl⟩ := List.cons.inj em
      have pr := p2 r (by simp)
      walk_at "ev"
      refine seq_g fun K3 hK3 => ?_
      refine while_ind (fun n ρ S' => ∃ (k : Nat) (out : List κ), ρ = [some (.lst (low.map f)), some (.lst (high.map f)), some (.ref p), some (.int k), some (f r)] ∧ S' = put S p (.lst, out.map f) ∧ k ≤ low.length ∧ n = low.length - k + 1 ∧ out ++ mergeN lt (low.drop k) (r :: h2) = mergeN lt low high)
        (fun ρ S' ⟨_, _, _, _, _, z, _⟩ => by omega) (fun n ρ S' h K4 hK4 => ?_) ⟨k, out, rfl, rfl, hk, rfl, eq⟩
      obtain ⟨k, out, rfl, rfl, hk, hn, eq⟩ := h
      have hlen : (mergeN lt low high).length = low.length + high.length := by rw [merge_perm.length_eq, List.length_append]
      rw [← eq, List.length_append] at hlen
      have done : (∀ x l, low.drop k = x :: l → lt r x = true) → K3 [some (.lst (low.map f)), some (.lst (high.map f)), some (.ref p), some (.int k), some (f r)] (put S p (.lst, out.map f)) := by
        intro hd
        subst hK3
        walk_at "ev"
        refine ⟨by rw [List.length_map]; show out.length < 2 ^ 24; omega, ?_⟩
        refine hK2 _ _ ⟨k, out ++ [r], h2, _, rfl, rfl, by rw [List.map_append]; rfl, hk, ?_, fun x hx => p2 x (by simp [hx])⟩
        rw [← eq, merge_high hd, List.append_assoc]
        rfl
      walk_at "ev"
      rw [List.length_map]
      by_cases hlt : k < low.length
      · have : (k : Int) < (low.length : Int) := by omega
        simp only [this, decide_true, if_true]
        rw [at_mapf hlt]
        have pk := pl low[k] (List.getElem_mem _)
        refine ⟨⟨e.al pk pr, e.non pk, Nat.le_trans (e.dp pk) (by decide)⟩, ?_⟩
        rw [e.lt_ pr pk]
        have ed : low.drop k = low[k] :: low.drop (k + 1) := List.drop_eq_getElem_cons hlt
        cases c : lt r low[k] with
        | true =>
          simp only [Bool.not_true, Bool.false_eq_true, if_false]
          exact done fun x l z => by rw [ed] at z; cases z; exact c
        | false =>
          simp only [Bool.not_false, if_true]
          refine seq_g fun K5 hK5 => ?_
          walk_at "ev"
          rw [at_mapf hlt]
          walk_at "ev"
          refine ⟨by rw [List.length_map]; show out.length < 2 ^ 24; omega, ?_⟩
          subst hK5
          simp only [aug_e]
          walk_at "ev"
          refine hK4 _ _ ⟨k + 1, out ++ [low[k]], rfl, by rw [List.map_append]; rfl, hlt, by omega, ?_⟩
          rw [← eq, ed, merge_low c, List.append_assoc]
          rfl
      · have : ¬ (k : Int) < (low.length : Int) := by omega
        simp only [this, decide_false, Bool.false_eq_true, if_false]
        exact done fun x l z => by rw [List.drop_eq_nil_of_le (by omega)] at z; cases z
/-- sorting by halves, n deep -/
def msN {κ : Type} (lt : κ → κ → Bool) : Nat → List κ → List κ
  | 0, l => l
  | n + 1, l => if l.length < 2 then l else mergeN lt (msN lt n (l.take (l.length / 2))) (msN lt n (l.drop (l.length / 2)))
theorem ms_perm {κ : Type} {lt : κ → κ → Bool} : ∀ {n : Nat} {l : List κ}, (msN lt n l).Perm l
  | 0, l => List.Perm.refl _
  | n + 1, l => by
    rw [msN]
    split
    · exact List.Perm.refl _
    · refine merge_perm.trans ?_
      have := (ms_perm (lt := lt) (n := n) (l := l.take (l.length / 2))).append (ms_perm (lt := lt) (n := n) (l := l.drop (l.length / 2)))
      rwa [List.take_append_drop] at this
def sp_in_order (n : Nat) : DSp := fun ds S Q => ∃ (κ : Type) (P : κ → Prop) (f : κ → D) (lt : κ → κ → Bool) (l : List κ), ds = [.lst (l.map f)] ∧ Emb P f lt ∧ (∀ x ∈ l, P x) ∧ l.length < 2 ^ 20 ∧ l.length ≤ 2 ^ n ∧ Q (.lst ((msN lt n l).map f)) S
theorem d_in_order (n : Nat) (ds S Q) (h : sp_in_order (n + 1) ds S Q) : t_in_order sp_merged (sp_in_order n) (endsF Q) (startD N_in_order.length ds) S := by
  obtain ⟨κ, P, f, lt, l, rfl, e, pl, hz, hn, q⟩ := h
  unfold t_in_order
  have e0 : startD N_in_order.length [.lst (l.map f)] = [some (.lst (l.map f)), none] := rfl
  rw [e0]
  rw [msN] at q
  refine seq_g fun K hK => ifs_g fun T U hT hU => ?_
  walk_at "ev"
  rw [List.length_map]
  by_cases h2 : l.length < 2
  · have : (l.length : Int) < 2 := by omega
    simp only [this, h2, decide_true, if_true] at q ⊢
    subst hT
    walk_at "ev"
    exact ⟨_, Less.refl, q⟩
  · have : ¬ (l.length : Int) < 2 := by omega
    simp only [this, h2, decide_false, Bool.false_eq_true, if_false] at q ⊢
    subst hU
    walk_at "ev"
    subst hK
    refine seq_g fun K hK => ?_
    walk_at "ev"
    rw [List.length_map]
    refine ⟨wide_div (b := 2) (by decide) (by decide) (by decide) (by decide), ?_⟩
    have hdv : ((l.length : Int) / 2) = ((l.length / 2 : Nat) : Int) := by omega
    rw [hdv]
    subst hK
    have hp : 2 ^ (n + 1) = 2 * 2 ^ n := by rw [Nat.pow_succ]; omega
    simp only [ret_e, call_e, cons_e, nil_e, sl_e, nopart_e, part_e]
    k_with "ev" => simp only [sl_e, nopart_e, part_e]
    rw [cut_to (by rw [List.length_map]; omega), ← List.map_take]
    refine ⟨κ, P, f, lt, l.take (l.length / 2), rfl, e, fun x hx => pl x (List.mem_of_mem_take hx), by rw [List.length_take]; omega, by rw [List.length_take]; omega, ?_⟩
    k_with "ev" => simp only [sl_e, nopart_e, part_e]
    rw [cut_from (by rw [List.length_map]; omega), ← List.map_drop]
    refine ⟨κ, P, f, lt, l.drop (l.length / 2), rfl, e, fun x hx => pl x (List.mem_of_mem_drop hx), by rw [List.length_drop]; omega, by rw [List.length_drop]; omega, ?_⟩
    refine ⟨κ, P, f, lt, _, _, rfl, e, fun x hx => pl x (List.mem_of_mem_take (ms_perm.mem_iff.mp hx)), fun x hx => pl x (List.mem_of_mem_drop (ms_perm.mem_iff.mp hx)), ?_, _, Less.refl, q⟩
    rw [ms_perm.length_eq, ms_perm.length_eq, List.length_take, List.length_drop]
    omega
def twoOf : D → D
  | .nd .tup [a, b] => twoD a b
  | z => z
def sp_in_pairs (n : Nat) : DSp := fun ds S Q => ∃ (κ : Type) (_ : DecidableEq κ) (P : κ → Prop) (f : κ → D) (lt : κ → κ → Bool) (l : List (κ × κ)), ds = [.lst (l.map (pairD f f))] ∧ Emb P f lt ∧ (∀ a, P a → dep (f a) ≤ 7) ∧ (∀ x ∈ l, P x.1 ∧ P x.2) ∧ l.length < 2 ^ 20 ∧ l.length ≤ 2 ^ n ∧
  Q (.tup ((msN (lexP lt lt) n (l.map fun x => twoK lt x.1 x.2)).map (pairD f f))) S
theorem d_in_pairs (n : Nat) (ds S Q) (h : sp_in_pairs n ds S Q) : t_in_pairs (sp_in_order n) (endsF Q) (startD N_in_pairs.length ds) S := by
  obtain ⟨κ, dk, P, f, lt, l, rfl, e, hd, pl, hz, hn, q⟩ := h
  unfold t_in_pairs
  have e0 : startD N_in_pairs.length [.lst (l.map (pairD f f))] = [some (.lst (l.map (pairD f f))), none, none] := rfl
  rw [e0]
  walk_at "ev"
  refine lc_map twoOf (l := l.map (pairD f f)) (live := fun _ => True) (fun R hR => ?_) (fun _ _ _ => trivial) (by rw [List.length_map]; show _ ≤ 2 ^ 24; omega) (fun z hz2 S' sub Y hY => ?_) ?_
  · rw [seqI_e]
    walk_at "ev"
    exact hR
  · obtain ⟨x, hx, rfl⟩ := List.mem_map.mp hz2
    obtain ⟨pa, pb⟩ := pl x hx
    have ew : wipeD [some (D.lst (l.map (pairD f f))), none, none] [1, 2] = [some (D.lst (l.map (pairD f f))), none, none] := rfl
    rw [ew]
    refine tup2_e ?_
    walk_at "ev"
    refine ⟨⟨e.al pa pb, e.non pa, Nat.le_trans (e.dp pa) (by decide)⟩, ?_⟩
    have hY : Y (twoD (f x.1) (f x.2)) S' := hY
    unfold twoD at hY
    cases c : ltD (f x.1) (f x.2) with
    | true =>
      simp only [c, if_true] at hY ⊢
      exact ⟨by simp only [List.length_cons, List.length_nil]; decide, hY⟩
    | false =>
      simp only [c, Bool.false_eq_true, if_false] at hY ⊢
      exact ⟨by simp only [List.length_cons, List.length_nil]; decide, hY⟩
  · have em : (l.map (pairD f f)).map twoOf = (l.map fun x => twoK lt x.1 x.2).map (pairD f f) := by
      rw [List.map_map, List.map_map]
      refine List.map_congr_left fun x hx => ?_
      show twoD (f x.1) (f x.2) = pairD f f (twoK lt x.1 x.2)
      exact two_map e (pl x hx).1 (pl x hx).2
    rw [em]
    refine ⟨κ × κ, _, pairD f f, lexP lt lt, l.map fun x => twoK lt x.1 x.2, rfl, emb_pair e e hd hd, fun y hy => ?_, by rw [List.length_map]; exact hz, by rw [List.length_map]; exact hn, ?_⟩
    · obtain ⟨x, hx, rfl⟩ := List.mem_map.mp hy
      obtain ⟨pa, pb⟩ := pl x hx
      unfold twoK
      by_cases c : lt x.1 x.2 = true
      · rw [if_pos c]; exact ⟨pa, pb⟩
      · rw [if_neg c]; exact ⟨pb, pa⟩
    · walk_at "ev"
      exact ⟨_, Less.refl, q⟩
def mirN (n e : Nat) : Nat := (n - e) % n
theorem mir_int {n e : Nat} (h : e ≤ n) : ((n : Int) - (e : Int)) % (n : Int) = (mirN n e : Int) := by
  unfold mirN
  rw [Int.natCast_emod, Int.natCast_sub h]
def mirP (n : Nat) (l : List (Nat × Nat)) : List (Nat × Nat) := msN ltNP 6 ((l.map fun x => (mirN n x.1, mirN n x.2)).map fun x => twoK ltN x.1 x.2)
def RowS.mir (r : RowS) : RowS := ⟨r.name, r.ends, mirP r.ends r.pairs, r.signs⟩
def sp_mirrored_crossing : DSp := fun ds S Q => ∃ r : RowS, ds = [r.d] ∧ RowOk r ∧ r.pairs.length ≤ 2 ^ 6 ∧ Q r.mir.d S
theorem tup4_e {i j k l : Nat} {a b c d : D} {ρ : DSt} {S : DHp} {R : DSt → DHp → Prop} (h : R ((((ρ.set i (some a)).set j (some b)).set k (some c)).set l (some d)) S) : dgTup 4 (dgCons (dgName i) (dgCons (dgName j) (dgCons (dgName k) (dgCons (dgName l) dgNil)))) (.tup [a, b, c, d]) ρ S R := ⟨rfl, h⟩
theorem d_mirrored_crossing (ds S Q) (h : sp_mirrored_crossing ds S Q) : t_mirrored_crossing sp_mirrored_end (sp_in_pairs 6) (endsF Q) (startD N_mirrored_crossing.length ds) S := by
  obtain ⟨r, rfl, ok, hz, q⟩ := h
  unfold t_mirrored_crossing
  have e0 : startD N_mirrored_crossing.length [r.d] = [some r.d, none, none, none, none, none, none, none] := rfl
  rw [e0]
  refine seq_g fun K hK => ?_
  walk_at "ev"
  unfold RowS.d
  refine tup4_e ?_
  walk_at "ev"
  subst hK
  refine seq_g fun K hK => ?_
  walk_at "ev"
  have he0 := ok.e0
  refine lc_map (fun z => match z with
    | .nd .tup [.int a, .int b] => .tup [natD (mirN r.ends a.toNat), natD (mirN r.ends b.toNat)]
    | z => z) (l := r.pairs.map natP) (live := fun _ => True) (fun R hR => ?_) (fun _ _ _ => trivial) (by rw [List.length_map]; show _ ≤ 2 ^ 24; omega) (fun z hz2 S' sub Y hY => ?_) ?_
  · rw [seqI_e]
    walk_at "ev"
    exact hR
  · obtain ⟨x, hx, rfl⟩ := List.mem_map.mp hz2
    obtain ⟨u1, u2⟩ := ok.st.up x hx
    refine tup2_e ?_
    show dTup _ [_, some (.str r.name), some (natD r.ends), some (.tup (r.pairs.map natP)), some (.tup (r.signs.map D.str)), none, some (natD x.1), some (natD x.2)] _ _
    walk_at "ev"
    refine ⟨_, _, rfl, by omega, ?_⟩
    walk_at "ev"
    refine ⟨_, _, rfl, by omega, ?_⟩
    rw [mir_int (by omega), mir_int (by omega)]
    exact ⟨by simp only [List.length_cons, List.length_nil]; decide, hY⟩
  · have em : (r.pairs.map natP).map (fun z => match z with
        | .nd .tup [.int a, .int b] => .tup [natD (mirN r.ends a.toNat), natD (mirN r.ends b.toNat)]
        | z => z) = (r.pairs.map fun x => (mirN r.ends x.1, mirN r.ends x.2)).map natP := by
      rw [List.map_map, List.map_map]
      refine List.map_congr_left fun x _ => ?_
      rfl
    rw [em]
    subst hK
    walk_at "ev"
    refine ⟨Nat, inferInstance, fun _ => True, natD, ltN, r.pairs.map fun x => (mirN r.ends x.1, mirN r.ends x.2), rfl, emb_nat, fun a _ => by rw [dep_int]; omega, fun _ _ => ⟨trivial, trivial⟩, by rw [List.length_map]; omega, by rw [List.length_map]; exact hz, ?_⟩
    walk_at "ev"
    exact ⟨by simp only [List.length_cons, List.length_nil]; decide, _, Less.refl, q⟩
theorem lc2_e {ti : DTI} {g : DTG} {tt : DTT} {ti1 : DTI} {g1 : DTG} {tt1 : DTT} {te : DTE} {vs vs1 : List Nat} {ρ : DSt} {S : DHp} {Q : DQ} : dLc2 ti g tt ti1 g1 tt1 te vs vs1 ρ S Q = ti ρ S fun src S1 => ∀ p, S1 p = none → comp2D p src.live g tt ti1 g1 tt1 te vs1 (wipeD ρ vs) (fun acc S' => Q (.lst acc) (era S' p)) src.items [] (put S1 p (.lst, [])) := rfl
theorem lenSet_e {te : DTE} {ρ : DSt} {S : DHp} {Q : DQ} : dLenSet te ρ S Q = te ρ S fun x S1 => match x with
  | .nd .lst ds => ds.length < 76 ∧ ((∃ ns, intsOf ds = some ns ∧ ns.Nodup) ∨ (∃ ks, tupKeys ds = some ks ∧ ks.Nodup) ∨ ∃ ts : List Str, ds = ts.map D.str ∧ ts.Nodup) ∧ Q (.int ds.length) S1
  | .nd .tup ds => ds.length < 76 ∧ (∃ ts : List Str, ds = ts.map D.str ∧ ts.Nodup) ∧ Q (.int ds.length) S1
  | _ => False := rfl
theorem flat_cons {κ : Type} {x : κ × κ} {l : List (κ × κ)} : flatK (x :: l) = x.1 :: x.2 :: flatK l := rfl
/-- [one for pair in value for one in pair] -/
theorem comp2_flat {κ : Type} {f : κ → D} {p : Addr} {a b : Option D} {Kf : List D → DHp → Prop} : ∀ {l : List (κ × κ)} {acc : List D} {S : DHp}, S p = some (.lst, acc) → acc.length + 2 * l.length < 2 ^ 24 → (∀ S' acc', S' p = some (.lst, acc') → (∀ q, q ≠ p → S' q = S q) → acc' = acc ++ (flatK l).map f → Kf acc' S') →
    comp2D p (fun _ => True) (dgName 3) dYes (dSeqI (dVar 3)) (dgName 4) dYes (dVar 4) [4] [a, b, none, none, none] Kf (l.map (pairD f f)) acc S
  | [], acc, S, h, _, k => ⟨trivial, h, k S acc h (fun _ _ => rfl) (by simp [flatK])⟩
  | x :: l, acc, S, h, hz, k => by
    rw [List.map_cons]
    refine ⟨trivial, ?_⟩
    rw [List.length_cons] at hz
    simp only [gname_e, yes_e, if_true, set0, setS, seqI_e, var_e, slot0, slotS]
    show compD p (fun _ => True) (dgName 4) dYes (dVar 4) [a, b, none, some (pairD f f x), none] _ [f x.1, f x.2] acc S
    have z1 : acc.length < sizeLine := by show _ < 2 ^ 24; omega
    have z2 : (acc ++ [f x.1]).length < sizeLine := by rw [List.length_append, List.length_cons, List.length_nil]; show _ < 2 ^ 24; omega
    unfold compD
    refine ⟨trivial, ?_⟩
    simp only [gname_e, yes_e, if_true, set0, setS, var_e, slot0, slotS]
    refine ⟨h, z1, ?_⟩
    unfold compD
    refine ⟨trivial, ?_⟩
    simp only [gname_e, yes_e, if_true, set0, setS, var_e, slot0, slotS]
    refine ⟨put_same, z2, ?_⟩
    unfold compD
    refine ⟨trivial, put_same, ?_⟩
    rw [put_put]
    refine comp2_flat put_same (by simp only [List.length_append, List.length_cons, List.length_nil]; omega) fun S' acc' e1 e2 e3 => ?_
    refine k S' acc' e1 (fun q hq => by rw [e2 q hq, put_ne hq]) ?_
    rw [e3, flat_cons, List.map_cons, List.map_cons, List.append_assoc, List.append_assoc]
    rfl
theorem era_off {S S' : DHp} {p : Addr} {o : Nd × List D} (h0 : S p = none) (h : ∀ q, q ≠ p → S' q = put S p o q) : era S' p = S := by
  funext q
  by_cases e : q = p
  · subst e; rw [era_same, h0]
  · rw [era_ne e, h q e, put_ne e]
def sp_are_pairs : DSp := fun ds S Q => ∃ (κ : Type) (_ : DecidableEq κ) (P : κ → Prop) (f : κ → D) (lt : κ → κ → Bool) (l : List (κ × κ)) (t : D) (o : Nd × List D), ds = [.tup (l.map (pairD f f)), t] ∧ Emb P f lt ∧ (∀ a, P a → dep (f a) ≤ 7) ∧ (∀ x ∈ l, P x.1 ∧ P x.2) ∧ (∀ x, P x → Wd (f x)) ∧
  (∀ S' : DHp, (∀ q u, S q = some u → S' q = some u) → dictOf S' t = some o) ∧ (∀ x ∈ flatK l, ∃ d, atKey o (f x) = some (some d)) ∧ (∀ x ∈ l, lt x.1 x.2 = true) ∧ l.Pairwise (fun a b => lexP lt lt a b = true) ∧ (flatK l).length < 76 ∧
  ((∃ ns, intsOf ((flatK l).map f) = some ns ∧ ns.Nodup) ∨ (∃ ks, tupKeys ((flatK l).map f) = some ks ∧ ks.Nodup) ∨ ∃ ts : List Str, (flatK l).map f = ts.map D.str ∧ ts.Nodup) ∧ Q (.bl true) S
theorem flat_len {κ : Type} {l : List (κ × κ)} : (flatK l).length = 2 * l.length := by
  induction l with
  | nil => rfl
  | cons x l ih => rw [flat_cons, List.length_cons, List.length_cons, ih, List.length_cons]; omega
theorem d_are_pairs (ds S Q) (h : sp_are_pairs ds S Q) : t_are_pairs sp_is_pair sp_ascends (endsF Q) (startD N_are_pairs.length ds) S := by
  obtain ⟨κ, dk, P, f, lt, l, t, o, rfl, e, hd, pl, hw, ht, hat, up, srt, few, alt, q⟩ := h
  have ll := flat_len (l := l)
  unfold t_are_pairs
  have e0 : startD N_are_pairs.length [.tup (l.map (pairD f f)), t] = [some (.tup (l.map (pairD f f))), some t, none, none, none] := rfl
  rw [e0]
  refine seq_g fun K hK => ifs_g fun T U hT hU => ?_
  walk_at "ev"
  rw [isi_e (t := "tuple") rfl (r := true) (by decide +kernel)]
  walk_at "ev"
  simp only [Bool.not_true, Bool.false_eq_true, if_false]
  refine lc_map (fun _ => .bl true) (l := l.map (pairD f f)) (live := fun _ => True) (fun R hR => ?_) (fun _ _ _ => trivial) (by rw [List.length_map]; show _ ≤ 2 ^ 24; omega) (fun z hz2 S' sub Y hY => ?_) ?_
  · rw [seqI_e]
    walk_at "ev"
    exact hR
  · obtain ⟨x, hx, rfl⟩ := List.mem_map.mp hz2
    obtain ⟨pa, pb⟩ := pl x hx
    have ew : wipeD [some (D.tup (l.map (pairD f f))), some t, none, none, none] [3] = [some (D.tup (l.map (pairD f f))), some t, none, none, none] := rfl
    rw [ew]
    walk_at "ev"
    obtain ⟨da, ea⟩ := hat x.1 (List.mem_flatMap.mpr ⟨x, hx, by simp⟩)
    obtain ⟨db, eb⟩ := hat x.2 (List.mem_flatMap.mpr ⟨x, hx, by simp⟩)
    refine ⟨f x.1, f x.2, t, o, da, db, rfl, hw _ pa, hw _ pb, ht S' sub, ea, eb, e.al pa pb, e.non pa, Nat.le_trans (e.dp pa) (by decide), ?_, hY⟩
    rw [e.lt_ pa pb]
    exact up x hx
  · refine all_true ?_
    simp only [Bool.not_true, Bool.false_eq_true, if_false]
    subst hU
    walk_at "ev"
    subst hK
    refine seq_g fun K hK => ?_
    walk_at "ev"
    rw [lc2_e, seqI_e]
    walk_at "ev"
    intro p hp
    have ew : wipeD [some (D.tup (l.map (pairD f f))), some t, none, none, none] [3, 4] = [some (D.tup (l.map (pairD f f))), some t, none, none, none] := rfl
    rw [ew]
    show comp2D p (fun _ => True) _ _ _ _ _ _ _ _ _ (l.map (pairD f f)) _ _
    refine comp2_flat put_same (by simp only [List.length_nil]; omega) fun S' acc' e1 e2 e3 => ?_
    rw [List.nil_append] at e3
    subst e3
    rw [era_off hp e2]
    subst hK
    walk_at "ev"
    refine ⟨κ × κ, _, pairD f f, lexP lt lt, l, _, ⟨l.map (pairD f f), fun _ => True⟩, rfl, emb_pair e e hd hd, rfl, rfl, pl, srt, by omega, ?_⟩
    walk_at "ev"
    simp only [lenSet_e]
    walk_at "ev"
    refine ⟨by rw [List.length_map]; exact few, alt, ?_⟩
    refine ⟨_, Less.refl, ?_⟩
    simp only [beq_self_eq_true, Bool.false_eq_true, if_false]
    exact q
theorem putD_new {κ β : Type} [DecidableEq κ] {ks : List κ} {ds : List β} {k : κ} {d : β} (h : k ∉ ks) : putD ks ds k d = (ks ++ [k], ds ++ [d]) := by
  unfold putD
  rw [if_neg h]
/-- {k: v for x in ..}, each key once -/
theorem dcD_map {β : Type} {item kd vl : β → D} {key : β → Key} {p : Addr} {live : DHp → Prop} {g : DTG} {tk tv : DTE} {ρ : DSt} {Kf : List Key × List D → DHp → Prop} {S : DHp} (hp : S p = none) (hl : ∀ S' : DHp, (∀ q u, S q = some u → S' q = some u) → live S') :
    ∀ {l done : List β}, (∀ x ∈ l, keyD (kd x) = some (key x)) → ((done ++ l).map key).Nodup → (done ++ l).length < 2 ^ 24 →
      (∀ x ∈ l, ∀ S' : DHp, (∀ q u, S q = some u → S' q = some u) → ∀ Y : D → D → DHp → Prop, Y (kd x) (vl x) S' → g (item x) ρ S' fun ρ2 S2 => tk ρ2 S2 fun y S4 => tv ρ2 S4 fun z S5 => Y y z S5) →
      Kf ((done ++ l).map key, (done ++ l).map vl) (put S p (.dK ((done ++ l).map key), (done ++ l).map vl)) →
      dcD p live g dYes tk tv ρ Kf (l.map item) (done.map key, done.map vl) (put S p (.dK (done.map key), done.map vl))
  | [], done, _, _, _, _, k => by
    rw [List.append_nil] at k
    refine ⟨hl _ fun q u e => ?_, put_same, k⟩
    rw [put_ne (fun z => by subst z; rw [hp] at e; cases e)]
    exact e
  | x :: l, done, hk, nd, hz, hs, k => by
    have sub : ∀ q u, S q = some u → put S p (Nd.dK (done.map key), done.map vl) q = some u := fun q u e => by
      rw [put_ne (fun z => by subst z; rw [hp] at e; cases e)]
      exact e
    rw [List.map_cons]
    refine ⟨hl _ sub, ?_⟩
    simp only [yes_e, if_true]
    have new : key x ∉ done.map key := fun z => by
      rw [List.map_append, List.nodup_append] at nd
      exact nd.2.2 _ z (key x) (by simp) rfl
    have sz : (done.map key).length < sizeLine := by
      rw [List.length_map]
      rw [List.length_append] at hz
      show _ < 2 ^ 24
      omega
    refine hs x (by simp) _ sub (fun y z S5 => match keyD y with
      | some k => S5 p = some (.dK (done.map key), done.map vl) ∧ (done.map key).length < sizeLine ∧ dcD p live g dYes tk tv ρ Kf (l.map item) (putD (done.map key) (done.map vl) k z) (put S5 p (.dK (putD (done.map key) (done.map vl) k z).1, (putD (done.map key) (done.map vl) k z).2))
      | none => False) ?_
    simp only [hk x (by simp), putD_new new]
    refine ⟨put_same, sz, ?_⟩
    rw [put_put]
    have e1 : done.map key ++ [key x] = (done ++ [x]).map key := by simp
    have e2 : done.map vl ++ [vl x] = (done ++ [x]).map vl := by simp
    have e3 : done ++ x :: l = (done ++ [x]) ++ l := by simp
    rw [e1, e2]
    rw [e3] at nd hz k
    exact dcD_map hp hl (fun y hy => hk y (by simp [hy])) nd hz (fun y hy => hs y (by simp [hy])) k
theorem dc_map {β : Type} {item kd vl : β → D} {key : β → Key} {l : List β} {live : DHp → Prop} {ti : DTI} {g : DTG} {tk tv : DTE} {vs : List Nat} {ρ : DSt} {S : DHp} {Q : DQ} (hi : ∀ R : Src → DHp → Prop, R ⟨l.map item, live⟩ S → ti ρ S R)
    (hl : ∀ S' : DHp, (∀ q u, S q = some u → S' q = some u) → live S') (hk : ∀ x ∈ l, keyD (kd x) = some (key x)) (nd : (l.map key).Nodup) (hz : l.length < 2 ^ 24)
    (hs : ∀ x ∈ l, ∀ S' : DHp, (∀ q u, S q = some u → S' q = some u) → ∀ Y : D → D → DHp → Prop, Y (kd x) (vl x) S' → g (item x) (wipeD ρ vs) S' fun ρ2 S2 => tk ρ2 S2 fun y S4 => tv ρ2 S4 fun z S5 => Y y z S5)
    (q : Q (.nd (.dK (l.map key)) (l.map vl)) S) : dDc ti g dYes tk tv vs ρ S Q := by
  unfold dDc
  refine hi _ fun p hp => ?_
  refine dcD_map (done := []) hp hl hk nd hz hs ?_
  show Q _ (era (put S p _) p)
  rw [era_put hp]
  exact q
/-- the keys of stops -/
abbrev keyS (x : Stop) : List Key := [.inr x.1, .inl (x.2 : Int)]
theorem keyS_inj {x y : Stop} (h : keyS x = keyS y) : x = y := by
  obtain ⟨a, b⟩ := x
  obtain ⟨c, d⟩ := y
  have h1 := (List.cons.inj h).1
  have h2 := (List.cons.inj (List.cons.inj h).2).1
  have h1 : a = c := Sum.inr.inj h1
  have h2 : (b : Int) = (d : Int) := Sum.inl.inj h2
  have h3 : b = d := by omega
  rw [h1, h3]
theorem keyL_stop (x : Stop) : keyL [D.str x.1, natD x.2] = some (keyS x) := rfl
theorem look_map {κ β γ : Type} [DecidableEq κ] {key : β → κ} {v : β → γ} : ∀ {l : List β} {x : β}, x ∈ l → (∀ y ∈ l, key y = key x → y = x) → lookD (l.map key) (l.map v) (key x) = some (v x)
  | y :: l, x, h, inj => by
    rw [List.map_cons, List.map_cons, look_cons]
    by_cases e : key y = key x
    · rw [if_pos e, inj y (by simp) e]
    · rw [if_neg e]
      refine look_map ?_ fun z hz => inj z (by simp [hz])
      cases h with
      | head => exact absurd rfl e
      | tail _ h => exact h
theorem look_none {κ β γ : Type} [DecidableEq κ] {key : β → κ} {v : β → γ} {k : κ} : ∀ {l : List β}, (∀ y ∈ l, key y ≠ k) → lookD (l.map key) (l.map v) k = none
  | [], _ => rfl
  | y :: l, h => by
    rw [List.map_cons, List.map_cons, look_cons, if_neg (h y (by simp))]
    exact look_none fun z hz => h z (by simp [hz])
def sp_is_town_crossing : DSp := fun ds S Q => ∃ r : RowS, ds = [r.d] ∧ RowOk r ∧ r.signs.length < 64 ∧ Q (.bl true) S
theorem chain2_e {r r' : DOp} {ta tb tc : DTE} {ρ : DSt} {S : DHp} {Q : DQ} : dChain2 r r' ta tb tc ρ S Q = ta ρ S fun x S1 => tb ρ S1 fun y S2 => r x y S2 fun z S3 => match z with
  | .bl true => tc ρ S3 fun w S4 => r' y w S4 Q
  | .bl false => Q (.bl false) S3
  | _ => False := rfl
theorem ints_flat {l : List Nat} : intsOf (l.map natD) = some (l.map fun (n : Nat) => (n : Int)) := ints_of
theorem d_is_town_crossing (ds S Q) (h : sp_is_town_crossing ds S Q) : t_is_town_crossing sp_is_row sp_is_name sp_is_integer sp_are_pairs sp_are_names (endsF Q) (startD N_is_town_crossing.length ds) S := by
  obtain ⟨r, rfl, ok, sl, q⟩ := h
  unfold t_is_town_crossing
  have e0 : startD N_is_town_crossing.length [r.d] = [some r.d, none, none, none, none, none] := rfl
  rw [e0]
  refine seq_g fun K hK => ifs_g fun T U hT hU => ?_
  walk_at "ev"
  refine ⟨r.d, 4, rfl, .inl ⟨_, rfl, ?_⟩⟩
  have : decide ((([.str r.name, natD r.ends, .tup (r.pairs.map natP), .tup (r.signs.map D.str)] : List D).length : Int) = 4) = true := by simp
  simp only [this, Bool.not_true, Bool.false_eq_true, if_false]
  subst hU
  walk_at "ev"
  subst hK
  refine seq_g fun K hK => ?_
  walk_at "ev"
  unfold RowS.d
  refine tup4_e ?_
  walk_at "ev"
  subst hK
  refine seq_g fun K hK => ifs_g fun T U hT hU => ?_
  walk_at "ev"
  refine ⟨r.name, rfl, ok.nm, ?_⟩
  simp only [Bool.not_true, Bool.false_eq_true, if_false]
  refine ⟨natD r.ends, "int", rfl, rfl, .inl ⟨rfl, ?_⟩⟩
  simp only [Bool.not_true, Bool.false_eq_true, if_false, chain2_e]
  have h0 := ok.e0
  have h1 := ok.e1
  have h2 := ok.st
  walk_at "ev"
  have c1 : ¬ ((r.ends : Int) < 1) := by omega
  have c2 : ¬ ((20 : Int) < (r.ends : Int)) := by omega
  simp only [c1, c2, decide_false, Bool.not_false, Bool.not_true, Bool.false_eq_true, if_false]
  subst hU
  walk_at "ev"
  subst hK
  walk_at "ev"
  refine dc_map (l := List.range r.ends) (item := natD) (kd := natD) (vl := fun _ => .bl true) (key := fun n => .inl (n : Int)) (live := fun _ => True) (fun R hR => ?_) (fun _ _ => trivial) (fun _ _ => rfl) ?_ (by rw [List.length_range]; omega) (fun x hx S' sub Y hY => ?_) ?_
  · rw [rng_e]
    walk_at "ev"
    refine ⟨by omega, by omega, ?_⟩
    rw [show ((r.ends : Int)).toNat = r.ends by omega, ints_nat]
    exact hR
  · refine List.Pairwise.map _ (fun a b (hab : a ≠ b) z => hab ?_) List.nodup_range
    have := Sum.inl.inj z
    omega
  · have ew : wipeD [some r.d, some (D.str r.name), some (natD r.ends), some (.tup (r.pairs.map natP)), some (.tup (r.signs.map D.str)), none] [5] = [some r.d, some (D.str r.name), some (natD r.ends), some (.tup (r.pairs.map natP)), some (.tup (r.signs.map D.str)), none] := rfl
    have ew := ew
    walk_at "ev"
    exact hY
  · have hlen : (flatK r.pairs).length ≤ r.ends := by
      have := L2.nat_nodup_len (flatK r.pairs) (List.range r.ends) h2.nd fun x hx => by
        obtain ⟨y, hy, hm⟩ := List.mem_flatMap.mp hx
        obtain ⟨u1, u2⟩ := h2.up y hy
        rw [List.mem_range]
        simp only [List.mem_cons, List.not_mem_nil, or_false] at hm
        rcases hm with rfl | rfl <;> omega
      rwa [List.length_range] at this
    refine ⟨Nat, inferInstance, fun _ => True, natD, ltN, r.pairs, _, _, rfl, emb_nat, fun a _ => by rw [dep_int]; omega, fun _ _ => ⟨trivial, trivial⟩, fun x _ => .nat x, fun _ _ => rfl, fun x hx => ?_, fun x hx => ?_, h2.srt, by omega, .inl ⟨_, ints_of, ?_⟩, ?_⟩
    · obtain ⟨y, hy, hm⟩ := List.mem_flatMap.mp hx
      obtain ⟨u1, u2⟩ := h2.up y hy
      have hxn : x < r.ends := by
        simp only [List.mem_cons, List.not_mem_nil, or_false] at hm
        rcases hm with rfl | rfl <;> omega
      refine ⟨.bl true, ?_⟩
      show some (lookD _ _ _) = _
      rw [look_map (l := List.range r.ends) (key := fun n : Nat => (Sum.inl (n : Int) : Key)) (v := fun _ => D.bl true) (x := x) (List.mem_range.mpr hxn) fun y _ z => by have := Sum.inl.inj z; omega]
    · simpa using (h2.up x hx).1
    · refine List.Pairwise.map _ (fun a b (hab : a ≠ b) z => hab ?_) h2.nd
      omega
    · walk_at "ev"
      exact ⟨r.signs, rfl, ok.sg, by omega, _, Less.refl, q⟩
/-- what the program is asked of a town -/
structure TownOk (rows : List RowS) (lanes : List (Stop × Stop)) : Prop where
  good : GoodTown rows lanes
  sg : ∀ r ∈ rows, r.signs.length < 64
  few : (stopsS rows).length < 76
def sp_are_town_crossings : DSp := fun ds S Q => ∃ rows : List RowS, ds = [.tup (rows.map RowS.d)] ∧ 0 < rows.length ∧ rows.length < 64 ∧ (∀ r ∈ rows, RowOk r ∧ r.signs.length < 64) ∧ rows.Pairwise (fun a b => ltS a.name b.name = true) ∧ Q (.bl true) S
theorem rows_okL {rows : List RowS} (h : ∀ r ∈ rows, RowOk r) : okL (rows.map RowS.d) = true := okL_all fun x hx => by
  obtain ⟨r, hr, rfl⟩ := List.mem_map.mp hx
  exact row_ok (h r hr)
theorem rows_dep {rows : List RowS} : depL (rows.map RowS.d) ≤ 3 := depL_all fun x hx => by
  obtain ⟨r, hr, rfl⟩ := List.mem_map.mp hx
  exact row_dep
theorem d_are_town_crossings (ds S Q) (h : sp_are_town_crossings ds S Q) : t_are_town_crossings sp_is_town_crossing sp_ascends (endsF Q) (startD N_are_town_crossings.length ds) S := by
  obtain ⟨rows, rfl, ne, few, ok, srt, q⟩ := h
  unfold t_are_town_crossings
  have e0 : startD N_are_town_crossings.length [.tup (rows.map RowS.d)] = [some (.tup (rows.map RowS.d)), none] := rfl
  rw [e0]
  refine seq_g fun K hK => ifs_g fun T U hT hU => ?_
  walk_at "ev"
  rw [isi_e (t := "tuple") rfl (r := true) (by decide +kernel)]
  walk_at "ev"
  simp only [Bool.not_true, Bool.false_eq_true, if_false]
  refine ⟨Nat.zero_le _, ?_⟩
  have hd := rows_dep (rows := rows)
  refine ⟨⟨rows_okL fun r hr => (ok r hr).1, by rw [okL], by rw [dep]; omega, by rw [dep, depL]; omega⟩, ?_⟩
  have hne : eqL (rows.map RowS.d) [] = false := by
    cases rows with
    | nil => exact absurd ne (by simp)
    | cons r rows => simp [eqL]
  simp only [hne, Bool.false_eq_true, if_false]
  subst hU
  walk_at "ev"
  subst hK
  walk_at "ev"
  have ew : wipeD [some (D.tup (rows.map RowS.d)), none] [1] = [some (D.tup (rows.map RowS.d)), none] := rfl
  refine lc_map (fun _ => .bl true) (l := rows.map RowS.d) (live := fun _ => True) (fun R hR => ?_) (fun _ _ _ => trivial) (by rw [List.length_map]; show _ ≤ 2 ^ 24; omega) (fun z hz2 S' sub Y hY => ?_) ?_
  · rw [seqI_e]
    walk_at "ev"
    exact hR
  · obtain ⟨r, hr, rfl⟩ := List.mem_map.mp hz2
    rw [ew]
    walk_at "ev"
    exact ⟨r, rfl, (ok r hr).1, (ok r hr).2, hY⟩
  · refine all_true ?_
    walk_at "ev"
    refine lc_map (fun z => match z with
      | .nd .tup (x :: _) => x
      | z => z) (l := rows.map RowS.d) (live := fun _ => True) (fun R hR => ?_) (fun _ _ _ => trivial) (by rw [List.length_map]; show _ ≤ 2 ^ 24; omega) (fun z hz2 S' sub Y hY => ?_) ?_
    · rw [seqI_e]
      walk_at "ev"
      exact hR
    · obtain ⟨r, hr, rfl⟩ := List.mem_map.mp hz2
      rw [ew]
      unfold RowS.d
      walk_at "ev"
      exact hY
    · have em : (rows.map RowS.d).map (fun z => match z with
          | .nd .tup (x :: _) => x
          | z => z) = (rows.map RowS.name).map D.str := by
        rw [List.map_map, List.map_map]
        rfl
      rw [em]
      refine ⟨Str, NameS, D.str, ltS, rows.map RowS.name, _, ⟨(rows.map RowS.name).map D.str, fun _ => True⟩, rfl, emb_str, rfl, rfl, fun x hx => ?_, List.pairwise_map.mpr srt, by rw [List.length_map]; omega, _, Less.refl, q⟩
      obtain ⟨r, hr, rfl⟩ := List.mem_map.mp hx
      exact (ok r hr).1.nm
section
variable {β γ : Type} {p : Addr} {S : DHp}
theorem sub_put {o : Nd × List D} (hp : S p = none) : ∀ q u, S q = some u → put S p o q = some u := fun q u e => by
  rw [put_ne (fun z => by subst z; rw [hp] at e; cases e)]
  exact e
theorem dcT_app {item vl : β → D} {kd : β → List D} {key : β → List Key} {g : DTG} {tk tv : DTE} {ρ : DSt} {Kf : TAcc → DHp → Prop} (hp : S p = none) :
    ∀ {l : List β} {ks : List (List Key)} {ds : List D}, (∀ x ∈ l, keyL (kd x) = some (key x)) → (ks ++ l.map key).Nodup → ks.length + l.length < 2 ^ 24 →
      (∀ x ∈ l, ∀ S' : DHp, (∀ q u, S q = some u → S' q = some u) → ∀ Y : D → D → DHp → Prop, Y (.tup (kd x)) (vl x) S' → g (item x) ρ S' fun ρ2 S2 => tk ρ2 S2 fun y S4 => tv ρ2 S4 fun z S5 => Y y z S5) →
      Kf (ks ++ l.map key, ds ++ l.map vl) (put S p (.dT (ks ++ l.map key), ds ++ l.map vl)) → dcT p (fun _ => True) g tk tv ρ Kf (l.map item) (ks, ds) (put S p (.dT ks, ds))
  | [], ks, ds, _, _, _, _, k => by
    rw [List.map_nil, List.map_nil, List.append_nil, List.append_nil] at k
    exact ⟨trivial, put_same, k⟩
  | x :: l, ks, ds, hk, nd, hz, hs, k => by
    rw [List.map_cons]
    refine ⟨trivial, ?_⟩
    rw [List.map_cons] at nd
    have new : key x ∉ ks := fun z => by
      rw [List.nodup_append] at nd
      exact nd.2.2 _ z (key x) (by simp) rfl
    rw [List.length_cons] at hz
    have sz : ks.length < sizeLine := by show _ < 2 ^ 24; omega
    refine hs x (by simp) _ (sub_put hp) (fun y z S4 => match y with
      | .nd .tup zs => match keyL zs with
        | some k => S4 p = some (.dT ks, ds) ∧ ks.length < sizeLine ∧ dcT p (fun _ => True) g tk tv ρ Kf (l.map item) (putD ks ds k z) (put S4 p (.dT (putD ks ds k z).1, (putD ks ds k z).2))
        | none => False
      | _ => False) ?_
    simp only [hk x (by simp), putD_new new]
    refine ⟨put_same, sz, ?_⟩
    rw [put_put]
    have e1 : ks ++ key x :: l.map key = (ks ++ [key x]) ++ l.map key := by simp
    have e2 : ds ++ (x :: l).map vl = (ds ++ [vl x]) ++ l.map vl := by simp
    rw [List.map_cons, e1, e2] at k
    rw [e1] at nd
    exact dcT_app hp (fun y hy => hk y (by simp [hy])) nd (by rw [List.length_append, List.length_cons, List.length_nil]; omega) (fun y hy => hs y (by simp [hy])) k
theorem dcO_app {rit : γ → D} {inn : γ → List β} {item vl : β → D} {kd : γ → β → List D} {key : γ → β → List Key} {g g1 : DTG} {ti1 : DTI} {tk tv : DTE} {vs1 : List Nat} {ρ : DSt} {ρr : γ → DSt} {Kf : TAcc → DHp → Prop} (hp : S p = none) :
    ∀ {rs : List γ} {ks : List (List Key)} {ds : List D}, (∀ r ∈ rs, ∀ x ∈ inn r, keyL (kd r x) = some (key r x)) → (ks ++ rs.flatMap fun r => (inn r).map (key r)).Nodup → ks.length + (rs.flatMap fun r => (inn r).map (key r)).length < 2 ^ 24 →
      (∀ r ∈ rs, ∀ S' : DHp, (∀ q u, S q = some u → S' q = some u) → ∀ R : Src → DSt → DHp → Prop, R ⟨(inn r).map item, fun _ => True⟩ (ρr r) S' → g (rit r) ρ S' fun ρ2 S2 => ti1 ρ2 S2 fun src1 S3 => R src1 ρ2 S3) →
      (∀ r ∈ rs, ∀ x ∈ inn r, ∀ S' : DHp, (∀ q u, S q = some u → S' q = some u) → ∀ Y : D → D → DHp → Prop, Y (.tup (kd r x)) (vl x) S' → g1 (item x) (wipeD (ρr r) vs1) S' fun ρ2 S2 => tk ρ2 S2 fun y S4 => tv ρ2 S4 fun z S5 => Y y z S5) →
      Kf (ks ++ rs.flatMap fun r => (inn r).map (key r), ds ++ rs.flatMap fun r => (inn r).map vl) (put S p (.dT (ks ++ rs.flatMap fun r => (inn r).map (key r)), ds ++ rs.flatMap fun r => (inn r).map vl)) →
      dcO p (fun _ => True) g ti1 g1 tk tv vs1 ρ Kf (rs.map rit) (ks, ds) (put S p (.dT ks, ds))
  | [], ks, ds, _, _, _, _, _, k => by
    simp only [List.flatMap_nil, List.append_nil] at k
    exact ⟨trivial, put_same, k⟩
  | r :: rs, ks, ds, hk, nd, hz, ho, hs, k => by
    rw [List.map_cons]
    rw [List.flatMap_cons] at nd hz
    rw [List.length_append] at hz
    refine ⟨trivial, ?_⟩
    refine ho r (by simp) _ (sub_put hp) (fun src1 ρ2 S3 => dcT p src1.live g1 tk tv (wipeD ρ2 vs1) (fun acc' S' => dcO p (fun _ => True) g ti1 g1 tk tv vs1 ρ Kf (rs.map rit) acc' S') src1.items (ks, ds) S3) ?_
    have nd1 : (ks ++ (inn r).map (key r)).Nodup := by
      rw [← List.append_assoc] at nd
      exact (List.nodup_append.mp nd).1
    refine dcT_app hp (hk r (by simp)) nd1 (by rw [List.length_map] at hz; omega) (hs r (by simp)) ?_
    refine dcO_app hp (fun y hy => hk y (by simp [hy])) (by rw [List.append_assoc]; exact nd) (by rw [List.length_append]; omega) (fun y hy => ho y (by simp [hy])) (fun y hy => hs y (by simp [hy])) ?_
    rw [List.flatMap_cons, List.flatMap_cons, ← List.append_assoc, ← List.append_assoc] at k
    exact k
end
theorem stops_keys {rows : List RowS} : (rows.flatMap fun r => (List.range r.ends).map fun (e : Nat) => [(Sum.inr r.name : Key), .inl (e : Int)]) = (stopsS rows).map keyS := by
  unfold stopsS
  rw [List.map_flatMap]
  congr 1
  funext r
  rw [List.map_map]
  rfl
theorem stops_vals {rows : List RowS} : (rows.flatMap fun r => (List.range r.ends).map fun _ => D.bl true) = (stopsS rows).map fun _ => D.bl true := by
  unfold stopsS
  rw [List.map_flatMap]
  congr 1
  funext r
  rw [List.map_map]
  rfl
/-- the dict of all stops -/
abbrev stopsT (rows : List RowS) (v : Stop → D) : Nd × List D := (.dT ((stopsS rows).map keyS), (stopsS rows).map v)
theorem stops_at {l : List Stop} {v : Stop → D} {x : Stop} (h : x ∈ l) : atKey (.dT (l.map keyS), l.map v) (stopD x) = some (some (v x)) := by
  show (match keyL [D.str x.1, natD x.2] with
    | some k => some (lookD (l.map keyS) (l.map v) k)
    | none => none) = _
  rw [keyL_stop]
  show some (lookD _ _ _) = _
  rw [look_map h fun y _ z => keyS_inj z]
theorem tupKeys_map : ∀ {l : List Stop}, tupKeys (l.map stopD) = some (l.map keyS)
  | [] => rfl
  | x :: l => by
    rw [List.map_cons, List.map_cons]
    show (match keyL [D.str x.1, natD x.2], tupKeys (l.map stopD) with
      | some k, some ks => some (k :: ks)
      | _, _ => none) = _
    rw [keyL_stop, tupKeys_map]
theorem keyS_nodup {l : List Stop} (h : l.Nodup) : (l.map keyS).Nodup := List.Pairwise.map _ (fun _ _ hab z => hab (keyS_inj z)) h
def sp_are_town_streets : DSp := fun ds S Q => ∃ (rows : List RowS) (lanes : List (Stop × Stop)), ds = [.tup (lanes.map laneD), .tup (rows.map RowS.d)] ∧ TownOk rows lanes ∧ Q (.bl true) S
theorem good_names {rows : List RowS} {lanes : List (Stop × Stop)} (g : GoodTown rows lanes) : (rows.map RowS.name).Nodup := by
  refine List.pairwise_map.mpr (List.Pairwise.imp_of_mem (fun {a b} ha hb h z => ?_) g.srt)
  rw [z] at h
  have := emb_str.irr (g.ok b hb).nm
  rw [this] at h
  cases h
theorem dc2_e {ti : DTI} {g : DTG} {ti1 : DTI} {g1 : DTG} {tk tv : DTE} {vs vs1 : List Nat} {ρ : DSt} {S : DHp} {Q : DQ} : dDc2 ti g ti1 g1 tk tv vs vs1 ρ S Q = ti ρ S fun src S1 => ∀ p, S1 p = none → dcO p src.live g ti1 g1 tk tv vs1 (wipeD ρ vs) (fun acc S' => Q (.nd (.dT acc.1) acc.2) (era S' p)) src.items ([], []) (put S1 p (.dT [], [])) := rfl
theorem lenD_T {ks : List (List Key)} {vs : List D} {S : DHp} {Q : DQ} : bLenD [.nd (.dT ks) vs] S Q = Q (.int ks.length) S := rfl
theorem d_are_town_streets (ds S Q) (h : sp_are_town_streets ds S Q) : t_are_town_streets sp_are_pairs (endsF Q) (startD N_are_town_streets.length ds) S := by
  obtain ⟨rows, lanes, rfl, ok, q⟩ := h
  have g := ok.good
  have few := ok.few
  have nd := stops_nodup (good_names g)
  have fl := g.all.length_eq
  rw [flat_len] at fl
  unfold t_are_town_streets
  have e0 : startD N_are_town_streets.length [.tup (lanes.map laneD), .tup (rows.map RowS.d)] = [some (.tup (lanes.map laneD)), some (.tup (rows.map RowS.d)), none, none, none] := rfl
  rw [e0]
  refine seq_g fun K hK => ?_
  walk_at "ev"
  rw [dc2_e, seqI_e]
  walk_at "ev"
  intro p hp
  have ew : wipeD [some (D.tup (lanes.map laneD)), some (.tup (rows.map RowS.d)), none, none, none] [3, 4] = [some (D.tup (lanes.map laneD)), some (.tup (rows.map RowS.d)), none, none, none] := rfl
  rw [ew]
  show dcO p (fun _ => True) _ _ _ _ _ _ _ _ (rows.map RowS.d) _ _
  refine dcO_app (rit := RowS.d) (inn := fun r => List.range r.ends) (item := natD) (vl := fun _ => .bl true) (kd := fun r e => [.str r.name, natD e]) (key := fun r (e : Nat) => [.inr r.name, .inl (e : Int)]) (ρr := fun r => [some (D.tup (lanes.map laneD)), some (.tup (rows.map RowS.d)), none, some r.d, none]) hp
    (fun _ _ _ _ => rfl) (by rw [List.nil_append, stops_keys]; exact keyS_nodup nd) (by rw [List.length_nil, stops_keys, List.length_map]; omega) (fun r hr S' sub R hR => ?_) (fun r hr x hx S' sub Y hY => ?_) ?_
  · rw [gname_e]
    simp only [set0, setS, rng_e]
    have := (g.ok r hr).e1
    unfold RowS.d
    walk_at "ev"
    refine ⟨by omega, by omega, ?_⟩
    rw [show ((r.ends : Int)).toNat = r.ends by omega, ints_nat]
    exact hR
  · have ew2 : wipeD [some (D.tup (lanes.map laneD)), some (.tup (rows.map RowS.d)), none, some r.d, none] [4] = [some (D.tup (lanes.map laneD)), some (.tup (rows.map RowS.d)), none, some r.d, none] := rfl
    rw [ew2]
    unfold RowS.d
    walk_at "ev"
    exact ⟨by simp only [List.length_cons, List.length_nil]; decide, hY⟩
  · rw [List.nil_append, List.nil_append, stops_keys, stops_vals]
    rw [era_put hp]
    subst hK
    walk_at "ev"
    have mem : ∀ x ∈ flatK lanes, x ∈ stopsS rows := fun x hx => g.all.mem_iff.mp hx
    refine ⟨Stop, inferInstance, fun x => NameS x.1 ∧ True, stopD, ltT, lanes, _, stopsT rows fun _ => .bl true, rfl, emb_stop, fun a _ => Nat.le_trans (stop_dep a) (by decide), fun x hx => ⟨⟨stop_name g.ok (mem x.1 (List.mem_flatMap.mpr ⟨x, hx, by simp⟩)), trivial⟩, stop_name g.ok (mem x.2 (List.mem_flatMap.mpr ⟨x, hx, by simp⟩)), trivial⟩, fun x _ => .stop x, fun _ _ => rfl, fun x hx => ⟨_, stops_at (mem x hx)⟩, g.up, g.ord, by rw [flat_len]; omega, .inr (.inl ⟨_, tupKeys_map, keyS_nodup (g.all.nodup_iff.mpr nd)⟩), ?_⟩
    k_with "ev" => simp only [lenD_T]
    refine ⟨mulx_nn (a := 2) (b := 7) (by decide) (by decide) (by omega) (by rw [List.length_map]; omega) (by decide), _, Less.refl, ?_⟩
    have : (2 * ((lanes.map laneD).length : Int) == (((stopsS rows).map keyS).length : Int)) = true := by
      rw [beq_iff_eq, List.length_map, List.length_map]
      omega
    simp only [this, Bool.false_eq_true, if_false]
    exact q
/-- where a street leads from a stop -/
def mateN : List (Stop × Stop) → Stop → Stop
  | [], s => s
  | x :: l, s => if x.1 = s then x.2 else if x.2 = s then x.1 else mateN l s
abbrev acrossD (l : List (Stop × Stop)) : Nd × List D := (.dT ((flatK l).map keyS), l.flatMap fun (x : Stop × Stop) => [stopD x.2, stopD x.1])
theorem across_look : ∀ {l : List (Stop × Stop)} {s : Stop}, s ∈ flatK l → lookD ((flatK l).map keyS) (l.flatMap fun (x : Stop × Stop) => [stopD x.2, stopD x.1]) (keyS s) = some (stopD (mateN l s))
  | x :: l, s, h => by
    rw [flat_cons, List.map_cons, List.map_cons, List.flatMap_cons]
    show lookD (keyS x.1 :: keyS x.2 :: (flatK l).map keyS) (stopD x.2 :: stopD x.1 :: l.flatMap fun x => [stopD x.2, stopD x.1]) (keyS s) = _
    rw [look_cons, look_cons, mateN]
    by_cases c1 : x.1 = s
    · rw [if_pos (by rw [c1]), if_pos c1]
    · rw [if_neg (fun z => c1 (keyS_inj z)), if_neg c1]
      by_cases c2 : x.2 = s
      · rw [if_pos (by rw [c2]), if_pos c2]
      · rw [if_neg (fun z => c2 (keyS_inj z)), if_neg c2]
        refine across_look ?_
        rw [flat_cons] at h
        cases h with
        | head => exact absurd rfl c1
        | tail _ h => cases h with
          | head => exact absurd rfl c2
          | tail _ h => exact h
theorem across_at {l : List (Stop × Stop)} {s : Stop} (h : s ∈ flatK l) : atKey (acrossD l) (stopD s) = some (some (stopD (mateN l s))) := by
  show (match keyL [D.str s.1, natD s.2] with
    | some k => some (lookD ((flatK l).map keyS) (l.flatMap fun (x : Stop × Stop) => [stopD x.2, stopD x.1]) k)
    | none => none) = _
  rw [keyL_stop]
  show some (lookD _ _ _) = _
  rw [across_look h]
theorem dput_e {td ty tv : DTE} {E : DEnds} {ρ : DSt} {S : DHp} : sDput td ty tv E ρ S = tv ρ S fun v S1 => td ρ S1 fun x S2 => ty ρ S2 fun y S3 => match x with
  | .ref p => match S3 p with
    | some (.dK ks, ds) => match keyD y with
      | some k => ks.length < sizeLine ∧ E.nx ρ (put S3 p (.dK (putD ks ds k v).1, (putD ks ds k v).2))
      | none => False
    | some (.dT ks, ds) => match y with
      | .nd .tup zs => match keyL zs with
        | some k => ks.length < sizeLine ∧ E.nx ρ (put S3 p (.dT (putD ks ds k v).1, (putD ks ds k v).2))
        | none => False
      | _ => False
    | _ => False
  | _ => False := rfl
theorem newT_e {ρ : DSt} {S : DHp} {Q : DQ} : dNewT ρ S Q = ∀ p, S p = none → Q (.ref p) (put S p (.dT [], [])) := rfl
def sp_ways_across : DSp := fun ds S Q => ∃ l : List (Stop × Stop), ds = [.tup (l.map laneD)] ∧ (flatK l).Nodup ∧ l.length < 2 ^ 20 ∧ Q (.nd (.dT ((flatK l).map keyS)) (l.flatMap fun (x : Stop × Stop) => [stopD x.2, stopD x.1])) S
theorem d_ways_across (ds S Q) (h : sp_ways_across ds S Q) : t_ways_across (endsF Q) (startD N_ways_across.length ds) S := by
  obtain ⟨l, rfl, nd, hz, q⟩ := h
  unfold t_ways_across
  have e0 : startD N_ways_across.length [.tup (l.map laneD)] = [some (.tup (l.map laneD)), none, none, none] := rfl
  rw [e0]
  refine seq_g fun K hK => ?_
  simp only [asg_e, newT_e]
  intro p hp
  walk_at "ev"
  subst hK
  refine seq_g fun K hK => ?_
  simp only [for_e, seqI_e]
  walk_at "ev"
  show forD _ _ _ _ (l.map laneD) _ _
  refine forD_ind (fun m ρ S' => ∃ (dn td : List (Stop × Stop)) (x2 x3 : Option D), dn ++ td = l ∧ m = td.map laneD ∧ ρ = [some (.tup (l.map laneD)), some (.ref p), x2, x3] ∧ S' = put S p (acrossD dn))
    (fun _ _ _ _ => trivial) (fun ρ S' h => ?_) (fun d m ρ S' h K2 hK2 => ?_) ⟨[], l, none, none, rfl, rfl, rfl, rfl⟩
  · obtain ⟨dn, td, x2, x3, ed, em, rfl, rfl⟩ := h
    have : td = [] := by cases td with
      | nil => rfl
      | cons _ _ => cases em
    subst this
    rw [List.append_nil] at ed
    subst ed
    subst hK
    simp only [ret_e]
    refine frzv_i rfl put_same ?_
    rw [era_put hp]
    exact ⟨_, Less.refl, q⟩
  · obtain ⟨dn, td, x2, x3, ed, em, rfl, rfl⟩ := h
    cases td with
    | nil => cases em
    | cons x td =>
      rw [List.map_cons] at em
      obtain ⟨rfl, rfl⟩ := List.cons.inj em
      refine tup2_e ?_
      simp only [set0, setS]
      have ll : dn.length + (td.length + 1) = l.length := by rw [← ed, List.length_append, List.length_cons]
      have fl := flat_len (l := dn)
      rw [← ed, show dn ++ x :: td = dn ++ [x] ++ td by simp, flat_add, flat_add] at nd
      have nd2 := (List.nodup_append.mp nd).1
      have n1 : keyS x.1 ∉ (flatK dn).map keyS := fun z => by
        obtain ⟨y, hy, e⟩ := List.mem_map.mp z
        have e := keyS_inj e
        subst e
        exact (List.nodup_append.mp nd2).2.2 _ hy _ (by simp [flatK]) rfl
      have n2 : keyS x.2 ∉ (flatK dn).map keyS ++ [keyS x.1] := fun z => by
        rcases List.mem_append.mp z with z | z
        · obtain ⟨y, hy, e⟩ := List.mem_map.mp z
          have e := keyS_inj e
          subst e
          exact (List.nodup_append.mp nd2).2.2 _ hy _ (by simp [flatK]) rfl
        · have e := keyS_inj (List.mem_singleton.mp z)
          have := (List.nodup_append.mp nd2).2.1
          rw [show flatK [x] = [x.1, x.2] from rfl, e] at this
          simp at this
      have p1 : putD ((flatK dn).map keyS) (dn.flatMap fun (x : Stop × Stop) => [stopD x.2, stopD x.1]) [Sum.inr x.1.1, Sum.inl (x.1.2 : Int)] (stopD x.2) = _ := putD_new n1
      have p2 : putD ((flatK dn).map keyS ++ [[Sum.inr x.1.1, Sum.inl (x.1.2 : Int)]]) ((dn.flatMap fun (x : Stop × Stop) => [stopD x.2, stopD x.1]) ++ [stopD x.2]) [Sum.inr x.2.1, Sum.inl (x.2.2 : Int)] (stopD x.1) = _ := putD_new n2
      have kl1 : keyL [D.str x.1.1, natD x.1.2] = some (keyS x.1) := rfl
      have kl2 : keyL [D.str x.2.1, natD x.2.2] = some (keyS x.2) := rfl
      refine seq_g fun K3 hK3 => ?_
      simp only [dput_e]
      k_with "ev" => simp only [put_same, kl1, kl2, p1]
      refine ⟨by rw [List.length_map]; show _ < 2 ^ 24; omega, ?_⟩
      subst hK3
      simp only [dput_e]
      k_with "ev" => simp only [put_same, kl1, kl2, p1, p2]
      refine ⟨by rw [List.length_append, List.length_map, List.length_cons, List.length_nil]; show _ < 2 ^ 24; omega, ?_⟩
      refine hK2 _ _ ⟨dn ++ [x], td, _, _, by rw [List.append_assoc]; exact ed, rfl, rfl, ?_⟩
      congr 1
      simp only [p2]
      show _ = (Nd.dT ((flatK (dn ++ [x])).map keyS), (dn ++ [x]).flatMap fun (x : Stop × Stop) => [stopD x.2, stopD x.1])
      rw [flat_add, List.map_append, List.flatMap_append, List.append_assoc, List.append_assoc]
      rfl
abbrev fldsT : List Str := ["_crossings", "_streets", "_by_name", "_across"]
abbrev byName (rows : List RowS) : D := .nd (.dK (rows.map fun r => (Sum.inr r.name : Key))) (rows.map RowS.d)
abbrev acrossN (lanes : List (Stop × Stop)) : D := .nd (.dT ((flatK lanes).map keyS)) (lanes.flatMap fun (x : Stop × Stop) => [stopD x.2, stopD x.1])
abbrev valsT (rows : List RowS) (lanes : List (Stop × Stop)) : List D := [.tup (rows.map RowS.d), .tup (lanes.map laneD), byName rows, acrossN lanes]
/-- a Town that stands still -/
abbrev townI (C : Addr) (rows : List RowS) (lanes : List (Stop × Stop)) : D := .nd (.ins C fldsT) (valsT rows lanes)
theorem fldS_e {C : Addr} {f : Str} {to te : DTE} {E : DEnds} {ρ : DSt} {S : DHp} : sFldD C f to te E ρ S = te ρ S fun y S1 => to ρ S1 fun x S2 => match x with
  | .ref p => match S2 p with
    | some (.ins C' ns, ds) => (C' = C ∧ f ∉ ns ∧ ns.length < 1000) ∧ E.nx ρ (put S2 p (.ins C (ns ++ [f]), ds ++ [y]))
    | _ => False
  | _ => False := rfl
def sp_Town_init (C : Addr) : DSp := fun ds S Q => ∃ (p : Addr) (rows : List RowS) (lanes : List (Stop × Stop)), ds = [.ref p, .tup (rows.map RowS.d), .tup (lanes.map laneD)] ∧ TownOk rows lanes ∧ S p = some (.ins C [], []) ∧ Q .non (put S p (.ins C fldsT, valsT rows lanes))
theorem names_keys {rows : List RowS} (nd : (rows.map RowS.name).Nodup) : (rows.map fun r => (Sum.inr r.name : Key)).Nodup := by
  have : (rows.map fun r => (Sum.inr r.name : Key)) = (rows.map RowS.name).map Sum.inr := by rw [List.map_map]; rfl
  rw [this]
  exact List.Pairwise.map _ (fun a b (hab : a ≠ b) z => hab (Sum.inr.inj z)) nd
theorem d_Town_init (C : Addr) (ds S Q) (h : sp_Town_init C ds S Q) : t_Town_init C sp_are_town_crossings sp_are_town_streets sp_ways_across (endsF Q) (startD N_Town_init.length ds) S := by
  obtain ⟨p, rows, lanes, rfl, ok, hp, q⟩ := h
  have g := ok.good
  have nd := good_names g
  have few := g.few
  have fl := g.all.length_eq
  rw [flat_len] at fl
  have fw := ok.few
  unfold t_Town_init
  have e0 : startD N_Town_init.length [.ref p, .tup (rows.map RowS.d), .tup (lanes.map laneD)] = [some (.ref p), some (.tup (rows.map RowS.d)), some (.tup (lanes.map laneD)), none] := rfl
  rw [e0]
  refine seq_g fun K hK => ifs_g fun T U hT hU => ?_
  walk_at "ev"
  refine ⟨rows, rfl, g.ne, by omega, fun r hr => ⟨g.ok r hr, ok.sg r hr⟩, g.srt, ?_⟩
  simp only [Bool.not_true, Bool.false_eq_true, if_false]
  subst hU
  walk_at "ev"
  subst hK
  refine seq_g fun K hK => ifs_g fun T U hT hU => ?_
  walk_at "ev"
  refine ⟨rows, lanes, rfl, ok, ?_⟩
  simp only [Bool.not_true, Bool.false_eq_true, if_false]
  subst hU
  walk_at "ev"
  subst hK
  refine seq_g fun K hK => ?_
  simp only [fldS_e]
  k_with "ev" => simp only [hp]
  refine ⟨by decide, ?_⟩
  subst hK
  refine seq_g fun K hK => ?_
  simp only [fldS_e]
  walk_at "ev"
  refine ⟨by decide +kernel, ?_⟩
  subst hK
  refine seq_g fun K hK => ?_
  simp only [fldS_e]
  refine dc_map (l := rows) (item := RowS.d) (kd := fun r => .str r.name) (vl := RowS.d) (key := fun r => .inr r.name) (live := fun _ => True) (fun R hR => ?_) (fun _ _ => trivial) (fun _ _ => rfl) (names_keys nd) (by omega) (fun r hr S' sub Y hY => ?_) ?_
  · rw [seqI_e]
    walk_at "ev"
    exact hR
  · show dgName 3 r.d [some (.ref p), some (.tup (rows.map RowS.d)), some (.tup (lanes.map laneD)), none] S' _
    have hY : Y (.str r.name) (.tup [.str r.name, natD r.ends, .tup (r.pairs.map natP), .tup (r.signs.map D.str)]) S' := hY
    unfold RowS.d
    walk_at "ev"
    exact hY
  · walk_at "ev"
    refine ⟨by decide +kernel, ?_⟩
    subst hK
    simp only [fldS_e]
    walk_at "ev"
    refine ⟨lanes, rfl, g.all.nodup_iff.mpr (stops_nodup nd), by omega, ?_⟩
    walk_at "ev"
    refine ⟨by decide +kernel, ?_⟩
    exact ⟨_, Less.refl, q⟩
/-- a choice -/
inductive Ch where
  | on | back | left (k : Nat) | right (k : Nat)
def chD : Ch → D
  | .on => .tup [.str "on"]
  | .back => .tup [.str "back"]
  | .left k => .tup [.str "left", natD k]
  | .right k => .tup [.str "right", natD k]
def ChOk : Ch → Prop
  | .left k => 1 ≤ k ∧ k ≤ 3
  | .right k => 1 ≤ k ∧ k ≤ 3
  | _ => True
theorem eq1 {a b : Str} : eqL [D.str a] [D.str b] = (a == b) := by simp [eqL, eqD]
theorem eq21 {a b : Str} {d : D} : eqL [D.str a, d] [D.str b] = false := by simp [eqL]
theorem ok1 {a : Str} (h : PyData.strOk a = true) : okL [D.str a] = true := by simp [okL, okD, h]
theorem ok2 {a : Str} {n : Nat} (h : PyData.strOk a = true) : okL [D.str a, natD n] = true := by simp [okL, okD, h]
theorem dep1 {a : Str} : dep (.tup [D.str a]) ≤ 64 := by simp [dep, depL]
theorem dep2 {a : Str} {n : Nat} : dep (.tup [D.str a, natD n]) ≤ 64 := by simp [dep, depL]
theorem s_lo : ((("left" : Str) == "on") = false) ∧ ((("left" : Str) == "back") = false) ∧ ((("left" : Str) == "left") = true) ∧ ((("left" : Str) == "right") = false) ∧ ((("right" : Str) == "left") = false) ∧ ((("right" : Str) == "right") = true) ∧ ((("right" : Str) == "back") = false) ∧ ((("right" : Str) == "on") = false) ∧ ((("on" : Str) == "on") = true) ∧ ((("on" : Str) == "back") = false) ∧ ((("back" : Str) == "on") = false) ∧ ((("back" : Str) == "back") = true) := by decide +kernel
theorem strs_ok : PyData.strOk "on" = true ∧ PyData.strOk "back" = true ∧ PyData.strOk "left" = true ∧ PyData.strOk "right" = true := by decide +kernel
def sp_is_choice : DSp := fun ds S Q => ∃ c : Ch, ds = [chD c] ∧ ChOk c ∧ Q (.bl true) S
theorem d_is_choice (ds S Q) (h : sp_is_choice ds S Q) : t_is_choice sp_is_row sp_is_integer (endsF Q) (startD N_is_choice.length ds) S := by
  obtain ⟨c, rfl, ok, q⟩ := h
  obtain ⟨o1, o2, o3, o4⟩ := strs_ok
  obtain ⟨s1, s2, s3, s4, s5, s6, s7, s8, s9, s10, s11, s12⟩ := s_lo
  unfold t_is_choice
  have e0 : startD N_is_choice.length [chD c] = [some (chD c)] := rfl
  rw [e0]
  refine seq_g fun K hK => ifs_g fun T U hT hU => ?_
  have two : ∀ (a : Str) (k : Nat), (a == ("on" : Str)) = false → (a == ("back" : Str)) = false → ((a == ("left" : Str)) = true ∨ (a == ("left" : Str)) = false ∧ (a == ("right" : Str)) = true) → 1 ≤ k → k ≤ 3 → K [some (.tup [.str a, natD k])] S := by
    intro a k h1 h2 h3 k1 k2
    subst hK
    refine seq_g fun K hK => ifs_g fun T U hT hU => ?_
    walk_at "ev"
    refine ⟨_, 2, rfl, .inl ⟨_, rfl, ?_⟩⟩
    have : decide ((([.str a, natD k] : List D).length : Int) = 2) = true := by simp
    simp only [this, Bool.not_true, Bool.false_eq_true, if_false]
    k_with "ev" => simp only [at_0t, at_1t]
    refine ⟨natD k, "int", rfl, rfl, .inl ⟨rfl, ?_⟩⟩
    simp only [Bool.not_true, Bool.false_eq_true, if_false]
    subst hU
    walk_at "ev"
    subst hK
    k_with "ev" => simp only [at_0t, at_1t]
    have c1 : ¬ ((k : Int) < 1) := by omega
    have c2 : ¬ ((3 : Int) < (k : Int)) := by omega
    rcases h3 with h3 | ⟨h3, h4⟩
    · simp only [h3, Bool.false_eq_true, if_false, chain2_e]
      k_with "ev" => simp only [at_0t, at_1t]
      simp only [c1, c2, decide_false, Bool.not_false]
      k_with "ev" => simp only [at_0t, at_1t]
      try simp only [c1, c2, decide_false, Bool.not_false]
      exact ⟨_, Less.refl, q⟩
    · simp only [h3, h4, Bool.false_eq_true, if_false, chain2_e]
      k_with "ev" => simp only [at_0t, at_1t]
      simp only [h4, c1, c2, decide_false, Bool.not_false, Bool.false_eq_true, if_false]
      k_with "ev" => simp only [at_0t, at_1t]
      try simp only [c1, c2, decide_false, Bool.not_false]
      exact ⟨_, Less.refl, q⟩
  walk_at "ev"
  cases c with
  | on =>
    refine ⟨by simp only [List.length_cons, List.length_nil]; decide, ?_⟩
    simp only [chD]
    walk_at "ev"
    refine ⟨⟨ok1 (by assumption), ok1 (by assumption), dep1, dep1⟩, ?_⟩
    simp only [eq1, s9, Bool.false_eq_true, if_false, if_true]
    subst hT
    walk_at "ev"
    exact ⟨_, Less.refl, q⟩
  | back =>
    refine ⟨by simp only [List.length_cons, List.length_nil]; decide, ?_⟩
    simp only [chD]
    walk_at "ev"
    refine ⟨⟨ok1 (by assumption), ok1 (by assumption), dep1, dep1⟩, ?_⟩
    simp only [eq1, s11, Bool.false_eq_true, if_false, if_true]
    refine ⟨by simp only [List.length_cons, List.length_nil]; decide, ?_⟩
    refine ⟨⟨ok1 (by assumption), ok1 (by assumption), dep1, dep1⟩, ?_⟩
    try simp only [eq1, s12, Bool.false_eq_true, if_false, if_true]
    subst hT
    walk_at "ev"
    exact ⟨_, Less.refl, q⟩
  | left k =>
    refine ⟨by simp only [List.length_cons, List.length_nil]; decide, ?_⟩
    simp only [chD]
    walk_at "ev"
    refine ⟨⟨ok2 (by assumption), ok1 (by assumption), dep2, dep1⟩, ?_⟩
    simp only [eq21, Bool.false_eq_true, if_false]
    refine ⟨by simp only [List.length_cons, List.length_nil]; decide, ?_⟩
    refine ⟨⟨ok2 (by assumption), ok1 (by assumption), dep2, dep1⟩, ?_⟩
    try simp only [eq21, Bool.false_eq_true, if_false]
    subst hU
    walk_at "ev"
    exact two _ _ s1 s2 (.inl s3) ok.1 ok.2
  | right k =>
    refine ⟨by simp only [List.length_cons, List.length_nil]; decide, ?_⟩
    simp only [chD]
    walk_at "ev"
    refine ⟨⟨ok2 (by assumption), ok1 (by assumption), dep2, dep1⟩, ?_⟩
    simp only [eq21, Bool.false_eq_true, if_false]
    refine ⟨by simp only [List.length_cons, List.length_nil]; decide, ?_⟩
    refine ⟨⟨ok2 (by assumption), ok1 (by assumption), dep2, dep1⟩, ?_⟩
    try simp only [eq21, Bool.false_eq_true, if_false]
    subst hU
    walk_at "ev"
    exact two _ _ s8 s7 (.inr ⟨s5, s6⟩) ok.1 ok.2
/-- where an end stands in the round behind b -/
def gapN (n b o : Nat) : Nat := (o + n - b - 1) % n
theorem oth_get {n b i : Nat} (h : i < n - 1) : (othN n b)[i]? = some ((b + (1 + i)) % n) := by
  unfold othN
  rw [List.getElem?_map, List.getElem?_range h]
  rfl
theorem oth_len {n b : Nat} : (othN n b).length = n - 1 := by
  unfold othN
  rw [List.length_map, List.length_range]
theorem mod_lt2 {a n : Nat} (h : a < 2 * n) : a % n = if a < n then a else a - n := by
  by_cases c : a < n
  · rw [if_pos c, Nat.mod_eq_of_lt c]
  · rw [if_neg c, Nat.mod_eq_sub_mod (by omega), Nat.mod_eq_of_lt (by omega)]
theorem gap_val {n b o : Nat} (hb : b < n) (ho : o < n) (h : o ≠ b) : gapN n b o = if b < o then o - b - 1 else o + n - b - 1 := by
  unfold gapN
  rw [mod_lt2 (by omega)]
  split <;> split <;> omega
theorem oth_val {n b i : Nat} (hb : b < n) (h : i < n - 1) : (b + (1 + i)) % n = if b + 1 + i < n then b + 1 + i else b + 1 + i - n := by
  rw [mod_lt2 (by omega)]
  split <;> split <;> omega
theorem oth_gap {n b o : Nat} (hb : b < n) (ho : o < n) (h : o ≠ b) : (othN n b)[gapN n b o]? = some o ∧ ∀ m, m < gapN n b o → (othN n b)[m]? ≠ some o := by
  have g := gap_val hb ho h
  have gl : gapN n b o < n - 1 := by rw [g]; split <;> omega
  refine ⟨?_, fun m hm z => ?_⟩
  · rw [oth_get gl, oth_val hb gl, g]
    congr 1
    split <;> split <;> omega
  · rw [oth_get (by omega), oth_val hb (by omega)] at z
    have z := Option.some.inj z
    rw [g] at hm
    split at z <;> split at hm <;> omega
theorem str_ok {n : Nat} : ∀ {l : List (Nat × Nat)} {e o : Nat}, (∀ x ∈ l, x.1 < x.2 ∧ x.2 < n) → strN l e = some o → o < n ∧ o ≠ e
  | x :: l, e, o, h, z => by
    have hx := h x (by simp)
    rw [strN] at z
    split at z
    · cases z; omega
    · split at z
      · cases z; omega
      · exact str_ok (fun y hy => h y (by simp [hy])) z
/-- the ends on the left, on the right, each as they are counted -/
def sidesN (n b : Nat) : Option Nat → List Nat × List Nat
  | none => (othN n b, (othN n b).reverse)
  | some o => ((othN n b).take (gapN n b o), ((othN n b).drop (gapN n b o + 1)).reverse)
theorem sides_q {n b : Nat} {on : Option Nat} {S : DHp} {Q : DQ} (hb : b < n) (hn : n < 2 ^ 20) (ho : ∀ o, on = some o → o < n ∧ o ≠ b) (q : Q (.tup [.lst ((sidesN n b on).1.map natD), .lst ((sidesN n b on).2.map natD)]) S) : sp_sides_of [natD n, optD on, natD b] S Q := by
  refine ⟨n, b, on, rfl, by omega, hn, ?_⟩
  cases on with
  | none => exact q
  | some o =>
    obtain ⟨h1, h2⟩ := ho o rfl
    obtain ⟨g1, g2⟩ := oth_gap hb h1 h2
    exact ⟨gapN n b o, g1, g2, q⟩
def sp_view_from : DSp := fun ds S Q => ∃ (r : RowS) (b : Nat), ds = [r.d, natD b] ∧ RowOk r ∧ b < r.ends ∧
  Q (.tup [natD (sidesN r.ends b (strN r.pairs b)).1.length, natD (sidesN r.ends b (strN r.pairs b)).2.length, .bl (strN r.pairs b).isSome, .tup (r.signs.map D.str)]) S
theorem non_opt {o : Option Nat} : isNon (optD o) = !o.isSome := by cases o <;> rfl
theorem d_view_from (ds S Q) (h : sp_view_from ds S Q) : t_view_from sp_straight_from sp_sides_of (endsF Q) (startD N_view_from.length ds) S := by
  obtain ⟨r, b, rfl, ok, hb, q⟩ := h
  have e20 := ok.e1
  unfold t_view_from
  have e0 : startD N_view_from.length [r.d, natD b] = [some r.d, some (natD b), none, none, none, none, none, none, none] := rfl
  rw [e0]
  refine seq_g fun K hK => ?_
  walk_at "ev"
  unfold RowS.d
  refine tup4_e ?_
  walk_at "ev"
  subst hK
  refine seq_g fun K hK => ?_
  walk_at "ev"
  refine ⟨r.pairs, b, rfl, ?_⟩
  walk_at "ev"
  subst hK
  refine seq_g fun K hK => ?_
  walk_at "ev"
  refine sides_q hb (by omega) (fun o z => str_ok ok.st.up z) ?_
  refine tup2_e ?_
  walk_at "ev"
  subst hK
  walk_at "ev"
  simp only [non_opt, List.length_map, Bool.not_not, if_true]
  exact ⟨by simp only [List.length_cons, List.length_nil]; decide, _, Less.refl, q⟩
/-- the end that a choice takes -/
def takenN (r : RowS) (b : Nat) : Ch → Option Nat
  | .on => strN r.pairs b
  | .back => some b
  | .left k => (sidesN r.ends b (strN r.pairs b)).1[k - 1]?
  | .right k => (sidesN r.ends b (strN r.pairs b)).2[k - 1]?
theorem nth_choice {l : List Nat} {k : Nat} {F : D → Prop} (k1 : 1 ≤ k) (q : F (optD l[k - 1]?)) : if (!decide (((l.map natD).length : Int) < (k : Int))) = true then (match L2.atI (l.map natD) ((k : Int) - 1) with
    | some d => F d
    | none => False) else F .non := by
  rw [List.length_map]
  by_cases c : l.length < k
  · have c2 : ((l.length : Nat) : Int) < (k : Int) := by omega
    rw [List.getElem?_eq_none (by omega)] at q
    simp only [c2, decide_true, Bool.not_true, Bool.false_eq_true, if_false]
    exact q
  · have c2 : ¬ ((l.length : Nat) : Int) < (k : Int) := by omega
    have h : k - 1 < l.length := by omega
    rw [List.getElem?_eq_getElem h] at q
    simp only [c2, decide_false, Bool.not_false, if_true]
    rw [show ((k : Int) - 1) = ((k - 1 : Nat) : Int) by omega, at_mapf h]
    exact q
def sp_end_taken : DSp := fun ds S Q => ∃ (r : RowS) (b : Nat) (c : Ch), ds = [r.d, natD b, chD c] ∧ RowOk r ∧ b < r.ends ∧ ChOk c ∧ Q (optD (takenN r b c)) S
theorem d_end_taken (ds S Q) (h : sp_end_taken ds S Q) : t_end_taken sp_straight_from sp_sides_of (endsF Q) (startD N_end_taken.length ds) S := by
  obtain ⟨r, b, c, rfl, ok, hb, oc, q⟩ := h
  obtain ⟨s1, s2, s3, s4, s5, s6, s7, s8, s9, s10, s11, s12⟩ := s_lo
  have e20 := ok.e1
  unfold t_end_taken
  have e0 : startD N_end_taken.length [r.d, natD b, chD c] = [some r.d, some (natD b), some (chD c), none, none, none, none, none, none, none, none] := rfl
  rw [e0]
  refine seq_g fun K hK => ?_
  walk_at "ev"
  unfold RowS.d
  refine tup4_e ?_
  walk_at "ev"
  subst hK
  refine seq_g fun K hK => ifs_g fun T U hT hU => ?_
  cases c with
  | back =>
    simp only [chD]
    k_with "ev" => simp only [at_0t]
    simp only [s12, Bool.false_eq_true, if_false, if_true]
    subst hT
    walk_at "ev"
    exact ⟨_, Less.refl, q⟩
  | on =>
    simp only [chD]
    k_with "ev" => simp only [at_0t]
    simp only [s10, Bool.false_eq_true, if_false, if_true]
    subst hU
    walk_at "ev"
    subst hK
    refine seq_g fun K hK => ?_
    walk_at "ev"
    refine ⟨r.pairs, b, rfl, ?_⟩
    walk_at "ev"
    subst hK
    refine seq_g fun K hK => ifs_g fun T U hT hU => ?_
    k_with "ev" => simp only [at_0t]
    simp only [s9, Bool.false_eq_true, if_false, if_true]
    subst hT
    walk_at "ev"
    exact ⟨_, Less.refl, q⟩
  | left k =>
    simp only [chD]
    k_with "ev" => simp only [at_0t]
    simp only [s2, Bool.false_eq_true, if_false]
    subst hU
    walk_at "ev"
    subst hK
    refine seq_g fun K hK => ?_
    walk_at "ev"
    refine ⟨r.pairs, b, rfl, ?_⟩
    walk_at "ev"
    subst hK
    refine seq_g fun K hK => ifs_g fun T U hT hU => ?_
    k_with "ev" => simp only [at_0t]
    simp only [s1, Bool.false_eq_true, if_false]
    subst hU
    walk_at "ev"
    subst hK
    refine seq_g fun K hK => ?_
    walk_at "ev"
    refine sides_q hb (by omega) (fun o z => str_ok ok.st.up z) ?_
    refine tup2_e ?_
    walk_at "ev"
    subst hK
    refine seq_g fun K hK => ?_
    k_with "ev" => simp only [at_0t]
    simp only [s3, Bool.false_eq_true, if_false, if_true]
    subst hK
    k_with "ev" => simp only [at_0t, at_1t]
    exact nth_choice (F := fun d => (endsF Q).rt d S) oc.1 ⟨_, Less.refl, q⟩
  | right k =>
    simp only [chD]
    k_with "ev" => simp only [at_0t]
    simp only [s7, Bool.false_eq_true, if_false]
    subst hU
    walk_at "ev"
    subst hK
    refine seq_g fun K hK => ?_
    walk_at "ev"
    refine ⟨r.pairs, b, rfl, ?_⟩
    walk_at "ev"
    subst hK
    refine seq_g fun K hK => ifs_g fun T U hT hU => ?_
    k_with "ev" => simp only [at_0t]
    simp only [s8, Bool.false_eq_true, if_false]
    subst hU
    walk_at "ev"
    subst hK
    refine seq_g fun K hK => ?_
    walk_at "ev"
    refine sides_q hb (by omega) (fun o z => str_ok ok.st.up z) ?_
    refine tup2_e ?_
    walk_at "ev"
    subst hK
    refine seq_g fun K hK => ?_
    k_with "ev" => simp only [at_0t]
    simp only [s5, Bool.false_eq_true, if_false, if_true]
    subst hK
    k_with "ev" => simp only [at_0t, at_1t]
    exact nth_choice (F := fun d => (endsF Q).rt d S) oc.1 ⟨_, Less.refl, q⟩
theorem fld_e {C : Addr} {f : Str} {te : DTE} {ρ : DSt} {S : DHp} {Q : DQ} : dFld C f te ρ S Q = te ρ S fun x S1 => match insOf S1 x with
  | some (C', ns, ds) => C' = C ∧ match lookD ns ds f with
    | some d => Q d S1
    | none => False
  | none => False := rfl
theorem dget_e {td ty : DTE} {ρ : DSt} {S : DHp} {Q : DQ} : dDget td ty ρ S Q = td ρ S fun x S1 => ty ρ S1 fun y S2 => match dictOf S2 x with
  | some o => match atKey o y with
    | some (some d) => Q d S2
    | _ => False
  | none => False := rfl
theorem stop_0 {n : Str} {b : Nat} {S : DHp} {Q : DQ} : oIx (stopD (n, b)) (.int 0) S Q = Q (.str n) S := at_0t
theorem stop_1 {n : Str} {b : Nat} {S : DHp} {Q : DQ} : oIx (stopD (n, b)) (.int 1) S Q = Q (natD b) S := at_1t
theorem ins_town {C : Addr} {rows : List RowS} {lanes : List (Stop × Stop)} {S : DHp} : insOf S (townI C rows lanes) = some (C, fldsT, valsT rows lanes) := rfl
theorem ne_flds : (¬ ("_crossings" : Str) = "_streets") ∧ (¬ ("_crossings" : Str) = "_by_name") ∧ (¬ ("_crossings" : Str) = "_across") ∧ (¬ ("_streets" : Str) = "_by_name") ∧ (¬ ("_streets" : Str) = "_across") ∧ (¬ ("_by_name" : Str) = "_across") := by decide +kernel
theorem look_fields {a b c d : D} : lookD fldsT [a, b, c, d] "_crossings" = some a ∧ lookD fldsT [a, b, c, d] "_streets" = some b ∧ lookD fldsT [a, b, c, d] "_by_name" = some c ∧ lookD fldsT [a, b, c, d] "_across" = some d := by
  obtain ⟨h1, h2, h3, h4, h5, h6⟩ := ne_flds
  refine ⟨?_, ?_, ?_, ?_⟩
  · rw [look_cons, if_pos rfl]
  · rw [look_cons, if_neg h1, look_cons, if_pos rfl]
  · rw [look_cons, if_neg h2, look_cons, if_neg h4, look_cons, if_pos rfl]
  · rw [look_cons, if_neg h3, look_cons, if_neg h5, look_cons, if_neg h6, look_cons, if_pos rfl]
theorem by_name {rows : List RowS} {r : RowS} (hr : r ∈ rows) (nd : (rows.map RowS.name).Nodup) : atKey (.dK (rows.map fun r => (Sum.inr r.name : Key)), rows.map RowS.d) (.str r.name) = some (some r.d) := by
  show some (lookD _ _ _) = _
  rw [look_map (l := rows) (key := fun r => (Sum.inr r.name : Key)) (v := RowS.d) hr fun y hy z => name_inj nd hy hr (Sum.inr.inj z)]
theorem stop_in {rows : List RowS} {r : RowS} {b : Nat} (hr : r ∈ rows) (hb : b < r.ends) : ((r.name, b) : Stop) ∈ stopsS rows := List.mem_flatMap.mpr ⟨r, hr, List.mem_map.mpr ⟨b, List.mem_range.mpr hb, rfl⟩⟩
abbrev viewD (r : RowS) (b : Nat) : D := .tup [natD (sidesN r.ends b (strN r.pairs b)).1.length, natD (sidesN r.ends b (strN r.pairs b)).2.length, .bl (strN r.pairs b).isSome, .tup (r.signs.map D.str)]
/-- at a stop of a town -/
structure At (rows : List RowS) (lanes : List (Stop × Stop)) (r : RowS) (b : Nat) : Prop where
  ok : TownOk rows lanes
  row : r ∈ rows
  lt : b < r.ends
theorem At.told {rows : List RowS} {lanes : List (Stop × Stop)} {r : RowS} {b : Nat} (a : At rows lanes r b) : ((r.name, b) : Stop) ∈ flatK lanes := a.ok.good.all.mem_iff.mpr (stop_in a.row a.lt)
def sp_Town_view (C : Addr) : DSp := fun ds S Q => ∃ (rows : List RowS) (lanes : List (Stop × Stop)) (r : RowS) (b : Nat), ds = [townI C rows lanes, stopD (r.name, b)] ∧ At rows lanes r b ∧ Q (viewD r b) S
theorem d_Town_view (C : Addr) (ds S Q) (h : sp_Town_view C ds S Q) : t_Town_view C sp_is_told sp_view_from (endsF Q) (startD N_Town_view.length ds) S := by
  obtain ⟨rows, lanes, r, b, rfl, a, q⟩ := h
  have g := a.ok.good
  have lf := look_fields (a := D.tup (rows.map RowS.d)) (b := .tup (lanes.map laneD)) (c := byName rows) (d := acrossN lanes)
  unfold t_Town_view
  have e0 : startD N_Town_view.length [townI C rows lanes, stopD (r.name, b)] = [some (townI C rows lanes), some (stopD (r.name, b))] := rfl
  rw [e0]
  refine seq_g fun K hK => ifs_g fun T U hT hU => ?_
  simp only [not_e, tst_e, call_e, cons_e, nil_e, fld_e, var_e, slot0, slotS, ins_town, lf, true_and]
  refine ⟨_, _, _, _, rfl, .stop (r.name, b), rfl, across_at a.told, ?_⟩
  simp only [Option.isSome_some, Bool.not_true, Bool.false_eq_true, if_false]
  subst hU
  walk_at "ev"
  subst hK
  simp only [ret_e, call_e, cons_e, nil_e, fld_e, dget_e, var_e, slot0, slotS, ins_town, lf, true_and]
  k_with "ev" => simp only [stop_0, stop_1]
  simp only [dictOf, by_name a.row (good_names g)]
  exact ⟨r, b, rfl, g.ok r a.row, a.lt, _, Less.refl, q⟩
def sp_Town_taken (C : Addr) : DSp := fun ds S Q => ∃ (rows : List RowS) (lanes : List (Stop × Stop)) (r : RowS) (b : Nat) (c : Ch), ds = [townI C rows lanes, stopD (r.name, b), chD c] ∧ At rows lanes r b ∧ ChOk c ∧ Q (optD (takenN r b c)) S
theorem d_Town_taken (C : Addr) (ds S Q) (h : sp_Town_taken C ds S Q) : t_Town_taken C sp_is_told sp_is_choice sp_end_taken (endsF Q) (startD N_Town_taken.length ds) S := by
  obtain ⟨rows, lanes, r, b, c, rfl, a, oc, q⟩ := h
  have g := a.ok.good
  have lf := look_fields (a := D.tup (rows.map RowS.d)) (b := .tup (lanes.map laneD)) (c := byName rows) (d := acrossN lanes)
  unfold t_Town_taken
  have e0 : startD N_Town_taken.length [townI C rows lanes, stopD (r.name, b), chD c] = [some (townI C rows lanes), some (stopD (r.name, b)), some (chD c)] := rfl
  rw [e0]
  refine seq_g fun K hK => ifs_g fun T U hT hU => ?_
  simp only [not_e, tst_e, call_e, cons_e, nil_e, fld_e, var_e, slot0, slotS, ins_town, lf, true_and]
  refine ⟨_, _, _, _, rfl, .stop (r.name, b), rfl, across_at a.told, ?_⟩
  simp only [Option.isSome_some, Bool.not_true, Bool.false_eq_true, if_false]
  subst hU
  walk_at "ev"
  subst hK
  refine seq_g fun K hK => ifs_g fun T U hT hU => ?_
  walk_at "ev"
  refine ⟨c, rfl, oc, ?_⟩
  simp only [Bool.not_true, Bool.false_eq_true, if_false]
  subst hU
  walk_at "ev"
  subst hK
  simp only [ret_e, call_e, cons_e, nil_e, fld_e, dget_e, var_e, slot0, slotS, ins_town, lf, true_and]
  k_with "ev" => simp only [stop_0, stop_1]
  simp only [dictOf, by_name a.row (good_names g)]
  exact ⟨r, b, c, rfl, g.ok r a.row, a.lt, oc, _, Less.refl, q⟩
def sp_Town_get (C : Addr) : DSp := fun ds S Q => ∃ (rows : List RowS) (lanes : List (Stop × Stop)) (r : RowS) (b : Nat), ds = [townI C rows lanes, stopD (r.name, b)] ∧ At rows lanes r b ∧ Q (stopD (mateN lanes (r.name, b))) S
theorem d_Town_get (C : Addr) (ds S Q) (h : sp_Town_get C ds S Q) : t_Town_get C sp_is_told (endsF Q) (startD N_Town_get.length ds) S := by
  obtain ⟨rows, lanes, r, b, rfl, a, q⟩ := h
  have g := a.ok.good
  have lf := look_fields (a := D.tup (rows.map RowS.d)) (b := .tup (lanes.map laneD)) (c := byName rows) (d := acrossN lanes)
  unfold t_Town_get
  have e0 : startD N_Town_get.length [townI C rows lanes, stopD (r.name, b)] = [some (townI C rows lanes), some (stopD (r.name, b))] := rfl
  rw [e0]
  refine seq_g fun K hK => ifs_g fun T U hT hU => ?_
  simp only [not_e, tst_e, call_e, cons_e, nil_e, fld_e, var_e, slot0, slotS, ins_town, lf, true_and]
  refine ⟨_, _, _, _, rfl, .stop (r.name, b), rfl, across_at a.told, ?_⟩
  simp only [Option.isSome_some, Bool.not_true, Bool.false_eq_true, if_false]
  subst hU
  walk_at "ev"
  subst hK
  simp only [ret_e, fld_e, dget_e, var_e, slot0, slotS, ins_town, lf, true_and]
  simp only [dictOf, across_at a.told]
  exact ⟨_, Less.refl, q⟩
/-! M1: the mirror image of a good town is one. -/
section
variable {κ : Type} {P : κ → Prop} {f : κ → D} {lt : κ → κ → Bool}
theorem take_ok {p : κ → Bool} : ∀ {l : List κ} {x : κ}, x ∈ l.takeWhile p → p x = true
  | y :: l, x, h => by
    rw [List.takeWhile_cons] at h
    cases c : p y with
    | true =>
      rw [c] at h
      simp only [if_true] at h
      rcases List.mem_cons.mp h with z | z
      · rw [z]; exact c
      · exact take_ok z
    | false =>
      rw [c] at h
      simp at h
theorem take_lt (e : Emb P f lt) {r : κ} (hr : P r) {low : List κ} (hl : ∀ x ∈ low, P x) (hn : r ∉ low) : ∀ x ∈ low.takeWhile (fun x => !lt r x), lt x r = true := by
  intro x hx
  have h1 := take_ok hx
  have hm : x ∈ low := (List.takeWhile_sublist _).subset hx
  have h2 : lt r x = false := by simpa using h1
  rcases e.tot hr (hl x hm) h2 with z | z
  · exact absurd (z ▸ hm) hn
  · exact z
theorem drop_gt (e : Emb P f lt) {r : κ} (hr : P r) : ∀ {low : List κ}, (∀ x ∈ low, P x) → low.Pairwise (fun a b => lt a b = true) → ∀ x ∈ low.dropWhile (fun x => !lt r x), lt r x = true
  | [], _, _, x, hx => by cases hx
  | y :: low, hl, hp, x, hx => by
    rw [List.dropWhile_cons] at hx
    cases c : lt r y with
    | true =>
      rw [c] at hx
      simp only [Bool.not_true, Bool.false_eq_true, if_false] at hx
      cases hx with
      | head => exact c
      | tail _ hx => exact e.tr hr (hl y (by simp)) (hl x (.tail _ hx)) c ((List.pairwise_cons.mp hp).1 x hx)
    | false =>
      rw [c] at hx
      simp only [Bool.not_false, if_true] at hx
      exact drop_gt e hr (fun z hz => hl z (by simp [hz])) (List.pairwise_cons.mp hp).2 x hx
theorem merge_srt (e : Emb P f lt) : ∀ {high low : List κ}, (∀ x ∈ low, P x) → (∀ x ∈ high, P x) → (∀ x ∈ low, x ∉ high) → low.Pairwise (fun a b => lt a b = true) → high.Pairwise (fun a b => lt a b = true) → (mergeN lt low high).Pairwise (fun a b => lt a b = true)
  | [], low, _, _, _, h, _ => by rw [mergeN]; exact h
  | r :: high, low, hl, hh, hd, h1, h2 => by
    rw [mergeN]
    have hr := hh r (by simp)
    have hn : r ∉ low := fun z => hd r z (by simp)
    obtain ⟨g1, g2⟩ := List.pairwise_cons.mp h2
    have subt : ∀ x ∈ low.takeWhile (fun x => !lt r x), x ∈ low := fun x hx => (List.takeWhile_sublist _).subset hx
    have subd : ∀ x ∈ low.dropWhile (fun x => !lt r x), x ∈ low := fun x hx => (List.dropWhile_sublist _).subset hx
    have rest : ∀ x ∈ mergeN lt (low.dropWhile fun x => !lt r x) high, lt r x = true ∧ P x := fun x hx => by
      rcases List.mem_append.mp (merge_perm.mem_iff.mp hx) with z | z
      · exact ⟨drop_gt e hr hl h1 x z, hl x (subd x z)⟩
      · exact ⟨g1 x z, hh x (by simp [z])⟩
    refine List.pairwise_append.mpr ⟨h1.sublist (List.takeWhile_sublist _), List.pairwise_cons.mpr ⟨fun x hx => (rest x hx).1, ?_⟩, fun a ha b hb => ?_⟩
    · exact merge_srt e (fun x hx => hl x (subd x hx)) (fun x hx => hh x (by simp [hx])) (fun x hx z => hd x (subd x hx) (by simp [z])) (h1.sublist (List.dropWhile_sublist _)) g2
    · have a1 := take_lt e hr hl hn a ha
      cases hb with
      | head => exact a1
      | tail _ hb => exact e.tr (hl a (subt a ha)) hr (rest b hb).2 a1 (rest b hb).1
theorem ms_srt (e : Emb P f lt) : ∀ {n : Nat} {l : List κ}, (∀ x ∈ l, P x) → l.Nodup → l.length ≤ 2 ^ n → (msN lt n l).Pairwise (fun a b => lt a b = true)
  | 0, l, _, _, hn => by
    rw [msN]
    match l, hn with
    | [], _ => exact .nil
    | [x], _ => simp
  | n + 1, l, hl, nd, hn => by
    rw [msN]
    split
    · match l with
      | [] => exact .nil
      | [x] => simp
      | x :: y :: l => rename_i h; simp at h; omega
    · have hp : 2 ^ (n + 1) = 2 * 2 ^ n := by rw [Nat.pow_succ]; omega
      have nd2 : (l.take (l.length / 2) ++ l.drop (l.length / 2)).Nodup := by rw [List.take_append_drop]; exact nd
      obtain ⟨n1, n2, n3⟩ := List.nodup_append.mp nd2
      have t1 : ∀ x ∈ l.take (l.length / 2), P x := fun x hx => hl x (List.mem_of_mem_take hx)
      have t2 : ∀ x ∈ l.drop (l.length / 2), P x := fun x hx => hl x (List.mem_of_mem_drop hx)
      refine merge_srt e (fun x hx => t1 x (ms_perm.mem_iff.mp hx)) (fun x hx => t2 x (ms_perm.mem_iff.mp hx)) (fun x hx z => n3 x (ms_perm.mem_iff.mp hx) x (ms_perm.mem_iff.mp z) rfl)
        (ms_srt e t1 n1 (by rw [List.length_take]; omega)) (ms_srt e t2 n2 (by rw [List.length_drop]; omega))
end
theorem mir_lt {n e : Nat} (h : e < n) : mirN n e < n := Nat.mod_lt _ (by omega)
theorem mir_val {n e : Nat} (h : e < n) : mirN n e = if e = 0 then 0 else n - e := by
  unfold mirN
  by_cases c : e = 0
  · rw [if_pos c, c, Nat.sub_zero, Nat.mod_self]
  · rw [if_neg c, Nat.mod_eq_of_lt (by omega)]
theorem mir_mir {n e : Nat} (h : e < n) : mirN n (mirN n e) = e := by
  have := mir_lt h
  rw [mir_val this, mir_val h]
  split <;> split <;> omega
theorem mir_inj {n a b : Nat} (ha : a < n) (hb : b < n) (h : mirN n a = mirN n b) : a = b := by
  rw [← mir_mir ha, h, mir_mir hb]
theorem flat_map2 {α β : Type} {g : α → β} {l : List (α × α)} : flatK (l.map fun x => (g x.1, g x.2)) = (flatK l).map g := by
  induction l with
  | nil => rfl
  | cons x l ih => rw [List.map_cons, flat_cons, flat_cons, List.map_cons, List.map_cons, ih]
theorem flat_twos {κ : Type} {lt : κ → κ → Bool} {l : List (κ × κ)} : (flatK (l.map fun x => twoK lt x.1 x.2)).Perm (flatK l) := by
  induction l with
  | nil => exact .nil
  | cons x l ih =>
    have h : flatK ((x :: l).map fun x => twoK lt x.1 x.2) = flatK [twoK lt x.1 x.2] ++ flatK (l.map fun x => twoK lt x.1 x.2) := by
      rw [List.map_cons]
      rfl
    rw [h, flat_cons]
    exact flat_two.append ih
theorem mem_flat {κ : Type} {l : List (κ × κ)} {x : κ × κ} (h : x ∈ l) : x.1 ∈ flatK l ∧ x.2 ∈ flatK l := ⟨List.mem_flatMap.mpr ⟨x, h, by simp⟩, List.mem_flatMap.mpr ⟨x, h, by simp⟩⟩
theorem flat_ne {κ : Type} : ∀ {l : List (κ × κ)}, (flatK l).Nodup → ∀ x ∈ l, x.1 ≠ x.2
  | y :: l, nd, x, hx => by
    rw [flat_cons] at nd
    cases hx with
    | head => exact fun z => (List.nodup_cons.mp nd).1 (by rw [z]; simp)
    | tail _ hx => exact flat_ne (List.nodup_cons.mp (List.nodup_cons.mp nd).2).2 x hx
/-- the pairs of a mirror image -/
theorem mirP_strt {n : Nat} {l : List (Nat × Nat)} (h : Strt n l) (hz : l.length ≤ 2 ^ 6) : Strt n (mirP n l) := by
  have pm : (mirP n l).Perm ((l.map fun x => (mirN n x.1, mirN n x.2)).map fun x => twoK ltN x.1 x.2) := ms_perm
  have lt : ∀ x ∈ flatK l, x < n := fun x hx => by
    obtain ⟨y, hy, hm⟩ := List.mem_flatMap.mp hx
    obtain ⟨u1, u2⟩ := h.up y hy
    simp only [List.mem_cons, List.not_mem_nil, or_false] at hm
    rcases hm with rfl | rfl <;> omega
  have ndm : ((flatK l).map (mirN n)).Nodup := by
    refine List.pairwise_map.mpr (List.Pairwise.imp_of_mem (fun {a b} ha hb hab z => hab (mir_inj (lt a ha) (lt b hb) z)) h.nd)
  have nd1 : (flatK (l.map fun x => (mirN n x.1, mirN n x.2))).Nodup := by rw [flat_map2]; exact ndm
  have nd2 : (flatK ((l.map fun x => (mirN n x.1, mirN n x.2)).map fun x => twoK ltN x.1 x.2)).Nodup := flat_twos.nodup_iff.mpr nd1
  refine ⟨fun x hx => ?_, (flat_perm pm).nodup_iff.mpr nd2, ?_⟩
  · obtain ⟨y, hy, rfl⟩ := List.mem_map.mp (pm.mem_iff.mp hx)
    have ne := flat_ne nd1 y hy
    obtain ⟨z, hz, rfl⟩ := List.mem_map.mp hy
    obtain ⟨u1, u2⟩ := h.up z hz
    exact two_up (mir_lt (by omega)) (mir_lt (by omega)) ne
  · exact ms_srt emb_np (fun _ _ => ⟨trivial, trivial⟩) (flat_nodup nd2) (by rw [List.length_map, List.length_map]; exact hz)
theorem pairs_few {n : Nat} {l : List (Nat × Nat)} (h : Strt n l) (hn : n ≤ 20) : l.length ≤ 2 ^ 6 := by
  have := L2.nat_nodup_len (flatK l) (List.range n) h.nd fun x hx => by
    obtain ⟨y, hy, hm⟩ := List.mem_flatMap.mp hx
    obtain ⟨u1, u2⟩ := h.up y hy
    rw [List.mem_range]
    simp only [List.mem_cons, List.not_mem_nil, or_false] at hm
    rcases hm with rfl | rfl <;> omega
  rw [flat_len, List.length_range] at this
  have : (2 : Nat) ^ 6 = 64 := by decide
  omega
theorem mir_row {r : RowS} (h : RowOk r) : RowOk r.mir := ⟨h.nm, h.e0, h.e1, mirP_strt h.st (pairs_few h.st h.e1), h.sg⟩
/-- how many ends the crossing of this name has -/
def endsOf (rows : List RowS) (n : Str) : Nat := match rows.find? fun r => decide (r.name = n) with
  | some r => r.ends
  | none => 0
theorem ends_eq : ∀ {rows : List RowS} {r : RowS}, r ∈ rows → (rows.map RowS.name).Nodup → endsOf rows r.name = r.ends
  | y :: rows, r, h, nd => by
    unfold endsOf
    rw [List.find?_cons]
    by_cases c : y.name = r.name
    · have := name_inj nd (by simp) h c
      simp [this]
    · simp only [c, decide_false]
      refine ends_eq ?_ (List.nodup_cons.mp nd).2
      cases h with
      | head => exact absurd rfl c
      | tail _ h => exact h
/-- a stop in the mirror image -/
def imgN (rows : List RowS) (x : Stop) : Stop := (x.1, mirN (endsOf rows x.1) x.2)
theorem img_at {rows : List RowS} {r : RowS} {b : Nat} (h : r ∈ rows) (nd : (rows.map RowS.name).Nodup) : imgN rows (r.name, b) = (r.name, mirN r.ends b) := by
  unfold imgN
  rw [ends_eq h nd]
theorem in_stops {rows : List RowS} {x : Stop} (h : x ∈ stopsS rows) : ∃ r ∈ rows, ∃ b, b < r.ends ∧ x = (r.name, b) := by
  obtain ⟨r, hr, hx⟩ := List.mem_flatMap.mp h
  obtain ⟨b, hb, rfl⟩ := List.mem_map.mp hx
  exact ⟨r, hr, b, List.mem_range.mp hb, rfl⟩
theorem img_img {rows : List RowS} {x : Stop} (h : x ∈ stopsS rows) (nd : (rows.map RowS.name).Nodup) : imgN rows (imgN rows x) = x ∧ imgN rows x ∈ stopsS rows := by
  obtain ⟨r, hr, b, hb, rfl⟩ := in_stops h
  rw [img_at hr nd, img_at hr nd, mir_mir hb]
  exact ⟨rfl, stop_in hr (mir_lt hb)⟩
theorem img_perm {rows : List RowS} (nd : (rows.map RowS.name).Nodup) : ((stopsS rows).map (imgN rows)).Perm (stopsS rows) := by
  have n1 := stops_nodup nd
  have n2 : ((stopsS rows).map (imgN rows)).Nodup := List.pairwise_map.mpr (List.Pairwise.imp_of_mem (fun {a b} ha hb hab z => hab (by rw [← (img_img ha nd).1, z, (img_img hb nd).1])) n1)
  refine (List.perm_ext_iff_of_nodup n2 n1).mpr fun x => ⟨fun h => ?_, fun h => ?_⟩
  · obtain ⟨y, hy, rfl⟩ := List.mem_map.mp h
    exact (img_img hy nd).2
  · exact List.mem_map.mpr ⟨imgN rows x, (img_img h nd).2, (img_img h nd).1⟩
theorem stops_mir {rows : List RowS} : stopsS (rows.map RowS.mir) = stopsS rows := by
  unfold stopsS
  rw [List.flatMap_map]
  rfl
def lanesM (rows : List RowS) (lanes : List (Stop × Stop)) : List (Stop × Stop) := msN ltLn 6 ((lanes.map fun x => (imgN rows x.1, imgN rows x.2)).map fun x => twoK ltT x.1 x.2)
theorem mir_town {rows : List RowS} {lanes : List (Stop × Stop)} (ok : TownOk rows lanes) : TownOk (rows.map RowS.mir) (lanesM rows lanes) := by
  have g := ok.good
  have nd := good_names g
  have fl := g.all.length_eq
  rw [flat_len] at fl
  have few := ok.few
  have pm : (lanesM rows lanes).Perm ((lanes.map fun x => (imgN rows x.1, imgN rows x.2)).map fun x => twoK ltT x.1 x.2) := ms_perm
  have f1 : (flatK (lanes.map fun x => (imgN rows x.1, imgN rows x.2))).Perm (stopsS rows) := by
    rw [flat_map2]
    exact (g.all.map _).trans (img_perm nd)
  have nd1 : (flatK (lanes.map fun x => (imgN rows x.1, imgN rows x.2))).Nodup := f1.nodup_iff.mpr (stops_nodup nd)
  have f2 : (flatK ((lanes.map fun x => (imgN rows x.1, imgN rows x.2)).map fun x => twoK ltT x.1 x.2)).Perm (stopsS rows) := flat_twos.trans f1
  have nm : ∀ x ∈ flatK (lanes.map fun x => (imgN rows x.1, imgN rows x.2)), NameS x.1 := fun x hx => stop_name g.ok (f1.mem_iff.mp hx)
  refine ⟨⟨fun r hr => ?_, by rw [List.length_map]; exact g.ne, by rw [List.length_map]; exact g.few, List.pairwise_map.mpr g.srt, fun x hx => ?_, ?_, ?_⟩, fun r hr => ?_, by rw [stops_mir]; exact few⟩
  · obtain ⟨y, hy, rfl⟩ := List.mem_map.mp hr
    exact mir_row (g.ok y hy)
  · obtain ⟨y, hy, rfl⟩ := List.mem_map.mp (pm.mem_iff.mp hx)
    exact two_lt (nm _ (mem_flat hy).1) (nm _ (mem_flat hy).2) (flat_ne nd1 y hy)
  · rw [stops_mir]
    exact (flat_perm pm).trans f2
  · refine ms_srt emb_lane (fun x hx => ?_) (flat_nodup (f2.nodup_iff.mpr (stops_nodup nd))) (by rw [List.length_map, List.length_map]; have : (2 : Nat) ^ 6 = 64 := (by decide); omega)
    have m := mem_flat hx
    exact ⟨⟨stop_name g.ok (f2.mem_iff.mp m.1), trivial⟩, stop_name g.ok (f2.mem_iff.mp m.2), trivial⟩
  · obtain ⟨y, hy, rfl⟩ := List.mem_map.mp hr
    exact ok.sg y hy
theorem make_e {C : Addr} {sp : DSp} {t : DTA} {ρ : DSt} {S : DHp} {Q : DQ} : dMake C sp t ρ S Q = t ρ S fun ds S1 => ∀ p, S1 p = none → sp (.ref p :: ds) (put S1 p (.ins C [], [])) fun d S2 => d = .non ∧ ∃ ns fs, S2 p = some (.ins C ns, fs) ∧ Q (.nd (.ins C ns) fs) (era S2 p) := rfl
def unNP : D → Nat × Nat
  | .nd .tup [.int a, .int b] => (a.toNat, b.toNat)
  | _ => (0, 0)
theorem un_np : ∀ {l : List (Nat × Nat)}, (l.map natP).map unNP = l
  | [] => rfl
  | x :: l => by
    rw [List.map_cons, List.map_cons, un_np]
    rfl
def mirD : D → D
  | .nd .tup [.str n, .int e, .nd .tup ps, ss] => .tup [.str n, .int e, .tup ((mirP e.toNat (ps.map unNP)).map natP), ss]
  | z => z
theorem mir_d (r : RowS) : mirD r.d = r.mir.d := by
  show D.tup [.str r.name, natD r.ends, .tup ((mirP ((r.ends : Int)).toNat ((r.pairs.map natP).map unNP)).map natP), .tup (r.signs.map D.str)] = _
  rw [un_np]
  rfl
def sp_Town_inv (C : Addr) : DSp := fun ds S Q => ∃ (rows : List RowS) (lanes : List (Stop × Stop)), ds = [townI C rows lanes] ∧ TownOk rows lanes ∧ Q (townI C (rows.map RowS.mir) (lanesM rows lanes)) S
theorem stopsS_snoc {dn : List RowS} {r : RowS} : stopsS (dn ++ [r]) = stopsS dn ++ (List.range r.ends).map fun e => (r.name, e) := by
  rw [stopsS_add]
  congr 1
  simp [stopsS]
theorem d_Town_inv (C : Addr) (ds S Q) (h : sp_Town_inv C ds S Q) : t_Town_inv C sp_mirrored_end sp_mirrored_crossing (sp_in_pairs 6) (sp_Town_init C) (endsF Q) (startD N_Town_inv.length ds) S := by
  obtain ⟨rows, lanes, rfl, ok, q⟩ := h
  have g := ok.good
  have nd := good_names g
  have ns := stops_nodup nd
  have few := ok.few
  have fl := g.all.length_eq
  rw [flat_len] at fl
  have frow := g.few
  have lf := look_fields (a := D.tup (rows.map RowS.d)) (b := .tup (lanes.map laneD)) (c := byName rows) (d := acrossN lanes)
  let v : Stop → D := fun x => stopD (imgN rows x)
  unfold t_Town_inv
  have e0 : startD N_Town_inv.length [townI C rows lanes] = [some (townI C rows lanes), none, none, none, none, none, none, none, none, none, none] := rfl
  rw [e0]
  refine seq_g fun K hK => ?_
  simp only [asg_e, newT_e]
  intro p hp
  walk_at "ev"
  subst hK
  refine seq_g fun K hK => ?_
  simp only [for_e, seqI_e, fld_e, var_e, slot0, ins_town, lf, true_and]
  show forD _ _ _ _ (rows.map RowS.d) _ _
  refine forD_ind (fun m ρ S' => ∃ (dn td : List RowS) (x2 x3 x4 x5 x6 : Option D), dn ++ td = rows ∧ m = td.map RowS.d ∧ ρ = [some (townI C rows lanes), some (.ref p), x2, x3, x4, x5, x6, none, none, none, none] ∧ S' = put S p (.dT ((stopsS dn).map keyS), (stopsS dn).map v))
    (fun _ _ _ _ => trivial) (fun ρ S' h => ?_) (fun d m ρ S' h K2 hK2 => ?_) ⟨[], rows, none, none, none, none, none, rfl, rfl, rfl, rfl⟩
  · obtain ⟨dn, td, x2, x3, x4, x5, x6, ed, em, rfl, rfl⟩ := h
    have : td = [] := by cases td with
      | nil => rfl
      | cons _ _ => cases em
    subst this
    rw [List.append_nil] at ed
    subst ed
    show K _ _
    subst hK
    refine seq_g fun K hK => ?_
    walk_at "ev"
    refine lc_map mirD (l := dn.map RowS.d) (live := fun _ => True) (fun R hR => ?_) (fun _ _ _ => trivial) (by rw [List.length_map]; show _ ≤ 2 ^ 24; omega) (fun z hz2 S' sub Y hY => ?_) ?_
    · simp only [seqI_e, fld_e, var_e, slot0, ins_town, lf, true_and]
      exact hR
    · obtain ⟨r, hr, rfl⟩ := List.mem_map.mp hz2
      show dgName 8 r.d [some (townI C dn lanes), some (.ref p), x2, x3, x4, x5, x6, none, none, none, none] S' _
      walk_at "ev"
      have rok := g.ok r hr
      refine ⟨r, rfl, rok, pairs_few rok.st rok.e1, ?_⟩
      rw [mir_d] at hY
      exact hY
    · have em2 : (dn.map RowS.d).map mirD = (dn.map RowS.mir).map RowS.d := by
        rw [List.map_map, List.map_map]
        exact List.map_congr_left fun r _ => mir_d r
      rw [em2]
      walk_at "ev"
      subst hK
      simp only [ret_e, make_e]
      walk_at "ev"
      refine lc_map (fun z => match z with
        | .nd .tup [.nd .tup [.str a, .int i], .nd .tup [.str b, .int j]] => .tup [v (a, i.toNat), v (b, j.toNat)]
        | z => z) (l := lanes.map laneD) (live := fun _ => True) (fun R hR => ?_) (fun _ _ _ => trivial) (by rw [List.length_map]; show _ ≤ 2 ^ 24; omega) (fun z hz2 S' sub Y hY => ?_) ?_
      · simp only [seqI_e, fld_e, var_e, slot0, ins_town, lf, true_and]
        exact hR
      · obtain ⟨x, hx, rfl⟩ := List.mem_map.mp hz2
        have m := mem_flat hx
        have m1 := g.all.mem_iff.mp m.1
        have m2 := g.all.mem_iff.mp m.2
        have sp : S' p = some (.dT ((stopsS dn).map keyS), (stopsS dn).map v) := sub p _ put_same
        refine tup2_e ?_
        show dTup _ [some (townI C dn lanes), some (.ref p), x2, x3, x4, x5, x6, some (.tup ((dn.map RowS.mir).map RowS.d)), none, some (stopD x.1), some (stopD x.2)] S' _
        simp only [tup_e, cons_e, nil_e, dget_e, var_e, slot0, slotS, dictOf, sp, stops_at m1, stops_at m2]
        exact ⟨by simp only [List.length_cons, List.length_nil]; decide, hY⟩
      · have em3 : (lanes.map laneD).map (fun z => match z with
          | .nd .tup [.nd .tup [.str a, .int i], .nd .tup [.str b, .int j]] => .tup [v (a, i.toNat), v (b, j.toNat)]
          | z => z) = (lanes.map fun x => (imgN dn x.1, imgN dn x.2)).map laneD := by
          rw [List.map_map, List.map_map]
          refine List.map_congr_left fun x _ => ?_
          rfl
        rw [em3]
        refine ⟨Stop, inferInstance, fun x => NameS x.1 ∧ True, stopD, ltT, lanes.map fun x => (imgN dn x.1, imgN dn x.2), rfl, emb_stop, fun a _ => Nat.le_trans (stop_dep a) (by decide), fun x hx => ?_, by rw [List.length_map]; omega, by rw [List.length_map]; have : (2 : Nat) ^ 6 = 64 := (by decide); omega, ?_⟩
        · obtain ⟨y, hy, rfl⟩ := List.mem_map.mp hx
          have m := mem_flat hy
          exact ⟨⟨stop_name g.ok (img_img (g.all.mem_iff.mp m.1) nd).2, trivial⟩, stop_name g.ok (img_img (g.all.mem_iff.mp m.2) nd).2, trivial⟩
        · intro p2 h2
          have hne : p2 ≠ p := fun z => by subst z; rw [put_same] at h2; cases h2
          refine ⟨p2, dn.map RowS.mir, lanesM dn lanes, rfl, mir_town ok, put_same, rfl, fldsT, _, put_same, S, ?_, q⟩
          intro a o ha
          have h1 : a ≠ p := fun z => by subst z; rw [hp] at ha; cases ha
          have h3 : a ≠ p2 := fun z => by
            subst z
            rw [put_ne h1, ha] at h2
            cases h2
          rw [era_ne h3, put_ne h3, put_ne h3, put_ne h1]
          exact ha
  · obtain ⟨dn, td, x2, x3, x4, x5, x6, ed, em, rfl, rfl⟩ := h
    cases td with
    | nil => cases em
    | cons r td =>
      rw [List.map_cons] at em
      obtain ⟨rfl, rfl⟩ := List.cons.inj em
      have hr : r ∈ rows := by rw [← ed]; simp
      have rok := g.ok r hr
      have r20 := rok.e1
      have r1 := rok.e0
      unfold RowS.d
      refine tup4_e ?_
      simp only [set0, setS, for_e, rng_e]
      walk_at "ev"
      refine ⟨by omega, by omega, ?_⟩
      rw [show ((r.ends : Int)).toNat = r.ends by omega, ints_nat]
      have nd3 : (stopsS dn ++ (List.range r.ends).map fun e => ((r.name, e) : Stop)).Nodup := by
        rw [← stopsS_snoc]
        have : dn ++ r :: td = (dn ++ [r]) ++ td := by simp
        rw [← ed, this, stopsS_add] at ns
        exact (List.nodup_append.mp ns).1
      have sl : (stopsS dn).length + r.ends ≤ (stopsS rows).length := by
        have : dn ++ r :: td = (dn ++ [r]) ++ td := by simp
        rw [← ed, this, stopsS_add, stopsS_snoc, List.length_append, List.length_append, List.length_map, List.length_range]
        omega
      refine forD_ind (fun m ρ S' => ∃ (a : Nat) (x6 : Option D), a ≤ r.ends ∧ m = ((List.range r.ends).drop a).map natD ∧ ρ = [some (townI C rows lanes), some (.ref p), some (.str r.name), some (natD r.ends), some (.tup (r.pairs.map natP)), some (.tup (r.signs.map D.str)), x6, none, none, none, none] ∧
          S' = put S p (.dT ((stopsS dn ++ (List.range a).map fun e => ((r.name, e) : Stop)).map keyS), (stopsS dn ++ (List.range a).map fun e => ((r.name, e) : Stop)).map v))
        (fun _ _ _ _ => trivial) (fun ρ S' h => ?_) (fun d m ρ S' h K3 hK3 => ?_) ⟨0, x6, Nat.zero_le _, by rw [List.drop_zero], rfl, by simp⟩
      · obtain ⟨a, x6, ha, em, rfl, rfl⟩ := h
        have : a = r.ends := by
          have := congrArg List.length em
          rw [List.length_map, List.length_drop, List.length_range, List.length_nil] at this
          omega
        subst this
        refine hK2 _ _ ⟨dn ++ [r], td, _, _, _, _, _, by rw [List.append_assoc]; exact ed, rfl, rfl, by rw [stopsS_snoc]⟩
      · obtain ⟨a, x6, ha, em, rfl, rfl⟩ := h
        have hlt : a < r.ends := by
          have := congrArg List.length em
          rw [List.length_map, List.length_drop, List.length_range, List.length_cons] at this
          omega
        have edr : (List.range r.ends).drop a = a :: (List.range r.ends).drop (a + 1) := by
          rw [List.drop_eq_getElem_cons (by rw [List.length_range]; exact hlt), List.getElem_range]
        rw [edr, List.map_cons] at em
        obtain ⟨rfl, rfl⟩ := List.cons.inj em
        have sn : (List.range (a + 1)).map (fun e => ((r.name, e) : Stop)) = (List.range a).map (fun e => ((r.name, e) : Stop)) ++ [(r.name, a)] := by rw [List.range_succ, List.map_append]; rfl
        have new : keyS (r.name, a) ∉ (stopsS dn ++ (List.range a).map fun e => ((r.name, e) : Stop)).map keyS := fun z => by
          obtain ⟨y, hy, e⟩ := List.mem_map.mp z
          have e := keyS_inj e
          subst e
          rcases List.mem_append.mp hy with hy | hy
          · exact (List.nodup_append.mp nd3).2.2 _ hy _ (List.mem_map.mpr ⟨a, List.mem_range.mpr hlt, rfl⟩) rfl
          · obtain ⟨b, hb, e⟩ := List.mem_map.mp hy
            have := List.mem_range.mp hb
            have e2 : b = a := (Prod.mk.inj e).2
            omega
        have pn : putD ((stopsS dn ++ (List.range a).map fun e => ((r.name, e) : Stop)).map keyS) ((stopsS dn ++ (List.range a).map fun e => ((r.name, e) : Stop)).map v) [Sum.inr r.name, Sum.inl (a : Int)] (.tup [.str r.name, .int (mirN r.ends a : Int)]) = _ := putD_new new
        have kl : keyL [D.str r.name, .int (a : Int)] = some [Sum.inr r.name, Sum.inl (a : Int)] := rfl
        simp only [gname_e, set0, setS, dput_e]
        walk_at "ev"
        refine ⟨_, _, rfl, by omega, ?_⟩
        rw [mir_int (by omega)]
        refine ⟨by simp only [List.length_cons, List.length_nil]; decide, ?_⟩
        k_with "ev" => simp only [put_same, kl, pn]
        refine ⟨by simp only [List.length_cons, List.length_nil]; decide, by rw [List.length_map, List.length_append, List.length_map, List.length_range]; show _ < 2 ^ 24; omega, ?_⟩
        refine hK3 _ _ ⟨a + 1, _, hlt, rfl, rfl, ?_⟩
        congr 1
        have hv : v (r.name, a) = .tup [.str r.name, .int (mirN r.ends a : Int)] := by
          show stopD (imgN rows (r.name, a)) = _
          rw [img_at hr nd]
          rfl
        have ea : stopsS dn ++ (List.range (a + 1)).map (fun e => ((r.name, e) : Stop)) = (stopsS dn ++ (List.range a).map fun e => ((r.name, e) : Stop)) ++ [(r.name, a)] := by rw [sn, List.append_assoc]
        rw [ea, ← hv]
        generalize stopsS dn ++ (List.range a).map (fun e => ((r.name, e) : Stop)) = L
        rw [List.map_append, List.map_append]
        rfl
/-! TM: texts of rows: joined, and cut again. -/
abbrev tl (x : Str) : List Nat := x.cps.toList
/-- a number's text -/
def numT (n : Nat) : Str := Str.ofString (toString ((n : Nat) : Int))
theorem numT_tl {n : Nat} : tl (numT n) = TL.numL n := TL.tl_num n
theorem numT_len {n : Nat} (h : n < 100) : (numT n).length ≤ 2 := by
  rw [TL.len_tl]
  show (tl (numT n)).length ≤ 2
  rw [numT_tl]
  exact TL.numL_len (by decide) (by have : (10 : Nat) ^ 2 = 100 := (by decide); omega)
theorem numT_free {n s : Nat} (h : s < 48 ∨ 57 < s) : s ∉ tl (numT n) := by
  rw [numT_tl]
  exact TL.numL_free h
theorem name_free {x : Str} {s : Nat} (h : NameS x) (hs : s < 97 ∨ 122 < s) : s ∉ tl x := fun m => by
  have := h.abc s m
  omega
theorem join_tl {y : Str} {ps : List Str} : tl (Txt.join y ps) = TL.joinL (tl y) (ps.map tl) := by
  rw [TL.join_eq]
  exact TL.tl_join y ps
theorem joinL_len {S : List Nat} {k : Nat} : ∀ {ps : List (List Nat)}, (∀ p ∈ ps, p.length ≤ k) → (TL.joinL S ps).length ≤ (k + S.length) * ps.length
  | [], _ => by simp [TL.joinL]
  | [p], h => by
    have := h p (by simp)
    rw [TL.joinL, List.length_cons, List.length_nil]; omega
  | p :: q :: r, h => by
    have h1 := h p (by simp)
    have h2 := joinL_len (S := S) (ps := q :: r) fun x hx => h x (.tail _ hx)
    rw [TL.joinL, List.length_append, List.length_append, List.length_cons, Nat.mul_succ]
    omega
theorem join_len {y : Str} {k : Nat} {ps : List Str} (h : ∀ p ∈ ps, p.length ≤ k) : (Txt.join y ps).length ≤ (k + y.length) * ps.length := by
  rw [TL.len_tl, TL.len_tl y]
  show (tl (Txt.join y ps)).length ≤ _
  rw [join_tl]
  have := joinL_len (S := tl y) (k := k) (ps := ps.map tl) fun p hp => by
    obtain ⟨z, hz, rfl⟩ := List.mem_map.mp hp
    have := h z hz
    rw [TL.len_tl] at this
    exact this
  rw [List.length_map] at this
  exact this
theorem sum_le {k : Nat} : ∀ {ps : List Str}, (∀ p ∈ ps, p.length ≤ k) → (ps.map (·.length)).sum ≤ k * ps.length
  | [], _ => by simp
  | p :: ps, h => by
    have := h p (by simp)
    have := sum_le (ps := ps) fun x hx => h x (.tail _ hx)
    rw [List.map_cons, List.sum_cons, List.length_cons, Nat.mul_succ]
    omega
theorem joinL_free {s : Nat} {S : List Nat} (hs : s ∉ S) : ∀ {ps : List (List Nat)}, (∀ p ∈ ps, s ∉ p) → s ∉ TL.joinL S ps
  | [], _ => by simp [TL.joinL]
  | [p], h => h p (by simp)
  | p :: q :: r, h => by
    rw [TL.joinL, List.mem_append, List.mem_append]
    rintro (h1 | h1 | h1)
    · exact h p (by simp) h1
    · exact hs h1
    · exact joinL_free hs (ps := q :: r) (fun x hx => h x (.tail _ hx)) h1
theorem join_free {s : Nat} {y : Str} {ps : List Str} (hs : s ∉ tl y) (h : ∀ p ∈ ps, s ∉ tl p) : s ∉ tl (Txt.join y ps) := by
  rw [join_tl]
  exact joinL_free hs fun p hp => by
    obtain ⟨z, hz, rfl⟩ := List.mem_map.mp hp
    exact h z hz
theorem app_free {s : Nat} {x y : Str} (h1 : s ∉ tl x) (h2 : s ∉ tl y) : s ∉ tl (x ++ y) := by
  have e : tl (x ++ y) = tl x ++ tl y := TL.tl_append x y
  rw [e, List.mem_append]
  rintro (h | h)
  · exact h1 h
  · exact h2 h
theorem seps : tl "," = [44] ∧ tl "-" = [45] ∧ tl " " = [32] ∧ tl "\n" = [10] ∧ ("," : Str).cps.all (· < 256) = true ∧ ("-" : Str).cps.all (· < 256) = true ∧ (" " : Str).cps.all (· < 256) = true ∧ ("\n" : Str).cps.all (· < 256) = true ∧ ("," : Str).length = 1 ∧ ("-" : Str).length = 1 ∧ (" " : Str).length = 1 ∧ ("\n" : Str).length = 1 := by decide +kernel
/-- several things in one word -/
def wordN (ps : List Str) : Str := if ps = [] then "-" else Txt.join "," ps
/-- a pair of ends -/
def pairT (x : Nat × Nat) : Str := numT x.1 ++ "-" ++ numT x.2
theorem pairT_join {x : Nat × Nat} : pairT x = Txt.join "-" [numT x.1, numT x.2] := by
  apply TL.ext_tl
  have e : tl (Txt.join "-" [numT x.1, numT x.2]) = tl (numT x.1) ++ (tl "-" ++ tl (numT x.2)) := by rw [join_tl]; rfl
  have e2 : tl (pairT x) = tl (numT x.1) ++ tl "-" ++ tl (numT x.2) := by
    show tl (numT x.1 ++ "-" ++ numT x.2) = _
    have h1 : tl (numT x.1 ++ "-" ++ numT x.2) = tl (numT x.1 ++ "-") ++ tl (numT x.2) := TL.tl_append _ _
    have h2 : tl (numT x.1 ++ "-") = tl (numT x.1) ++ tl "-" := TL.tl_append _ _
    rw [h1, h2]
  show tl (pairT x) = tl _
  rw [e, e2, List.append_assoc]
def crossT (r : RowS) : List Str := ["crossing", r.name, numT r.ends, wordN (r.pairs.map pairT), wordN r.signs]
def streetT (x : Stop × Stop) : List Str := ["street", x.1.1, numT x.1.2, x.2.1, numT x.2.2]
def townT (rows : List RowS) (lanes : List (Stop × Stop)) : List Str := rows.map (fun r => Txt.join " " (crossT r)) ++ lanes.map fun x => Txt.join " " (streetT x)
theorem name_len {x : Str} (h : NameS x) : x.length ≤ 8 := h.most
theorem app_len (x y : Str) : (x ++ y).length = x.length + y.length := by
  rw [TL.len_tl, TL.len_tl x, TL.len_tl y]
  show (tl (x ++ y)).length = _
  have e : tl (x ++ y) = tl x ++ tl y := TL.tl_append x y
  rw [e, List.length_append]
theorem pairT_len {x : Nat × Nat} (h1 : x.1 < 100) (h2 : x.2 < 100) : (pairT x).length ≤ 5 := by
  unfold pairT
  rw [app_len, app_len]
  have := numT_len h1
  have := numT_len h2
  have := seps.2.2.2.2.2.2.2.2.2.1
  omega
theorem wordN_len {k : Nat} {ps : List Str} (h : ∀ p ∈ ps, p.length ≤ k) : (wordN ps).length ≤ (k + 1) * ps.length + 1 := by
  unfold wordN
  split
  · have := seps.2.2.2.2.2.2.2.2.2.1
    omega
  · have := join_len (y := ",") h
    have e := seps.2.2.2.2.2.2.2.2.1
    rw [e] at this
    omega
/-- a word of names is not the sign of nothing -/
theorem wordN_ne {ps : List Str} (ne : ps ≠ []) (h : ∀ p ∈ ps, 0 < (tl p).length ∧ (tl p).head? ≠ some 45) : wordN ps ≠ "-" := fun z => by
  have e : tl (wordN ps) = [45] := by rw [z]; exact seps.2.1
  unfold wordN at e
  rw [if_neg ne, join_tl] at e
  cases ps with
  | nil => exact ne rfl
  | cons p ps =>
    obtain ⟨h1, h2⟩ := h p (by simp)
    have hd : (TL.joinL (tl ",") (tl p :: ps.map tl)).head? = (tl p).head? := by
      cases ps with
      | nil => rfl
      | cons q r =>
        rw [List.map_cons, TL.joinL]
        cases e3 : tl p with
        | nil => rw [e3] at h1; simp at h1
        | cons a b => rfl
    rw [List.map_cons] at e
    rw [e] at hd
    exact h2 hd.symm
theorem name_head {x : Str} (h : NameS x) : 0 < (tl x).length ∧ (tl x).head? ≠ some 45 := by
  have p := h.pos
  refine ⟨by simpa using p, fun z => ?_⟩
  have m : 45 ∈ tl x := List.mem_of_head? z
  exact name_free h (by omega) m
theorem num_head {n : Nat} : 0 < (tl (numT n)).length ∧ (tl (numT n)).head? ≠ some 45 := by
  refine ⟨?_, fun z => ?_⟩
  · rw [numT_tl]
    exact List.length_pos_iff.mpr (TL.numL_ne n)
  · exact numT_free (by omega) (List.mem_of_head? z)
theorem pairT_head {x : Nat × Nat} : 0 < (tl (pairT x)).length ∧ (tl (pairT x)).head? ≠ some 45 := by
  obtain ⟨h1, h2⟩ := num_head (n := x.1)
  have e : tl (pairT x) = tl (numT x.1) ++ (tl "-" ++ tl (numT x.2)) := by rw [pairT_join, join_tl]; rfl
  rw [e]
  refine ⟨by rw [List.length_append]; omega, ?_⟩
  cases e2 : tl (numT x.1) with
  | nil => rw [e2] at h1; simp at h1
  | cons a b => rw [e2] at h2; exact h2
/-- cut again -/
theorem cut_comma {ps : List Str} (ne : ps ≠ []) (h : ∀ p ∈ ps, 44 ∉ tl p) : Txt.split (wordN ps) "," = ps := by
  unfold wordN
  rw [if_neg ne]
  exact TL.split_join (s := 44) (S := []) seps.1 seps.2.2.2.2.1 ne h
theorem cut_pair {x : Nat × Nat} : Txt.split (pairT x) "-" = [numT x.1, numT x.2] := by
  rw [pairT_join]
  refine TL.split_join (s := 45) (S := []) seps.2.1 seps.2.2.2.2.2.1 (by simp) fun p hp => ?_
  simp only [List.mem_cons, List.not_mem_nil, or_false] at hp
  rcases hp with rfl | rfl <;> exact numT_free (by omega)
theorem cut_blank {ps : List Str} (ne : ps ≠ []) (h : ∀ p ∈ ps, 32 ∉ tl p) : Txt.split (Txt.join " " ps) " " = ps := TL.split_join (s := 32) (S := []) seps.2.2.1 seps.2.2.2.2.2.2.1 ne h
theorem cut_lines {ps : List Str} (ne : ps ≠ []) (h : ∀ p ∈ ps, 10 ∉ tl p) : Txt.split (Txt.join "\n" ps) "\n" = ps := TL.split_join (s := 10) (S := []) seps.2.2.2.1 seps.2.2.2.2.2.2.2.1 ne h
theorem wordN_free {s : Nat} {ps : List Str} (h1 : s ≠ 44) (h2 : s ≠ 45) (h : ∀ p ∈ ps, s ∉ tl p) : s ∉ tl (wordN ps) := by
  unfold wordN
  split
  · rw [seps.2.1]; simp [h2]
  · exact join_free (by rw [seps.1]; simp [h1]) h
theorem pairT_free {s : Nat} {x : Nat × Nat} (h : s < 45) : s ∉ tl (pairT x) := by
  rw [pairT_join]
  refine join_free (by rw [seps.2.1]; simp; omega) fun p hp => ?_
  simp only [List.mem_cons, List.not_mem_nil, or_false] at hp
  rcases hp with rfl | rfl <;> exact numT_free (by omega)
theorem heads_tl : (∀ s, s < 97 → s ∉ tl "crossing" ∧ s ∉ tl "street") ∧ ("crossing" : Str).length = 8 ∧ ("street" : Str).length = 6 := by
  refine ⟨fun s hs => ⟨name_free (NameS.of (by decide +kernel)) (.inl hs), name_free (NameS.of (by decide +kernel)) (.inl hs)⟩, by decide +kernel, by decide +kernel⟩
theorem crossT_free {r : RowS} {s : Nat} (ok : RowOk r) (h : s < 44) : ∀ p ∈ crossT r, s ∉ tl p := fun p hp => by
  unfold crossT at hp
  simp only [List.mem_cons, List.not_mem_nil, or_false] at hp
  rcases hp with rfl | rfl | rfl | rfl | rfl
  · exact (heads_tl.1 s (by omega)).1
  · exact name_free ok.nm (.inl (by omega))
  · exact numT_free (.inl (by omega))
  · exact wordN_free (by omega) (by omega) fun p hp => by
      obtain ⟨x, _, rfl⟩ := List.mem_map.mp hp
      exact pairT_free (by omega)
  · exact wordN_free (by omega) (by omega) fun p hp => name_free (ok.sg.nm p hp) (.inl (by omega))
theorem streetT_free {x : Stop × Stop} {s : Nat} (h1 : NameS x.1.1) (h2 : NameS x.2.1) (h : s < 44) : ∀ p ∈ streetT x, s ∉ tl p := fun p hp => by
  unfold streetT at hp
  simp only [List.mem_cons, List.not_mem_nil, or_false] at hp
  rcases hp with rfl | rfl | rfl | rfl | rfl
  · exact (heads_tl.1 s (by omega)).2
  · exact name_free h1 (.inl (by omega))
  · exact numT_free (.inl (by omega))
  · exact name_free h2 (.inl (by omega))
  · exact numT_free (.inl (by omega))
/-! M2: hands and mirrors. -/
/-- linked by a pair -/
def Lnk {κ : Type} (l : List (κ × κ)) (a b : κ) : Prop := (a, b) ∈ l ∨ (b, a) ∈ l
theorem lnk_sym {κ : Type} {l : List (κ × κ)} {a b : κ} (h : Lnk l a b) : Lnk l b a := h.symm
theorem lnk_mem {κ : Type} {l : List (κ × κ)} {a b : κ} (h : Lnk l a b) : a ∈ flatK l ∧ b ∈ flatK l := by
  rcases h with h | h
  · exact mem_flat h
  · exact ⟨(mem_flat h).2, (mem_flat h).1⟩
theorem lnk_cons {κ : Type} {l : List (κ × κ)} {x : κ × κ} {a b : κ} : Lnk (x :: l) a b ↔ (x.1 = a ∧ x.2 = b) ∨ (x.2 = a ∧ x.1 = b) ∨ Lnk l a b := by
  unfold Lnk
  simp only [List.mem_cons]
  constructor
  · rintro ((h | h) | (h | h))
    · exact .inl ⟨by rw [← h], by rw [← h]⟩
    · exact .inr (.inr (.inl h))
    · exact .inr (.inl ⟨by rw [← h], by rw [← h]⟩)
    · exact .inr (.inr (.inr h))
  · rintro (⟨rfl, rfl⟩ | ⟨rfl, rfl⟩ | h | h)
    · exact .inl (.inl rfl)
    · exact .inr (.inl rfl)
    · exact .inl (.inr h)
    · exact .inr (.inr h)
theorem lnk_one {κ : Type} : ∀ {l : List (κ × κ)} {a b c : κ}, (flatK l).Nodup → Lnk l a b → Lnk l a c → b = c
  | [], _, _, _, _, h, _ => by rcases h with h | h <;> cases h
  | x :: l, a, b, c, nd, h1, h2 => by
    rw [flat_cons] at nd
    obtain ⟨n1, n2⟩ := List.nodup_cons.mp nd
    obtain ⟨n2, n3⟩ := List.nodup_cons.mp n2
    have n4 : x.1 ≠ x.2 := fun z => n1 (by rw [z]; simp)
    have n5 : x.1 ∉ flatK l := fun z => n1 (by simp [z])
    rcases lnk_cons.mp h1 with ⟨u, v⟩ | ⟨u, v⟩ | h1 <;> rcases lnk_cons.mp h2 with ⟨u', v'⟩ | ⟨u', v'⟩ | h2
    · rw [← v, ← v']
    · exact absurd (u.trans u'.symm) n4
    · exact absurd (u ▸ (lnk_mem h2).1) n5
    · exact absurd (u'.trans u.symm) n4
    · rw [← v, ← v']
    · exact absurd (u ▸ (lnk_mem h2).1) n2
    · exact absurd (u' ▸ (lnk_mem h1).1) n5
    · exact absurd (u' ▸ (lnk_mem h1).1) n2
    · exact lnk_one n3 h1 h2
theorem lnk_map {α β : Type} {g : α → β} {l : List (α × α)} {a b : α} (h : Lnk l a b) : Lnk (l.map fun x => (g x.1, g x.2)) (g a) (g b) := by
  rcases h with h | h
  · exact .inl (List.mem_map.mpr ⟨_, h, rfl⟩)
  · exact .inr (List.mem_map.mpr ⟨_, h, rfl⟩)
theorem lnk_two {κ : Type} {lt : κ → κ → Bool} {l : List (κ × κ)} {a b : κ} (h : Lnk l a b) : Lnk (l.map fun x => twoK lt x.1 x.2) a b := by
  have key : ∀ a b : κ, twoK lt a b = (a, b) ∨ twoK lt a b = (b, a) := fun a b => by
    unfold twoK
    split
    · exact .inl rfl
    · exact .inr rfl
  rcases h with h | h
  · rcases key a b with e | e
    · exact .inl (List.mem_map.mpr ⟨_, h, e⟩)
    · exact .inr (List.mem_map.mpr ⟨_, h, e⟩)
  · rcases key b a with e | e
    · exact .inr (List.mem_map.mpr ⟨_, h, e⟩)
    · exact .inl (List.mem_map.mpr ⟨_, h, e⟩)
theorem lnk_perm {κ : Type} {l m : List (κ × κ)} {a b : κ} (p : l.Perm m) (h : Lnk l a b) : Lnk m a b := h.imp (fun z => p.mem_iff.mp z) fun z => p.mem_iff.mp z
theorem str_lnk : ∀ {l : List (Nat × Nat)} {e o : Nat}, strN l e = some o → Lnk l e o
  | x :: l, e, o, z => by
    rw [strN] at z
    rw [lnk_cons]
    split at z
    · rename_i c
      exact .inl ⟨c, Option.some.inj z⟩
    · split at z
      · rename_i c
        exact .inr (.inl ⟨c, Option.some.inj z⟩)
      · exact .inr (.inr (str_lnk z))
theorem str_mem : ∀ {l : List (Nat × Nat)} {e : Nat}, e ∈ flatK l → ∃ o, strN l e = some o
  | x :: l, e, h => by
    rw [flat_cons] at h
    rw [strN]
    split
    · exact ⟨_, rfl⟩
    · rename_i c1
      split
      · exact ⟨_, rfl⟩
      · rename_i c2
        cases h with
        | head => exact absurd rfl c1
        | tail _ h => cases h with
          | head => exact absurd rfl c2
          | tail _ h => exact str_mem h
theorem str_of {l : List (Nat × Nat)} {e o : Nat} (nd : (flatK l).Nodup) (h : Lnk l e o) : strN l e = some o := by
  obtain ⟨o', h'⟩ := str_mem (lnk_mem h).1
  rw [h', lnk_one nd (str_lnk h') h]
theorem str_sym {l : List (Nat × Nat)} {e o : Nat} (nd : (flatK l).Nodup) (h : strN l e = some o) : strN l o = some e := str_of nd (lnk_sym (str_lnk h))
theorem mir_flat {n : Nat} {l : List (Nat × Nat)} : (flatK (mirP n l)).Perm ((flatK l).map (mirN n)) := by
  have p1 : (mirP n l).Perm ((l.map fun x => (mirN n x.1, mirN n x.2)).map fun x => twoK ltN x.1 x.2) := ms_perm
  refine (flat_perm p1).trans (flat_twos.trans ?_)
  rw [flat_map2]
theorem str_lt {n : Nat} {l : List (Nat × Nat)} (h : Strt n l) : ∀ x ∈ flatK l, x < n := fun x hx => by
  obtain ⟨y, hy, hm⟩ := List.mem_flatMap.mp hx
  obtain ⟨u1, u2⟩ := h.up y hy
  simp only [List.mem_cons, List.not_mem_nil, or_false] at hm
  rcases hm with rfl | rfl <;> omega
theorem str_mir {n b : Nat} {l : List (Nat × Nat)} (h : Strt n l) (hz : n ≤ 20) (hb : b < n) : strN (mirP n l) (mirN n b) = (strN l b).map (mirN n) := by
  have m := mirP_strt h (pairs_few h hz)
  have p1 : (mirP n l).Perm ((l.map fun x => (mirN n x.1, mirN n x.2)).map fun x => twoK ltN x.1 x.2) := ms_perm
  cases e : strN l b with
  | some o => exact str_of m.nd (lnk_perm p1.symm (lnk_two (lnk_map (str_lnk e))))
  | none =>
    cases e2 : strN (mirP n l) (mirN n b) with
    | none => rfl
    | some z =>
      have h1 := mir_flat.mem_iff.mp (lnk_mem (str_lnk e2)).1
      obtain ⟨a, ha, ea⟩ := List.mem_map.mp h1
      have : a = b := mir_inj (str_lt h a ha) hb ea
      subst this
      obtain ⟨o, ho⟩ := str_mem ha
      rw [e] at ho
      cases ho
theorem mate_lnk : ∀ {l : List (Stop × Stop)} {s : Stop}, s ∈ flatK l → Lnk l s (mateN l s)
  | x :: l, s, h => by
    rw [flat_cons] at h
    rw [lnk_cons, mateN]
    split
    · rename_i c
      exact .inl ⟨c, rfl⟩
    · rename_i c1
      split
      · rename_i c
        exact .inr (.inl ⟨c, rfl⟩)
      · rename_i c2
        refine .inr (.inr (mate_lnk ?_))
        cases h with
        | head => exact absurd rfl c1
        | tail _ h => cases h with
          | head => exact absurd rfl c2
          | tail _ h => exact h
theorem mate_of {l : List (Stop × Stop)} {s t : Stop} (nd : (flatK l).Nodup) (h : Lnk l s t) : mateN l s = t := lnk_one nd (mate_lnk (lnk_mem h).1) h
theorem mate_back {l : List (Stop × Stop)} {s : Stop} (nd : (flatK l).Nodup) (h : s ∈ flatK l) : mateN l (mateN l s) = s := mate_of nd (lnk_sym (mate_lnk h))
theorem mate_mir {rows : List RowS} {lanes : List (Stop × Stop)} {s : Stop} (ok : TownOk rows lanes) (h : s ∈ flatK lanes) : mateN (lanesM rows lanes) (imgN rows s) = imgN rows (mateN lanes s) := by
  have m := (mir_town ok).good
  have nd : (flatK (lanesM rows lanes)).Nodup := m.all.nodup_iff.mpr (stops_nodup (good_names m))
  have p1 : (lanesM rows lanes).Perm ((lanes.map fun x => (imgN rows x.1, imgN rows x.2)).map fun x => twoK ltT x.1 x.2) := ms_perm
  exact mate_of nd (lnk_perm p1.symm (lnk_two (lnk_map (mate_lnk h))))
/-- the round of ends, in the mirror -/
theorem oth_mir {n b : Nat} (hb : b < n) : othN n (mirN n b) = ((othN n b).reverse).map (mirN n) := by
  have hm := mir_lt hb
  have mv := mir_val hb
  refine List.ext_getElem? fun i => ?_
  by_cases hi : i < n - 1
  · have h2 : (othN n b).length - 1 - i < n - 1 := by rw [oth_len]; omega
    rw [oth_get hi, List.getElem?_map, List.getElem?_reverse (by rw [oth_len]; exact hi), oth_get h2, oth_len, Option.map_some]
    congr 1
    have h3 : n - 1 - 1 - i < n - 1 := by omega
    have hl : (b + (1 + (n - 1 - 1 - i))) % n < n := Nat.mod_lt _ (by omega)
    rw [mir_val hl, oth_val hm hi, oth_val hb h3, mv]
    split <;> split <;> split <;> (try split) <;> omega
  · rw [List.getElem?_eq_none (by rw [oth_len]; omega), List.getElem?_eq_none (by rw [List.length_map, List.length_reverse, oth_len]; omega)]
theorem gap_lt {n b o : Nat} (hb : b < n) (ho : o < n) (h : o ≠ b) : gapN n b o < n - 1 := by
  rw [gap_val hb ho h]
  split <;> omega
theorem gap_mir {n b o : Nat} (hb : b < n) (ho : o < n) (h : o ≠ b) : gapN n (mirN n b) (mirN n o) = n - 2 - gapN n b o := by
  have hne : mirN n o ≠ mirN n b := fun z => h (mir_inj ho hb z)
  rw [gap_val (mir_lt hb) (mir_lt ho) hne, gap_val hb ho h, mir_val hb, mir_val ho]
  split <;> split <;> split <;> (try split) <;> omega
theorem sides_mir {n b : Nat} {on : Option Nat} (hb : b < n) (ho : ∀ o, on = some o → o < n ∧ o ≠ b) : sidesN n (mirN n b) (on.map (mirN n)) = ((sidesN n b on).2.map (mirN n), (sidesN n b on).1.map (mirN n)) := by
  cases on with
  | none =>
    show (othN n (mirN n b), (othN n (mirN n b)).reverse) = _
    rw [oth_mir hb, ← List.map_reverse, List.reverse_reverse]
    rfl
  | some o =>
    obtain ⟨h1, h2⟩ := ho o rfl
    have gl := gap_lt hb h1 h2
    show ((othN n (mirN n b)).take (gapN n (mirN n b) (mirN n o)), ((othN n (mirN n b)).drop (gapN n (mirN n b) (mirN n o) + 1)).reverse) = _
    rw [gap_mir hb h1 h2, oth_mir hb]
    show _ = (((othN n b).drop (gapN n b o + 1)).reverse.map (mirN n), ((othN n b).take (gapN n b o)).map (mirN n))
    have e1 : ((othN n b).drop (gapN n b o + 1)).reverse = (othN n b).reverse.take (n - 2 - gapN n b o) := by
      rw [List.reverse_drop, oth_len]
      congr 1
      omega
    have e2 : (othN n b).take (gapN n b o) = ((othN n b).reverse.drop (n - 2 - gapN n b o + 1)).reverse := by
      rw [List.drop_reverse, List.reverse_reverse, oth_len]
      congr 1
      omega
    rw [e1, e2]
    simp only [List.map_take, List.map_reverse, List.map_drop]
def Ch.mir : Ch → Ch
  | .on => .on
  | .back => .back
  | .left k => .right k
  | .right k => .left k
theorem ch_mir {c : Ch} (h : ChOk c) : ChOk c.mir := by cases c <;> exact h
theorem taken_mir {r : RowS} {b : Nat} (ok : RowOk r) (hb : b < r.ends) (c : Ch) : takenN r.mir (mirN r.ends b) c.mir = (takenN r b c).map (mirN r.ends) := by
  have hs := str_mir ok.st ok.e1 hb
  have sd := sides_mir hb (on := strN r.pairs b) fun o z => str_ok ok.st.up z
  cases c with
  | on => exact hs
  | back => rfl
  | left k =>
    show (sidesN r.ends (mirN r.ends b) (strN (mirP r.ends r.pairs) (mirN r.ends b))).2[k - 1]? = _
    rw [hs, sd, List.getElem?_map]
    rfl
  | right k =>
    show (sidesN r.ends (mirN r.ends b) (strN (mirP r.ends r.pairs) (mirN r.ends b))).1[k - 1]? = _
    rw [hs, sd, List.getElem?_map]
    rfl
theorem view_mir {r : RowS} {b : Nat} (ok : RowOk r) (hb : b < r.ends) : viewD r.mir (mirN r.ends b) = .tup [natD (sidesN r.ends b (strN r.pairs b)).2.length, natD (sidesN r.ends b (strN r.pairs b)).1.length, .bl (strN r.pairs b).isSome, .tup (r.signs.map D.str)] := by
  have hs := str_mir ok.st ok.e1 hb
  have sd := sides_mir hb (on := strN r.pairs b) fun o z => str_ok ok.st.up z
  show D.tup [natD (sidesN r.ends (mirN r.ends b) (strN (mirP r.ends r.pairs) (mirN r.ends b))).1.length, natD (sidesN r.ends (mirN r.ends b) (strN (mirP r.ends r.pairs) (mirN r.ends b))).2.length, .bl (strN (mirP r.ends r.pairs) (mirN r.ends b)).isSome, .tup (r.signs.map D.str)] = _
  rw [hs, sd, List.length_map, List.length_map]
  cases strN r.pairs b <;> rfl
/-! M3: the ends that hands take. -/
theorem asc_ext : ∀ {l m : List Nat}, l.Pairwise (fun a b => ltN a b = true) → m.Pairwise (fun a b => ltN a b = true) → (∀ x, x ∈ l ↔ x ∈ m) → l = m
  | [], [], _, _, _ => rfl
  | [], y :: m, _, _, h => by have := (h y).mpr (by simp); cases this
  | x :: l, [], _, _, h => by have := (h x).mp (by simp); cases this
  | x :: l, y :: m, h1, h2, h => by
    obtain ⟨a1, a2⟩ := List.pairwise_cons.mp h1
    obtain ⟨b1, b2⟩ := List.pairwise_cons.mp h2
    have e : x = y := by
      have hx := (h x).mp (by simp)
      have hy := (h y).mpr (by simp)
      cases hx with
      | head => rfl
      | tail _ hx => cases hy with
        | head => rfl
        | tail _ hy =>
          have u1 : y < x := by simpa using b1 x hx
          have u2 : x < y := by simpa using a1 y hy
          omega
    subst e
    congr 1
    refine asc_ext a2 b2 fun z => ⟨fun hz => ?_, fun hz => ?_⟩
    · have u : x < z := by simpa using a1 z hz
      have := (h z).mp (by simp [hz])
      cases this with
      | head => omega
      | tail _ w => exact w
    · have u : x < z := by simpa using b1 z hz
      have := (h z).mpr (by simp [hz])
      cases this with
      | head => omega
      | tail _ w => exact w
theorem oth_mem {n b x : Nat} (hb : b < n) : x ∈ othN n b ↔ x < n ∧ x ≠ b := by
  constructor
  · intro h
    obtain ⟨i, hi, e⟩ := List.getElem_of_mem h
    have hi2 : i < n - 1 := by rw [oth_len] at hi; exact hi
    have e2 : (othN n b)[i]? = some x := by rw [List.getElem?_eq_getElem hi, e]
    rw [oth_get hi2, oth_val hb hi2] at e2
    have := Option.some.inj e2
    split at this <;> omega
  · rintro ⟨h1, h2⟩
    exact List.mem_of_getElem? (oth_gap hb h1 h2).1
theorem oth_nodup {n b : Nat} (hb : b < n) : (othN n b).Nodup := by
  unfold othN
  refine List.pairwise_map.mpr (List.Pairwise.imp_of_mem (fun {i j} hi hj hij z => ?_) List.pairwise_lt_range)
  have h1 := List.mem_range.mp hi
  have h2 := List.mem_range.mp hj
  rw [oth_val hb h1, oth_val hb h2] at z
  split at z <;> split at z <;> omega
theorem sides_perm {n b o : Nat} (hb : b < n) (ho : o < n) (h : o ≠ b) : ((sidesN n b (some o)).1 ++ (sidesN n b (some o)).2 ++ [o]).Perm (othN n b) := by
  have g := (oth_gap hb ho h).1
  have gl := gap_lt hb ho h
  have hl : gapN n b o < (othN n b).length := by rw [oth_len]; exact gl
  have eo : (othN n b)[gapN n b o] = o := by
    rw [List.getElem?_eq_getElem hl] at g
    exact Option.some.inj g
  have e : othN n b = (othN n b).take (gapN n b o) ++ o :: (othN n b).drop (gapN n b o + 1) := by
    conv => lhs; rw [← List.take_append_drop (gapN n b o) (othN n b), List.drop_eq_getElem_cons hl, eo]
  show ((othN n b).take (gapN n b o) ++ ((othN n b).drop (gapN n b o + 1)).reverse ++ [o]).Perm _
  refine List.Perm.trans ?_ (List.Perm.of_eq e.symm)
  rw [List.append_assoc]
  refine List.Perm.append_left _ ?_
  exact (List.perm_append_singleton o _).trans ((List.reverse_perm _).cons o)
/-- what three numbers to one side take -/
def takes (l : List Nat) : List Nat := [1, 2, 3].filterMap fun k => l[k - 1]?
theorem takes_sub {l : List Nat} {x : Nat} (h : x ∈ takes l) : x ∈ l := by
  obtain ⟨k, _, e⟩ := List.mem_filterMap.mp h
  exact List.mem_of_getElem? e
theorem takes_all {l : List Nat} (h : l.length ≤ 3) : takes l = l := by
  match l, h with
  | [], _ => rfl
  | [a], _ => rfl
  | [a, b], _ => rfl
  | [a, b, c], _ => rfl
def fndN (n b : Nat) (on : Option Nat) : List Nat := takes (sidesN n b on).1 ++ takes (sidesN n b on).2 ++ on.toList
theorem side_sub {n b : Nat} {on : Option Nat} {x : Nat} (h : x ∈ (sidesN n b on).1 ∨ x ∈ (sidesN n b on).2) : x ∈ othN n b := by
  cases on with
  | none => exact h.elim id fun z => List.mem_reverse.mp z
  | some o => exact h.elim List.mem_of_mem_take fun z => List.mem_of_mem_drop (List.mem_reverse.mp z)
theorem fnd_sub {n b : Nat} {on : Option Nat} (hb : b < n) (ho : ∀ o, on = some o → o < n ∧ o ≠ b) : ∀ x ∈ fndN n b on, x < n ∧ x ≠ b := by
  intro x hx
  rcases List.mem_append.mp hx with hx | hx
  · refine (oth_mem hb).mp (side_sub ?_ (on := on))
    exact (List.mem_append.mp hx).imp takes_sub takes_sub
  · exact ho x (by cases on with
      | none => cases hx
      | some o => simpa using (by simpa using hx : x = o).symm)
theorem fnd_all {n b : Nat} {on : Option Nat} (hb : b < n) (ho : ∀ o, on = some o → o < n ∧ o ≠ b) (h1 : (sidesN n b on).1.length ≤ 3) (h2 : (sidesN n b on).2.length ≤ 3) : (∀ x, x < n ∧ x ≠ b → x ∈ fndN n b on) ∧ (on.isSome = true → (fndN n b on).Nodup) := by
  unfold fndN
  rw [takes_all h1, takes_all h2]
  cases on with
  | none =>
    refine ⟨fun x hx => ?_, fun z => by cases z⟩
    have := (oth_mem hb).mpr hx
    exact List.mem_append_left _ (List.mem_append_left _ this)
  | some o =>
    obtain ⟨o1, o2⟩ := ho o rfl
    have p := sides_perm hb o1 o2
    exact ⟨fun x hx => p.mem_iff.mpr ((oth_mem hb).mpr hx), fun _ => p.nodup_iff.mpr (oth_nodup hb)⟩
/-- the other ends, ascending -/
def restN (n b : Nat) : List Nat := (List.range n).filter fun x => decide (x ≠ b)
theorem rest_mem {n b x : Nat} : x ∈ restN n b ↔ x < n ∧ x ≠ b := by
  unfold restN
  rw [List.mem_filter, List.mem_range, decide_eq_true_iff]
theorem rest_srt {n b : Nat} : (restN n b).Pairwise (fun a b => ltN a b = true) := List.Pairwise.filter _ (List.Pairwise.imp (fun h => by simpa using h) List.pairwise_lt_range)
theorem ord_rest {n b : Nat} {on : Option Nat} (hb : b < n) (ho : ∀ o, on = some o → o < n ∧ o ≠ b) (h1 : (sidesN n b on).1.length ≤ 3) (h2 : (sidesN n b on).2.length ≤ 3) : ordK ltN (fndN n b on) = restN n b := by
  have e := emb_nat
  refine asc_ext (ord_sorted e (fun _ _ => trivial)) rest_srt fun x => ?_
  rw [ord_mem e (fun _ _ => trivial), rest_mem]
  exact ⟨fnd_sub hb ho x, (fnd_all hb ho h1 h2).1 x⟩
abbrev manyN (rows : List RowS) : D := .nd (.dK (rows.map fun r => (Sum.inr r.name : Key))) (rows.map fun r => natD r.ends)
theorem many_at {rows : List RowS} {r : RowS} (hr : r ∈ rows) (nd : (rows.map RowS.name).Nodup) : atKey (.dK (rows.map fun r => (Sum.inr r.name : Key)), rows.map fun r => natD r.ends) (.str r.name) = some (some (natD r.ends)) := by
  show some (lookD _ _ _) = _
  rw [look_map (l := rows) (key := fun r => (Sum.inr r.name : Key)) (v := fun r => natD r.ends) hr fun y hy z => name_inj nd hy hr (Sum.inr.inj z)]
def sp__law_image_of : DSp := fun ds S Q => ∃ (rows : List RowS) (r : RowS) (b : Nat), ds = [stopD (r.name, b), manyN rows] ∧ (rows.map RowS.name).Nodup ∧ r ∈ rows ∧ b < r.ends ∧ Q (stopD (r.name, mirN r.ends b)) S
theorem d__law_image_of (ds S Q) (h : sp__law_image_of ds S Q) : t__law_image_of (endsF Q) (startD N__law_image_of.length ds) S := by
  obtain ⟨rows, r, b, rfl, nd, hr, hb, q⟩ := h
  unfold t__law_image_of
  have e0 : startD N__law_image_of.length [stopD (r.name, b), manyN rows] = [some (stopD (r.name, b)), some (manyN rows)] := rfl
  rw [e0]
  simp only [ret_e, tup_e, cons_e, nil_e, op_e, var_e, c_e, blt_e, dget_e, slot0, slotS, dictOf, stop_0, stop_1, many_at hr nd, sub_ii, int_i, mod_ii]
  refine ⟨by omega, by simp only [List.length_cons, List.length_nil]; decide, _, Less.refl, ?_⟩
  rw [mir_int (by omega)]
  exact q
def sp__law_hand : DSp := fun ds S Q => ∃ (p : Addr) (o : Nd × List D) (b : Nat), ds = [.ref p] ∧ S p = some o ∧ Pot o (b + 2) ∧ ∀ c : Ch, ChOk c → ∀ o', Pot o' b → Q (.tup [chD c, chD c.mir]) (put S p o')
theorem d__law_hand (ds S Q) (h : sp__law_hand ds S Q) : t__law_hand sp__law_take sp__law_of (endsF Q) (startD N__law_hand.length ds) S := by
  obtain ⟨p, o, b, rfl, hp, po, k⟩ := h
  obtain ⟨s1, s2, s3, s4, s5, s6, s7, s8, s9, s10, s11, s12⟩ := s_lo
  obtain ⟨o1, o2, o3, o4⟩ := strs_ok
  unfold t__law_hand
  have e0 : startD N__law_hand.length [.ref p] = [some (.ref p), none, none] := rfl
  rw [e0]
  refine seq_g fun K hK => ?_
  walk_at "ev"
  refine ⟨by simp only [List.length_cons, List.length_nil]; decide, ?_⟩
  refine ⟨p, o, _, _, b + 1, rfl, rfl, (by intro z; cases z), by simp only [List.length_cons, List.length_nil]; decide, by simp only [List.length_cons, List.length_nil]; decide, hp, po, fun w hw o2' po2 => ?_⟩
  refine ⟨p, o2', 3, b, rfl, by decide, by decide, put_same, po2, fun i o3' i0 i1 po3 => ?_⟩
  walk_at "ev"
  subst hK
  have e3 : ∃ a : Nat, i = (a : Int) ∧ a < 3 := ⟨i.toNat, by omega, by omega⟩
  obtain ⟨a, rfl, ha⟩ := e3
  have e4 : (1 + (a : Int)) = ((a + 1 : Nat) : Int) := by omega
  have inn : ∀ (x : Str) (S' : DHp) (Q' : DQ), PyData.strOk x = true → Q' (.bl ((x == "on") || (x == "back"))) S' → oIn false (.str x) (.tup [.str "on", .str "back"]) S' Q' := by
    intro x S' Q' hx q
    unfold oIn dictOf itemsOf
    refine ⟨⟨by rw [okD]; exact hx, by simp [okL, okD, o1, o2], by rw [dep_str]; omega, by simp [depL, dep]⟩, ?_⟩
    have : (([D.str "on", D.str "back"] : List D).any fun z => eqD z (.str x)) = ((x == "on") || (x == "back")) := by
      simp only [List.any_cons, List.any_nil, eqD, Bool.or_false]
      rw [show (("on" : Str) == x) = (x == "on") from BEq.comm, show (("back" : Str) == x) = (x == "back") from BEq.comm]
    exact this ▸ q
  refine seq_g fun K hK => ifs_g fun T U hT hU => ?_
  rw [e4]
  walk_at "ev"
  refine ⟨by simp only [List.length_cons, List.length_nil]; decide, ?_⟩
  simp only [List.mem_cons, List.not_mem_nil, or_false] at hw
  have on : ∀ c : Ch, c.mir = c → ChOk c → Q (.tup [chD c, chD c]) (put S p o3') := fun c e h => by
    have := k c h o3' po3
    rw [e] at this
    exact this
  rcases hw with rfl | rfl | rfl | rfl | rfl | rfl | rfl
  case inl | inr.inl =>
    refine inn _ _ _ o1 ?_
    simp only [s9, Bool.true_or, if_true]
    subst hT
    walk_at "ev"
    refine ⟨by simp only [List.length_cons, List.length_nil]; decide, by simp only [List.length_cons, List.length_nil]; decide, by simp only [List.length_cons, List.length_nil]; decide, _, Less.refl, ?_⟩
    exact on .on rfl trivial
  case inr.inr.inr.inr.inr.inr =>
    refine inn _ _ _ o2 ?_
    simp only [s12, Bool.or_true, if_true]
    subst hT
    walk_at "ev"
    refine ⟨by simp only [List.length_cons, List.length_nil]; decide, by simp only [List.length_cons, List.length_nil]; decide, by simp only [List.length_cons, List.length_nil]; decide, _, Less.refl, ?_⟩
    exact on .back rfl trivial
  case inr.inr.inl | inr.inr.inr.inr.inl =>
    refine inn _ _ _ o3 ?_
    simp only [s1, s2, Bool.or_false, Bool.false_eq_true, if_false]
    subst hU
    walk_at "ev"
    subst hK
    walk_at "ev"
    refine ⟨by simp only [List.length_cons, List.length_nil]; decide, ?_⟩
    simp only [s3, Bool.false_eq_true, if_false, if_true]
    refine ⟨by simp only [List.length_cons, List.length_nil]; decide, by simp only [List.length_cons, List.length_nil]; decide, _, Less.refl, ?_⟩
    exact k (.left (a + 1)) ⟨by omega, by omega⟩ o3' po3
  all_goals
    refine inn _ _ _ o4 ?_
    simp only [s7, s8, Bool.or_false, Bool.false_eq_true, if_false]
    subst hU
    walk_at "ev"
    subst hK
    walk_at "ev"
    refine ⟨by simp only [List.length_cons, List.length_nil]; decide, ?_⟩
    simp only [s5, Bool.false_eq_true, if_false, if_true]
    refine ⟨by simp only [List.length_cons, List.length_nil]; decide, by simp only [List.length_cons, List.length_nil]; decide, _, Less.refl, ?_⟩
    exact k (.right (a + 1)) ⟨by omega, by omega⟩ o3' po3
theorem meth_e {C : Addr} {m : Str} {sp : DSp} {to : DTE} {t : DTA} {ρ : DSt} {S : DHp} {Q : DQ} : dMeth C m sp to t ρ S Q = to ρ S fun x S1 => (∃ ns fs, insOf S1 x = some (C, ns, fs) ∧ m ∉ ns) ∧ t ρ S1 fun ds S2 => sp (x :: ds) S2 Q := rfl
theorem any_nat {x : Nat} {l : List Nat} : ((l.map natD).any fun z => eqD z (natD x)) = decide (x ∈ l) := by
  induction l with
  | nil => rfl
  | cons y l ih =>
    rw [List.map_cons, List.any_cons, ih, eqD]
    by_cases h : y = x
    · simp [h]
    · have h2 : ¬ (y : Int) = (x : Int) := fun z => h (by omega)
      have h3 : ¬ x = y := fun z => h z.symm
      simp [h2, h3]
theorem nats_ok {l : List Nat} : okL (l.map natD) = true ∧ depL (l.map natD) ≤ 1 ∧ eqL (l.map natD) (l.map natD) = true := by
  refine ⟨okL_all fun x hx => ?_, depL_all fun x hx => ?_, eqL_refl fun x hx => ?_⟩
  all_goals
    obtain ⟨y, _, rfl⟩ := List.mem_map.mp hx
  · rw [okD]
  · rw [dep_int]; omega
  · rw [eqD]; simp
theorem in_nats {n : Bool} {x : Nat} {l : List Nat} {S : DHp} {Q : DQ} (h : Q (.bl (if n then !decide (x ∈ l) else decide (x ∈ l))) S) : oIn n (natD x) (.lst (l.map natD)) S Q := by
  unfold oIn dictOf itemsOf
  show _ ∧ _
  rw [any_nat]
  obtain ⟨h1, h2, _⟩ := nats_ok (l := l)
  exact ⟨⟨by rw [okD], h1, by rw [dep_int]; omega, by show depL (l.map natD) ≤ 63; omega⟩, h⟩
theorem eq_nats {n : Bool} {l : List Nat} {S : DHp} {Q : DQ} (h : Q (.bl (!n)) S) : oEq n (.lst (l.map natD)) (.lst (l.map natD)) S Q := by
  obtain ⟨h1, h2, h3⟩ := nats_ok (l := l)
  refine ⟨.inr ⟨by rw [okD]; exact h1, by rw [okD]; exact h1, by rw [dep]; omega, by rw [dep]; omega⟩, ?_⟩
  rw [eqD, h3]
  cases n <;> exact h
theorem all_py {ss : List Str} : D.pyL (ss.map D.str) = some (ss.map PyData.str) := by
  induction ss with
  | nil => rfl
  | cons x ss ih => rw [List.map_cons, D.pyL, ih, D.py]; rfl
theorem strs_show {ss : List Str} : PyData.showableAll (ss.map PyData.str) = true ∧ PyData.hasDictAll (ss.map PyData.str) = false ∧ PyData.depthAll (ss.map PyData.str) ≤ 1 ∧ PyData.intsShortAll 13 (ss.map PyData.str) = true := by
  induction ss with
  | nil => exact ⟨rfl, rfl, by simp [PyData.depthAll], rfl⟩
  | cons x ss ih =>
    obtain ⟨h1, h2, h3, h4⟩ := ih
    rw [List.map_cons]
    refine ⟨?_, ?_, ?_, ?_⟩
    · rw [PyData.showableAll, h1]; rfl
    · rw [PyData.hasDictAll, h2]; rfl
    · rw [PyData.depthAll, PyData.depth]; omega
    · rw [PyData.intsShortAll, h4]; rfl
theorem strs_lay {ss : List Str} (h : ∀ x ∈ ss, NameS x) : PyData.canLayAll0 (ss.map PyData.str) = true ∧ PyData.weightAll (ss.map PyData.str) ≤ 9 * ss.length := by
  induction ss with
  | nil => exact ⟨rfl, by simp [PyData.weightAll]⟩
  | cons x ss ih =>
    obtain ⟨h1, h2⟩ := ih fun y hy => h y (by simp [hy])
    have hx := h x (by simp)
    have m := hx.most
    rw [List.map_cons, List.length_cons]
    refine ⟨?_, ?_⟩
    · rw [PyData.canLayAll0, h1, PyData.canLay0, name_ok hx]; rfl
    · rw [PyData.weightAll, PyData.weight]; omega
theorem small_show : ∀ n : Nat, n < 20 → (PyData.showable (.int (n : Int)) && PyData.intsShort 13 (.int (n : Int)) && decide (PyData.weight (.int (n : Int)) ≤ 8)) = true := by decide +kernel
abbrev viewP (a c : Nat) (b : Bool) (ss : List Str) : PyData := .tuple [.int a, .int c, .bool b, .tuple (ss.map .str)]
theorem repr_view {a c : Nat} {b : Bool} {ss : List Str} (ha : a < 20) (hc : c < 20) (hs : ss.length < 64) (hn : ∀ x ∈ ss, NameS x) : ∃ t : Str, ∀ (S : DHp) (Q : DQ), Q (.str t) S → bRepr [.tup [natD a, natD c, .bl b, .tup (ss.map D.str)]] S Q := by
  have ga := small_show a ha
  have gc := small_show c hc
  simp only [Bool.and_eq_true, decide_eq_true_eq] at ga gc
  obtain ⟨⟨a1, a2⟩, a3⟩ := ga
  obtain ⟨⟨c1, c2⟩, c3⟩ := gc
  obtain ⟨g1, g2, g3, g4⟩ := strs_show (ss := ss)
  obtain ⟨l1, l2⟩ := strs_lay hn
  have dp : (viewP a c b ss).depth ≤ 64 := by simp only [PyData.depth, PyData.depthAll]; omega
  have lay : PyData.layable0 (viewP a c b ss) = true := by
    have w : (viewP a c b ss).weight ≤ 2 ^ 20 := by
      have e : (2 : Nat) ^ 20 = 1048576 := by decide
      rw [PyData.weight, PyData.weightAll, PyData.weightAll, PyData.weightAll, PyData.weightAll, PyData.weightAll, PyData.weight.eq_def (.bool b), PyData.weight.eq_def (.tuple _)]
      show _ + 1 + (_ + 1 + (0 + 1 + (PyData.weightAll _ + 1 + 0))) ≤ _
      omega
    unfold PyData.layable0
    simp only [Bool.and_eq_true, decide_eq_true_eq]
    refine ⟨⟨?_, dp⟩, w⟩
    simp only [PyData.canLay0, PyData.canLayAll0, l1, Bool.and_true, Bool.true_and]
  have sh : (viewP a c b ss).intsShort 13 = true := by
    simp only [PyData.intsShort] at a2 c2 ⊢
    simp only [PyData.intsShortAll, PyData.intsShort, a2, c2, g4, Bool.and_true]
  refine ⟨(viewP a c b ss).shown, fun S Q q => ⟨viewP a c b ss, ?_, rfl, ?_, ?_, dp, ?_, q⟩⟩
  · rw [D.py, D.pyL, D.pyL, D.pyL, D.pyL, D.pyL, D.py, D.py, D.py, D.py, all_py]
    rfl
  · simp only [PyData.showable] at a1 c1 ⊢
    simp only [PyData.showableAll, PyData.showable, a1, c1, g1, Bool.and_true]
  · simp only [PyData.hasDict, PyData.hasDictAll, g2, Bool.or_false]
  · exact Nat.le_trans (shown_le13 lay sh) (by decide)
def sp__law_sees_right (C : Addr) : DSp := fun ds S Q => ∃ (rows : List RowS) (lanes : List (Stop × Stop)) (r : RowS) (b : Nat),
  ds = [townI C rows lanes, townI C (rows.map RowS.mir) (lanesM rows lanes), stopD (r.name, b), stopD (r.name, mirN r.ends b), manyN rows] ∧ At rows lanes r b ∧ Q (.bl true) S
theorem At.mir {rows : List RowS} {lanes : List (Stop × Stop)} {r : RowS} {b : Nat} (a : At rows lanes r b) : At (rows.map RowS.mir) (lanesM rows lanes) r.mir (mirN r.ends b) := ⟨mir_town a.ok, List.mem_map.mpr ⟨r, a.row, rfl⟩, mir_lt a.lt⟩
theorem side_len {n b : Nat} {on : Option Nat} : (sidesN n b on).1.length ≤ n - 1 ∧ (sidesN n b on).2.length ≤ n - 1 := by
  cases on with
  | none => exact ⟨by show (othN n b).length ≤ _; rw [oth_len]; omega, by show (othN n b).reverse.length ≤ _; rw [List.length_reverse, oth_len]; omega⟩
  | some o => exact ⟨by show ((othN n b).take _).length ≤ _; rw [List.length_take, oth_len]; omega, by show ((othN n b).drop _).reverse.length ≤ _; rw [List.length_reverse, List.length_drop, oth_len]; omega⟩
theorem no_view : ("view" : Str) ∉ fldsT ∧ ("taken" : Str) ∉ fldsT := by decide +kernel
def optN : D → Option D
  | .non => none
  | d => some d
theorem opts_map {l : List (Option Nat)} : (l.map optD).filterMap optN = (l.filterMap id).map natD := by
  induction l with
  | nil => rfl
  | cons x l ih =>
    rw [List.map_cons, List.filterMap_cons, List.filterMap_cons, ih]
    cases x <;> rfl
theorem fnd_eq {L R : List Nat} {on : Option Nat} : ((([1, 2, 3].map (fun k => L[k - 1]?) ++ [1, 2, 3].map fun k => R[k - 1]?) ++ [on]).filterMap id) = takes L ++ takes R ++ on.toList := by
  unfold takes
  rw [List.filterMap_append, List.filterMap_append, List.filterMap_map, List.filterMap_map]
  cases on <;> rfl
theorem rest_map {n b : Nat} : ((List.range n).map natD).filterMap (fun d => match d with
    | .int k => if k.toNat = b then none else some d
    | z => some z) = (restN n b).map natD := by
  unfold restN
  generalize List.range n = l
  induction l with
  | nil => rfl
  | cons x l ih =>
    rw [List.map_cons, List.filterMap_cons, List.filter_cons, ih]
    by_cases h : x = b
    · subst h
      have h1 : ((x : Int)).toNat = x := by omega
      simp only [h1, if_true, ne_eq, not_true_eq_false, decide_false, Bool.false_eq_true, if_false]
    · have h1 : ¬ ((x : Int)).toNat = b := by omega
      simp only [h1, if_false, h, ne_eq, not_false_eq_true, decide_true, if_true, List.map_cons]
theorem ret_i {te : DTE} {E : DEnds} {ρ : DSt} {S : DHp} (h : te ρ S E.rt) : dRet te E ρ S := h
theorem blt1_i {r : List D → DHp → DQ → Prop} {te : DTE} {ρ : DSt} {S : DHp} {Q : DQ} (h : te ρ S fun d S1 => r [d] S1 Q) : dBlt r (dCons te dNil) ρ S Q := h
theorem takes_len {l : List Nat} : (takes l).length ≤ 3 := List.length_filterMap_le _ _
theorem fnd_len {n b : Nat} {on : Option Nat} : (fndN n b on).length ≤ 7 := by
  unfold fndN
  have h1 := takes_len (l := (sidesN n b on).1)
  have h2 := takes_len (l := (sidesN n b on).2)
  rw [List.length_append, List.length_append]
  have h3 : on.toList.length ≤ 1 := by cases on <;> simp
  omega
theorem asgop_i {r : DOp} {ta tb : DTE} {g : DTG} {E : DEnds} {ρ : DSt} {S : DHp} (h : ta ρ S fun x S1 => tb ρ S1 fun y S2 => r x y S2 fun d S3 => g d ρ S3 E.nx) : dAsg (dOp r ta tb) g E ρ S := h
theorem asg_i {te : DTE} {g : DTG} {E : DEnds} {ρ : DSt} {S : DHp} (h : te ρ S fun d S1 => g d ρ S1 E.nx) : dAsg te g E ρ S := h
/-- three numbers to one side -/
theorem three_e {C : Addr} {sp : DSp} {rows : List RowS} {lanes : List (Stop × Stop)} {x : Str} {f : Nat → Option Nat} {S : DHp} {Q : DQ} {i2 i3 i4 i5 x9 x10 x11 x12 x13 x14 : Option D} {i1 i6 : D} (nt : ("taken" : Str) ∉ fldsT)
    (tak : ∀ (k : Nat) (S' : DHp) (Q' : DQ), 1 ≤ k → k ≤ 3 → Q' (optD (f k)) S' → sp [townI C rows lanes, i1, .tup [.str x, natD k]] S' Q') (q : Q (.lst (([1, 2, 3].map f).map optD)) S) :
    dLc (dSeqI (dTup (dCons (dC (.int 1)) (dCons (dC (.int 2)) (dCons (dC (.int 3)) dNil))))) (dgName 14) dYes (dMeth C "taken" sp (dVar 0) (dCons (dVar 2) (dCons (dTup (dCons (dC (.str x)) (dCons (dVar 14) dNil))) dNil))) [14]
      [some (townI C rows lanes), i2, some i1, i3, i4, i5, some i6, x9, x10, x11, x12, x13, x14, none, none] S Q := by
  refine lc_map (fun d => match d with
    | .int k => optD (f k.toNat)
    | z => z) (l := [natD 1, natD 2, natD 3]) (live := fun _ => True) (fun R hR => ?_) (fun _ _ _ => trivial) (by simp only [List.length_cons, List.length_nil]; decide) (fun z hz S' sub Y hY => ?_) ?_
  · rw [seqI_e]
    walk_at "ev"
    exact ⟨by simp only [List.length_cons, List.length_nil]; decide, hR⟩
  · simp only [List.mem_cons, List.not_mem_nil, or_false] at hz
    have key : ∀ k : Nat, 1 ≤ k → k ≤ 3 → Y (optD (f k)) S' → dgName 14 (natD k) (wipeD [some (townI C rows lanes), i2, some i1, i3, i4, i5, some i6, x9, x10, x11, x12, x13, x14, none, none] [14]) S' fun ρ2 S2 => dMeth C "taken" sp (dVar 0) (dCons (dVar 2) (dCons (dTup (dCons (dC (.str x)) (dCons (dVar 14) dNil))) dNil)) ρ2 S2 Y := by
      intro k k1 k2 hY
      show dgName 14 (natD k) [some (townI C rows lanes), i2, some i1, i3, i4, i5, some i6, x9, x10, x11, x12, x13, x14, none, none] S' _
      simp only [gname_e, set0, setS, meth_e, cons_e, nil_e, var_e, slot0, slotS, ins_town, tup_e, c_e]
      exact ⟨⟨_, _, rfl, nt⟩, by simp only [List.length_cons, List.length_nil]; decide, tak k _ _ k1 k2 hY⟩
    rcases hz with rfl | rfl | rfl
    · exact key 1 (by decide) (by decide) hY
    · exact key 2 (by decide) (by decide) hY
    · exact key 3 (by decide) (by decide) hY
  · exact q
theorem d__law_sees_right (C : Addr) (ds S Q) (h : sp__law_sees_right C ds S Q) : t__law_sees_right C sp__law_ordered (sp_Town_view C) (sp_Town_taken C) (endsF Q) (startD N__law_sees_right.length ds) S := by
  obtain ⟨rows, lanes, r, b, rfl, a, q⟩ := h
  have g := a.ok.good
  have nd := good_names g
  have rok := g.ok r a.row
  have hb := a.lt
  have e20 := rok.e1
  have ho : ∀ o, strN r.pairs b = some o → o < r.ends ∧ o ≠ b := fun o z => str_ok rok.st.up z
  obtain ⟨nv, nt⟩ := no_view
  obtain ⟨sl1, sl2⟩ := side_len (n := r.ends) (b := b) (on := strN r.pairs b)
  have hsn := a.ok.sg r a.row
  have viw : ∀ (S' : DHp) (Q' : DQ), Q' (viewD r b) S' → sp_Town_view C [townI C rows lanes, stopD (r.name, b)] S' Q' := fun S' Q' q => ⟨rows, lanes, r, b, rfl, a, q⟩
  have vim : ∀ (S' : DHp) (Q' : DQ), Q' (viewD r.mir (mirN r.ends b)) S' → sp_Town_view C [townI C (rows.map RowS.mir) (lanesM rows lanes), stopD (r.name, mirN r.ends b)] S' Q' := fun S' Q' q => ⟨_, _, r.mir, _, rfl, a.mir, q⟩
  have tak : ∀ (c : Ch) (S' : DHp) (Q' : DQ), ChOk c → Q' (optD (takenN r b c)) S' → sp_Town_taken C [townI C rows lanes, stopD (r.name, b), chD c] S' Q' := fun c S' Q' oc q => ⟨rows, lanes, r, b, c, rfl, a, oc, q⟩
  obtain ⟨tx, htx⟩ := repr_view (a := (sidesN r.ends b (strN r.pairs b)).2.length) (c := (sidesN r.ends b (strN r.pairs b)).1.length) (b := (strN r.pairs b).isSome) (ss := r.signs) (by omega) (by omega) hsn rok.sg.nm
  unfold t__law_sees_right
  have e0 : startD N__law_sees_right.length [townI C rows lanes, townI C (rows.map RowS.mir) (lanesM rows lanes), stopD (r.name, b), stopD (r.name, mirN r.ends b), manyN rows] =
    [some (townI C rows lanes), some (townI C (rows.map RowS.mir) (lanesM rows lanes)), some (stopD (r.name, b)), some (stopD (r.name, mirN r.ends b)), some (manyN rows), none, none, none, none, none, none, none, none, none, none] := rfl
  rw [e0]
  refine seq_g fun K hK => ?_
  simp only [asg_e, meth_e, cons_e, nil_e, var_e, slot0, slotS, ins_town]
  refine ⟨⟨_, _, rfl, nv⟩, viw _ _ ?_⟩
  refine tup4_e ?_
  walk_at "ev"
  subst hK
  refine seq_g fun K hK => ifs_g fun T U hT hU => ?_
  simp only [tst_e, op_e, blt_e, meth_e, cons_e, nil_e, var_e, slot0, slotS, ins_town]
  refine ⟨⟨_, _, rfl, nv⟩, vim _ _ ?_⟩
  rw [view_mir rok hb]
  refine htx _ _ ?_
  walk_at "ev"
  refine ⟨by simp only [List.length_cons, List.length_nil]; decide, ?_⟩
  refine htx _ _ ?_
  walk_at "ev"
  simp only [BEq.rfl, Bool.not_true, Bool.false_eq_true, if_false, if_true]
  subst hU
  walk_at "ev"
  subst hK
  refine seq_g fun K hK => ?_
  refine asgop_i ?_
  refine three_e (f := fun k => takenN r b (.left k)) nt (fun k S' Q' k1 k2 q => tak (.left k) S' Q' ⟨k1, k2⟩ q) ?_
  refine three_e (f := fun k => takenN r b (.right k)) nt (fun k S' Q' k1 k2 q => tak (.right k) S' Q' ⟨k1, k2⟩ q) ?_
  walk_at "ev"
  refine ⟨by simp only [List.length_map, List.length_cons, List.length_nil]; decide, ?_⟩
  subst hK
  refine seq_g fun K hK => ?_
  simp only [asg_e, meth_e, cons_e, nil_e, var_e, slot0, slotS, ins_town, tup_e, c_e]
  refine ⟨⟨_, _, rfl, nt⟩, by simp only [List.length_cons, List.length_nil]; decide, tak .on _ _ trivial ?_⟩
  walk_at "ev"
  subst hK
  refine seq_g fun K hK => ifs_g fun T U hT hU => ?_
  simp only [or_e, and_e, tst_e, op_e, c_e, meth_e, cons_e, nil_e, var_e, slot0, slotS, ins_town, is_e, eq_bb, non_opt, tup_e]
  have e1 : ((!(takenN r b .on).isSome) == (strN r.pairs b).isSome) = false := by
    show ((!(strN r.pairs b).isSome) == (strN r.pairs b).isSome) = false
    cases (strN r.pairs b).isSome <;> rfl
  simp only [e1, Bool.false_eq_true, if_false]
  have goon : U [some (townI C rows lanes), some (townI C (rows.map RowS.mir) (lanesM rows lanes)), some (stopD (r.name, b)), some (stopD (r.name, mirN r.ends b)), some (manyN rows), some (natD (sidesN r.ends b (strN r.pairs b)).1.length), some (natD (sidesN r.ends b (strN r.pairs b)).2.length), some (.bl (strN r.pairs b).isSome), some (.tup (r.signs.map D.str)),
      some (.lst (([1, 2, 3].map fun k => takenN r b (.left k)).map optD ++ ([1, 2, 3].map fun k => takenN r b (.right k)).map optD)), some (optD (takenN r b .on)), none, none, none, none] S := by
    subst hU
    walk_at "ev"
    subst hK
    refine seq_g fun K hK => ?_
    refine asg_i ?_
    refine lc_pure optN (l := (([1, 2, 3].map (fun k => takenN r b (.left k)) ++ [1, 2, 3].map fun k => takenN r b (.right k)) ++ [takenN r b .on]).map optD) (live := fun _ => True) (fun R hR => ?_) (fun _ _ _ => trivial) (by simp only [List.length_map, List.length_append, List.length_cons, List.length_nil]; decide) (fun z hz S' sub Y N hY => ?_) ?_
    · rw [seqI_e]
      walk_at "ev"
      exact ⟨by simp only [List.length_cons, List.length_nil]; decide, by simp only [List.length_append, List.length_map, List.length_cons, List.length_nil]; decide, hR⟩
    · obtain ⟨o, _, rfl⟩ := List.mem_map.mp hz
      show dgName 13 (optD o) [some (townI C rows lanes), some (townI C (rows.map RowS.mir) (lanesM rows lanes)), some (stopD (r.name, b)), some (stopD (r.name, mirN r.ends b)), some (manyN rows), some (natD (sidesN r.ends b (strN r.pairs b)).1.length), some (natD (sidesN r.ends b (strN r.pairs b)).2.length), some (.bl (strN r.pairs b).isSome), some (.tup (r.signs.map D.str)),
        some (.lst (([1, 2, 3].map fun k => takenN r b (.left k)).map optD ++ ([1, 2, 3].map fun k => takenN r b (.right k)).map optD)), some (optD (takenN r b .on)), none, none, none, none] S' _
      walk_at "ev"
      cases o with
      | none => exact hY
      | some o => exact hY
    · rw [opts_map]
      have ef := fnd_eq (L := (sidesN r.ends b (strN r.pairs b)).1) (R := (sidesN r.ends b (strN r.pairs b)).2) (on := strN r.pairs b)
      have ef2 : ((([1, 2, 3].map (fun k => takenN r b (.left k)) ++ [1, 2, 3].map fun k => takenN r b (.right k)) ++ [takenN r b .on]).filterMap id) = fndN r.ends b (strN r.pairs b) := ef
      rw [ef2]
      have fs := fnd_sub hb ho
      generalize some (D.lst (([1, 2, 3].map fun k => takenN r b (.left k)).map optD ++ ([1, 2, 3].map fun k => takenN r b (.right k)).map optD)) = s9
      generalize some (optD (takenN r b .on)) = s10
      walk_at "ev"
      subst hK
      refine seq_g fun K hK => ifs_g fun T U hT hU => ?_
      simp only [or_e, tst_e, op_e, var_e, slot0, slotS, c_e, stop_1]
      refine in_nats ?_
      have nb : decide (b ∈ fndN r.ends b (strN r.pairs b)) = false := decide_eq_false_iff_not.mpr fun z => (fs b z).2 rfl
      simp only [nb, Bool.false_eq_true, if_false, meth_e, cons_e, nil_e, var_e, slot0, slotS, ins_town, tup_e, c_e]
      refine ⟨⟨_, _, rfl, nt⟩, by simp only [List.length_cons, List.length_nil]; decide, tak .back _ _ trivial ?_⟩
      show oEq true (natD b) (natD b) _ _
      have bb : ((b : Int) == (b : Int)) = true := beq_self_eq_true _
      rw [eq_ii]
      simp only [bb, Bool.not_true, if_true, Bool.false_eq_true, if_false]
      subst hU
      walk_at "ev"
      subst hK
      refine seq_g fun K hK => ?_
      refine asg_i ?_
      refine lc_pure (fun d => match d with
        | .int k => if k.toNat = b then none else some d
        | z => some z) (l := (List.range r.ends).map natD) (live := fun _ => True) (fun R hR => ?_) (fun _ _ _ => trivial) (by rw [List.length_map, List.length_range]; show _ ≤ 2 ^ 24; omega) (fun z hz S' sub Y N hY => ?_) ?_
      · simp only [rng_e, cons_e, nil_e, op_e, var_e, c_e, dget_e, slot0, slotS, dictOf, stop_0, many_at a.row nd]
        refine ⟨by omega, by omega, ?_⟩
        rw [show ((r.ends : Int)).toNat = r.ends by omega, ints_nat]
        exact hR
      · obtain ⟨x, _, rfl⟩ := List.mem_map.mp hz
        show dgName 13 (natD x) [some (townI C rows lanes), some (townI C (rows.map RowS.mir) (lanesM rows lanes)), some (stopD (r.name, b)), some (stopD (r.name, mirN r.ends b)), some (manyN rows), some (natD (sidesN r.ends b (strN r.pairs b)).1.length), some (natD (sidesN r.ends b (strN r.pairs b)).2.length), some (.bl (strN r.pairs b).isSome), some (.tup (r.signs.map D.str)),
          s9, s10, some (.lst ((fndN r.ends b (strN r.pairs b)).map natD)), none, none, none] S' _
        simp only [gname_e, set0, setS, tst_e, op_e, var_e, slot0, slotS, c_e, stop_1, eq_ii, if_true]
        by_cases hx : x = b
        · subst hx
          simp only [beq_self_eq_true, Bool.not_true, Bool.false_eq_true, if_false]
          have : (if ((x : Int)).toNat = x then (none : Option D) else some (natD x)) = none := if_pos (by omega)
          simp only [this] at hY
          exact hY
        · have h1 : ((x : Int) == (b : Int)) = false := beq_eq_false_iff_ne.mpr fun z => hx (by omega)
          simp only [h1, Bool.not_false, if_true]
          have : (if ((x : Int)).toNat = b then (none : Option D) else some (natD x)) = some (natD x) := if_neg (by omega)
          simp only [this] at hY
          exact hY
      · have er : ((List.range r.ends).map natD).filterMap (fun d => match d with
          | .int k => if k.toNat = b then none else some d
          | z => some z) = (restN r.ends b).map natD := rest_map
        rw [er]
        walk_at "ev"
        subst hK
        refine seq_g fun K hK => ifs_g fun T U hT hU => ?_
        walk_at "ev"
        have big : ∀ L R : Nat, decide ((3 : Int) < (L : Int)) = decide (3 < L) := fun L _ => by
          by_cases h : 3 < L
          · rw [decide_eq_true h, decide_eq_true (by omega)]
          · rw [decide_eq_false h, decide_eq_false (by omega)]
        have toT : T [some (townI C rows lanes), some (townI C (rows.map RowS.mir) (lanesM rows lanes)), some (stopD (r.name, b)), some (stopD (r.name, mirN r.ends b)), some (manyN rows), some (natD (sidesN r.ends b (strN r.pairs b)).1.length), some (natD (sidesN r.ends b (strN r.pairs b)).2.length), some (.bl (strN r.pairs b).isSome), some (.tup (r.signs.map D.str)),
            s9, s10, some (.lst ((fndN r.ends b (strN r.pairs b)).map natD)), some (.lst ((restN r.ends b).map natD)), none, none] S := by
          subst hT
          refine ret_i (blt1_i ?_)
          refine lc_map (fun _ => .bl true) (l := (fndN r.ends b (strN r.pairs b)).map natD) (live := fun _ => True) (fun R hR => ?_) (fun _ _ _ => trivial) (by rw [List.length_map]; show _ ≤ 2 ^ 24; have := fnd_len (n := r.ends) (b := b) (on := strN r.pairs b); omega) (fun z hz S' sub Y hY => ?_) ?_
          · rw [seqI_e]
            walk_at "ev"
            exact hR
          · obtain ⟨x, hx, rfl⟩ := List.mem_map.mp hz
            show dgName 13 (natD x) [some (townI C rows lanes), some (townI C (rows.map RowS.mir) (lanesM rows lanes)), some (stopD (r.name, b)), some (stopD (r.name, mirN r.ends b)), some (manyN rows), some (natD (sidesN r.ends b (strN r.pairs b)).1.length), some (natD (sidesN r.ends b (strN r.pairs b)).2.length), some (.bl (strN r.pairs b).isSome), some (.tup (r.signs.map D.str)),
              s9, s10, some (.lst ((fndN r.ends b (strN r.pairs b)).map natD)), some (.lst ((restN r.ends b).map natD)), none, none] S' _
            walk_at "ev"
            refine in_nats ?_
            have : decide (x ∈ restN r.ends b) = true := decide_eq_true (rest_mem.mpr (fs x hx))
            simp only [this, Bool.false_eq_true, if_false]
            exact hY
          · rw [List.map_map]
            exact all_true ⟨_, Less.refl, q⟩
        have toU : (sidesN r.ends b (strN r.pairs b)).1.length ≤ 3 → (sidesN r.ends b (strN r.pairs b)).2.length ≤ 3 → U [some (townI C rows lanes), some (townI C (rows.map RowS.mir) (lanesM rows lanes)), some (stopD (r.name, b)), some (stopD (r.name, mirN r.ends b)), some (manyN rows), some (natD (sidesN r.ends b (strN r.pairs b)).1.length), some (natD (sidesN r.ends b (strN r.pairs b)).2.length), some (.bl (strN r.pairs b).isSome), some (.tup (r.signs.map D.str)),
            s9, s10, some (.lst ((fndN r.ends b (strN r.pairs b)).map natD)), some (.lst ((restN r.ends b).map natD)), none, none] S := by
          intro h1 h2
          subst hU
          walk_at "ev"
          subst hK
          refine ret_i ?_
          simp only [andV_e, orV_e, op_e, call_e, cons_e, nil_e, var_e, slot0, slotS, c_e, lenSet_e, blt_e]
          refine ordered_l emb_nat (src := ⟨(fndN r.ends b (strN r.pairs b)).map natD, fun _ => True⟩) rfl rfl (fun _ _ => trivial) (by have := fnd_len (n := r.ends) (b := b) (on := strN r.pairs b); omega) ?_
          rw [ord_rest hb ho h1 h2]
          refine eq_nats ?_
          have nd7 := (fnd_all hb ho h1 h2).2
          have l7 := fnd_len (n := r.ends) (b := b) (on := strN r.pairs b)
          show oIsB (.bl (strN r.pairs b).isSome) (.bl false) S _
          show match D.bl (decide ((strN r.pairs b).isSome = false)) with
            | .bl true => _
            | .bl false => _
            | _ => False
          cases e3 : (strN r.pairs b).isSome with
          | false => exact ⟨_, Less.refl, q⟩
          | true =>
            refine ⟨by rw [List.length_map]; omega, .inl ⟨_, ints_of, ?_⟩, ?_⟩
            · exact List.pairwise_map.mpr (List.Pairwise.imp (fun h z => h (by omega)) (nd7 e3))
            · walk_at "ev"
              simp only [beq_self_eq_true, Bool.false_eq_true, if_false]
              exact ⟨_, Less.refl, q⟩
        by_cases h1 : (3 : Int) < ((sidesN r.ends b (strN r.pairs b)).1.length : Int)
        · simp only [decide_eq_true h1, if_true]
          exact toT
        · simp only [decide_eq_false h1, Bool.false_eq_true, if_false]
          by_cases h2 : (3 : Int) < ((sidesN r.ends b (strN r.pairs b)).2.length : Int)
          · simp only [decide_eq_true h2, if_true]
            exact toT
          · simp only [decide_eq_false h2, Bool.false_eq_true, if_false]
            exact toU (by omega) (by omega)
  cases e4 : (strN r.pairs b).isSome with
  | false =>
    rw [e4] at goon
    simp only [Bool.false_eq_true, if_false]
    exact goon
  | true =>
    rw [e4] at goon
    obtain ⟨o, e2⟩ := Option.isSome_iff_exists.mp e4
    obtain ⟨h1, h2⟩ := ho o e2
    simp only [if_true]
    refine ⟨⟨_, _, rfl, nt⟩, by simp only [List.length_cons, List.length_nil]; decide, by simp only [List.length_cons, List.length_nil]; decide, ?_⟩
    refine ⟨rows, lanes, r, o, .on, ?_, ⟨a.ok, a.row, h1⟩, trivial, ?_⟩
    · have e3 : takenN r b .on = some o := e2
      rw [e3]
      rfl
    · rw [show takenN r o .on = some b from str_sym rok.st.nd e2]
      have bb : ((b : Int) == (b : Int)) = true := beq_self_eq_true _
      simp only [stop_1, optD, eq_ii]
      simp only [bb, Bool.not_true, if_true, Bool.false_eq_true, if_false]
      exact goon
theorem merge_new {α : Type} {key : α → Key} {v : α → D} : ∀ {l dn : List α}, ((dn ++ l).map key).Nodup → mergeD (dn.map key, dn.map v) (l.map fun x => (key x, v x)) = ((dn ++ l).map key, (dn ++ l).map v)
  | [], dn, _ => by rw [List.append_nil]; rfl
  | x :: l, dn, nd => by
    have nn : key x ∉ dn.map key := fun z => by
      rw [List.map_append, List.map_cons] at nd
      exact (List.nodup_append.mp nd).2.2 _ z _ (by simp) rfl
    have e : mergeD (dn.map key, dn.map v) ((x :: l).map fun x => (key x, v x)) = mergeD (putD (dn.map key) (dn.map v) (key x) (v x)) (l.map fun x => (key x, v x)) := rfl
    have ea : dn ++ x :: l = (dn ++ [x]) ++ l := by simp
    rw [e, putD_new nn, ea]
    rw [ea] at nd
    have m1 : dn.map key ++ [key x] = (dn ++ [x]).map key := by rw [List.map_append]; rfl
    have m2 : dn.map v ++ [v x] = (dn ++ [x]).map v := by rw [List.map_append]; rfl
    rw [m1, m2]
    exact merge_new nd
theorem pairs_rows {rows : List RowS} : pairsOf (rows.map fun r => D.tup [.str r.name, natD r.ends]) = some (rows.map fun r => ((Sum.inr r.name : Key), natD r.ends)) := by
  induction rows with
  | nil => rfl
  | cons r rows ih =>
    rw [List.map_cons, pairsOf, ih]
    rfl
theorem many_e {rows : List RowS} {S : DHp} {Q : DQ} (nd : (rows.map RowS.name).Nodup) (q : Q (manyN rows) S) : bDictP [.lst (rows.map fun r => D.tup [.str r.name, natD r.ends])] S Q := by
  unfold bDictP
  simp only [pairs_rows]
  have nk : (([] ++ rows).map fun r : RowS => (Sum.inr r.name : Key)).Nodup := by
    rw [List.nil_append]
    refine List.pairwise_map.mpr (List.Pairwise.imp (fun h z => h (Sum.inr.inj z)) (List.pairwise_map.mp nd))
  have e := merge_new (key := fun r : RowS => (Sum.inr r.name : Key)) (v := fun r : RowS => natD r.ends) (l := rows) (dn := []) nk
  have e2 : mergeD ([], []) (rows.map fun r => ((Sum.inr r.name : Key), natD r.ends)) = (rows.map fun r => (Sum.inr r.name : Key), rows.map fun r => natD r.ends) := e
  rw [e2]
  exact q
theorem few_signs {es : List Nat} {r : RowS} (h : FromMenu es r) (ok : RowOk r) : r.signs.length < 64 := by
  have nd : r.signs.Nodup := List.Pairwise.imp_of_mem (fun {a b} ha hb hab z => by
    subst z
    rw [emb_str.irr (ok.sg.nm a ha)] at hab
    cases hab) ok.sg.srt
  have := len_le nd h.sg
  have e : (["inn", "left", "bread", "q"] : List Str).length = 4 := rfl
  omega
theorem town_ok {es : List Nat} {rows : List RowS} {lanes : List (Stop × Stop)} (g : GoodTown rows lanes) (h : ∀ r ∈ rows, FromMenu es r) (he : ∀ n ∈ es, n ≤ 6) (hl : rows.length ≤ 8) : TownOk rows lanes := by
  refine ⟨g, fun r hr => few_signs (h r hr) (g.ok r hr), ?_⟩
  have := few_stops he (by decide) h
  omega
theorem eq_stop {x : Stop} {S : DHp} {Q : DQ} (hx : NameS x.1) (q : Q (.bl false) S) : oEq true (stopD x) (stopD x) S Q := by
  have e := emb_stop
  have hp : NameS x.1 ∧ True := ⟨hx, trivial⟩
  have d8 := e.dp hp
  refine ⟨.inr ⟨e.ok hp, e.ok hp, by omega, by omega⟩, ?_⟩
  rw [(e.eq_ hp hp).mpr rfl]
  exact q
theorem ixO_e {C : Addr} {sp : DSp} {to ti : DTE} {ρ : DSt} {S : DHp} {Q : DQ} : dIxO C sp to ti ρ S Q = to ρ S fun x S1 => ti ρ S1 fun y S2 => (∃ ns fs, insOf S2 x = some (C, ns, fs)) ∧ sp [x, y] S2 Q := rfl
theorem par3_e {i j l : Nat} {t : DTA} {E : DEnds} {ρ : DSt} {S : DHp} : dPar3 i j l t E ρ S = t ρ S fun ds S1 => match ds with
  | [d, e, f] => E.nx (((ρ.set i (some d)).set j (some e)).set l (some f)) S1
  | _ => False := rfl
theorem inv_e {C : Addr} {sp : DSp} {x : D} {S : DHp} {Q : DQ} : rInv C sp x S Q = ((∃ ns fs, insOf S x = some (C, ns, fs)) ∧ sp [x] S Q) := rfl
/-- where one comes out -/
theorem At.out {rows : List RowS} {lanes : List (Stop × Stop)} {r : RowS} {b e : Nat} (a : At rows lanes r b) (he : e < r.ends) : ∃ (r2 : RowS) (b2 : Nat), At rows lanes r2 b2 ∧ mateN lanes (r.name, e) = (r2.name, b2) ∧ mateN lanes (r2.name, b2) = (r.name, e) ∧ mateN (lanesM rows lanes) (r.name, mirN r.ends e) = (r2.name, mirN r2.ends b2) := by
  have g := a.ok.good
  have nd := good_names g
  have fl : (flatK lanes).Nodup := g.all.nodup_iff.mpr (stops_nodup nd)
  have m : ((r.name, e) : Stop) ∈ flatK lanes := g.all.mem_iff.mpr (stop_in a.row he)
  have m2 := (lnk_mem (mate_lnk m)).2
  obtain ⟨r2, hr2, b2, hb2, e2⟩ := in_stops (g.all.mem_iff.mp m2)
  refine ⟨r2, b2, ⟨a.ok, hr2, hb2⟩, e2, ?_, ?_⟩
  · rw [← e2]
    exact mate_back fl m
  · have h := mate_mir a.ok m
    rw [img_at a.row nd, e2, img_at hr2 nd] at h
    exact h
theorem taken_lt {r : RowS} {b e : Nat} {c : Ch} (ok : RowOk r) (hb : b < r.ends) (h : takenN r b c = some e) : e < r.ends := by
  have ho : ∀ o, strN r.pairs b = some o → o < r.ends ∧ o ≠ b := fun o z => str_ok ok.st.up z
  cases c with
  | on => exact (ho e h).1
  | back => cases h; exact hb
  | left k => exact ((oth_mem hb).mp (side_sub (.inl (List.mem_of_getElem? h)))).1
  | right k => exact ((oth_mem hb).mp (side_sub (.inr (List.mem_of_getElem? h)))).1
def sp__law_right : DSp := fun ds S Q => ∃ (p : Addr) (o : Nd × List D), ds = [.ref p] ∧ S p = some o ∧ Pot o (2 ^ 20) ∧ Q (.bl true) (era S p)
theorem for_i {ti : DTI} {g : DTG} {tb : DTS} {E : DEnds} {ρ : DSt} {S : DHp} (h : ti ρ S fun src S1 => forD src.live g tb E src.items ρ S1) : dFor ti g tb E ρ S := h
theorem rng_i {n : Int} {ρ : DSt} {S : DHp} {R : Src → DHp → Prop} (h : (-(2 ^ 62) ≤ n ∧ n < 2 ^ 62) ∧ R ⟨intsD 0 n.toNat, fun _ => True⟩ S) : dRng1 (dCons (dC (.int n)) dNil) ρ S R := ⟨h.1.1, h.1.2, h.2⟩
theorem d__law_right (C : Addr) (ds S Q) (h : sp__law_right ds S Q) : t__law_right C sp__law_free_town sp__law_of sp__law_each_stop sp__law_image_of (sp__law_sees_right C) sp__law_hand (sp_Town_init C) (sp_Town_inv C) (sp_Town_taken C) (sp_Town_get C) (endsF Q) (startD N__law_right.length ds) S := by
  obtain ⟨p, o, rfl, hp, po, q⟩ := h
  obtain ⟨nv, nt⟩ := no_view
  unfold t__law_right
  have e0 : startD N__law_right.length [.ref p] = [some (.ref p), none, none, none, none, none, none, none, none, none, none, none, none, none] := rfl
  rw [e0]
  refine seq_g fun K hK => ?_
  walk_at "ev"
  refine ⟨by simp only [List.length_cons, List.length_nil]; decide, p, o, 7, [2, 3, 3, 4, 4, 5, 6], 2 ^ 20 - 1000, rfl, by decide, by decide, by decide, by decide, by decide, hp, po.less (by decide), fun rows lanes g fm hl _ o1 po1 => ?_⟩
  have ok : TownOk rows lanes := town_ok g fm (by decide) (by omega)
  have nd := good_names g
  have few := ok.few
  walk_at "ev"
  subst hK
  refine seq_g fun K hK => ?_
  have tw0 : ∀ (S' : DHp) (Q' : DQ), Q' (.tup (rows.map RowS.d)) S' → oIx (townD rows lanes) (.int 0) S' Q' := fun S' Q' h => by
    unfold townD
    rw [at_0t]
    exact h
  have tw1 : ∀ (S' : DHp) (Q' : DQ), Q' (.tup (lanes.map laneD)) S' → oIx (townD rows lanes) (.int 1) S' Q' := fun S' Q' h => by
    unfold townD
    rw [at_1t]
    exact h
  simp only [par2_e, cons_e, nil_e, make_e, op_e, var_e, c_e, slot0, slotS]
  refine tw0 _ _ (tw1 _ _ ?_)
  intro p2 h2
  have hpp : p2 ≠ p := fun z => by subst z; rw [put_same] at h2; cases h2
  refine ⟨p2, rows, lanes, rfl, ok, put_same, rfl, fldsT, _, put_same, ?_⟩
  have ee : era (put (put (put S p o1) p2 (.ins C [], [])) p2 (.ins C fldsT, valsT rows lanes)) p2 = put S p o1 := by
    funext a
    by_cases ha : a = p2
    · subst ha
      rw [h2]
      unfold era
      simp
    · rw [era_ne ha, put_ne ha, put_ne ha]
  rw [ee]
  refine blt1_i ?_
  refine lc_map (fun d => match d with
    | .nd .tup (.str n :: .int e :: _) => .tup [.str n, .int e]
    | z => z) (l := rows.map RowS.d) (live := fun _ => True) (fun R hR => ?_) (fun _ _ _ => trivial) (by rw [List.length_map]; have := g.few; show _ ≤ 2 ^ 24; omega) (fun z hz S' sub Y hY => ?_) ?_
  · rw [seqI_e]
    simp only [op_e, var_e, c_e, slot0, slotS]
    exact tw0 _ _ hR
  · obtain ⟨r, hr, rfl⟩ := List.mem_map.mp hz
    show dgName 13 r.d [some (.ref p), some (townD rows lanes), none, none, none, none, none, none, none, none, none, none, none, none] S' _
    unfold RowS.d at hY ⊢
    k_with "ev" => simp only [at_0t, at_1t]
    exact ⟨by simp only [List.length_cons, List.length_nil]; decide, hY⟩
  have em : (rows.map RowS.d).map (fun d => match d with
    | .nd .tup (.str n :: .int e :: _) => .tup [.str n, .int e]
    | z => z) = rows.map fun r => D.tup [.str r.name, natD r.ends] := by
    rw [List.map_map]
    rfl
  rw [em]
  refine many_e nd ?_
  simp only [set0, setS]
  subst hK
  refine seq_g fun K hK => ?_
  simp only [par2_e, cons_e, nil_e, un_e, inv_e, call_e, var_e, slot0, slotS, ins_town]
  refine ⟨⟨_, _, rfl⟩, rows, lanes, rfl, ok, ?_⟩
  have hsl : 0 < (stopsS rows).length := by
    obtain ⟨r, hr⟩ := List.exists_mem_of_length_pos g.ne
    have := (g.ok r hr).e0
    exact List.length_pos_of_mem (stop_in hr (by omega : 0 < r.ends))
  refine ⟨.tup (rows.map RowS.d), [.tup (lanes.map laneD)], ⟨rows.map RowS.d, fun _ => True⟩, rows.map RowS.t, rfl, rfl, rows_map.symm, by rw [stops_map, List.length_map]; omega, fun q5 h5 => ?_⟩
  have h5p : q5 ≠ p := fun z => by subst z; rw [put_same] at h5; cases h5
  have hsq : S q5 = none := by rw [put_ne h5p] at h5; exact h5
  rw [stops_map]
  refine ⟨p, o1, .ref q5, ⟨(stopsS rows).map stopD, fun S' => S' q5 = some (.lst, (stopsS rows).map stopD)⟩, 2 ^ 20 - 1001, rfl, ?_, (by intro z; cases z; exact h5p rfl), by rw [List.length_map]; exact hsl, by rw [List.length_map]; show _ < 2 ^ 24; omega, by rw [put_ne h5p.symm, put_same], po1.less (by decide), fun st hst o2 po2 => ?_⟩
  · unfold itemsOf
    simp only [put_same]
  obtain ⟨x, hx, rfl⟩ := List.mem_map.mp hst
  obtain ⟨r, hr, b, hb, rfl⟩ := in_stops hx
  have off : Off S (put (put (put S p o1) q5 (.lst, (stopsS rows).map stopD)) p o2) [p, q5] := ((Off.refl.put (by simp)).put (by simp)).put (by simp)
  have hsp : put (put (put S p o1) q5 (.lst, (stopsS rows).map stopD)) p o2 p = some o2 := put_same
  generalize put (put (put S p o1) q5 (.lst, (stopsS rows).map stopD)) p o2 = S2 at off hsp ⊢
  simp only [set0, setS]
  subst hK
  refine seq_g fun K hK => ?_
  walk_at "ev"
  refine ⟨rows, r, b, rfl, nd, hr, hb, ?_⟩
  walk_at "ev"
  subst hK
  refine seq_g fun K hK => ?_
  refine for_i (rng_i ?_)
  refine ⟨⟨by decide, by decide⟩, ?_⟩
  refine forD_ind (fun m ρ S' => ∃ (r : RowS) (b : Nat) (o' : Nd × List D) (x7 x8 x9 x10 x11 x12 : Option D), At rows lanes r b ∧ ρ = [some (.ref p), some (townD rows lanes), some (townI C rows lanes), some (manyN rows), some (townI C (rows.map RowS.mir) (lanesM rows lanes)), some (stopD (r.name, b)), some (stopD (r.name, mirN r.ends b)), x7, x8, x9, x10, x11, x12, none] ∧ S' p = some o' ∧ Pot o' (2 * m.length) ∧ Off S S' [p, q5])
    (fun _ _ _ _ => trivial) (fun ρ S' h => ?_) (fun d m ρ S' h K2 hK2 => ?_) ⟨r, b, o2, none, none, none, none, none, none, ⟨ok, hr, hb⟩, rfl, hsp, po2.less ?_, off⟩
  · obtain ⟨r, b, o', x7, x8, x9, x10, x11, x12, a, rfl, hp', po', off'⟩ := h
    show K _ _
    subst hK
    refine ret_i ?_
    walk_at "ev"
    refine ⟨era S p, fun a u e => ?_, q⟩
    have h1 : a ≠ p := fun z => by subst z; rw [era_same] at e; cases e
    rw [era_ne h1] at e
    have h2 : a ≠ q5 := fun z => by subst z; rw [hsq] at e; cases e
    rw [off' a (by simp [h1, h2]), e]
  · obtain ⟨r, b, o', x7, x8, x9, x10, x11, x12, a, rfl, hp', po', off'⟩ := h
    have rok := g.ok r a.row
    have hb := a.lt
    rw [List.length_cons] at po'
    simp only [gname_e, set0, setS]
    refine seq_g fun K3 hK3 => ifs_g fun T U hT hU => ?_
    walk_at "ev"
    refine ⟨rows, lanes, r, b, rfl, a, ?_⟩
    simp only [Bool.not_true, Bool.false_eq_true, if_false]
    subst hU
    walk_at "ev"
    subst hK3
    refine seq_g fun K3 hK3 => ?_
    walk_at "ev"
    refine ⟨p, o', 2 * m.length, rfl, hp', po'.less (by omega), fun c oc o4 po4 => ?_⟩
    refine tup2_e ?_
    walk_at "ev"
    subst hK3
    refine seq_g fun K3 hK3 => ?_
    simp only [par2_e, meth_e, cons_e, nil_e, var_e, slot0, slotS, ins_town]
    refine ⟨⟨_, _, rfl, nt⟩, rows, lanes, r, b, c, rfl, a, oc, ⟨_, _, rfl, nt⟩, _, _, r.mir, mirN r.ends b, c.mir, rfl, a.mir, ch_mir oc, ?_⟩
    rw [taken_mir rok hb c]
    have off4 : Off S (put S' p o4) [p, q5] := off'.put (by simp)
    have hp4 : put S' p o4 p = some o4 := put_same
    generalize put S' p o4 = S4 at off4 hp4 ⊢
    have ht : ∀ e, takenN r b c = some e → e < r.ends := fun e z => taken_lt rok hb z
    simp only [set0, setS]
    subst hK3
    refine seq_g fun K3 hK3 => ifs_g fun T U hT hU => ?_
    generalize takenN r b c = e at ht ⊢
    cases e with
    | none =>
      have n1 : isNon (optD none) = true := rfl
      have n2 : isNon (optD (none.map (mirN r.ends))) = true := rfl
      simp only [tst_e, op_e, var_e, c_e, slot0, slotS, is_e, eq_bb, n1, n2, beq_self_eq_true, Bool.not_true, Bool.false_eq_true, if_false, if_true]
      subst hU
      walk_at "ev"
      subst hK3
      refine ifs_g fun T U hT hU => ?_
      simp only [tst_e, op_e, var_e, c_e, slot0, slotS, is_e, n1, Bool.not_true, Bool.false_eq_true, if_false, if_true]
      subst hU
      walk_at "ev"
      exact hK2 _ _ ⟨r, b, o4, _, _, _, _, _, _, a, rfl, hp4, po4, off4⟩
    | some e =>
      have he := ht e rfl
      have n1 : isNon (optD (some e)) = false := rfl
      have n2 : isNon (optD ((some e).map (mirN r.ends))) = false := rfl
      simp only [tst_e, op_e, var_e, c_e, slot0, slotS, is_e, eq_bb, n1, n2, beq_self_eq_true, Bool.not_true, Bool.false_eq_true, if_false, if_true]
      subst hU
      walk_at "ev"
      subst hK3
      refine ifs_g fun T U hT hU => ?_
      simp only [tst_e, op_e, var_e, c_e, slot0, slotS, is_e, n1, Bool.not_false, Bool.false_eq_true, if_false, if_true]
      subst hT
      have r1 : optD (some e) = natD e := rfl
      have r2 : optD ((some e).map (mirN r.ends)) = natD (mirN r.ends e) := rfl
      rw [r1, r2]
      obtain ⟨r2, b2, a2, m1, m2, m3⟩ := a.out he
      have rok2 := g.ok r2 a2.row
      refine seq_g fun K3 hK3 => ifs_g fun T U hT hU => ?_
      simp only [tst_e, op_e, call_e, cons_e, nil_e, tup_e, var_e, c_e, slot0, slotS, stop_0, stop_1]
      refine ⟨by simp only [List.length_cons, List.length_nil]; decide, rows, r, e, rfl, nd, a.row, he, by simp only [List.length_cons, List.length_nil]; decide, ?_⟩
      refine eq_stop (x := (r.name, mirN r.ends e)) rok.nm ?_
      simp only [Bool.false_eq_true, if_false]
      subst hU
      walk_at "ev"
      subst hK3
      refine seq_g fun K3 hK3 => ?_
      simp only [par3_e, ixO_e, cons_e, nil_e, tup_e, op_e, var_e, c_e, slot0, slotS, stop_0, stop_1, ins_town]
      refine ⟨by simp only [List.length_cons, List.length_nil]; decide, by simp only [List.length_cons, List.length_nil]; decide, ⟨_, _, rfl⟩, rows, lanes, r, e, rfl, ⟨ok, a.row, he⟩, by simp only [List.length_cons, List.length_nil]; decide, ⟨_, _, rfl⟩, _, _, r.mir, mirN r.ends e, rfl, (⟨ok, a.row, he⟩ : At rows lanes r e).mir, ?_⟩
      rw [m1, show mateN (lanesM rows lanes) (r.mir.name, mirN r.ends e) = _ from m3]
      simp only [set0, setS]
      subst hK3
      refine ifs_g fun T U hT hU => ?_
      simp only [or_e, tst_e, op_e, ixO_e, call_e, cons_e, nil_e, var_e, c_e, slot0, slotS, ins_town]
      refine ⟨rows, r2, b2, rfl, nd, a2.row, a2.lt, ?_⟩
      refine eq_stop (x := (r2.name, mirN r2.ends b2)) rok2.nm ?_
      simp only [Bool.false_eq_true, if_false]
      refine ⟨⟨_, _, rfl⟩, rows, lanes, r2, b2, rfl, a2, ?_⟩
      rw [m2]
      refine eq_stop (x := (r.name, e)) rok.nm ?_
      simp only [Bool.false_eq_true, if_false]
      subst hU
      walk_at "ev"
      exact hK2 _ _ ⟨r2, b2, o4, _, _, _, _, _, _, a2, rfl, hp4, po4, off4⟩
  · rw [show ((40 : Int)).toNat = 40 from rfl, ints_nat, List.length_map, List.length_range]
    decide
def sp_law : DSp := fun ds S Q => ∃ xs : List D, ds = [.nd .flst xs] ∧ (∀ d ∈ xs, ∃ c, d = D.int c) ∧ Q (.bl true) S
theorem lc_src {ti : DTI} {g : DTG} {tt : DTT} {te : DTE} {vs : List Nat} {ρ : DSt} {S : DHp} {Q : DQ} (h : ti ρ S fun src S1 => dLc (fun _ S R => R src S) g tt te vs ρ S1 Q) : dLc ti g tt te vs ρ S Q := h
theorem d_law (ds S Q) (h : sp_law ds S Q) : t_law sp__law_right sp__law_pot sp__law_cells (endsF Q) (startD N_law.length ds) S := by
  obtain ⟨xs, rfl, hx, q⟩ := h
  unfold t_law
  have e0 : startD N_law.length [.nd .flst xs] = [some (.nd .flst xs), none] := rfl
  rw [e0]
  refine ret_i (blt1_i ?_)
  have cells : ∀ R : Src → DHp → Prop, (∀ n : Nat, n ≤ 2 → R ⟨(List.range n).map natD, fun _ => True⟩ S) → dSeqI (dCall sp__law_cells (dCons (dVar 0) (dCons (dC (.int 2)) dNil))) [some (.nd .flst xs), none] S R := fun R h => by
    rw [seqI_e]
    walk_at "ev"
    refine ⟨xs, 2, rfl, by decide, by decide, fun n _ n1 _ => ?_⟩
    show R ⟨intsD 0 n, fun _ => True⟩ S
    rw [ints_nat]
    refine h n ?_
    have : max 1 ((2 : Int)).toNat = 2 := rfl
    omega
  refine lc_src (cells _ fun n hn => ?_)
  refine lc_map (fun _ => .bl true) (l := (List.range n).map natD) (live := fun _ => True) (fun R hR => hR) (fun _ _ _ => trivial) (by rw [List.length_map, List.length_range]; show _ ≤ 2 ^ 24; omega) (fun z hz S' sub Y hY => ?_) ?_
  · obtain ⟨i, hi, rfl⟩ := List.mem_map.mp hz
    have hi := List.mem_range.mp hi
    show dgName 1 (natD i) [some (.nd .flst xs), none] S' _
    walk_at "ev"
    refine ⟨xs, i, rfl, hx, by omega, by omega, fun p hp o po => ?_⟩
    refine ⟨p, o, rfl, put_same, po.less (by decide), ?_⟩
    have ee : era (put S' p o) p = S' := by
      funext a
      by_cases ha : a = p
      · subst ha
        rw [era_same, hp]
      · rw [era_ne ha, put_ne ha]
    rw [ee]
    exact hY
  · rw [List.map_map]
    exact all_true ⟨_, Less.refl, q⟩
/-! TN: lines written, words read. -/
theorem tru_e {te : DTE} {ρ : DSt} {S : DHp} {F : Bool → DHp → Prop} : dTru te ρ S F = te ρ S fun d S1 => match truD S1 d with
  | some b => F b S1
  | none => False := rfl
theorem join_i {z : Str} {d : D} {src : Src} {ps : List Str} {S : DHp} {Q : DQ} (hi : itemsOf S d = some src) (e : src.items = ps.map D.str) (h : (ps.map (·.length)).sum + ps.length * z.length ≤ 16777216) (q : Q (.str (Txt.join z ps)) S) : mJoin (.str z) [d] S Q := by
  unfold mJoin
  simp only [hi, e, strs_map]
  exact ⟨h, q⟩
theorem split_i {z y : Str} {S : DHp} {Q : DQ} (h1 : (y.length == 0) = false) (h2 : z.length + 2 ≤ sizeLine) (q : Q (.lst ((Txt.split z y).map D.str)) S) : mSplit (.str z) [.str y] S Q := ⟨⟨h1, h2⟩, q⟩
def sp_in_one_word : DSp := fun ds S Q => ∃ ps : List Str, (ds = [.tup (ps.map D.str)] ∨ ds = [.lst (ps.map D.str)]) ∧ ps.length ≤ 100 ∧ (∀ p ∈ ps, p.length ≤ 1000) ∧ Q (.str (wordN ps)) S
theorem d_in_one_word (ds S Q) (h : sp_in_one_word ds S Q) : t_in_one_word (endsF Q) (startD N_in_one_word.length ds) S := by
  obtain ⟨ps, e, few, len, q⟩ := h
  have sm := sum_le len
  have c1 := seps.2.2.2.2.2.2.2.2.1
  have szj : (ps.map (·.length)).sum + ps.length * ("," : Str).length ≤ 16777216 := by rw [c1]; omega
  have key : ∀ d : D, (∃ src, itemsOf S d = some src ∧ src.items = ps.map D.str) → truD S d = some (!(ps.map D.str).isEmpty) → t_in_one_word (endsF Q) [some d] S := fun d ⟨src, hi, he⟩ ht => by
    unfold t_in_one_word
    simp only [ret_e, if_e, tru_e, var_e, slot0, ht]
    by_cases c : ps = []
    · subst c
      simp only [List.map_nil, List.isEmpty_nil, Bool.not_true, Bool.false_eq_true, if_false, c_e]
      have e2 : wordN [] = ("-" : Str) := if_pos rfl
      rw [e2] at q
      exact ⟨_, Less.refl, q⟩
    · have : (!(ps.map D.str).isEmpty) = true := by cases ps with
        | nil => exact absurd rfl c
        | cons _ _ => rfl
      rw [this]
      simp only [if_true, bm_e, c_e, mtyp_s, true_and, cons_e, nil_e, var_e, slot0]
      refine join_i hi he szj ?_
      have e2 : wordN ps = Txt.join "," ps := if_neg c
      rw [e2] at q
      exact ⟨_, Less.refl, q⟩
  rcases e with rfl | rfl
  · exact key _ ⟨_, rfl, rfl⟩ rfl
  · exact key _ ⟨_, rfl, rfl⟩ rfl
theorem small_log {n : Nat} (h : n < 100) : (n : Int).natAbs.log2 < 1920 := by
  rw [Int.natAbs_natCast]
  have := Nat.log2_le_self n
  omega
theorem str_i {n : Nat} {S : DHp} {Q : DQ} (h : n < 100) (q : Q (.str (numT n)) S) : bStr [natD n] S Q := ⟨small_log h, q⟩
theorem str_s {x : Str} {S : DHp} {Q : DQ} : bStr [.str x] S Q = Q (.str x) S := rfl
def sp_line_of_crossing : DSp := fun ds S Q => ∃ r : RowS, ds = [r.d, .str (numT r.ends)] ∧ RowOk r ∧ r.signs.length < 64 ∧ Q (.str (Txt.join " " (crossT r))) S
theorem row_facts {r : RowS} (ok : RowOk r) (sg : r.signs.length < 64) : r.pairs.length ≤ 64 ∧ (∀ x ∈ r.pairs, x.1 < 100 ∧ x.2 < 100) ∧ (∀ p ∈ crossT r, p.length ≤ 1000) := by
  have pl := pairs_few ok.st ok.e1
  have e6 : (2 : Nat) ^ 6 = 64 := by decide
  have hx : ∀ x ∈ r.pairs, x.1 < 100 ∧ x.2 < 100 := fun x hx => by
    have := ok.st.up x hx
    have := ok.e1
    omega
  refine ⟨by omega, hx, fun p hp => ?_⟩
  unfold crossT at hp
  simp only [List.mem_cons, List.not_mem_nil, or_false] at hp
  rcases hp with rfl | rfl | rfl | rfl | rfl
  · have := heads_tl.2.1; omega
  · have := name_len ok.nm; omega
  · have := numT_len (n := r.ends) (by have := ok.e1; omega); omega
  · have := wordN_len (k := 5) (ps := r.pairs.map pairT) fun p hp => by
      obtain ⟨x, hx', rfl⟩ := List.mem_map.mp hp
      exact pairT_len (hx x hx').1 (hx x hx').2
    rw [List.length_map] at this
    omega
  · have := wordN_len (k := 8) (ps := r.signs) fun p hp => name_len (ok.sg.nm p hp)
    omega
theorem d_line_of_crossing (ds S Q) (h : sp_line_of_crossing ds S Q) : t_line_of_crossing sp_in_one_word (endsF Q) (startD N_line_of_crossing.length ds) S := by
  obtain ⟨r, rfl, ok, sg, q⟩ := h
  obtain ⟨pl, px, cl⟩ := row_facts ok sg
  have c2 := seps.2.2.2.2.2.2.2.2.2.1
  have c3 := seps.2.2.2.2.2.2.2.2.2.2.1
  unfold t_line_of_crossing RowS.d
  have e0 : startD N_line_of_crossing.length [.tup [.str r.name, natD r.ends, .tup (r.pairs.map natP), .tup (r.signs.map D.str)], .str (numT r.ends)] = [some (.tup [.str r.name, natD r.ends, .tup (r.pairs.map natP), .tup (r.signs.map D.str)]), some (.str (numT r.ends)), none, none, none] := rfl
  rw [e0]
  refine seq_g fun K hK => asg_i ?_
  refine lc_map (fun d => match d with
    | .nd .tup [.int a, .int b] => .str (pairT (a.toNat, b.toNat))
    | z => z) (l := r.pairs.map natP) (live := fun _ => True) (fun R hR => ?_) (fun _ _ _ => trivial) (by rw [List.length_map]; show _ ≤ 2 ^ 24; omega) (fun z hz S' sub Y hY => ?_) ?_
  · simp only [seqI_e, op_e, var_e, slot0, c_e, ix_t, at_2]
    exact hR
  · obtain ⟨x, hx, rfl⟩ := List.mem_map.mp hz
    obtain ⟨x1, x2⟩ := px x hx
    have hY : Y (.str (pairT (x.1, x.2))) S' := hY
    refine tup2_e ?_
    simp only [wipeD, set0, setS]
    simp only [op_e, blt_e, cons_e, nil_e, var_e, slot0, slotS, c_e]
    refine str_i x1 ?_
    rw [add_ss]
    refine ⟨?_, str_i x2 ?_⟩
    · have := numT_len x1
      show _ ≤ 2 ^ 24
      omega
    · rw [add_ss]
      refine ⟨?_, hY⟩
      rw [app_len]
      have := numT_len x1
      have := numT_len x2
      show _ ≤ 2 ^ 24
      omega
  · have em : (r.pairs.map natP).map (fun d => match d with
      | .nd .tup [.int a, .int b] => D.str (pairT (a.toNat, b.toNat))
      | z => z) = (r.pairs.map pairT).map D.str := by
      rw [List.map_map, List.map_map]
      rfl
    rw [em]
    simp only [gname_e, set0, setS]
    subst hK
    simp only [ret_e, bm_e, c_e, mtyp_s, true_and, cons_e, nil_e, lstF_e, op_e, var_e, slot0, slotS, ix_t, at_0, call_e]
    refine ⟨r.pairs.map pairT, .inr rfl, by rw [List.length_map]; omega, fun p hp => ?_, ?_⟩
    · obtain ⟨x, hx', rfl⟩ := List.mem_map.mp hp
      have := pairT_len (px x hx').1 (px x hx').2
      omega
    · have a3 : L2.atI [D.str r.name, natD r.ends, .tup (r.pairs.map natP), .tup (r.signs.map D.str)] 3 = some (.tup (r.signs.map D.str)) := rfl
      simp only [a3]
      refine ⟨r.signs, .inl rfl, by omega, fun p hp => by have := name_len (ok.sg.nm p hp); omega, ?_⟩
      refine ⟨by simp only [List.length_cons, List.length_nil]; decide, ?_⟩
      refine join_i (ps := crossT r) (src := ⟨(crossT r).map D.str, fun _ => True⟩) rfl rfl ?_ ⟨_, Less.refl, q⟩
      have := sum_le cl
      rw [c3]
      have e5 : (crossT r).length = 5 := rfl
      omega
def sp_line_of_street : DSp := fun ds S Q => ∃ x : Stop × Stop, ds = [laneD x] ∧ NameS x.1.1 ∧ NameS x.2.1 ∧ x.1.2 < 100 ∧ x.2.2 < 100 ∧ Q (.str (Txt.join " " (streetT x))) S
/-! CQ: list comprehensions over fresh rows. -/
section
variable {β γ : Type} {p : Addr} {S : DHp}
theorem comp1_app {item vl : β → D} {g : DTG} {te : DTE} {ρ : DSt} {Kf : List D → DHp → Prop} (hp : S p = none) :
    ∀ {l : List β} {acc : List D}, acc.length + l.length < 2 ^ 24 → (∀ x ∈ l, ∀ S' : DHp, (∀ q u, S q = some u → S' q = some u) → ∀ Y : DQ, Y (vl x) S' → g (item x) ρ S' fun ρ2 S2 => te ρ2 S2 Y) →
      Kf (acc ++ l.map vl) (put S p (.lst, acc ++ l.map vl)) → compD p (fun _ => True) g dYes te ρ Kf (l.map item) acc (put S p (.lst, acc))
  | [], acc, _, _, k => by
    rw [List.map_nil, List.append_nil] at k
    exact ⟨trivial, put_same, k⟩
  | x :: l, acc, hz, hs, k => by
    rw [List.map_cons]
    rw [List.length_cons] at hz
    refine ⟨trivial, ?_⟩
    simp only [yes_e, if_true]
    have sz : acc.length < sizeLine := by show _ < 2 ^ 24; omega
    refine hs x (by simp) _ (sub_put hp) (fun y S4 => S4 p = some (.lst, acc) ∧ acc.length < sizeLine ∧ compD p (fun _ => True) g dYes te ρ Kf (l.map item) (acc ++ [y]) (put S4 p (.lst, acc ++ [y]))) ?_
    refine ⟨put_same, sz, ?_⟩
    rw [put_put]
    have e2 : acc ++ (x :: l).map vl = (acc ++ [vl x]) ++ l.map vl := by simp
    rw [e2] at k
    exact comp1_app hp (by rw [List.length_append, List.length_cons, List.length_nil]; omega) (fun y hy => hs y (by simp [hy])) k
theorem comp2_app {rit : γ → D} {inn : γ → List β} {item : β → D} {vl : γ → β → D} {g g1 : DTG} {ti1 : DTI} {te : DTE} {vs1 : List Nat} {ρ : DSt} {ρr : γ → DSt} {Kf : List D → DHp → Prop} (hp : S p = none) :
    ∀ {rs : List γ} {acc : List D}, acc.length + (rs.flatMap fun r => (inn r).map (vl r)).length < 2 ^ 24 →
      (∀ r ∈ rs, ∀ S' : DHp, (∀ q u, S q = some u → S' q = some u) → ∀ R : Src → DSt → DHp → Prop, R ⟨(inn r).map item, fun _ => True⟩ (ρr r) S' → g (rit r) ρ S' fun ρ2 S2 => ti1 ρ2 S2 fun src1 S3 => R src1 ρ2 S3) →
      (∀ r ∈ rs, ∀ x ∈ inn r, ∀ S' : DHp, (∀ q u, S q = some u → S' q = some u) → ∀ Y : DQ, Y (vl r x) S' → g1 (item x) (wipeD (ρr r) vs1) S' fun ρ2 S2 => te ρ2 S2 Y) →
      Kf (acc ++ rs.flatMap fun r => (inn r).map (vl r)) (put S p (.lst, acc ++ rs.flatMap fun r => (inn r).map (vl r))) →
      comp2D p (fun _ => True) g dYes ti1 g1 dYes te vs1 ρ Kf (rs.map rit) acc (put S p (.lst, acc))
  | [], acc, _, _, _, k => by
    simp only [List.flatMap_nil, List.append_nil] at k
    exact ⟨trivial, put_same, k⟩
  | r :: rs, acc, hz, ho, hs, k => by
    rw [List.map_cons]
    rw [List.flatMap_cons, List.length_append, List.length_map] at hz
    refine ⟨trivial, ?_⟩
    simp only [yes_e, if_true]
    refine ho r (by simp) _ (sub_put hp) (fun src1 ρ2 S3 => compD p src1.live g1 dYes te (wipeD ρ2 vs1) (fun acc' S' => comp2D p (fun _ => True) g dYes ti1 g1 dYes te vs1 ρ Kf (rs.map rit) acc' S') src1.items acc S3) ?_
    refine comp1_app hp (by omega) (hs r (by simp)) ?_
    refine comp2_app hp (by rw [List.length_append, List.length_map]; omega) (fun y hy => ho y (by simp [hy])) (fun y hy => hs y (by simp [hy])) ?_
    rw [List.flatMap_cons, ← List.append_assoc] at k
    exact k
end
/-! UA: a street's line, a town's text. -/
theorem star_e2 {te : DTE} {t : DTA} {ρ : DSt} {S : DHp} {F : List D → DHp → Prop} : dStar te t ρ S F = te ρ S fun x S1 => match x with
  | .nd .tup xs => t ρ S1 fun ds S2 => F (xs ++ ds) S2
  | .nd .lst xs => t ρ S1 fun ds S2 => F (xs ++ ds) S2
  | _ => False := rfl
def txtD : D → D
  | .int i => .str (numT i.toNat)
  | d => d
theorem street_len {x : Stop × Stop} (h1 : NameS x.1.1) (h2 : NameS x.2.1) (e1 : x.1.2 < 100) (e2 : x.2.2 < 100) : ∀ p ∈ streetT x, p.length ≤ 8 := fun p hp => by
  unfold streetT at hp
  simp only [List.mem_cons, List.not_mem_nil, or_false] at hp
  rcases hp with rfl | rfl | rfl | rfl | rfl
  · have := heads_tl.2.2; omega
  · exact name_len h1
  · have := numT_len e1; omega
  · exact name_len h2
  · have := numT_len e2; omega
theorem d_line_of_street (ds S Q) (h : sp_line_of_street ds S Q) : t_line_of_street (endsF Q) (startD N_line_of_street.length ds) S := by
  obtain ⟨x, rfl, n1, n2, e1, e2, q⟩ := h
  obtain ⟨⟨a, e⟩, ⟨b, f⟩⟩ := x
  have c3 := seps.2.2.2.2.2.2.2.2.2.2.1
  unfold t_line_of_street
  have e0 : startD N_line_of_street.length [laneD ((a, e), (b, f))] = [some (.tup [.tup [.str a, natD e], .tup [.str b, natD f]]), none, none] := rfl
  rw [e0]
  have sum5 : ((streetT ((a, e), (b, f))).map (·.length)).sum + (streetT ((a, e), (b, f))).length * 1 ≤ 16777216 := by
    have := sum_le (street_len (x := ((a, e), (b, f))) n1 n2 e1 e2)
    have e5 : (streetT ((a, e), (b, f))).length = 5 := rfl
    omega
  rw [ret_e, bm_e, c_e]
  simp only [cons_e, nil_e]
  rw [lstF_e]
  simp only [cons_e, nil_e, c_e, star_e2]
  rw [mtyp_s, true_and, lc2_e, seqI_e, var_e, slot0]
  show ∀ p, S p = none → comp2D p (fun _ => True) (dgName 1) dYes (dSeqI (dVar 1)) (dgName 2) dYes (dBlt bStr (dCons (dVar 2) dNil)) [2] [some (.tup [.tup [.str a, natD e], .tup [.str b, natD f]]), none, none] _ ([(a, e), (b, f)].map stopD) [] (put S p (.lst, []))
  intro p hp
  refine comp2_app (rit := stopD) (inn := fun s : Stop => [D.str s.1, natD s.2]) (item := id) (vl := fun _ d => txtD d) (ρr := fun s => [some (.tup [.tup [.str a, natD e], .tup [.str b, natD f]]), some (stopD s), none]) hp
    (by show (0 + 4 < 2 ^ 24); decide) (fun r hr S' sub R hR => ?_) (fun r hr x hx S' sub Y hY => ?_) ?_
  · exact hR
  · have hr2 : r.2 < 100 := by
      simp only [List.mem_cons, List.not_mem_nil, or_false] at hr
      rcases hr with rfl | rfl
      · exact e1
      · exact e2
    simp only [List.mem_cons, List.not_mem_nil, or_false] at hx
    rcases hx with rfl | rfl
    · exact hY
    · show bStr [natD r.2] S' Y
      refine str_i hr2 ?_
      have hY : Y (.str (numT ((r.2 : Nat) : Int).toNat)) S' := hY
      rw [Int.toNat_natCast] at hY
      exact hY
  · rw [List.nil_append, era_put hp]
    have em : ([(a, e), (b, f)].flatMap fun r : Stop => ([D.str r.1, natD r.2]).map fun d => txtD d) = [.str a, .str (numT e), .str b, .str (numT f)] := by
      show [D.str a, .str (numT ((e : Nat) : Int).toNat), .str b, .str (numT ((f : Nat) : Int).toNat)] = _
      rw [Int.toNat_natCast, Int.toNat_natCast]
    have em2 : ([(a, e), (b, f)].flatMap fun r : Stop => ([D.str r.1, natD r.2]).map ((fun _ d => txtD d) r)) = [.str a, .str (numT e), .str b, .str (numT f)] := em
    rw [em2]
    refine ⟨by simp only [List.length_cons, List.length_nil, List.cons_append, List.nil_append]; decide, ?_⟩
    refine join_i (ps := streetT ((a, e), (b, f))) (src := ⟨(streetT ((a, e), (b, f))).map D.str, fun _ => True⟩) rfl rfl ?_ ⟨_, Less.refl, q⟩
    rw [c3]
    exact sum5
/-! UB: a town's text; names and numbers read. -/
theorem lane_facts {rows : List RowS} {lanes : List (Stop × Stop)} (h : TownOk rows lanes) : lanes.length < 38 ∧ ∀ x ∈ lanes, NameS x.1.1 ∧ NameS x.2.1 ∧ x.1.2 < 100 ∧ x.2.2 < 100 := by
  have pl := h.good.all.length_eq
  rw [flat_len] at pl
  have fw := h.few
  have st : ∀ s ∈ flatK lanes, NameS s.1 ∧ s.2 < 100 := fun s hs => by
    have m := h.good.all.mem_iff.mp hs
    unfold stopsS at m
    obtain ⟨r, hr, m⟩ := List.mem_flatMap.mp m
    obtain ⟨e, he, rfl⟩ := List.mem_map.mp m
    have he := List.mem_range.mp he
    have ok := h.good.ok r hr
    have := ok.e1
    exact ⟨ok.nm, by show e < 100; omega⟩
  refine ⟨by omega, fun x hx => ?_⟩
  have a := st x.1 (List.mem_flatMap.mpr ⟨x, hx, by simp⟩)
  have b := st x.2 (List.mem_flatMap.mpr ⟨x, hx, by simp⟩)
  exact ⟨a.1, b.1, a.2, b.2⟩
theorem line_len {r : RowS} (ok : RowOk r) (sg : r.signs.length < 64) : (Txt.join " " (crossT r)).length ≤ 5005 := by
  have := join_len (y := " ") (row_facts ok sg).2.2
  rw [seps.2.2.2.2.2.2.2.2.2.2.1] at this
  have e5 : (crossT r).length = 5 := rfl
  omega
theorem lane_len {x : Stop × Stop} (h1 : NameS x.1.1) (h2 : NameS x.2.1) (e1 : x.1.2 < 100) (e2 : x.2.2 < 100) : (Txt.join " " (streetT x)).length ≤ 5005 := by
  have := join_len (y := " ") (street_len h1 h2 e1 e2)
  rw [seps.2.2.2.2.2.2.2.2.2.2.1] at this
  have e5 : (streetT x).length = 5 := rfl
  omega
theorem town_lines {rows : List RowS} {lanes : List (Stop × Stop)} (h : TownOk rows lanes) : (townT rows lanes).length ≤ 50 ∧ (∀ p ∈ townT rows lanes, p.length ≤ 5005) ∧ ∀ p ∈ townT rows lanes, 10 ∉ tl p := by
  obtain ⟨n1, n2⟩ := lane_facts h
  have n3 := h.good.few
  unfold townT
  refine ⟨by rw [List.length_append, List.length_map, List.length_map]; omega, fun p hp => ?_, fun p hp => ?_⟩
  · rcases List.mem_append.mp hp with hp | hp
    · obtain ⟨r, hr, rfl⟩ := List.mem_map.mp hp
      exact line_len (h.good.ok r hr) (h.sg r hr)
    · obtain ⟨x, hx, rfl⟩ := List.mem_map.mp hp
      obtain ⟨a, b, c, d⟩ := n2 x hx
      exact lane_len a b c d
  · rcases List.mem_append.mp hp with hp | hp
    · obtain ⟨r, hr, rfl⟩ := List.mem_map.mp hp
      exact join_free (by rw [seps.2.2.1]; simp) (crossT_free (h.good.ok r hr) (by omega))
    · obtain ⟨x, hx, rfl⟩ := List.mem_map.mp hp
      obtain ⟨a, b, c, d⟩ := n2 x hx
      exact join_free (by rw [seps.2.2.1]; simp) (streetT_free a b (by omega))
abbrev textT (rows : List RowS) (lanes : List (Stop × Stop)) : Str := Txt.join "\n" (townT rows lanes)
theorem text_len {rows : List RowS} {lanes : List (Stop × Stop)} (h : TownOk rows lanes) : (textT rows lanes).length ≤ 260000 := by
  obtain ⟨n1, n2, _⟩ := town_lines h
  have := join_len (y := "\n") n2
  rw [seps.2.2.2.2.2.2.2.2.2.2.2] at this
  have e : textT rows lanes = Txt.join "\n" (townT rows lanes) := rfl
  rw [e]
  omega
theorem lines_sum {rows : List RowS} {lanes : List (Stop × Stop)} (h : TownOk rows lanes) : ((townT rows lanes).map (·.length)).sum + (townT rows lanes).length * ("\n" : Str).length ≤ 16777216 := by
  obtain ⟨n1, n2, _⟩ := town_lines h
  have := sum_le n2
  rw [seps.2.2.2.2.2.2.2.2.2.2.2]
  omega
def sp_Town_p_crossings (C : Addr) : DSp := fun ds S Q => ∃ (rows : List RowS) (lanes : List (Stop × Stop)), ds = [townI C rows lanes] ∧ Q (.tup (rows.map RowS.d)) S
def sp_Town_p_streets (C : Addr) : DSp := fun ds S Q => ∃ (rows : List RowS) (lanes : List (Stop × Stop)), ds = [townI C rows lanes] ∧ Q (.tup (lanes.map laneD)) S
theorem prop_e1 {C : Addr} {sp : DSp} {to : DTE} {ρ : DSt} {S : DHp} {Q : DQ} : dProp C sp to ρ S Q = to ρ S fun x S1 => (∃ ns fs, insOf S1 x = some (C, ns, fs)) ∧ sp [x] S1 Q := rfl
theorem d_Town_p_crossings (C : Addr) (ds S Q) (h : sp_Town_p_crossings C ds S Q) : t_Town_p_crossings C (endsF Q) (startD N_Town_p_crossings.length ds) S := by
  obtain ⟨rows, lanes, rfl, q⟩ := h
  unfold t_Town_p_crossings
  have e0 : startD N_Town_p_crossings.length [townI C rows lanes] = [some (townI C rows lanes)] := rfl
  rw [e0]
  simp only [ret_e, fld_e, var_e, slot0, ins_town, look_fields, true_and]
  exact ⟨_, Less.refl, q⟩
theorem d_Town_p_streets (C : Addr) (ds S Q) (h : sp_Town_p_streets C ds S Q) : t_Town_p_streets C (endsF Q) (startD N_Town_p_streets.length ds) S := by
  obtain ⟨rows, lanes, rfl, q⟩ := h
  unfold t_Town_p_streets
  have e0 : startD N_Town_p_streets.length [townI C rows lanes] = [some (townI C rows lanes)] := rfl
  rw [e0]
  simp only [ret_e, fld_e, var_e, slot0, ins_town, look_fields, true_and]
  exact ⟨_, Less.refl, q⟩
def sp_show_town (C : Addr) : DSp := fun ds S Q => ∃ (rows : List RowS) (lanes : List (Stop × Stop)), ds = [townI C rows lanes] ∧ TownOk rows lanes ∧ Q (.str (textT rows lanes)) S
theorem d_show_town (C : Addr) (ds S Q) (h : sp_show_town C ds S Q) : t_show_town C sp_line_of_crossing sp_line_of_street (sp_Town_p_crossings C) (sp_Town_p_streets C) (endsF Q) (startD N_show_town.length ds) S := by
  obtain ⟨rows, lanes, rfl, ok, q⟩ := h
  obtain ⟨n1, n2⟩ := lane_facts ok
  have n3 := ok.good.few
  unfold t_show_town
  have e0 : startD N_show_town.length [townI C rows lanes] = [some (townI C rows lanes), none, none, none] := rfl
  rw [e0]
  refine seq_g fun K hK => asg_i (lc_src ?_)
  rw [seqI_e, prop_e1, var_e, slot0]
  refine ⟨⟨_, _, rfl⟩, rows, lanes, rfl, ?_⟩
  show dLc (fun _ S R => R ⟨rows.map RowS.d, fun _ => True⟩ S) _ _ _ _ _ _ _
  refine lc_map (fun d => match d with
    | .nd .tup [.str n, .int e, .nd .tup ps, .nd .tup ss] => .str (Txt.join " " (crossT ⟨n, e.toNat, ps.map fun p => match p with
        | .nd .tup [.int a, .int b] => (a.toNat, b.toNat)
        | _ => (0, 0), ss.map fun s => match s with
        | .str x => x
        | _ => ""⟩))
    | z => z) (l := rows.map RowS.d) (live := fun _ => True) (fun R hR => hR) (fun _ _ _ => trivial) (by rw [List.length_map]; show _ ≤ 2 ^ 24; omega) (fun z hz S' sub Y hY => ?_) ?_
  · obtain ⟨r, hr, rfl⟩ := List.mem_map.mp hz
    have e2 : ((r.pairs.map natP).map fun p => match p with
        | .nd .tup [.int a, .int b] => (a.toNat, b.toNat)
        | _ => (0, 0)) = r.pairs := by
      rw [List.map_map]
      exact List.map_id _
    have e3 : ((r.signs.map D.str).map fun s => match s with
        | .str x => x
        | _ => ("" : Str)) = r.signs := by
      rw [List.map_map]
      exact List.map_id _
    have hY : Y (.str (Txt.join " " (crossT ⟨r.name, ((r.ends : Nat) : Int).toNat, ((r.pairs.map natP).map fun p => match p with
        | .nd .tup [.int a, .int b] => (a.toNat, b.toNat)
        | _ => (0, 0)), ((r.signs.map D.str).map fun s => match s with
        | .str x => x
        | _ => ("" : Str))⟩))) S' := hY
    rw [e2, e3, Int.toNat_natCast] at hY
    show dgName 2 r.d [some (townI C rows lanes), none, none, none] S' _
    have rok := ok.good.ok r hr
    have := rok.e1
    simp only [gname_e, set0, setS, call_e, cons_e, nil_e, blt_e, op_e, var_e, slot0, slotS, c_e]
    have ix1 : ∀ Q : DQ, oIx r.d (.int 1) S' Q = Q (natD r.ends) S' := fun Q => rfl
    rw [ix1]
    refine str_i (by omega) ?_
    exact ⟨r, rfl, rok, ok.sg r hr, hY⟩
  · have em : (rows.map RowS.d).map (fun d => match d with
      | .nd .tup [.str n, .int e, .nd .tup ps, .nd .tup ss] => .str (Txt.join " " (crossT ⟨n, e.toNat, ps.map fun p => match p with
        | .nd .tup [.int a, .int b] => (a.toNat, b.toNat)
        | _ => (0, 0), ss.map fun s => match s with
        | .str x => x
        | _ => ""⟩))
      | z => z) = (rows.map fun r => Txt.join " " (crossT r)).map D.str := by
      rw [List.map_map, List.map_map]
      refine List.map_congr_left fun r hr => ?_
      have e2 : ((r.pairs.map natP).map fun p => match p with
        | .nd .tup [.int a, .int b] => (a.toNat, b.toNat)
        | _ => (0, 0)) = r.pairs := by
        rw [List.map_map]
        exact List.map_id _
      have e3 : ((r.signs.map D.str).map fun s => match s with
        | .str x => x
        | _ => ("" : Str)) = r.signs := by
        rw [List.map_map]
        exact List.map_id _
      show D.str (Txt.join " " (crossT ⟨r.name, ((r.ends : Nat) : Int).toNat, ((r.pairs.map natP).map fun p => match p with
        | .nd .tup [.int a, .int b] => (a.toNat, b.toNat)
        | _ => (0, 0)), ((r.signs.map D.str).map fun s => match s with
        | .str x => x
        | _ => ("" : Str))⟩)) = _
      rw [e2, e3, Int.toNat_natCast]
      rfl
    rw [em]
    simp only [gname_e, set0, setS]
    subst hK
    rw [ret_e, bm_e, c_e, mtyp_s, true_and]
    simp only [cons_e, nil_e]
    rw [op_e, var_e, slotS, slot0]
    refine lc_src ?_
    rw [seqI_e, prop_e1, var_e, slot0]
    refine ⟨⟨_, _, rfl⟩, rows, lanes, rfl, ?_⟩
    show dLc (fun _ S R => R ⟨lanes.map laneD, fun _ => True⟩ S) _ _ _ _ _ _ _
    refine lc_map (fun d => match d with
      | .nd .tup [.nd .tup [.str a, .int e], .nd .tup [.str b, .int f]] => .str (Txt.join " " (streetT ((a, e.toNat), (b, f.toNat))))
      | z => z) (l := lanes.map laneD) (live := fun _ => True) (fun R hR => hR) (fun _ _ _ => trivial) (by rw [List.length_map]; show _ ≤ 2 ^ 24; omega) (fun z hz S' sub Y hY => ?_) ?_
    · obtain ⟨x, hx, rfl⟩ := List.mem_map.mp hz
      obtain ⟨a, b, c, d⟩ := n2 x hx
      show sp_line_of_street [laneD x] S' _
      refine ⟨x, rfl, a, b, c, d, ?_⟩
      have hY : Y (.str (Txt.join " " (streetT ((x.1.1, ((x.1.2 : Nat) : Int).toNat), (x.2.1, ((x.2.2 : Nat) : Int).toNat))))) S' := hY
      rw [Int.toNat_natCast, Int.toNat_natCast] at hY
      exact hY
    · have em : (lanes.map laneD).map (fun d => match d with
        | .nd .tup [.nd .tup [.str a, .int e], .nd .tup [.str b, .int f]] => .str (Txt.join " " (streetT ((a, e.toNat), (b, f.toNat))))
        | z => z) = (lanes.map fun x => Txt.join " " (streetT x)).map D.str := by
        rw [List.map_map, List.map_map]
        refine List.map_congr_left fun x hx => ?_
        show D.str (Txt.join " " (streetT ((x.1.1, ((x.1.2 : Nat) : Int).toNat), (x.2.1, ((x.2.2 : Nat) : Int).toNat)))) = _
        rw [Int.toNat_natCast, Int.toNat_natCast]
        rfl
      rw [em, add_ll, ← List.map_append]
      refine ⟨by rw [List.length_map, List.length_map, List.length_map, List.length_map]; show _ ≤ 2 ^ 24; omega, ?_⟩
      refine join_i (ps := townT rows lanes) (src := ⟨(townT rows lanes).map D.str, fun _ => True⟩) rfl rfl (lines_sum ok) ⟨_, Less.refl, q⟩
/-! UC: names and numbers read. -/
theorem num_facts : ∀ n, n < 100 → PySem.intText? (numT n) = some (n : Int) ∧ Txt.isascii (numT n) = true ∧ Txt.isdigit (numT n) = true ∧ (∃ c, L2.atI (numT n).cps.toList 0 = some c ∧ (n ≠ 0 → c ≠ 48)) ∧ (n = 0 ↔ numT n = "0") := by
  have h1 : ∀ n, n < 100 → PySem.intText? (numT n) = some (n : Int) := by decide +kernel
  have h2 : ∀ n, n < 100 → Txt.isascii (numT n) = true ∧ Txt.isdigit (numT n) = true := by decide +kernel
  have h3 : ∀ n, n < 100 → (L2.atI (numT n).cps.toList 0).isSome = true ∧ (n ≠ 0 → L2.atI (numT n).cps.toList 0 ≠ some 48) := by decide +kernel
  have h4 : ∀ n, n < 100 → (n = 0 ↔ numT n = "0") := by decide +kernel
  intro n hn
  refine ⟨h1 n hn, (h2 n hn).1, (h2 n hn).2, ?_, h4 n hn⟩
  obtain ⟨a, b⟩ := h3 n hn
  obtain ⟨c, hc⟩ := Option.isSome_iff_exists.mp a
  exact ⟨c, hc, fun z w => b z (by rw [hc, w])⟩
def sp_number_of : DSp := fun ds S Q => ∃ n : Nat, ds = [.str (numT n)] ∧ n < 100 ∧ Q (natD n) S
theorem one_zero {c : Nat} (h : (⟨#[c]⟩ : Str) = "0") : c = 48 := by
  have : ("0" : Str) = ⟨#[48]⟩ := by decide +kernel
  rw [this] at h
  simpa using h
theorem d_number_of (ds S Q) (h : sp_number_of ds S Q) : t_number_of (endsF Q) (startD N_number_of.length ds) S := by
  obtain ⟨n, rfl, hn, q⟩ := h
  obtain ⟨f1, f2, f3, ⟨c, f4, f5⟩, f6⟩ := num_facts n hn
  have nl := numT_len hn
  unfold t_number_of
  have e0 : startD N_number_of.length [.str (numT n)] = [some (.str (numT n))] := rfl
  rw [e0]
  refine seq_g fun K hK => ?_
  refine ifs_g fun T U hT hU => ?_
  simp only [or_e, not_e, and_e, tst_e, bm0_e, var_e, slot0, c_e, op_e, mtyp_s, true_and]
  have a1 : ∀ Q : DQ, mIsAscii (.str (numT n)) [] S Q = Q (.bl (Txt.isascii (numT n))) S := fun Q => rfl
  have a2 : ∀ Q : DQ, mIsDigit (.str (numT n)) [] S Q = Q (.bl (Txt.isdigit (numT n))) S := fun Q => rfl
  have a3 : ∀ Q : DQ, oIxS (.str (numT n)) (.int 0) S Q = ((numT n).length ≤ sizeLine ∧ match L2.atI (numT n).cps.toList 0 with
    | some c => Q (.str ⟨#[c]⟩) S
    | none => False) := fun Q => rfl
  have sl : (numT n).length ≤ sizeLine := by show _ ≤ 2 ^ 24; omega
  simp only [a1, a2, a3, f2, f3, f4, sl, true_and, Bool.not_true, Bool.false_eq_true, if_false, eq_ss]
  have fin : U [some (.str (numT n))] S := by
    subst hU
    show K _ _
    subst hK
    refine ret_i ?_
    refine blt1_i ?_
    exact ⟨n, f1, by omega, _, Less.refl, q⟩
  by_cases z : n = 0
  · have z0 := f6.mp z
    by_cases hc : ((⟨#[c]⟩ : Str) == "0") = true
    · simp only [hc, if_true, z0, beq_self_eq_true, Bool.not_true, Bool.false_eq_true, if_false]
      rw [z0] at fin
      exact fin
    · simp only [hc, if_false]
      exact fin
  · have hc : ¬ ((⟨#[c]⟩ : Str) == "0") = true := fun w => f5 z (one_zero (by simpa using w))
    simp only [hc, if_false]
    exact fin
def sp_name_of : DSp := fun ds S Q => ∃ x : Str, ds = [.str x] ∧ NameS x ∧ Q (.str x) S
theorem d_name_of (ds S Q) (h : sp_name_of ds S Q) : t_name_of sp_is_name (endsF Q) (startD N_name_of.length ds) S := by
  obtain ⟨x, rfl, hx, q⟩ := h
  exact ⟨x, rfl, hx, _, Less.refl, q⟩
def sp_names_of : DSp := fun ds S Q => ∃ ps : List Str, ds = [.str (wordN ps)] ∧ ps.length ≤ 100 ∧ (∀ p ∈ ps, NameS p) ∧ Q (.tup (ps.map D.str)) S
theorem split_len {y : Str} {k : Nat} {ps : List Str} (h : ∀ p ∈ ps, p.length ≤ k) (hk : k ≤ 1000) (hl : ps.length ≤ 100) (hy : y.length = 1) : (Txt.join y ps).length + 2 ≤ sizeLine := by
  have := join_len (y := y) h
  have e : (k + 1) * ps.length ≤ 1001 * 100 := Nat.mul_le_mul (by omega) hl
  rw [hy] at this
  show _ ≤ 2 ^ 24
  omega
theorem d_names_of (ds S Q) (h : sp_names_of ds S Q) : t_names_of sp_is_name (endsF Q) (startD N_names_of.length ds) S := by
  obtain ⟨ps, rfl, hl, hp, q⟩ := h
  unfold t_names_of
  have e0 : startD N_names_of.length [.str (wordN ps)] = [some (.str (wordN ps)), none, none] := rfl
  rw [e0]
  refine seq_g fun K hK => ?_
  refine ifs_g fun T U hT hU => ?_
  simp only [tst_e, op_e, var_e, slot0, c_e, eq_ss]
  by_cases z : ps = []
  · subst z
    have : ((wordN [] : Str) == "-") = true := by
      have : (wordN [] : Str) = "-" := if_pos rfl
      rw [this]
      exact beq_self_eq_true _
    simp only [this, if_true, Bool.false_eq_true, if_false]
    subst hT
    exact ⟨by decide, _, Less.refl, q⟩
  · have ne := wordN_ne z fun p h => name_head (hp p h)
    have ne2 : ((wordN ps : Str) == "-") = false := by simpa using ne
    simp only [ne2, Bool.false_eq_true, if_false]
    subst hU
    show K _ _
    subst hK
    refine seq_g fun K hK => ?_
    simp only [asg_e, blt_e, cons_e, nil_e, bm_e, var_e, slot0, c_e, mtyp_s, true_and]
    have wl : (wordN ps).length + 2 ≤ sizeLine := by
      unfold wordN
      rw [if_neg z]
      exact split_len (k := 8) (fun p h => name_len (hp p h)) (by omega) hl seps.2.2.2.2.2.2.2.2.1
    refine split_i (by rfl) wl ?_
    rw [tup_l, cut_comma z fun p h => name_free (hp p h) (by omega)]
    simp only [gname_e, set0, setS]
    subst hK
    rw [ret_e, if_e]
    show dTst _ _ _ _
    rw [tst_e, blt_e]
    simp only [cons_e, nil_e]
    refine lc_map (fun _ => .bl true) (l := ps.map D.str) (live := fun _ => True) (fun R hR => hR) (fun _ _ _ => trivial) (by rw [List.length_map]; show _ ≤ 2 ^ 24; omega) (fun d hd S' sub Y hY => ?_) ?_
    · obtain ⟨x, hx, rfl⟩ := List.mem_map.mp hd
      exact ⟨x, rfl, hp x hx, hY⟩
    · rw [List.map_map]
      refine all_true ?_
      exact ⟨_, Less.refl, q⟩
/-! UD: pairs and rows read. -/
theorem lc_mapB {β : Type} {ti : DTI} {g : DTG} {te : DTE} {vs : List Nat} {ρ : DSt} {S : DHp} {Q : DQ} (item vl : β → D) {l : List β} (hi : ∀ R : Src → DHp → Prop, R ⟨l.map item, fun _ => True⟩ S → ti ρ S R) (hz : l.length < 2 ^ 24)
    (hs : ∀ x ∈ l, ∀ S' : DHp, (∀ q u, S q = some u → S' q = some u) → ∀ Y : DQ, Y (vl x) S' → g (item x) (wipeD ρ vs) S' fun ρ2 S2 => te ρ2 S2 Y) (hq : Q (.lst (l.map vl)) S) : dLc ti g dYes te vs ρ S Q := hi _ fun p hp => comp1_app hp (by rw [List.length_nil]; omega) hs (by
    rw [List.nil_append]
    show Q _ (era _ _)
    rw [era_put hp]
    exact hq)
theorem eqd_non : (∀ x, eqD (.str x) .non = false) ∧ (∀ i, eqD (.int i) .non = false) ∧ (∀ ds, eqD (.nd .tup ds) .non = false) := by
  refine ⟨fun x => ?_, fun i => ?_, fun ds => ?_⟩
  · simp [eqD]
  · simp [eqD]
  · unfold eqD
    rfl
def sp_pairs_of (f : Addr) : DSp := fun ds S Q => ∃ l : List (Nat × Nat), ds = [.str (wordN (l.map pairT)), .ref f] ∧ l.length ≤ 100 ∧ (∀ x ∈ l, x.1 < 100 ∧ x.2 < 100) ∧ Q (.tup (l.map natP)) S
theorem callL_e {i : Nat} {f : Addr} {sp : DSp} {t : DTA} {ρ : DSt} {S : DHp} {Q : DQ} : dCallL i f sp t ρ S Q = (slot ρ i = some (.ref f) ∧ t ρ S fun ds S1 => sp ds S1 Q) := rfl
theorem d_pairs_of (f : Addr) (ds S Q) (h : sp_pairs_of f ds S Q) : t_pairs_of f sp_number_of (endsF Q) (startD N_pairs_of.length ds) S := by
  obtain ⟨l, rfl, hl, hp, q⟩ := h
  unfold t_pairs_of
  have e0 : startD N_pairs_of.length [.str (wordN (l.map pairT)), .ref f] = [some (.str (wordN (l.map pairT))), some (.ref f), none, none, none] := rfl
  rw [e0]
  refine seq_g fun K hK => ?_
  refine ifs_g fun T U hT hU => ?_
  simp only [tst_e, op_e, var_e, slot0, c_e, eq_ss]
  by_cases z : l = []
  · subst z
    have : ((wordN (([] : List (Nat × Nat)).map pairT) : Str) == "-") = true := by
      have : (wordN (([] : List (Nat × Nat)).map pairT) : Str) = "-" := if_pos rfl
      rw [this]
      exact beq_self_eq_true _
    simp only [this, if_true, Bool.false_eq_true, if_false]
    subst hT
    exact ⟨by decide, _, Less.refl, q⟩
  · have z2 : l.map pairT ≠ [] := by simpa using z
    have ne := wordN_ne z2 fun p h => by
      obtain ⟨x, hx, rfl⟩ := List.mem_map.mp h
      exact pairT_head
    have ne2 : ((wordN (l.map pairT) : Str) == "-") = false := by simpa using ne
    simp only [ne2, Bool.false_eq_true, if_false]
    subst hU
    show K _ _
    subst hK
    refine seq_g fun K hK => asg_i ?_
    refine lc_mapB (fun x => .str (pairT x)) natP (l := l) (fun R hR => ?_) (by show _ < 2 ^ 24; omega) (fun x hx S' sub Y hY => ?_) ?_
    · rw [seqI_e]
      simp only [bm_e, cons_e, nil_e, var_e, slot0, c_e, mtyp_s, true_and]
      have wl : (wordN (l.map pairT)).length + 2 ≤ sizeLine := by
        unfold wordN
        rw [if_neg z2]
        refine split_len (k := 5) (fun p h => ?_) (by omega) (by rw [List.length_map]; omega) seps.2.2.2.2.2.2.2.2.1
        obtain ⟨x, hx, rfl⟩ := List.mem_map.mp h
        exact pairT_len (hp x hx).1 (hp x hx).2
      refine split_i (by rfl) wl ?_
      rw [cut_comma z2 fun p h => by
        obtain ⟨x, hx, rfl⟩ := List.mem_map.mp h
        exact pairT_free (by omega), List.map_map]
      exact hR
    · obtain ⟨x1, x2⟩ := hp x hx
      show dBlt bTup _ [some (.str (wordN (l.map pairT))), some (.ref f), none, some (.str (pairT x)), none] S' Y
      simp only [blt_e, cons_e, nil_e]
      refine lc_mapB (fun n => .str (numT n)) natD (l := [x.1, x.2]) (fun R hR => ?_) (by show 2 < 2 ^ 24; decide) (fun n hn S2 sub2 Y2 hY2 => ?_) ?_
      · rw [seqI_e]
        simp only [bm_e, cons_e, nil_e, var_e, slot0, slotS, c_e, mtyp_s, true_and]
        have := pairT_len x1 x2
        refine split_i (by rfl) (by show _ ≤ 2 ^ 24; omega) ?_
        rw [cut_pair]
        exact hR
      · refine ⟨rfl, ?_⟩
        refine ⟨n, rfl, ?_, hY2⟩
        simp only [List.mem_cons, List.not_mem_nil, or_false] at hn
        rcases hn with rfl | rfl
        · exact x1
        · exact x2
      · rw [tup_l]
        exact hY
    · simp only [gname_e, set0, setS]
      subst hK
      rw [ret_e, if_e, tst_e, blt_e]
      simp only [cons_e, nil_e]
      refine lc_mapB natP (fun _ => .bl true) (l := l) (fun R hR => hR) (by show _ < 2 ^ 24; omega) (fun x hx S' sub Y hY => ?_) ?_
      · show dAndV _ _ [some (.str (wordN (l.map pairT))), some (.ref f), some (.lst (l.map natP)), some (natP x), none] S' Y
        have e2 : eqD (natD x.1) .non = false := eqd_non.2.1 _
        have e3 : eqD (natD x.2) .non = false := eqd_non.2.1 _
        simp only [andV_e, op_e, blt_e, cons_e, nil_e, var_e, slot0, slotS, c_e]
        rw [show natP x = .tup [natD x.1, natD x.2] from rfl, len_t]
        show oEq false (.int 2) (.int 2) S' _
        rw [eq_ii]
        show (okD .non = true ∧ okL [natD x.1, natD x.2] = true ∧ dep .non ≤ 64 ∧ depL [natD x.1, natD x.2] ≤ 63) ∧ Y (.bl (!([natD x.1, natD x.2].any fun z => eqD z .non))) S'
        refine ⟨⟨rfl, rfl, by decide, by show max 0 (max 0 0) ≤ 63; decide⟩, ?_⟩
        simp only [List.any_cons, List.any_nil, e2, e3, Bool.or_false, Bool.not_false]
        exact hY
      · refine all_true ?_
        exact ⟨_, Less.refl, q⟩
/-! UE: a town's rows read. -/
theorem ixw {a b c d e : D} {S : DHp} {Q : DQ} : oIx (.nd .lst [a, b, c, d, e]) (.int 0) S Q = Q a S ∧ oIx (.nd .lst [a, b, c, d, e]) (.int 1) S Q = Q b S ∧ oIx (.nd .lst [a, b, c, d, e]) (.int 2) S Q = Q c S ∧ oIx (.nd .lst [a, b, c, d, e]) (.int 3) S Q = Q d S ∧ oIx (.nd .lst [a, b, c, d, e]) (.int 4) S Q = Q e S := ⟨rfl, rfl, rfl, rfl, rfl⟩
theorem len5 {a b c d e : D} {S : DHp} {Q : DQ} : bLen [.nd .lst [a, b, c, d, e]] S Q = Q (.int 5) S := rfl
theorem two_words : (("crossing" : Str) == "crossing") = true ∧ (("street" : Str) == "crossing") = false ∧ (("street" : Str) == "street") = true := by decide +kernel
def sp_net_row (f : Addr) : DSp := fun ds S Q => (∃ r : RowS, ds = [.lst ((crossT r).map D.str), .ref f, .ref f] ∧ RowOk r ∧ r.signs.length < 64 ∧ Q r.d S) ∨ ∃ x : Stop × Stop, ds = [.lst ((streetT x).map D.str), .ref f, .ref f] ∧ NameS x.1.1 ∧ NameS x.2.1 ∧ x.1.2 < 100 ∧ x.2.2 < 100 ∧ Q (laneD x) S
theorem no_non {ds : List D} {S : DHp} {Q : DQ} (h1 : okL ds = true) (h2 : depL ds ≤ 63) (h3 : ∀ d ∈ ds, (∃ x, d = .str x) ∨ (∃ i, d = .int i) ∨ ∃ es, d = .nd .tup es) (q : Q (.bl false) S) : oIn false .non (.nd .tup ds) S Q := by
  refine ⟨⟨rfl, h1, by decide, h2⟩, ?_⟩
  have : (ds.any fun z => eqD z .non) = false := by
    rw [List.any_eq_false]
    intro d hd
    rcases h3 d hd with ⟨x, rfl⟩ | ⟨i, rfl⟩ | ⟨es, rfl⟩
    · rw [eqd_non.1]; simp
    · rw [eqd_non.2.1]; simp
    · rw [eqd_non.2.2]; simp
  show Q (.bl (ds.any fun z => eqD z .non)) S
  rw [this]
  exact q
theorem d_net_row (f : Addr) (ds S Q) (h : sp_net_row f ds S Q) : t_net_row f sp_number_of f sp_number_of sp_names_of (sp_pairs_of f) sp_name_of (endsF Q) (startD N_net_row.length ds) S := by
  obtain ⟨w1, w2, w3⟩ := two_words
  unfold t_net_row
  rcases h with ⟨r, rfl, ok, sg, q⟩ | ⟨x, rfl, n1, n2, e1, e2, q⟩
  · obtain ⟨pl, px, cl⟩ := row_facts ok sg
    have e0 : startD N_net_row.length [.lst ((crossT r).map D.str), .ref f, .ref f] = [some (.lst [.str "crossing", .str r.name, .str (numT r.ends), .str (wordN (r.pairs.map pairT)), .str (wordN r.signs)]), some (.ref f), some (.ref f), none] := rfl
    rw [e0]
    refine seq_g fun K hK => ?_
    refine ifs_g fun T U hT hU => ?_
    simp only [tst_e, op_e, blt_e, cons_e, nil_e, var_e, slot0, c_e, len5, eq_ii, if_true, beq_self_eq_true, Bool.not_true, Bool.false_eq_true, if_false]
    subst hU
    show K _ _
    subst hK
    refine seq_g fun K hK => ?_
    refine ifs_g fun T U hT hU => ?_
    simp only [tst_e, op_e, var_e, slot0, c_e, ixw, eq_ss, w1, Bool.false_eq_true, if_false, if_true]
    subst hT
    refine seq_g fun K hK => ?_
    simp only [asg_e, tup_e, cons_e, nil_e, call_e, callL_e, op_e, var_e, slot0, slotS, c_e, ixw]
    refine ⟨r.name, rfl, ok.nm, ?_⟩
    refine ⟨trivial, r.ends, rfl, by have := ok.e1; omega, ?_⟩
    refine ⟨r.pairs, rfl, by omega, px, ?_⟩
    refine ⟨r.signs, rfl, by omega, ok.sg.nm, ?_⟩
    refine ⟨by simp only [List.length_cons, List.length_nil]; decide, ?_⟩
    simp only [gname_e, set0, setS]
    subst hK
    rw [ret_e, if_e, tst_e, op_e]
    simp only [c_e, var_e, slotS, slot0]
    have o1 := row_ok ok
    have o2 := row_dep (r := r)
    refine no_non (ds := [.str r.name, natD r.ends, .tup (r.pairs.map natP), .tup (r.signs.map D.str)]) ?_ ?_ (fun d hd => ?_) ?_
    · have : okD r.d = okL [.str r.name, natD r.ends, .tup (r.pairs.map natP), .tup (r.signs.map D.str)] := by unfold RowS.d; rw [okD]
      rw [← this]
      exact o1
    · have : dep r.d = depL [.str r.name, natD r.ends, .tup (r.pairs.map natP), .tup (r.signs.map D.str)] + 1 := by unfold RowS.d; rw [dep]
      omega
    · simp only [List.mem_cons, List.not_mem_nil, or_false] at hd
      rcases hd with rfl | rfl | rfl | rfl
      · exact .inl ⟨_, rfl⟩
      · exact .inr (.inl ⟨_, rfl⟩)
      · exact .inr (.inr ⟨_, rfl⟩)
      · exact .inr (.inr ⟨_, rfl⟩)
    · exact ⟨_, Less.refl, q⟩
  · obtain ⟨⟨a, e⟩, ⟨b, g⟩⟩ := x
    have e0 : startD N_net_row.length [.lst ((streetT ((a, e), (b, g))).map D.str), .ref f, .ref f] = [some (.lst [.str "street", .str a, .str (numT e), .str b, .str (numT g)]), some (.ref f), some (.ref f), none] := rfl
    rw [e0]
    refine seq_g fun K hK => ?_
    refine ifs_g fun T U hT hU => ?_
    simp only [tst_e, op_e, blt_e, cons_e, nil_e, var_e, slot0, c_e, len5, eq_ii, if_true, beq_self_eq_true, Bool.not_true, Bool.false_eq_true, if_false]
    subst hU
    show K _ _
    subst hK
    refine seq_g fun K hK => ?_
    refine ifs_g fun T U hT hU => ?_
    simp only [tst_e, op_e, var_e, slot0, c_e, ixw, eq_ss, w2, Bool.false_eq_true, if_false]
    subst hU
    show K _ _
    subst hK
    refine seq_g fun K hK => ?_
    refine ifs_g fun T U hT hU => ?_
    simp only [tst_e, op_e, var_e, slot0, c_e, ixw, eq_ss, w3, Bool.false_eq_true, if_false, if_true]
    subst hT
    refine seq_g fun K hK => ?_
    simp only [asg_e, tup_e, cons_e, nil_e, call_e, callL_e, op_e, var_e, slot0, slotS, c_e, ixw]
    refine ⟨a, rfl, n1, ?_⟩
    refine ⟨trivial, e, rfl, e1, ?_⟩
    refine ⟨b, rfl, n2, ?_⟩
    refine ⟨trivial, g, rfl, e2, ?_⟩
    refine ⟨by simp only [List.length_cons, List.length_nil]; decide, ?_⟩
    simp only [gname_e, set0, setS]
    subst hK
    rw [ret_e, if_e, tst_e, op_e]
    simp only [c_e, var_e, slotS, slot0]
    have a1 : okD (.str a) = true := by rw [okD, name_ok n1]
    have b1 : okD (.str b) = true := by rw [okD, name_ok n2]
    refine no_non (ds := [.str a, natD e, .str b, natD g]) ?_ ?_ (fun d hd => ?_) ?_
    · simp only [okL, a1, b1]
      rfl
    · show max 0 (max 0 (max 0 (max 0 0))) ≤ 63
      decide
    · simp only [List.mem_cons, List.not_mem_nil, or_false] at hd
      rcases hd with rfl | rfl | rfl | rfl
      · exact .inl ⟨_, rfl⟩
      · exact .inr (.inl ⟨_, rfl⟩)
      · exact .inl ⟨_, rfl⟩
      · exact .inr (.inl ⟨_, rfl⟩)
    · exact ⟨by show 2 ≤ 2 ^ 24; decide, _, Less.refl, q⟩
def sp_row_of_town : DSp := fun ds S Q => (∃ r : RowS, ds = [.lst ((crossT r).map D.str)] ∧ RowOk r ∧ r.signs.length < 64 ∧ Q r.d S) ∨ ∃ x : Stop × Stop, ds = [.lst ((streetT x).map D.str)] ∧ NameS x.1.1 ∧ NameS x.2.1 ∧ x.1.2 < 100 ∧ x.2.2 < 100 ∧ Q (laneD x) S
theorem d_row_of_town (f : Addr) (ds S Q) (h : sp_row_of_town ds S Q) : t_row_of_town f (sp_net_row f) (endsF Q) (startD N_row_of_town.length ds) S := by
  rcases h with ⟨r, rfl, ok, sg, q⟩ | ⟨x, rfl, n1, n2, e1, e2, q⟩
  · exact .inl ⟨r, rfl, ok, sg, _, Less.refl, q⟩
  · exact .inr ⟨x, rfl, n1, n2, e1, e2, _, Less.refl, q⟩
def sp_lines_of : DSp := fun ds S Q => ∃ ps : List Str, ds = [.str (Txt.join "\n" ps)] ∧ ps ≠ [] ∧ (∀ p ∈ ps, 10 ∉ tl p) ∧ (Txt.join "\n" ps).length ≤ 300000 ∧ Q (.lst (ps.map D.str)) S
theorem d_lines_of (ds S Q) (h : sp_lines_of ds S Q) : t_lines_of (endsF Q) (startD N_lines_of.length ds) S := by
  obtain ⟨ps, rfl, ne, fr, ln, q⟩ := h
  unfold t_lines_of
  have e0 : startD N_lines_of.length [.str (Txt.join "\n" ps)] = [some (.str (Txt.join "\n" ps))] := rfl
  rw [e0]
  refine seq_g fun K hK => ?_
  refine ifs_g fun T U hT hU => ?_
  simp only [not_e, tst_e, blt_e, cons_e, nil_e, var_e, slot0, c_e]
  have bi : ∀ Q : DQ, Q (.bl true) S → bIsi [.str (Txt.join "\n" ps), .ty "str"] S Q := fun Q q => q
  refine bi _ ?_
  show U _ _
  subst hU
  show K _ _
  subst hK
  rw [ret_e]
  simp only [bm_e, cons_e, nil_e, var_e, slot0, c_e, mtyp_s, true_and]
  refine split_i (by rfl) (by show _ ≤ 2 ^ 24; omega) ?_
  rw [cut_lines ne fr]
  exact ⟨_, Less.refl, q⟩
/-! UF: the groups of a town's text. -/
theorem numD_cons {d : D} {ds : List D} {k : Nat} : numD k (d :: ds) = .tup [.int (k : Int), d] :: numD (k + 1) ds := rfl
theorem enum_e {te : DTE} {ρ : DSt} {S : DHp} {R : Src → DHp → Prop} : dEnum te ρ S R = te ρ S fun d S1 => match d with
  | .nd .lst ds => R ⟨numD 0 ds, fun _ => True⟩ S1
  | _ => False := rfl
theorem kget_e {tab : Str → Option Int} {te : DTE} {ρ : DSt} {S : DHp} {Q : DQ} : dKGet tab te ρ S Q = te ρ S fun x S1 => match x with
  | .str z => match tab z with
    | some i => Q (.int i) S1
    | none => False
  | _ => False := rfl
theorem grp_two : groupsN "crossing" = some 0 ∧ groupsN "street" = some 1 := by
  refine ⟨by decide +kernel, by decide +kernel⟩
def sp_groups_of (f : Addr) : DSp := fun ds S Q => ∃ (rows : List RowS) (lanes : List (Stop × Stop)), ds = [.str (textT rows lanes), .ref f] ∧ TownOk rows lanes ∧ Q (.lst [.tup (rows.map RowS.d), .tup (lanes.map laneD), .tup []]) S
/-- what is found so far -/
structure GrpI (rows : List RowS) (lanes : List (Stop × Stop)) (S : DHp) (p0 p1 p2 q : Addr) (t : D) (f : Addr) (l : List D) (ρ : DSt) (S' : DHp) : Prop where
  ex : ∃ (a ra : List RowS) (b rb : List (Stop × Stop)) (k : Nat) (i : Int) (x4 x5 x6 x7 x8 : Option D), rows = a ++ ra ∧ lanes = b ++ rb ∧ (ra ≠ [] → i = 0 ∧ b = []) ∧ (i = 0 ∨ i = 1) ∧ l = numD k ((townT ra rb).map D.str) ∧ ρ = [some t, some (.ref f), some (.ref q), some (.int i), x4, x5, x6, x7, x8] ∧ S' p0 = some (.lst, a.map RowS.d) ∧ S' p1 = some (.lst, b.map laneD)
  g2 : S' p2 = some (.lst, [])
  gq : S' q = some (.lst, [.ref p0, .ref p1, .ref p2])
  goff : Off S S' [p0, p1, p2, q]
theorem d_groups_of (f : Addr) (ds S Q) (h : sp_groups_of f ds S Q) : t_groups_of f sp_row_of_town sp_lines_of (endsF Q) (startD N_groups_of.length ds) S := by
  obtain ⟨rows, lanes, rfl, ok, qq⟩ := h
  obtain ⟨n1, n2, n3⟩ := town_lines ok
  obtain ⟨l1, l2⟩ := lane_facts ok
  have tl := text_len ok
  have fw := ok.good.few
  have tne : townT rows lanes ≠ [] := fun z => by
    have := ok.good.ne
    have : (townT rows lanes).length = 0 := by rw [z]; rfl
    unfold townT at this
    rw [List.length_append, List.length_map] at this
    omega
  unfold t_groups_of
  have e0 : startD N_groups_of.length [.str (textT rows lanes), .ref f] = [some (.str (textT rows lanes)), some (.ref f), none, none, none, none, none, none, none] := rfl
  rw [e0]
  refine seq_g fun K hK => ?_
  simp only [asg_e, lst_e, cons_e, nil_e]
  refine ⟨by show 0 ≤ 2 ^ 24; decide, fun p0 h0 => ⟨by show 0 ≤ 2 ^ 24; decide, fun p1 h1 => ⟨by show 0 ≤ 2 ^ 24; decide, fun p2 h2 => ⟨by show 3 ≤ 2 ^ 24; decide, fun q hq => ?_⟩⟩⟩⟩
  simp only [gname_e, set0, setS]
  have d10 : p1 ≠ p0 := fun z => by subst z; rw [put_same] at h1; cases h1
  have d21 : p2 ≠ p1 := fun z => by subst z; rw [put_same] at h2; cases h2
  have d20 : p2 ≠ p0 := fun z => by subst z; rw [put_ne d10.symm, put_same] at h2; cases h2
  have dq2 : q ≠ p2 := fun z => by subst z; rw [put_same] at hq; cases hq
  have dq1 : q ≠ p1 := fun z => by subst z; rw [put_ne d21.symm, put_same] at hq; cases hq
  have dq0 : q ≠ p0 := fun z => by subst z; rw [put_ne d20.symm, put_ne d10.symm, put_same] at hq; cases hq
  rw [put_ne d10] at h1
  rw [put_ne d21, put_ne d20] at h2
  rw [put_ne dq2, put_ne dq1, put_ne dq0] at hq
  subst hK
  refine seq_g fun K hK => ?_
  simp only [asg_e, c_e, gname_e, set0, setS]
  subst hK
  refine seq_g fun K hK => for_i ?_
  rw [enum_e]
  simp only [call_e, cons_e, nil_e, var_e, slot0]
  refine ⟨townT rows lanes, rfl, tne, n3, by show (textT rows lanes).length ≤ _; omega, ?_⟩
  refine forD_ind (GrpI rows lanes S p0 p1 p2 q (.str (textT rows lanes)) f) (fun _ _ _ _ => trivial) (fun ρ S' h => ?_) (fun d l ρ S' h Kn hKn => ?_) ?_
  · obtain ⟨⟨a, ra, b, rb, k, i, x4, x5, x6, x7, x8, ea, eb, _, _, el, rfl, s0, s1⟩, s2, sq, off⟩ := h
    have er : townT ra rb = [] := by
      cases e : townT ra rb with
      | nil => rfl
      | cons z zs => rw [e, List.map_cons, numD_cons] at el; cases el
    unfold townT at er
    obtain ⟨er1, er2⟩ := List.append_eq_nil_iff.mp er
    have er1 : ra = [] := by simpa using er1
    have er2 : rb = [] := by simpa using er2
    subst er1 er2
    rw [List.append_nil] at ea eb
    subst ea eb
    show K _ _
    subst hK
    rw [ret_e]
    refine lc_map (fun d => match d with
      | .ref p => match S' p with
        | some (_, ds) => .tup ds
        | none => d
      | d => d) (l := [.ref p0, .ref p1, .ref p2]) (live := fun S2 => S2 q = some (.lst, [.ref p0, .ref p1, .ref p2])) (fun R hR => ?_) (fun p o hp => ?_) (by show 3 ≤ 2 ^ 24; decide) (fun z hz S2 sub Y hY => ?_) ?_
    · rw [seqI_e]
      simp only [var_e, slot0, slotS, itemsOf, sq]
      exact hR
    · have : q ≠ p := fun z => by rw [← z, sq] at hp; cases hp
      rw [put_ne this]
      exact sq
    · simp only [List.mem_cons, List.not_mem_nil, or_false] at hz
      rcases hz with rfl | rfl | rfl
      · simp only [s0] at hY
        show bTup [.ref p0] S2 Y
        rw [tup_r, sub _ _ s0]
        exact hY
      · simp only [s1] at hY
        show bTup [.ref p1] S2 Y
        rw [tup_r, sub _ _ s1]
        exact hY
      · simp only [s2] at hY
        show bTup [.ref p2] S2 Y
        rw [tup_r, sub _ _ s2]
        exact hY
    · simp only [List.map_cons, List.map_nil, s0, s1, s2]
      refine ⟨S, fun x o e => ?_, qq⟩
      have hx : x ∉ [p0, p1, p2, q] := fun m => by
        simp only [List.mem_cons, List.not_mem_nil, or_false] at m
        rcases m with rfl | rfl | rfl | rfl
        · rw [h0] at e; cases e
        · rw [h1] at e; cases e
        · rw [h2] at e; cases e
        · rw [hq] at e; cases e
      rw [off x hx]
      exact e
  · obtain ⟨⟨a, ra, b, rb, k, i, x4, x5, x6, x7, x8, ea, eb, hi, hi2, el, rfl, s0, s1⟩, s2, sq, off⟩ := h
    cases ra with
    | cons r ra =>
      obtain ⟨rfl, rfl⟩ := hi (by simp)
      have hr : r ∈ rows := by rw [ea]; simp
      have rok := ok.good.ok r hr
      have rsg := ok.sg r hr
      have e1 : (townT (r :: ra) rb).map D.str = .str (Txt.join " " (crossT r)) :: (townT ra rb).map D.str := rfl
      rw [e1, numD_cons] at el
      obtain ⟨rfl, rfl⟩ := List.cons.inj el
      refine tup2_e ?_
      simp only [set0, setS]
      refine seq_g fun K2 hK2 => ?_
      simp only [asg_e, bm_e, cons_e, nil_e, var_e, slot0, slotS, c_e, mtyp_s, true_and]
      have ll := line_len rok rsg
      refine split_i (by rfl) (by show _ ≤ 2 ^ 24; omega) ?_
      rw [cut_blank (by unfold crossT; simp) (crossT_free rok (by omega))]
      simp only [gname_e, set0, setS]
      subst hK2
      refine seq_g fun K2 hK2 => ?_
      simp only [asg_e, callL_e, cons_e, nil_e, var_e, slot0, slotS]
      refine ⟨trivial, .inl ⟨r, rfl, rok, rsg, ?_⟩⟩
      simp only [gname_e, set0, setS]
      subst hK2
      refine seq_g fun K2 hK2 => ?_
      refine ifs_g fun T U hT hU => ?_
      have ew : (crossT r).map D.str = [.str "crossing", .str r.name, .str (numT r.ends), .str (wordN (r.pairs.map pairT)), .str (wordN r.signs)] := rfl
      rw [ew]
      have nn : ∀ Q : DQ, oIs false r.d .non S' Q = Q (.bl false) S' := fun Q => rfl
      simp only [or_e, tst_e, op_e, kget_e, var_e, slot0, slotS, c_e, nn, ixw, grp_two, cmp_ii, Int.lt_irrefl, decide_false, Bool.false_eq_true, if_false]
      show U _ _
      subst hU
      show K2 _ _
      subst hK2
      refine seq_g fun K2 hK2 => ?_
      simp only [asg_e, kget_e, op_e, var_e, slot0, slotS, c_e, ixw, grp_two, gname_e, set0, setS]
      subst hK2
      rw [drop_e, bm_e, op_e]
      simp only [var_e, slot0, slotS]
      rw [ix_r, sq]
      simp only [at_0]
      rw [mtyp_r, s0]
      simp only [true_and, cons_e, nil_e, var_e, slot0, slotS]
      rw [append_r, s0]
      have el2 : rows.length = a.length + (ra.length + 1) := by rw [ea, List.length_append, List.length_cons]
      refine ⟨by rw [List.length_map]; show _ < 2 ^ 24; omega, ?_⟩
      refine hKn _ _ ⟨⟨a ++ [r], ra, [], rb, k + 1, 0, _, _, _, _, _, by rw [ea]; simp, eb, fun _ => ⟨rfl, rfl⟩, .inl rfl, rfl, rfl, ?_, ?_⟩, ?_, ?_, ?_⟩
      · rw [put_same, List.map_append]; rfl
      · rw [put_ne d10]; exact s1
      · rw [put_ne d20]; exact s2
      · rw [put_ne dq0]; exact sq
      · exact off.put (by simp)
    | nil =>
      cases rb with
      | nil => cases el
      | cons x rb =>
        have hx : x ∈ lanes := by rw [eb]; simp
        obtain ⟨m1, m2, m3, m4⟩ := l2 x hx
        have e1 : (townT [] (x :: rb)).map D.str = .str (Txt.join " " (streetT x)) :: (townT [] rb).map D.str := rfl
        rw [e1, numD_cons] at el
        obtain ⟨rfl, rfl⟩ := List.cons.inj el
        refine tup2_e ?_
        simp only [set0, setS]
        refine seq_g fun K2 hK2 => ?_
        simp only [asg_e, bm_e, cons_e, nil_e, var_e, slot0, slotS, c_e, mtyp_s, true_and]
        have ll := lane_len m1 m2 m3 m4
        refine split_i (by rfl) (by show _ ≤ 2 ^ 24; omega) ?_
        rw [cut_blank (by unfold streetT; simp) (streetT_free m1 m2 (by omega))]
        simp only [gname_e, set0, setS]
        subst hK2
        refine seq_g fun K2 hK2 => ?_
        simp only [asg_e, callL_e, cons_e, nil_e, var_e, slot0, slotS]
        refine ⟨trivial, .inr ⟨x, rfl, m1, m2, m3, m4, ?_⟩⟩
        simp only [gname_e, set0, setS]
        subst hK2
        refine seq_g fun K2 hK2 => ?_
        refine ifs_g fun T U hT hU => ?_
        have ew : (streetT x).map D.str = [.str "street", .str x.1.1, .str (numT x.1.2), .str x.2.1, .str (numT x.2.2)] := rfl
        rw [ew]
        have nn : ∀ Q : DQ, oIs false (laneD x) .non S' Q = Q (.bl false) S' := fun Q => rfl
        have ni : decide ((1 : Int) < i) = false := by
          rcases hi2 with rfl | rfl <;> decide
        simp only [or_e, tst_e, op_e, kget_e, var_e, slot0, slotS, c_e, nn, ixw, grp_two, cmp_ii, ni, Bool.false_eq_true, if_false]
        show U _ _
        subst hU
        show K2 _ _
        subst hK2
        refine seq_g fun K2 hK2 => ?_
        simp only [asg_e, kget_e, op_e, var_e, slot0, slotS, c_e, ixw, grp_two, gname_e, set0, setS]
        subst hK2
        rw [drop_e, bm_e, op_e]
        simp only [var_e, slot0, slotS]
        rw [ix_r, sq]
        simp only [at_1]
        rw [mtyp_r, s1]
        simp only [true_and, cons_e, nil_e, var_e, slot0, slotS]
        rw [append_r, s1]
        have el2 : lanes.length = b.length + (rb.length + 1) := by rw [eb, List.length_append, List.length_cons]
        refine ⟨by rw [List.length_map]; show _ < 2 ^ 24; omega, ?_⟩
        refine hKn _ _ ⟨⟨a, [], b ++ [x], rb, k + 1, 1, _, _, _, _, _, ea, by rw [eb]; simp, fun z => absurd rfl z, .inr rfl, rfl, rfl, ?_, ?_⟩, ?_, ?_, ?_⟩
        · rw [put_ne d10.symm]; exact s0
        · rw [put_same, List.map_append]; rfl
        · rw [put_ne d21]; exact s2
        · rw [put_ne dq1]; exact sq
        · exact off.put (by simp)
  · refine ⟨⟨[], rows, [], lanes, 0, 0, none, none, none, none, none, rfl, rfl, fun _ => ⟨rfl, rfl⟩, .inl rfl, rfl, rfl, ?_, ?_⟩, ?_, ?_, ?_⟩
    · rw [put_ne dq0.symm, put_ne d20.symm, put_ne d10.symm, put_same]
      rfl
    · rw [put_ne dq1.symm, put_ne d21.symm, put_same]
      rfl
    · rw [put_ne dq2.symm, put_same]
    · rw [put_same]
    · exact ((((Off.refl.put (by simp)).put (by simp)).put (by simp)).put (by simp))
/-! UG: a town read; equal towns; the law's own lines. -/
theorem unl3_e {i j k : Nat} {a b c : D} {ρ : DSt} {S : DHp} {R : DSt → DHp → Prop} (h : R (((ρ.set i (some a)).set j (some b)).set k (some c)) S) : dgUnl 3 (dgCons (dgName i) (dgCons (dgName j) (dgCons (dgName k) dgNil))) (.nd .lst [a, b, c]) ρ S R := ⟨rfl, h⟩
def sp_read_town (C : Addr) : DSp := fun ds S Q => ∃ (rows : List RowS) (lanes : List (Stop × Stop)), ds = [.str (textT rows lanes)] ∧ TownOk rows lanes ∧ Q (townI C rows lanes) S
theorem era_twice {S : DHp} {p : Addr} {o u : Nd × List D} (h : S p = none) : era (put (put S p o) p u) p = S := by
  funext a
  by_cases ha : a = p
  · subst ha
    rw [h]
    unfold era
    simp
  · rw [era_ne ha, put_ne ha, put_ne ha]
theorem d_read_town (C f : Addr) (ds S Q) (h : sp_read_town C ds S Q) : t_read_town C f (sp_groups_of f) (sp_Town_init C) (endsF Q) (startD N_read_town.length ds) S := by
  obtain ⟨rows, lanes, rfl, ok, q⟩ := h
  unfold t_read_town
  have e0 : startD N_read_town.length [.str (textT rows lanes)] = [some (.str (textT rows lanes)), none, none, none] := rfl
  rw [e0]
  refine seq_g fun K hK => ?_
  simp only [asg_e, call_e, cons_e, nil_e, var_e, slot0, c_e]
  refine ⟨rows, lanes, rfl, ok, ?_⟩
  refine unl3_e ?_
  simp only [set0, setS]
  subst hK
  rw [ret_e, make_e]
  simp only [cons_e, nil_e, var_e, slot0, slotS]
  intro p hp
  refine ⟨p, rows, lanes, rfl, ok, put_same, rfl, fldsT, _, put_same, ?_⟩
  rw [era_twice hp]
  exact ⟨_, Less.refl, q⟩
theorem lanes_data {rows : List RowS} {lanes : List (Stop × Stop)} (ok : TownOk rows lanes) : okL (lanes.map laneD) = true ∧ depL (lanes.map laneD) ≤ 8 ∧ eqL (lanes.map laneD) (lanes.map laneD) = true := by
  obtain ⟨_, l2⟩ := lane_facts ok
  have P : ∀ x ∈ lanes, (NameS x.1.1 ∧ True) ∧ (NameS x.2.1 ∧ True) := fun x hx => ⟨⟨(l2 x hx).1, trivial⟩, ⟨(l2 x hx).2.1, trivial⟩⟩
  refine ⟨okL_all fun z hz => ?_, depL_all fun z hz => ?_, eqL_refl fun z hz => ?_⟩ <;> obtain ⟨x, hx, rfl⟩ := List.mem_map.mp hz
  · exact emb_lane.ok (P x hx)
  · exact emb_lane.dp (P x hx)
  · exact (emb_lane.eq_ (P x hx) (P x hx)).mpr rfl
theorem eq_town {rows : List RowS} {lanes : List (Stop × Stop)} (ok : TownOk rows lanes) {S : DHp} {Q : DQ} : (Q (.bl true) S → oEq false (.tup (rows.map RowS.d)) (.tup (rows.map RowS.d)) S Q) ∧ (Q (.bl true) S → oEq false (.tup (lanes.map laneD)) (.tup (lanes.map laneD)) S Q) := by
  obtain ⟨a1, a2, a3⟩ := lanes_data ok
  have b1 := rows_okL fun r hr => ok.good.ok r hr
  have b2 := rows_dep (rows := rows)
  have b3 : eqL (rows.map RowS.d) (rows.map RowS.d) = true := eqL_refl fun z hz => by
    obtain ⟨r, _, rfl⟩ := List.mem_map.mp hz
    exact eqD_refl_row r
  have c1 : dep (.nd .tup (rows.map RowS.d)) ≤ 64 := by rw [dep]; omega
  have c2 : dep (.nd .tup (lanes.map laneD)) ≤ 64 := by rw [dep]; omega
  refine ⟨fun q => ?_, fun q => ?_⟩
  · rw [eq_tt]
    refine ⟨⟨b1, b1, c1, c1⟩, ?_⟩
    rw [b3]
    exact q
  · rw [eq_tt]
    refine ⟨⟨a1, a1, c2, c2⟩, ?_⟩
    rw [a3]
    exact q
def sp_Town_eq (C : Addr) : DSp := fun ds S Q => ∃ (rows : List RowS) (lanes : List (Stop × Stop)), ds = [townI C rows lanes, townI C rows lanes] ∧ TownOk rows lanes ∧ Q (.bl true) S
theorem d_Town_eq (C : Addr) (ds S Q) (h : sp_Town_eq C ds S Q) : t_Town_eq C (endsF Q) (startD N_Town_eq.length ds) S := by
  obtain ⟨rows, lanes, rfl, ok, q⟩ := h
  unfold t_Town_eq
  have e0 : startD N_Town_eq.length [townI C rows lanes, townI C rows lanes] = [some (townI C rows lanes), some (townI C rows lanes)] := rfl
  rw [e0]
  simp only [ret_e, andV_e, blt_e, cons_e, nil_e, op_e, fld_e, var_e, slot0, slotS, c_e, ins_town, look_fields, true_and]
  refine ⟨rfl, .inl ⟨⟨_, _, rfl⟩, ?_⟩⟩
  exact (eq_town ok).1 ((eq_town ok).2 ⟨_, Less.refl, q⟩)
theorem len_pos {ps : List Str} {S : DHp} {Q : DQ} {k : Nd} (hk : k = .tup ∨ k = .lst) : bLen [.nd k (ps.map D.str)] S Q = Q (.int ps.length) S := by
  rcases hk with rfl | rfl
  · rw [len_t, List.length_map]
  · rw [len_l, List.length_map]
def sp__law_parts_word : DSp := sp_in_one_word
theorem d__law_parts_word (ds S Q) (h : sp__law_parts_word ds S Q) : t__law_parts_word (endsF Q) (startD N__law_parts_word.length ds) S := by
  obtain ⟨ps, e, few, len, q⟩ := h
  have sm := sum_le len
  have c1 := seps.2.2.2.2.2.2.2.2.1
  have szj : (ps.map (·.length)).sum + ps.length * ("," : Str).length ≤ 16777216 := by rw [c1]; omega
  have key : ∀ k : Nd, k = .tup ∨ k = .lst → t__law_parts_word (endsF Q) [some (.nd k (ps.map D.str))] S := fun k hk => by
    unfold t__law_parts_word
    simp only [ret_e, if_e, tst_e, op_e, blt_e, cons_e, nil_e, var_e, slot0, c_e]
    rw [len_pos hk]
    simp only [cmp_ii]
    by_cases c : ps = []
    · subst c
      have e2 : wordN [] = ("-" : Str) := if_pos rfl
      rw [e2] at q
      exact ⟨_, Less.refl, q⟩
    · have lp := List.length_pos_iff.mpr c
      have d1 : decide ((0 : Int) < (ps.length : Int)) = true := decide_eq_true (by omega)
      simp only [d1, if_true, bm_e, c_e, mtyp_s, true_and, cons_e, nil_e, var_e, slot0]
      have e2 : wordN ps = Txt.join "," ps := if_neg c
      rw [e2] at q
      rcases hk with rfl | rfl
      · exact join_i (src := ⟨ps.map D.str, fun _ => True⟩) rfl rfl szj ⟨_, Less.refl, q⟩
      · exact join_i (src := ⟨ps.map D.str, fun _ => True⟩) rfl rfl szj ⟨_, Less.refl, q⟩
  rcases e with rfl | rfl
  · exact key _ (.inl rfl)
  · exact key _ (.inr rfl)
/-! UH: the law's own lines of a town. -/
def sp__law_net_lines : DSp := fun ds S Q => ∃ (rows : List RowS) (lanes : List (Stop × Stop)), ds = [.tup (rows.map RowS.d), .tup (lanes.map laneD)] ∧ TownOk rows lanes ∧ Q (.lst ((townT rows lanes).map D.str)) S
/-- the lines so far: of rows -/
structure LinR (rows : List RowS) (lanes : List (Stop × Stop)) (S : DHp) (q : Addr) (l : List D) (ρ : DSt) (S' : DHp) : Prop where
  ex : ∃ (a ra : List RowS) (x3 x4 x5 x6 x7 x8 x9 x10 : Option D), rows = a ++ ra ∧ l = ra.map RowS.d ∧ ρ = [some (.tup (rows.map RowS.d)), some (.tup (lanes.map laneD)), some (.ref q), x3, x4, x5, x6, x7, x8, x9, x10] ∧ S' = put S q (.lst, (a.map fun r => Txt.join " " (crossT r)).map D.str)
structure LinS (rows : List RowS) (lanes : List (Stop × Stop)) (S : DHp) (q : Addr) (l : List D) (ρ : DSt) (S' : DHp) : Prop where
  ex : ∃ (b rb : List (Stop × Stop)) (x3 x4 x5 x6 x7 x8 x9 x10 : Option D), lanes = b ++ rb ∧ l = rb.map laneD ∧ ρ = [some (.tup (rows.map RowS.d)), some (.tup (lanes.map laneD)), some (.ref q), x3, x4, x5, x6, x7, x8, x9, x10] ∧ S' = put S q (.lst, (townT rows b).map D.str)
theorem int_tup {n : Nat} {S : DHp} {Q : DQ} : bIsi [natD n, .ty "tuple"] S Q = Q (.bl false) S := rfl
theorem d__law_net_lines (ds S Q) (h : sp__law_net_lines ds S Q) : t__law_net_lines sp__law_parts_word (endsF Q) (startD N__law_net_lines.length ds) S := by
  obtain ⟨rows, lanes, rfl, ok, qq⟩ := h
  obtain ⟨n1, n2, n3⟩ := town_lines ok
  obtain ⟨l1, l2⟩ := lane_facts ok
  have fw := ok.good.few
  have c2 := seps.2.2.2.2.2.2.2.2.2.1
  have c3 := seps.2.2.2.2.2.2.2.2.2.2.1
  unfold t__law_net_lines
  have e0 : startD N__law_net_lines.length [.tup (rows.map RowS.d), .tup (lanes.map laneD)] = [some (.tup (rows.map RowS.d)), some (.tup (lanes.map laneD)), none, none, none, none, none, none, none, none, none] := rfl
  rw [e0]
  refine seq_g fun K hK => ?_
  simp only [asg_e, lst_e, nil_e]
  refine ⟨by show 0 ≤ 2 ^ 24; decide, fun q hq => ?_⟩
  simp only [gname_e, set0, setS]
  subst hK
  refine seq_g fun K hK => for_i ?_
  rw [seqI_e]
  simp only [var_e, slot0]
  show forD (fun _ => True) _ _ _ (rows.map RowS.d) _ _
  refine forD_ind (LinR rows lanes S q) (fun _ _ _ _ => trivial) (fun ρ S' h => ?_) (fun d l ρ S' h Kn hKn => ?_) ⟨⟨[], rows, none, none, none, none, none, none, none, none, rfl, rfl, rfl, rfl⟩⟩
  · obtain ⟨a, ra, x3, x4, x5, x6, x7, x8, x9, x10, ea, el, rfl, rfl⟩ := h.ex
    have er : ra = [] := by simpa using el.symm
    subst er
    rw [List.append_nil] at ea
    subst ea
    show K _ _
    subst hK
    refine seq_g fun K hK => for_i ?_
    rw [seqI_e]
    simp only [var_e, slot0, slotS]
    show forD (fun _ => True) _ _ _ (lanes.map laneD) _ _
    refine forD_ind (LinS rows lanes S q) (fun _ _ _ _ => trivial) (fun ρ S' h => ?_) (fun d l ρ S' h Kn hKn => ?_) ⟨⟨[], lanes, _, _, _, _, _, _, _, _, rfl, rfl, rfl, by unfold townT; rw [List.map_nil, List.append_nil]⟩⟩
    · obtain ⟨b, rb, x3, x4, x5, x6, x7, x8, x9, x10, eb, el, rfl, rfl⟩ := h.ex
      have er : rb = [] := by simpa using el.symm
      subst er
      rw [List.append_nil] at eb
      subst eb
      show K _ _
      subst hK
      rw [ret_e]
      refine frzv_i rfl put_same ?_
      rw [era_put hq]
      exact ⟨_, Less.refl, qq⟩
    · obtain ⟨b, rb, x3, x4, x5, x6, x7, x8, x9, x10, eb, el, rfl, rfl⟩ := h.ex
      cases rb with
      | nil => cases el
      | cons x rb =>
        rw [List.map_cons] at el
        obtain ⟨rfl, rfl⟩ := List.cons.inj el
        obtain ⟨m1, m2, m3, m4⟩ := l2 x (by rw [eb]; simp)
        obtain ⟨⟨u, e⟩, ⟨v, g⟩⟩ := x
        refine tup2_e ?_
        simp only [set0, setS]
        rw [drop_e, bm_e, var_e]
        simp only [slot0, slotS]
        rw [mtyp_r, put_same]
        simp only [true_and, cons_e, nil_e, bm_e, c_e, mtyp_s, lstF_e, op_e, blt_e, var_e, slot0, slotS, stop_0, stop_1]
        refine str_i m3 ?_
        refine str_i m4 ?_
        refine ⟨by show 5 ≤ 2 ^ 24; decide, ?_⟩
        refine join_i (ps := streetT ((u, e), (v, g))) (src := ⟨(streetT ((u, e), (v, g))).map D.str, fun _ => True⟩) rfl rfl ?_ ?_
        · have := sum_le (street_len m1 m2 m3 m4)
          have e5 : (streetT ((u, e), (v, g))).length = 5 := rfl
          rw [c3]
          omega
        · rw [append_r, put_same]
          have lb : lanes.length = b.length + (rb.length + 1) := by rw [eb, List.length_append, List.length_cons]
          refine ⟨by rw [List.length_map]; unfold townT; rw [List.length_append, List.length_map, List.length_map]; show _ < 2 ^ 24; omega, ?_⟩
          refine hKn _ _ ⟨b ++ [((u, e), (v, g))], rb, _, _, _, _, _, _, _, _, by rw [eb]; simp, rfl, rfl, ?_⟩
          rw [put_put]
          have e6 : townT rows (b ++ [((u, e), (v, g))]) = townT rows b ++ [Txt.join " " (streetT ((u, e), (v, g)))] := by unfold townT; rw [List.map_append, ← List.append_assoc]; rfl
          rw [e6, List.map_append]
          rfl
  · obtain ⟨a, ra, x3, x4, x5, x6, x7, x8, x9, x10, ea, el, rfl, rfl⟩ := h.ex
    cases ra with
    | nil => cases el
    | cons r ra =>
      rw [List.map_cons] at el
      obtain ⟨rfl, rfl⟩ := List.cons.inj el
      have hr : r ∈ rows := by rw [ea]; simp
      have rok := ok.good.ok r hr
      have rsg := ok.sg r hr
      obtain ⟨pl, px, cl⟩ := row_facts rok rsg
      have re := rok.e1
      unfold RowS.d
      refine tup4_e ?_
      simp only [set0, setS]
      refine seq_g fun K2 hK2 => ?_
      rw [asg_e, if_e, tst_e, blt_e]
      simp only [cons_e, nil_e, var_e, slot0, slotS, c_e]
      rw [int_tup]
      simp only [Bool.false_eq_true, if_false, blt_e, cons_e, nil_e, var_e, slot0, slotS]
      refine str_i (by omega) ?_
      simp only [gname_e, set0, setS]
      subst hK2
      refine seq_g fun K2 hK2 => ?_
      rw [asg_e, call_e]
      simp only [cons_e, nil_e]
      refine lc_mapB natP (fun x => .str (pairT x)) (l := r.pairs) (fun R hR => hR) (by show _ < 2 ^ 24; omega) (fun x hx S' sub Y hY => ?_) ?_
      · obtain ⟨y1, y2⟩ := px x hx
        refine tup2_e ?_
        simp only [wipeD, set0, setS]
        simp only [op_e, blt_e, cons_e, nil_e, var_e, slot0, slotS, c_e]
        refine str_i y1 ?_
        rw [add_ss]
        refine ⟨?_, str_i y2 ?_⟩
        · have := numT_len y1
          show _ ≤ 2 ^ 24
          omega
        · rw [add_ss]
          refine ⟨?_, hY⟩
          rw [app_len]
          have := numT_len y1
          have := numT_len y2
          show _ ≤ 2 ^ 24
          omega
      · refine ⟨r.pairs.map pairT, .inr (by rw [List.map_map]; rfl), by rw [List.length_map]; omega, fun p hp => ?_, ?_⟩
        · obtain ⟨x, hx', rfl⟩ := List.mem_map.mp hp
          have := pairT_len (px x hx').1 (px x hx').2
          omega
        · simp only [gname_e, set0, setS]
          subst hK2
          rw [drop_e, bm_e, var_e]
          simp only [slot0, slotS]
          rw [mtyp_r, put_same]
          simp only [true_and, cons_e, nil_e, bm_e, c_e, mtyp_s, lstF_e, call_e, var_e, slot0, slotS]
          refine ⟨r.signs, .inl rfl, by omega, fun p hp => by have := name_len (rok.sg.nm p hp); omega, ?_⟩
          refine ⟨by show 5 ≤ 2 ^ 24; decide, ?_⟩
          refine join_i (ps := crossT r) (src := ⟨(crossT r).map D.str, fun _ => True⟩) rfl rfl ?_ ?_
          · have := sum_le cl
            rw [c3]
            have e5 : (crossT r).length = 5 := rfl
            omega
          · rw [append_r, put_same]
            have lb : rows.length = a.length + (ra.length + 1) := by rw [ea, List.length_append, List.length_cons]
            refine ⟨by rw [List.length_map, List.length_map]; show _ < 2 ^ 24; omega, ?_⟩
            refine hKn _ _ ⟨a ++ [r], ra, _, _, _, _, _, _, _, _, by rw [ea]; simp, rfl, rfl, ?_⟩
            rw [put_put, List.map_append, List.map_append]
            rfl
/-! UI: mirrored twice. -/
section
variable {κ : Type} {P : κ → Prop} {f : κ → D} {lt : κ → κ → Bool}
theorem srt_ext (e : Emb P f lt) : ∀ {l m : List κ}, (∀ x ∈ l, P x) → (∀ x ∈ m, P x) → l.Pairwise (fun a b => lt a b = true) → m.Pairwise (fun a b => lt a b = true) → (∀ x, x ∈ l ↔ x ∈ m) → l = m
  | [], [], _, _, _, _, _ => rfl
  | [], y :: m, _, _, _, _, h => by have := (h y).mpr (by simp); cases this
  | x :: l, [], _, _, _, _, h => by have := (h x).mp (by simp); cases this
  | x :: l, y :: m, p1, p2, h1, h2, h => by
    obtain ⟨a1, a2⟩ := List.pairwise_cons.mp h1
    obtain ⟨b1, b2⟩ := List.pairwise_cons.mp h2
    have px := p1 x (by simp)
    have py := p2 y (by simp)
    have exy : x = y := by
      rcases List.mem_cons.mp ((h x).mp (by simp)) with z | z
      · exact z
      · rcases List.mem_cons.mp ((h y).mpr (by simp)) with w | w
        · exact w.symm
        · have := e.tr px py px (a1 y w) (b1 x z)
          rw [e.irr px] at this
          cases this
    subst exy
    have t : l = m := srt_ext e (fun z hz => p1 z (by simp [hz])) (fun z hz => p2 z (by simp [hz])) a2 b2 fun z => by
      refine ⟨fun hz => ?_, fun hz => ?_⟩
      · rcases List.mem_cons.mp ((h z).mp (by simp [hz])) with w | w
        · subst w
          have := a1 z hz
          rw [e.irr px] at this
          cases this
        · exact w
      · rcases List.mem_cons.mp ((h z).mpr (by simp [hz])) with w | w
        · subst w
          have := b1 z hz
          rw [e.irr px] at this
          cases this
        · exact w
    rw [t]
def mirG (lt : κ → κ → Bool) (lp : κ × κ → κ × κ → Bool) (g : κ → κ) (l : List (κ × κ)) : List (κ × κ) := msN lp 6 ((l.map fun x => (g x.1, g x.2)).map fun x => twoK lt x.1 x.2)
theorem mirG_mem {lp : κ × κ → κ × κ → Bool} {g : κ → κ} {l : List (κ × κ)} {z : κ × κ} : z ∈ mirG lt lp g l ↔ ∃ x ∈ l, twoK lt (g x.1) (g x.2) = z := by
  unfold mirG
  rw [ms_perm.mem_iff, List.map_map, List.mem_map]
  rfl
theorem two_two {g : κ → κ} {x : κ × κ} (h : lt x.1 x.2 = true) (h' : lt x.2 x.1 = false) (g1 : g (g x.1) = x.1) (g2 : g (g x.2) = x.2) : twoK lt (g (twoK lt (g x.1) (g x.2)).1) (g (twoK lt (g x.1) (g x.2)).2) = x := by
  have e1 : twoK lt x.1 x.2 = x := by unfold twoK; rw [if_pos h]
  have e2 : twoK lt x.2 x.1 = x := by unfold twoK; rw [h', if_neg (by simp)]
  by_cases c : lt (g x.1) (g x.2) = true
  · have : twoK lt (g x.1) (g x.2) = (g x.1, g x.2) := by unfold twoK; rw [if_pos c]
    rw [this]
    show twoK lt (g (g x.1)) (g (g x.2)) = x
    rw [g1, g2, e1]
  · have : twoK lt (g x.1) (g x.2) = (g x.2, g x.1) := by unfold twoK; rw [if_neg c]
    rw [this]
    show twoK lt (g (g x.2)) (g (g x.1)) = x
    rw [g1, g2, e2]
theorem mirG_twice {lp : κ × κ → κ × κ → Bool} {g : κ → κ} {l : List (κ × κ)} (h : ∀ x ∈ l, lt x.1 x.2 = true ∧ lt x.2 x.1 = false ∧ g (g x.1) = x.1 ∧ g (g x.2) = x.2) {z : κ × κ} : z ∈ mirG lt lp g (mirG lt lp g l) ↔ z ∈ l := by
  rw [mirG_mem]
  refine ⟨fun ⟨y, hy, e⟩ => ?_, fun hz => ?_⟩
  · obtain ⟨x, hx, rfl⟩ := mirG_mem.mp hy
    obtain ⟨a, b, c, d⟩ := h x hx
    rw [two_two a b c d] at e
    rw [← e]
    exact hx
  · obtain ⟨a, b, c, d⟩ := h z hz
    exact ⟨_, mirG_mem.mpr ⟨z, hz, rfl⟩, two_two a b c d⟩
end
theorem mir_pairs {r : RowS} (ok : RowOk r) : mirP r.ends (mirP r.ends r.pairs) = r.pairs := by
  have k1 := mir_row ok
  have k2 := mir_row k1
  refine srt_ext emb_np (fun _ _ => ⟨trivial, trivial⟩) (fun _ _ => ⟨trivial, trivial⟩) k2.st.srt ok.st.srt fun z => ?_
  exact mirG_twice (lt := ltN) (lp := ltNP) (g := mirN r.ends) fun x hx => by
    have := ok.st.up x hx
    exact ⟨decide_eq_true this.1, decide_eq_false (by omega), mir_mir (by omega), mir_mir this.2⟩
theorem mir_row2 {r : RowS} (ok : RowOk r) : r.mir.mir = r := by
  have := mir_pairs ok
  show (⟨r.name, r.ends, mirP r.ends (mirP r.ends r.pairs), r.signs⟩ : RowS) = r
  rw [this]
theorem mir_rows2 {rows : List RowS} (ok : ∀ r ∈ rows, RowOk r) : (rows.map RowS.mir).map RowS.mir = rows := by
  rw [List.map_map]
  have : rows.map (RowS.mir ∘ RowS.mir) = rows.map id := List.map_congr_left fun r hr => mir_row2 (ok r hr)
  rw [this, List.map_id]
theorem ends_mir {rows : List RowS} {n : Str} : endsOf (rows.map RowS.mir) n = endsOf rows n := by
  unfold endsOf
  rw [List.find?_map]
  have : ((fun r : RowS => decide (r.name = n)) ∘ RowS.mir) = fun r : RowS => decide (r.name = n) := rfl
  rw [this]
  cases rows.find? fun r => decide (r.name = n) <;> rfl
theorem mir_lanes2 {rows : List RowS} {lanes : List (Stop × Stop)} (ok : TownOk rows lanes) : lanesM (rows.map RowS.mir) (lanesM rows lanes) = lanes := by
  have k2 := mir_town (mir_town ok)
  obtain ⟨_, f1⟩ := lane_facts ok
  obtain ⟨_, f2⟩ := lane_facts k2
  have nd := good_names ok.good
  have ei : imgN (rows.map RowS.mir) = imgN rows := by
    funext x
    unfold imgN
    rw [ends_mir]
  have e1 : lanesM (rows.map RowS.mir) (lanesM rows lanes) = mirG ltT ltLn (imgN rows) (mirG ltT ltLn (imgN rows) lanes) := by
    unfold lanesM
    rw [ei]
    rfl
  refine srt_ext emb_lane (fun x hx => ⟨⟨(f2 x hx).1, trivial⟩, ⟨(f2 x hx).2.1, trivial⟩⟩) (fun x hx => ⟨⟨(f1 x hx).1, trivial⟩, ⟨(f1 x hx).2.1, trivial⟩⟩) k2.good.ord ok.good.ord fun z => ?_
  rw [e1]
  refine mirG_twice fun x hx => ?_
  have p1 : NameS x.1.1 ∧ True := ⟨(f1 x hx).1, trivial⟩
  have p2 : NameS x.2.1 ∧ True := ⟨(f1 x hx).2.1, trivial⟩
  have up := ok.good.up x hx
  have m := mem_flat hx
  refine ⟨up, ?_, (img_img (ok.good.all.mem_iff.mp m.1) nd).1, (img_img (ok.good.all.mem_iff.mp m.2) nd).1⟩
  cases c : ltT x.2 x.1 with
  | false => rfl
  | true =>
    have := emb_stop.tr p1 p2 p1 up c
    rw [emb_stop.irr p1] at this
    cases this
/-! RP: repr of data whose texts are names, whose ints are small. -/
mutual
/-- data that are shown: texts that are laid, ints that are small -/
def shD : D → Bool
  | .non | .bl _ => true
  | .int i => decide (0 ≤ i ∧ i < 1000)
  | .str x => PyData.strOk x
  | .nd .tup ds => shL ds
  | .nd .lst ds => shL ds
  | _ => false
def shL : List D → Bool
  | [] => true
  | d :: ds => shD d && shL ds
end
mutual
/-- their weight -/
def wtD : D → Nat
  | .str x => x.cps.size
  | .int _ => 16
  | .nd _ ds => wtL ds
  | _ => 0
def wtL : List D → Nat
  | [] => 0
  | d :: ds => wtD d + 1 + wtL ds
end
theorem thousand : ∀ n : Nat, n < 1000 → (PyData.showable (.int (n : Int)) && PyData.intsShort 13 (.int (n : Int)) && decide (PyData.weight (.int (n : Int)) ≤ 16)) = true := by decide +kernel
theorem sh_both : ∀ n : Nat, (∀ d : D, sizeOf d ≤ n → shD d = true → ∃ p, d.py = some p ∧ p.showable = true ∧ p.hasDict = false ∧ p.depth = dep d ∧ p.canLay0 = true ∧ p.weight ≤ wtD d ∧ p.intsShort 13 = true) ∧
    (∀ ds : List D, sizeOf ds ≤ n → shL ds = true → ∃ ps, D.pyL ds = some ps ∧ PyData.showableAll ps = true ∧ PyData.hasDictAll ps = false ∧ PyData.depthAll ps = depL ds ∧ PyData.canLayAll0 ps = true ∧ PyData.weightAll ps ≤ wtL ds ∧ PyData.intsShortAll 13 ps = true) := by
  intro n
  induction n with
  | zero =>
    refine ⟨fun d h => ?_, fun ds h => ?_⟩
    · cases d <;> simp at h
    · cases ds <;> simp at h
  | succ n ih =>
    obtain ⟨i1, i2⟩ := ih
    refine ⟨fun d h s => ?_, fun ds h s => ?_⟩
    · cases d with
      | non => exact ⟨.none, by rw [D.py], rfl, rfl, rfl, rfl, by simp [PyData.weight], rfl⟩
      | bl b => exact ⟨.bool b, by rw [D.py], rfl, rfl, rfl, rfl, by simp [PyData.weight], rfl⟩
      | int i =>
        rw [shD, decide_eq_true_eq] at s
        have t := thousand i.toNat (by omega)
        have e : (i.toNat : Int) = i := Int.toNat_of_nonneg s.1
        rw [e] at t
        simp only [Bool.and_eq_true, decide_eq_true_eq] at t
        exact ⟨.int i, by rw [D.py], t.1.1, rfl, rfl, rfl, by rw [wtD]; exact t.2, t.1.2⟩
      | str x =>
        rw [shD] at s
        exact ⟨.str x, by rw [D.py], rfl, rfl, rfl, s, by rw [wtD, PyData.weight]; exact Nat.le_refl _, rfl⟩
      | ty _ => simp [shD] at s
      | ref _ => simp [shD] at s
      | nd k ds =>
        have hz : sizeOf ds ≤ n := by simp at h; omega
        cases k with
        | tup =>
          rw [shD] at s
          obtain ⟨ps, h1, h2, h3, h4, h5, h6, h7⟩ := i2 ds hz s
          exact ⟨.tuple ps, by rw [D.py, h1]; rfl, by rw [PyData.showable]; exact h2, by rw [PyData.hasDict]; exact h3, by rw [PyData.depth, dep, h4], by rw [PyData.canLay0]; exact h5, by rw [PyData.weight, wtD]; exact h6, by rw [PyData.intsShort]; exact h7⟩
        | lst =>
          rw [shD] at s
          obtain ⟨ps, h1, h2, h3, h4, h5, h6, h7⟩ := i2 ds hz s
          exact ⟨.list ps, by rw [D.py, h1]; rfl, by rw [PyData.showable]; exact h2, by rw [PyData.hasDict]; exact h3, by rw [PyData.depth, dep, h4], by rw [PyData.canLay0]; exact h5, by rw [PyData.weight, wtD]; exact h6, by rw [PyData.intsShort]; exact h7⟩
        | _ => simp [shD] at s
    · cases ds with
      | nil => exact ⟨[], by rw [D.pyL], rfl, rfl, rfl, rfl, by simp [PyData.weightAll], rfl⟩
      | cons d ds =>
        rw [shL, Bool.and_eq_true] at s
        simp at h
        obtain ⟨p, g1, g2, g3, g4, g5, g6, g7⟩ := i1 d (by omega) s.1
        obtain ⟨ps, h1, h2, h3, h4, h5, h6, h7⟩ := i2 ds (by omega) s.2
        exact ⟨p :: ps, by rw [D.pyL, g1, h1], by rw [PyData.showableAll, g2, h2]; rfl, by rw [PyData.hasDictAll, g3, h3]; rfl, by rw [PyData.depthAll, depL, g4, h4], by rw [PyData.canLayAll0, g5, h5]; rfl, by rw [PyData.weightAll, wtL]; omega, by rw [PyData.intsShortAll, g7, h7]; rfl⟩
/-- repr gives a text, the same each time -/
theorem repr_ok {d : D} (h : shD d = true) (seq : (∃ ds, d = .tup ds) ∨ ∃ ds, d = .lst ds) (dp : dep d ≤ 64) (wt : wtD d ≤ 2 ^ 20) : ∃ t : Str, ∀ (S : DHp) (Q : DQ), Q (.str t) S → bRepr [d] S Q := by
  obtain ⟨p, h1, h2, h3, h4, h5, h6, h7⟩ := (sh_both (sizeOf d)).1 d (Nat.le_refl _) h
  have dis : PyProof.Rows.isDisplay p = true := by
    rcases seq with ⟨ds, rfl⟩ | ⟨ds, rfl⟩
    · obtain ⟨ps, rfl, _⟩ := py_tup h1; rfl
    · obtain ⟨ps, rfl, _⟩ := py_lst h1; rfl
  have lay : PyData.layable0 p = true := by
    unfold PyData.layable0
    simp only [Bool.and_eq_true, decide_eq_true_eq]
    exact ⟨⟨h5, by omega⟩, by omega⟩
  exact ⟨p.shown, fun S Q q => ⟨p, h1, dis, h2, h3, by omega, Nat.le_trans (shown_le13 lay h7) (by decide), q⟩⟩
theorem shL_all {ds : List D} (h : ∀ d ∈ ds, shD d = true) : shL ds = true := by
  induction ds with
  | nil => rw [shL]
  | cons d ds ih => rw [shL, h d (by simp), ih fun x hx => h x (by simp [hx])]; rfl
theorem wtL_all {k : Nat} {ds : List D} (h : ∀ d ∈ ds, wtD d ≤ k) : wtL ds ≤ (k + 1) * ds.length := by
  induction ds with
  | nil => rw [wtL]; exact Nat.zero_le _
  | cons d ds ih =>
    rw [wtL, List.length_cons, Nat.mul_succ]
    have := h d (by simp)
    have := ih fun x hx => h x (by simp [hx])
    omega
/-! UJ: the law over one town. -/
theorem big_tl {rows : List RowS} {lanes : List (Stop × Stop)} (ok : TownOk rows lanes) : ∀ c ∈ (textT rows lanes).cps.toList, c < 16 ^ 8 := fun c hc => by
  have e8 : (16 : Nat) ^ 8 = 4294967296 := by decide
  by_cases h : c < 200
  · omega
  · exfalso
    have pf : ∀ x : Nat × Nat, c ∉ tl (pairT x) := fun x => by
      rw [pairT_join]
      refine join_free (by rw [seps.2.1]; simp; omega) fun p hp => ?_
      simp only [List.mem_cons, List.not_mem_nil, or_false] at hp
      rcases hp with rfl | rfl <;> exact numT_free (by omega)
    have hc1 : c ∉ tl "crossing" := name_free (NameS.of (by decide +kernel)) (.inr (by omega))
    have hc2 : c ∉ tl "street" := name_free (NameS.of (by decide +kernel)) (.inr (by omega))
    obtain ⟨_, l2⟩ := lane_facts ok
    refine join_free (s := c) (y := "\n") (ps := townT rows lanes) (by rw [seps.2.2.2.1]; simp; omega) (fun p hp => ?_) hc
    unfold townT at hp
    rcases List.mem_append.mp hp with hp | hp
    · obtain ⟨r, hr, rfl⟩ := List.mem_map.mp hp
      have rok := ok.good.ok r hr
      refine join_free (by rw [seps.2.2.1]; simp; omega) fun w hw => ?_
      unfold crossT at hw
      simp only [List.mem_cons, List.not_mem_nil, or_false] at hw
      rcases hw with rfl | rfl | rfl | rfl | rfl
      · exact hc1
      · exact name_free rok.nm (.inr (by omega))
      · exact numT_free (.inr (by omega))
      · exact wordN_free (by omega) (by omega) fun p hp => by
          obtain ⟨x, _, rfl⟩ := List.mem_map.mp hp
          exact pf x
      · exact wordN_free (by omega) (by omega) fun p hp => name_free (rok.sg.nm p hp) (.inr (by omega))
    · obtain ⟨x, hx, rfl⟩ := List.mem_map.mp hp
      obtain ⟨a, b, _, _⟩ := l2 x hx
      refine join_free (by rw [seps.2.2.1]; simp; omega) fun w hw => ?_
      unfold streetT at hw
      simp only [List.mem_cons, List.not_mem_nil, or_false] at hw
      rcases hw with rfl | rfl | rfl | rfl | rfl
      · exact hc2
      · exact name_free a (.inr (by omega))
      · exact numT_free (.inr (by omega))
      · exact name_free b (.inr (by omega))
      · exact numT_free (.inr (by omega))
theorem repr_i {rows : List RowS} {lanes : List (Stop × Stop)} (ok : TownOk rows lanes) {S : DHp} {Q : DQ} (q : Q (.str (reprText (textT rows lanes))) S) : bReprX [.str (textT rows lanes)] S Q := by
  refine ⟨?_, q⟩
  have a := StrLaws.reprText_len _ (big_tl ok)
  have b := text_len ok
  show _ ≤ 2 ^ 24
  have : (10 : Nat) * (textT rows lanes).length + 2 ≤ 2600002 := by omega
  have e : (2 : Nat) ^ 24 = 16777216 := by decide
  omega
theorem town_sh {rows : List RowS} {lanes : List (Stop × Stop)} (ok : TownOk rows lanes) : ∃ t : Str, ∀ (S : DHp) (Q : DQ), Q (.str t) S → bRepr [.tup [.tup (rows.map RowS.d), .tup (lanes.map laneD)]] S Q := by
  obtain ⟨l1, l2⟩ := lane_facts ok
  have fw := ok.good.few
  have nmw : ∀ x : Str, NameS x → shD (.str x) = true ∧ wtD (.str x) ≤ 8 := fun x h => ⟨by rw [shD]; exact name_ok h, by rw [wtD]; exact h.most⟩
  have itw : ∀ n : Nat, n < 100 → shD (natD n) = true ∧ wtD (natD n) = 16 := fun n h => ⟨by show decide _ = true; exact decide_eq_true ⟨by omega, by omega⟩, rfl⟩
  have stp : ∀ x : Stop, NameS x.1 → x.2 < 100 → shD (stopD x) = true ∧ wtD (stopD x) ≤ 26 := fun x h1 h2 => by
    obtain ⟨a, b⟩ := nmw x.1 h1
    obtain ⟨c, d⟩ := itw x.2 h2
    refine ⟨?_, ?_⟩
    · show shD (.tup [.str x.1, natD x.2]) = true
      rw [shD, shL, shL, shL, a, c]; rfl
    · show wtD (.tup [.str x.1, natD x.2]) ≤ 26
      rw [wtD, wtL, wtL, wtL, d]
      omega
  have prw : ∀ x : Nat × Nat, x.1 < 100 → x.2 < 100 → shD (natP x) = true ∧ wtD (natP x) ≤ 34 := fun x h1 h2 => by
    obtain ⟨a, b⟩ := itw x.1 h1
    obtain ⟨c, d⟩ := itw x.2 h2
    refine ⟨?_, ?_⟩
    · show shD (.tup [natD x.1, natD x.2]) = true
      rw [shD, shL, shL, shL, a, c]; rfl
    · show wtD (.tup [natD x.1, natD x.2]) ≤ 34
      rw [wtD, wtL, wtL, wtL, b, d]
      omega
  have rw_ : ∀ r ∈ rows, shD r.d = true ∧ wtD r.d ≤ 5000 := fun r hr => by
    have rok := ok.good.ok r hr
    have rsg := ok.sg r hr
    obtain ⟨pl, px, _⟩ := row_facts rok rsg
    have re := rok.e1
    obtain ⟨a, b⟩ := nmw r.name rok.nm
    obtain ⟨c, d⟩ := itw r.ends (by omega)
    have p1 : shL (r.pairs.map natP) = true := shL_all fun z hz => by
      obtain ⟨x, hx, rfl⟩ := List.mem_map.mp hz
      exact (prw x (px x hx).1 (px x hx).2).1
    have p2 := wtL_all (k := 34) (ds := r.pairs.map natP) fun z hz => by
      obtain ⟨x, hx, rfl⟩ := List.mem_map.mp hz
      exact (prw x (px x hx).1 (px x hx).2).2
    have s1 : shL (r.signs.map D.str) = true := shL_all fun z hz => by
      obtain ⟨x, hx, rfl⟩ := List.mem_map.mp hz
      exact (nmw x (rok.sg.nm x hx)).1
    have s2 := wtL_all (k := 8) (ds := r.signs.map D.str) fun z hz => by
      obtain ⟨x, hx, rfl⟩ := List.mem_map.mp hz
      exact (nmw x (rok.sg.nm x hx)).2
    rw [List.length_map] at p2 s2
    unfold RowS.d
    refine ⟨?_, ?_⟩
    · rw [shD, shL, shL, shL, shL, shL, a, c, shD, shD, p1, s1]; rfl
    · rw [wtD, wtL, wtL, wtL, wtL, wtL, d, wtD, wtD, wtD]
      have := rok.nm.most
      omega
  have ln : ∀ x ∈ lanes, shD (laneD x) = true ∧ wtD (laneD x) ≤ 60 := fun x hx => by
    obtain ⟨n1, n2, e1, e2⟩ := l2 x hx
    obtain ⟨a, b⟩ := stp x.1 n1 e1
    obtain ⟨c, d⟩ := stp x.2 n2 e2
    refine ⟨?_, ?_⟩
    · show shD (.tup [stopD x.1, stopD x.2]) = true
      rw [shD, shL, shL, shL, a, c]; rfl
    · show wtD (.tup [stopD x.1, stopD x.2]) ≤ 60
      rw [wtD, wtL, wtL, wtL]
      omega
  have r1 : shL (rows.map RowS.d) = true := shL_all fun z hz => by
    obtain ⟨x, hx, rfl⟩ := List.mem_map.mp hz
    exact (rw_ x hx).1
  have r2 := wtL_all (k := 5000) (ds := rows.map RowS.d) fun z hz => by
    obtain ⟨x, hx, rfl⟩ := List.mem_map.mp hz
    exact (rw_ x hx).2
  have q1 : shL (lanes.map laneD) = true := shL_all fun z hz => by
    obtain ⟨x, hx, rfl⟩ := List.mem_map.mp hz
    exact (ln x hx).1
  have q2 := wtL_all (k := 60) (ds := lanes.map laneD) fun z hz => by
    obtain ⟨x, hx, rfl⟩ := List.mem_map.mp hz
    exact (ln x hx).2
  rw [List.length_map] at r2 q2
  obtain ⟨_, d2, _⟩ := lanes_data ok
  have d1 := rows_dep (rows := rows)
  refine repr_ok ?_ (.inl ⟨_, rfl⟩) ?_ ?_
  · rw [shD, shL, shL, shL, shD, shD, r1, q1]; rfl
  · rw [dep, depL, depL, depL, dep, dep]
    omega
  · rw [wtD, wtL, wtL, wtL, wtD, wtD]
    have : (2 : Nat) ^ 20 = 1048576 := by decide
    omega
/-! UK: what the law holds of one town. -/
theorem eqO_e1 {C : Addr} {sp : DSp} {x y : D} {S : DHp} {Q : DQ} : oEqO C sp x y S Q = ((∃ ns fs, insOf S x = some (C, ns, fs)) ∧ ((∃ ns fs, insOf S y = some (C, ns, fs)) ∨ tyO y) ∧ sp [x, y] S fun d S' => ∃ b, d = .bl b ∧ Q (.bl b) S') := rfl
theorem neO_e1 {C : Addr} {sp : DSp} {x y : D} {S : DHp} {Q : DQ} : oNeO C sp x y S Q = ((∃ ns fs, insOf S x = some (C, ns, fs)) ∧ (∃ ns fs, insOf S y = some (C, ns, fs)) ∧ sp [x, y] S fun d S' => ∃ b, d = .bl b ∧ Q (.bl (!b)) S') := rfl
theorem reprX_n {k : Nd} {ds : List D} {S : DHp} {Q : DQ} : bReprX [.nd k ds] S Q = bRepr [.nd k ds] S Q := rfl
def sp__law_right53 : DSp := fun ds S Q => ∃ (p : Addr) (o : Nd × List D) (b : Nat), ds = [.ref p] ∧ S p = some o ∧ Pot o (b + 1000) ∧ ∀ o', Pot o' b → Q (.bl true) (put S p o')
theorem same_text {x : Str} {S : DHp} {Q : DQ} : (Q (.bl false) S → oEq true (.str x) (.str x) S Q) ∧ (Q (.bl true) S → oEq false (.str x) (.str x) S Q) := by
  have e : (x == x) = true := beq_self_eq_true _
  refine ⟨fun q => ?_, fun q => ?_⟩
  · rw [eq_ss, e]
    exact q
  · rw [eq_ss, e]
    exact q
theorem lines_i {rows : List RowS} {lanes : List (Stop × Stop)} (ok : TownOk rows lanes) {S : DHp} {Q : DQ} (q : Q (.str (textT rows lanes)) S) : mJoin (.str "\n") [.lst ((townT rows lanes).map D.str)] S Q := join_i (ps := townT rows lanes) (src := ⟨(townT rows lanes).map D.str, fun _ => True⟩) rfl rfl (lines_sum ok) q
theorem d__law_right53 (C : Addr) (ds S Q) (h : sp__law_right53 ds S Q) : t__law_right53 C sp__law_free_town sp__law_net_lines (sp_show_town C) (sp_read_town C) (sp_Town_init C) (sp_Town_eq C) (sp_Town_inv C) (sp_Town_p_streets C) (sp_Town_p_crossings C) (endsF Q) (startD N__law_right53.length ds) S := by
  obtain ⟨p, o, b, rfl, hp, po, q⟩ := h
  unfold t__law_right53
  have e0 : startD N__law_right53.length [.ref p] = [some (.ref p), none, none, none, none, none, none] := rfl
  rw [e0]
  refine seq_g fun K hK => ?_
  simp only [asg_e, call_e, lstF_e, cons_e, nil_e, var_e, slot0, c_e]
  refine ⟨by show 7 ≤ 2 ^ 24; decide, p, o, 8, [1, 2, 2, 3, 4, 5, 9], b, rfl, by decide, by decide, by decide, by decide, by decide, hp, po, fun rows lanes g fm hl hs o1 po1 => ?_⟩
  have ok : TownOk rows lanes := ⟨g, fun r hr => few_signs (fm r hr) (g.ok r hr), by
    have := hs 9 (by decide) (by decide)
    have e : ((8 : Int)).toNat = 8 := rfl
    rw [e] at this
    omega⟩
  have okm := mir_town ok
  have tw0 : ∀ (S' : DHp) (Q' : DQ), Q' (.tup (rows.map RowS.d)) S' → oIx (townD rows lanes) (.int 0) S' Q' := fun S' Q' h => by
    unfold townD
    rw [at_0t]
    exact h
  have tw1 : ∀ (S' : DHp) (Q' : DQ), Q' (.tup (lanes.map laneD)) S' → oIx (townD rows lanes) (.int 1) S' Q' := fun S' Q' h => by
    unfold townD
    rw [at_1t]
    exact h
  simp only [gname_e, set0, setS]
  subst hK
  refine seq_g fun K hK => ?_
  simp only [asg_e, make_e, cons_e, nil_e, op_e, var_e, slot0, slotS, c_e]
  refine tw0 _ _ (tw1 _ _ ?_)
  intro p2 h2
  refine ⟨p2, rows, lanes, rfl, ok, put_same, rfl, fldsT, _, put_same, ?_⟩
  rw [era_twice h2]
  simp only [gname_e, set0, setS]
  subst hK
  refine seq_g fun K hK => ?_
  simp only [asg_e, bm_e, call_e, cons_e, nil_e, op_e, var_e, slot0, slotS, c_e, mtyp_s, true_and]
  refine tw0 _ _ (tw1 _ _ ⟨rows, lanes, rfl, ok, ?_⟩)
  refine lines_i ok ?_
  simp only [gname_e, set0, setS]
  subst hK
  refine seq_g fun K hK => ?_
  refine ifs_g fun T U hT hU => ?_
  simp only [or_e, not_e, tst_e, blt_e, call_e, cons_e, nil_e, op_e, var_e, slot0, slotS, c_e]
  refine ⟨rows, lanes, rfl, ok, ?_⟩
  refine repr_i ok ?_
  refine repr_i ok ?_
  refine same_text.1 ?_
  simp only [Bool.false_eq_true, if_false]
  refine ⟨rows, lanes, rfl, ok, ?_⟩
  show oEqO C (sp_Town_eq C) _ _ _ _
  rw [eqO_e1]
  refine ⟨⟨_, _, ins_town⟩, .inl ⟨_, _, ins_town⟩, rows, lanes, rfl, ok, true, rfl, ?_⟩
  simp only [Bool.not_true, Bool.false_eq_true, if_false]
  subst hU
  show K _ _
  subst hK
  refine seq_g fun K hK => ?_
  simp only [asg_e, un_e, inv_e, var_e, slot0, slotS]
  refine ⟨⟨_, _, ins_town⟩, rows, lanes, rfl, ok, ?_⟩
  simp only [gname_e, set0, setS]
  subst hK
  refine seq_g fun K hK => ?_
  simp only [asg_e, bm_e, call_e, cons_e, nil_e, prop_e1, var_e, slot0, slotS, c_e, mtyp_s, true_and]
  refine ⟨⟨_, _, ins_town⟩, rows.map RowS.mir, lanesM rows lanes, rfl, ?_⟩
  refine ⟨⟨_, _, ins_town⟩, rows.map RowS.mir, lanesM rows lanes, rfl, ?_⟩
  refine ⟨rows.map RowS.mir, lanesM rows lanes, rfl, okm, ?_⟩
  refine lines_i okm ?_
  simp only [gname_e, set0, setS]
  subst hK
  refine seq_g fun K hK => ?_
  simp only [asg_e, call_e, cons_e, nil_e, var_e, slot0, slotS]
  refine ⟨rows.map RowS.mir, lanesM rows lanes, rfl, okm, ?_⟩
  simp only [gname_e, set0, setS]
  subst hK
  refine seq_g fun K hK => ?_
  refine ifs_g fun T U hT hU => ?_
  simp only [or_e, not_e, tst_e, blt_e, call_e, cons_e, nil_e, op_e, un_e, inv_e, var_e, slot0, slotS, c_e]
  refine ⟨rows.map RowS.mir, lanesM rows lanes, rfl, okm, ?_⟩
  refine repr_i okm ?_
  refine repr_i okm ?_
  refine same_text.1 ?_
  simp only [Bool.false_eq_true, if_false]
  show oNeO C (sp_Town_eq C) _ _ _ _
  rw [neO_e1]
  refine ⟨⟨_, _, ins_town⟩, ⟨_, _, ins_town⟩, rows.map RowS.mir, lanesM rows lanes, rfl, okm, true, rfl, ?_⟩
  simp only [Bool.not_true, Bool.false_eq_true, if_false]
  refine ⟨⟨_, _, ins_town⟩, rows.map RowS.mir, lanesM rows lanes, rfl, okm, ?_⟩
  rw [mir_rows2 g.ok, mir_lanes2 ok]
  refine ⟨rows, lanes, rfl, ok, ?_⟩
  refine repr_i ok ?_
  refine repr_i ok ?_
  refine same_text.1 ?_
  simp only [Bool.false_eq_true, if_false]
  subst hU
  show K _ _
  subst hK
  rw [ret_e]
  simp only [blt_e, tup_e, call_e, cons_e, nil_e, op_e, prop_e1, var_e, slot0, slotS]
  refine ⟨rows, lanes, rfl, ok, ⟨_, _, ins_town⟩, rows, lanes, rfl, ?_⟩
  refine ⟨rows, lanes, rfl, ok, ⟨_, _, ins_town⟩, rows, lanes, rfl, ?_⟩
  refine ⟨by show 2 ≤ 2 ^ 24; decide, ?_⟩
  obtain ⟨t, ht⟩ := town_sh ok
  rw [reprX_n]
  refine ht _ _ ?_
  unfold townD
  rw [reprX_n]
  refine ht _ _ ?_
  refine same_text.2 ?_
  exact ⟨_, Less.refl, q o1 po1⟩
/-! UL: the law over the whole script. -/
theorem five : intsD 0 ((5 : Int)).toNat = [.int 0, .int 1, .int 2, .int 3, .int 4] := rfl
/-- laps: pot and list so far -/
structure LapI (S : DHp) (p q : Addr) (l acc : List D) (S' : DHp) : Prop where
  ex : ∃ (n : Nat) (o : Nd × List D), acc = (List.replicate n true).map D.bl ∧ n + l.length = 5 ∧ S' = put (put S p o) q (.lst, acc) ∧ Pot o (1000 * l.length)
theorem put_three {S : DHp} {p q : Addr} {o o' u v : Nd × List D} (h : q ≠ p) : put (put (put (put S p o) q u) p o') q v = put (put S p o') q v := by
  funext a
  by_cases ha : a = q
  · subst ha
    rw [put_same, put_same]
  · rw [put_ne ha, put_ne ha]
    by_cases hb : a = p
    · subst hb
      rw [put_same, put_same]
    · rw [put_ne hb, put_ne ha, put_ne hb, put_ne hb]
theorem d_law53 (ds S Q) (h : sp_law ds S Q) : t_law53 sp__law_cells sp__law_pot sp__law_right53 (endsF Q) (startD N_law53.length ds) S := by
  obtain ⟨xs, rfl, hx, qq⟩ := h
  unfold t_law53
  have e0 : startD N_law53.length [.nd .flst xs] = [some (.nd .flst xs), none, none, none] := rfl
  rw [e0]
  refine seq_g fun K hK => for_i ?_
  rw [seqI_e]
  simp only [call_e, cons_e, nil_e, var_e, slot0, c_e]
  refine ⟨xs, 3, rfl, by decide, by decide, fun n _ n1 _ => ?_⟩
  show forD _ _ _ _ (intsD 0 n) _ S
  rw [ints_nat]
  have n3 : n ≤ 3 := by
    have : max 1 ((3 : Int)).toNat = 3 := rfl
    omega
  refine forD_ind (fun m ρ S' => Less S S' ∧ (∃ x y, ρ = [some (.nd .flst xs), x, y, none]) ∧ ∃ k, m = ((List.range n).drop k).map natD) (fun _ _ _ _ => trivial) (fun ρ S' h => ?_) (fun d m ρ S' h K2 hK2 => ?_) ⟨Less.refl, ⟨none, none, rfl⟩, 0, by rw [List.drop_zero]⟩
  · obtain ⟨ls, ⟨x, y, rfl⟩, _⟩ := h
    show K _ _
    subst hK
    rw [ret_e, c_e]
    exact ⟨S, ls, qq⟩
  · obtain ⟨ls, ⟨x, y, rfl⟩, k, em⟩ := h
    have hk : k < (List.range n).length := by
      have := congrArg List.length em
      rw [List.length_map, List.length_drop, List.length_cons] at this
      omega
    rw [List.drop_eq_getElem_cons hk, List.map_cons, List.getElem_range] at em
    obtain ⟨rfl, rfl⟩ := List.cons.inj em
    rw [List.length_range] at hk
    simp only [gname_e, set0, setS]
    refine seq_g fun K3 hK3 => ?_
    simp only [asg_e, call_e, cons_e, nil_e, var_e, slot0, slotS]
    refine ⟨xs, k, rfl, hx, by omega, by omega, fun p hp o po => ?_⟩
    simp only [gname_e, set0, setS]
    subst hK3
    refine ifs_g fun T U hT hU => ?_
    rw [not_e, tst_e, blt_e]
    simp only [cons_e, nil_e]
    refine rng_i (n := 5) ⟨⟨by decide, by decide⟩, fun q hq => ?_⟩
    have hpq : q ≠ p := fun z => by subst z; rw [put_same] at hq; cases hq
    rw [five]
    refine compD_ind (LapI S' p q) (fun _ _ _ _ => trivial) (fun acc S2 h => ?_) (fun d l acc S2 h Kn hKn => ?_) ⟨⟨0, o, rfl, rfl, rfl, po.less (by decide)⟩⟩
    · obtain ⟨m, o2, rfl, hm, rfl, po2⟩ := h.ex
      refine ⟨put_same, ?_⟩
      have hq2 : put S' p o2 q = none := by
        rw [put_ne hpq] at hq ⊢
        exact hq
      show bAll [.lst ((List.replicate m true).map D.bl)] (era (put (put S' p o2) q _) q) _
      rw [era_put hq2]
      rw [all_l]
      have : (List.replicate m true).all id = true := by
        rw [List.all_eq_true]
        intro z hz
        exact (List.mem_replicate.mp hz).2
      rw [this]
      show U _ _
      subst hU
      rw [next_e]
      refine hK2 _ _ ⟨fun a u e => ?_, ⟨_, _, rfl⟩, k + 1, rfl⟩
      have e2 := ls a u e
      have ha : a ≠ p := fun z => by subst z; rw [hp] at e2; cases e2
      rw [put_ne ha]
      exact e2
    · obtain ⟨m, o2, rfl, hm, rfl, po2⟩ := h.ex
      rw [List.length_cons] at hm po2
      simp only [gname_e, wipeD, set0, setS, yes_e, if_true, call_e, cons_e, nil_e, var_e, slot0, slotS]
      refine ⟨p, o2, 1000 * l.length, rfl, by rw [put_ne hpq.symm, put_same], po2.less (by omega), fun o3 po3 => ?_⟩
      refine ⟨by rw [put_ne hpq, put_same], by rw [List.length_map, List.length_replicate]; show _ < 2 ^ 24; omega, ?_⟩
      refine hKn _ _ ⟨m + 1, o3, ?_, by omega, ?_, po3⟩
      · rw [List.replicate_succ', List.map_append]
        rfl
      · exact put_three hpq
/-- what the program's top has written -/
structure GROUPSAt (K : PySem.W.Frag) (w : World) : Prop where
  ex : ∃ A : Addr, PySem.W.nsIn K mainGlobals "GROUPS" = some (some (.ref A)) ∧ ∀ z i, groupsN z = some i → KDct K w A z (.int i)
theorem GROUPS_mk {K : PySem.W.Frag} {w : World} {A : Addr} {es : Array DictEntry} {n : Nat} {t0 : Tok} {t1 : Tok} (a : PySem.W.nsIn K mainGlobals "GROUPS" = some (some (.ref A))) (l : K.lookup A = some ⟨.type "dict", none, .dict es n, #[]⟩) (kl : PySem.W.KeysLit w.params es.toList) (v0 : PySem.W.nsIn K A "crossing" = some (some (.int 0 t0))) (v1 : PySem.W.nsIn K A "street" = some (some (.int 1 t1))) : GROUPSAt K w := by
  refine ⟨A, a, fun z i e => ?_⟩
  unfold groupsN at e
  by_cases c0 : z = "crossing"
  · rw [if_pos c0] at e
    cases e
    subst c0
    exact ⟨es, n, _, l, kl, v0, by exact Exists.intro _ rfl⟩
  · rw [if_neg c0] at e
    by_cases c1 : z = "street"
    · rw [if_pos c1] at e
      cases e
      subst c1
      exact ⟨es, n, _, l, kl, v1, by exact Exists.intro _ rfl⟩
    · rw [if_neg c1] at e
      cases e
theorem strc_mk {K : PySem.W.Frag} {x y : Str} {u : Value} (a : PySem.W.nsIn K mainGlobals x = some (some u)) (b : ∃ t, u = .str y t) : ∃ t, PySem.W.nsIn K mainGlobals x = some (some (.str y t)) := by
  obtain ⟨t, rfl⟩ := b
  exact ⟨t, a⟩
def strKey (e : DictEntry) : Bool := match e.key with
  | .str _ _ => true
  | _ => false
theorem ns_ok {K : PySem.W.Frag} {N : Addr} {oc : Value} {od : Option Addr} {es : Array DictEntry} {ep : Nat} {sl : Array (Option Value)} (l : K.lookup N = some ⟨oc, od, .dict es ep, sl⟩) (o : es.toList.all strKey = true) : PySem.W.nsOkIn K N = true := by
  unfold PySem.W.nsOkIn
  rw [l]
  show es.all _ = true
  rw [← Array.all_toList]
  exact o
theorem ne_mk {K : PySem.W.Frag} {C f : Addr} {nm q : Str} {N : Addr} {bs : List Value} {hdct : Bool} {sn : List Str} {sub : List Value} {ab : Bool} {col : Option Bool} {dd : Option Addr} {k0 k1 k2 k3 k5 : Option Value} {newId : String} {oc : Value} {od : Option Addr} {es : Array DictEntry} {ep : Nat} {sl : Array (Option Value)} (l : K.lookup C = some (excClassObj nm q C N bs [.type "object"] hdct sn sub ab col dd k0 k1 k2 k3 k5 newId)) (lN : K.lookup N = some ⟨oc, od, .dict es ep, sl⟩) (o : es.toList.all strKey = true) (n : PySem.W.nsIn K N "__ne__" = some none) (e : PySem.W.nsIn K N "__eq__" = some (some (.ref f))) (g : PySem.W.findIn K (.ref C) "__eq__" = some (some (.ref f))) (t : PySem.W.typeIn K (.ref f) = some (.type "function")) (h : ∃ y, typeLookup (.type "object") "__eq__" = pure y) : NeC K C := ⟨f, nm, q, N, bs, hdct, sn, sub, ab, col, dd, k0, k1, k2, k3, k5, newId, l, ns_ok lN o, n, e, g, t, h⟩
structure Facts (K : PySem.W.Frag) (w : World) (C : Addr) : Prop where
  town : PySem.W.nsIn K mainGlobals "Town" = some (some (.ref C))
  cls : Cls K C
  nts : Nts K C
  mkc : PySem.W.makesIn K C = true
  kc : PySem.W.keepIn K (.ref C) = true
  own : OwnC K C
  nec : NeC K C
  g_GROUPS : GROUPSAt K w
  s_NOTHING : ∃ t, PySem.W.nsIn K mainGlobals "NOTHING" = some (some (.str "-" t))
  b_int : PySem.W.nsIn K mainGlobals "int" = some none
  b_isinstance : PySem.W.nsIn K mainGlobals "isinstance" = some none
  b_bool : PySem.W.nsIn K mainGlobals "bool" = some none
  b_str : PySem.W.nsIn K mainGlobals "str" = some none
  b_len : PySem.W.nsIn K mainGlobals "len" = some none
  b_tuple : PySem.W.nsIn K mainGlobals "tuple" = some none
  b_range : PySem.W.nsIn K mainGlobals "range" = some none
  b_all : PySem.W.nsIn K mainGlobals "all" = some none
  b_set : PySem.W.nsIn K mainGlobals "set" = some none
  b_list : PySem.W.nsIn K mainGlobals "list" = some none
  b_enumerate : PySem.W.nsIn K mainGlobals "enumerate" = some none
  b_abs : PySem.W.nsIn K mainGlobals "abs" = some none
  b_min : PySem.W.nsIn K mainGlobals "min" = some none
  b_max : PySem.W.nsIn K mainGlobals "max" = some none
  b_repr : PySem.W.nsIn K mainGlobals "repr" = some none
  c_MOST_ENDS : ∃ t, PySem.W.nsIn K mainGlobals "MOST_ENDS" = some (some (.int 20 t))
  f_is_integer : DefAt K "is_integer" s_is_integer
  f_is_name : DefAt K "is_name" s_is_name
  f_is_row : DefAt K "is_row" s_is_row
  f_ascends : DefAt K "ascends" s_ascends
  f_are_names : DefAt K "are_names" s_are_names
  f_is_word : DefAt K "is_word" s_is_word
  f_is_told : DefAt K "is_told" s_is_told
  f_is_pair : DefAt K "is_pair" s_is_pair
  f_are_pairs : DefAt K "are_pairs" s_are_pairs
  f_in_order : DefAt K "in_order" s_in_order
  f_merged : DefAt K "merged" s_merged
  f_is_town_crossing : DefAt K "is_town_crossing" s_is_town_crossing
  f_are_town_crossings : DefAt K "are_town_crossings" s_are_town_crossings
  f_are_town_streets : DefAt K "are_town_streets" s_are_town_streets
  f_ways_across : DefAt K "ways_across" s_ways_across
  f_mirrored_crossing : DefAt K "mirrored_crossing" s_mirrored_crossing
  f_mirrored_end : DefAt K "mirrored_end" s_mirrored_end
  f_in_pairs : DefAt K "in_pairs" s_in_pairs
  f_in_one_word : DefAt K "in_one_word" s_in_one_word
  f_line_of_crossing : DefAt K "line_of_crossing" s_line_of_crossing
  f_line_of_street : DefAt K "line_of_street" s_line_of_street
  f_show_town : DefAt K "show_town" s_show_town
  f_number_of : DefAt K "number_of" s_number_of
  f_name_of : DefAt K "name_of" s_name_of
  f_names_of : DefAt K "names_of" s_names_of
  f_pairs_of : DefAt K "pairs_of" s_pairs_of
  f_net_row : DefAt K "net_row" s_net_row
  f_row_of_town : DefAt K "row_of_town" s_row_of_town
  f_lines_of : DefAt K "lines_of" s_lines_of
  f_groups_of : DefAt K "groups_of" s_groups_of
  f_read_town : DefAt K "read_town" s_read_town
  m_Town_init : MetAt K C "__init__" "Town.__init__" s_Town_init
  m_Town_eq : MetAt K C "__eq__" "Town.__eq__" s_Town_eq
  m_Town_inv : MetAt K C "__invert__" "Town.__invert__" s_Town_inv
  m_Town_p_crossings : PrpAt K C "crossings" "Town.crossings" s_Town_p_crossings
  m_Town_p_streets : PrpAt K C "streets" "Town.streets" s_Town_p_streets
  f__law_pot : DefAt K "_law_pot" s__law_pot
  f__law_take : DefAt K "_law_take" s__law_take
  f__law_of : DefAt K "_law_of" s__law_of
  f__law_some : DefAt K "_law_some" s__law_some
  f__law_cells : DefAt K "_law_cells" s__law_cells
  f__law_ordered : DefAt K "_law_ordered" s__law_ordered
  f__law_two : DefAt K "_law_two" s__law_two
  f__law_signs : DefAt K "_law_signs" s__law_signs
  f__law_a_name : DefAt K "_law_a_name" s__law_a_name
  f__law_many_names : DefAt K "_law_many_names" s__law_many_names
  f__law_free_row : DefAt K "_law_free_row" s__law_free_row
  f__law_each_stop : DefAt K "_law_each_stop" s__law_each_stop
  f__law_free_town : DefAt K "_law_free_town" s__law_free_town
  f__law_parts_word : DefAt K "_law_parts_word" s__law_parts_word
  f__law_net_lines : DefAt K "_law_net_lines" s__law_net_lines
  f__law_right : DefAt K "_law_right" s__law_right
  f_law : DefAt K "law" s_law
theorem nts_mk {K : PySem.W.Frag} {C : Addr} (n0 : PySem.W.findIn K (.ref C) "_crossings" = some none) (n1 : PySem.W.findIn K (.ref C) "_streets" = some none) (n2 : PySem.W.findIn K (.ref C) "_by_name" = some none) (n3 : PySem.W.findIn K (.ref C) "_across" = some none) : Nts K C := ⟨n0, n1, n2, n3⟩
local macro_rules | `(tactic| walk_at "many") => `(tactic| (intro ds S Q h; repeat' (first | (obtain ⟨e, _⟩ := h; subst e; rfl) | (obtain ⟨e, _⟩ := h; rcases e with e | e <;> subst e <;> rfl) | (refine Or.elim h ?_ ?_ <;> clear h <;> intro h) | (obtain ⟨_, h⟩ := h) | (subst h; rfl))))
section
variable {P : Program} {w : World} {K : PySem.W.Frag} {mg : Str → Option Value} {base hp : Heap}
/-- a list of one or none, sorted -/
theorem d_in_order0 (ds S Q) (h : sp_in_order 0 ds S Q) : t_in_order sp_merged sp_none (endsF Q) (startD N_in_order.length ds) S := by
  obtain ⟨κ, P, f, lt, l, rfl, e, pl, hz, hn, q⟩ := h
  unfold t_in_order
  have e0 : startD N_in_order.length [.lst (l.map f)] = [some (.lst (l.map f)), none] := rfl
  rw [e0]
  rw [msN] at q
  refine seq_g fun K hK => ifs_g fun T U hT hU => ?_
  walk_at "ev"
  rw [List.length_map]
  have : (l.length : Int) < 2 := by
    have : (2 : Nat) ^ 0 = 1 := rfl
    omega
  simp only [this, decide_true, if_true]
  subst hT
  walk_at "ev"
  exact ⟨_, Less.refl, q⟩
theorem txt_of {C : Addr} (A : Facts K w C) (X : K.In hp) (G : hp.Ns mainGlobals mg) : Txt mg := by
  obtain ⟨st0, sz0⟩ := A.s_NOTHING
  obtain ⟨t0, z0⟩ := A.c_MOST_ENDS
  exact ⟨PySem.W.mg_none_of X G A.b_int, PySem.W.mg_none_of X G A.b_isinstance, PySem.W.mg_none_of X G A.b_bool, PySem.W.mg_none_of X G A.b_str, PySem.W.mg_none_of X G A.b_len, PySem.W.mg_none_of X G A.b_tuple, PySem.W.mg_none_of X G A.b_range, PySem.W.mg_none_of X G A.b_all, PySem.W.mg_none_of X G A.b_set, PySem.W.mg_none_of X G A.b_list, PySem.W.mg_none_of X G A.b_enumerate, PySem.W.mg_none_of X G A.b_abs, PySem.W.mg_none_of X G A.b_min, PySem.W.mg_none_of X G A.b_max, PySem.W.mg_none_of X G A.b_repr, ⟨st0, PySem.W.mg_of X G sz0⟩, ⟨t0, PySem.W.mg_of X G z0⟩⟩
set_option maxHeartbeats 0 in
theorem law_of {C fa : Addr} (A0 : Facts K w C) (X : K.In hp) (G : hp.Ns mainGlobals mg) (hfa : mg "law" = some (.ref fa)) :
    ∃ fd : FuncData, (∀ (s : Shared) (u : Value), BindsTo s fd ⟨[u], []⟩ [("_law_script", u)]) ∧ ∀ base : Heap, K.In base → base.Ns mainGlobals mg → FnG P w K mg base 14 fa fd ["_law_script"] (liftF K sp_law) := by
  have A := A0
  have T := txt_of A X G
  have cC := A.cls
  have N := A.nts
  have oC := A.own
  have cG := PySem.W.mg_of X G A.town
  have nC := A.nec
  obtain ⟨A_GROUPS, ag_GROUPS, kd_GROUPS⟩ := A.g_GROUPS.ex
  have g_GROUPS := PySem.W.mg_of X G ag_GROUPS
  obtain ⟨fl, fdl, al, Fl⟩ := A.f_law.ex
  have hl := hfa.symm.trans (PySem.W.mg_of X G al)
  cases hl
  refine ⟨fdl, fun s u => ?_, fun base _ _ => ?_⟩
  · obtain ⟨oc, od, kV, doc, pm, an, cdv, ct, osl, rfl, lk, hcd⟩ := Fl.ex
    exact .of_eq rfl
  have c_is_integer : DCal P w K mg base 1 "is_integer" sp_is_integer := cal_of A.f_is_integer X G (fun F => F.binds (ps := ["value"]) fun _ _ _ _ _ _ us hl => match us, hl with | [_], _ => rfl) sc_is_integer (by walk_at "many") (fun f cdv A outer s H E hr => w_is_integer T cdv A outer s H E hr) d_is_integer
  have c_is_name : DCal P w K mg base 1 "is_name" sp_is_name := cal_of A.f_is_name X G (fun F => F.binds (ps := ["value"]) fun _ _ _ _ _ _ us hl => match us, hl with | [_], _ => rfl) sc_is_name (by walk_at "many") (fun f cdv A outer s H E hr => w_is_name T cdv A outer s H E hr) d_is_name
  have c_is_row : DCal P w K mg base 1 "is_row" sp_is_row := cal_of A.f_is_row X G (fun F => F.binds (ps := ["value", "many"]) fun _ _ _ _ _ _ us hl => match us, hl with | [_, _], _ => rfl) sc_is_row (by walk_at "many") (fun f cdv A outer s H E hr => w_is_row T cdv A outer s H E hr) d_is_row
  have c_ascends : DCal P w K mg base 1 "ascends" sp_ascends := cal_of A.f_ascends X G (fun F => F.binds (ps := ["rows"]) fun _ _ _ _ _ _ us hl => match us, hl with | [_], _ => rfl) sc_ascends (by walk_at "many") (fun f cdv A outer s H E hr => w_ascends T cdv A outer s H E hr) d_ascends
  have c_are_names : DCal P w K mg base 2 "are_names" sp_are_names := cal_of A.f_are_names X G (fun F => F.binds (ps := ["value"]) fun _ _ _ _ _ _ us hl => match us, hl with | [_], _ => rfl) sc_are_names (by walk_at "many") (fun f cdv A outer s H E hr => w_are_names T (c_is_name := c_is_name) (c_ascends := c_ascends) cdv A outer s H E hr) d_are_names
  have c_is_word : DCal P w K mg base 2 "is_word" sp_is_word := cal_of A.f_is_word X G (fun F => F.binds (ps := ["value"]) fun _ _ _ _ _ _ us hl => match us, hl with | [_], _ => rfl) sc_is_word (by walk_at "many") (fun f cdv A outer s H E hr => w_is_word T (c_is_integer := c_is_integer) cdv A outer s H E hr) d_is_word
  have c_is_told : DCal P w K mg base 3 "is_told" sp_is_told := cal_of A.f_is_told X G (fun F => F.binds (ps := ["value", "told"]) fun _ _ _ _ _ _ us hl => match us, hl with | [_, _], _ => rfl) sc_is_told (by walk_at "many") (fun f cdv A outer s H E hr => w_is_told T (c_is_row := c_is_row) (c_is_word := c_is_word) cdv A outer s H E hr) d_is_told
  have c_is_pair : DCal P w K mg base 4 "is_pair" sp_is_pair := cal_of A.f_is_pair X G (fun F => F.binds (ps := ["value", "told"]) fun _ _ _ _ _ _ us hl => match us, hl with | [_, _], _ => rfl) sc_is_pair (by walk_at "many") (fun f cdv A outer s H E hr => w_is_pair T (c_is_row := c_is_row) (c_is_told := c_is_told) cdv A outer s H E hr) d_is_pair
  have c_are_pairs : DCal P w K mg base 5 "are_pairs" sp_are_pairs := cal_of A.f_are_pairs X G (fun F => F.binds (ps := ["value", "told"]) fun _ _ _ _ _ _ us hl => match us, hl with | [_, _], _ => rfl) sc_are_pairs (by walk_at "many") (fun f cdv A outer s H E hr => w_are_pairs T (c_is_pair := c_is_pair) (c_ascends := c_ascends) cdv A outer s H E hr) d_are_pairs
  have c_merged : DCal P w K mg base 1 "merged" sp_merged := cal_of A.f_merged X G (fun F => F.binds (ps := ["low", "high"]) fun _ _ _ _ _ _ us hl => match us, hl with | [_, _], _ => rfl) sc_merged (by walk_at "many") (fun f cdv A outer s H E hr => w_merged T cdv A outer s H E hr) d_merged
  have c_in_orders : ∀ n : Nat, DCal P w K mg base (n + 2) "in_order" (sp_in_order n) := fun n => by
    induction n with
    | zero => exact cal_of A.f_in_order X G (fun F => F.binds (ps := ["rows"]) fun _ _ _ _ _ _ us hl => match us, hl with | [_], _ => rfl) sc_in_order (by walk_at "many") (fun f cdv A outer s H E hr => w_in_order T (c_merged := c_merged) (j1 := Nat.le_refl _) (jk := Nat.zero_le _) (c_in_order := cal_none A0.f_in_order X G (fun F => F.binds (ps := ["rows"]) fun _ _ _ _ _ _ us hl => match us, hl with | [_], _ => rfl)) cdv A outer s H E hr) d_in_order0
    | succ n ih => exact cal_of A.f_in_order X G (fun F => F.binds (ps := ["rows"]) fun _ _ _ _ _ _ us hl => match us, hl with | [_], _ => rfl) sc_in_order (by walk_at "many") (fun f cdv A outer s H E hr => w_in_order T (c_merged := c_merged) (j1 := by omega) (jk := Nat.le_refl _) (c_in_order := ih) cdv A outer s H E hr) (d_in_order n)
  have c_in_order := c_in_orders 6
  have c_is_town_crossing : DCal P w K mg base 6 "is_town_crossing" sp_is_town_crossing := cal_of A.f_is_town_crossing X G (fun F => F.binds (ps := ["value"]) fun _ _ _ _ _ _ us hl => match us, hl with | [_], _ => rfl) sc_is_town_crossing (by walk_at "many") (fun f cdv A outer s H E hr => w_is_town_crossing T (c_is_row := c_is_row) (c_is_name := c_is_name) (c_is_integer := c_is_integer) (c_are_pairs := c_are_pairs) (c_are_names := c_are_names) cdv A outer s H E hr) d_is_town_crossing
  have c_are_town_crossings : DCal P w K mg base 7 "are_town_crossings" sp_are_town_crossings := cal_of A.f_are_town_crossings X G (fun F => F.binds (ps := ["value"]) fun _ _ _ _ _ _ us hl => match us, hl with | [_], _ => rfl) sc_are_town_crossings (by walk_at "many") (fun f cdv A outer s H E hr => w_are_town_crossings T (c_is_town_crossing := c_is_town_crossing) (c_ascends := c_ascends) cdv A outer s H E hr) d_are_town_crossings
  have c_are_town_streets : DCal P w K mg base 6 "are_town_streets" sp_are_town_streets := cal_of A.f_are_town_streets X G (fun F => F.binds (ps := ["value", "crossings"]) fun _ _ _ _ _ _ us hl => match us, hl with | [_, _], _ => rfl) sc_are_town_streets (by walk_at "many") (fun f cdv A outer s H E hr => w_are_town_streets T (c_are_pairs := c_are_pairs) cdv A outer s H E hr) d_are_town_streets
  have c_ways_across : DCal P w K mg base 1 "ways_across" sp_ways_across := cal_of A.f_ways_across X G (fun F => F.binds (ps := ["streets"]) fun _ _ _ _ _ _ us hl => match us, hl with | [_], _ => rfl) sc_ways_across (by walk_at "many") (fun f cdv A outer s H E hr => w_ways_across T cdv A outer s H E hr) d_ways_across
  have c_mirrored_end : DCal P w K mg base 1 "mirrored_end" sp_mirrored_end := cal_of A.f_mirrored_end X G (fun F => F.binds (ps := ["ends", "end"]) fun _ _ _ _ _ _ us hl => match us, hl with | [_, _], _ => rfl) sc_mirrored_end (by walk_at "many") (fun f cdv A outer s H E hr => w_mirrored_end T cdv A outer s H E hr) d_mirrored_end
  have c_in_pairs : DCal P w K mg base 9 "in_pairs" (sp_in_pairs 6) := cal_of A.f_in_pairs X G (fun F => F.binds (ps := ["pairs"]) fun _ _ _ _ _ _ us hl => match us, hl with | [_], _ => rfl) sc_in_pairs (by walk_at "many") (fun f cdv A outer s H E hr => w_in_pairs T (c_in_order := c_in_order) cdv A outer s H E hr) (d_in_pairs 6)
  have c_mirrored_crossing : DCal P w K mg base 10 "mirrored_crossing" sp_mirrored_crossing := cal_of A.f_mirrored_crossing X G (fun F => F.binds (ps := ["crossing"]) fun _ _ _ _ _ _ us hl => match us, hl with | [_], _ => rfl) sc_mirrored_crossing (by walk_at "many") (fun f cdv A outer s H E hr => w_mirrored_crossing T (c_mirrored_end := c_mirrored_end) (c_in_pairs := c_in_pairs) cdv A outer s H E hr) d_mirrored_crossing
  have c_in_one_word : DCal P w K mg base 1 "in_one_word" sp_in_one_word := cal_of A.f_in_one_word X G (fun F => F.binds (ps := ["things"]) fun _ _ _ _ _ _ us hl => match us, hl with | [_], _ => rfl) sc_in_one_word (by walk_at "many") (fun f cdv A outer s H E hr => w_in_one_word T cdv A outer s H E hr) d_in_one_word
  have c_line_of_crossing : DCal P w K mg base 2 "line_of_crossing" sp_line_of_crossing := cal_of A.f_line_of_crossing X G (fun F => F.binds (ps := ["crossing", "ends"]) fun _ _ _ _ _ _ us hl => match us, hl with | [_, _], _ => rfl) sc_line_of_crossing (by walk_at "many") (fun f cdv A outer s H E hr => w_line_of_crossing T (c_in_one_word := c_in_one_word) cdv A outer s H E hr) d_line_of_crossing
  have c_line_of_street : DCal P w K mg base 1 "line_of_street" sp_line_of_street := cal_of A.f_line_of_street X G (fun F => F.binds (ps := ["street"]) fun _ _ _ _ _ _ us hl => match us, hl with | [_], _ => rfl) sc_line_of_street (by walk_at "many") (fun f cdv A outer s H E hr => w_line_of_street T cdv A outer s H E hr) d_line_of_street
  have k_Town_p_crossings : DPrp P w K mg base 1 C "crossings" (sp_Town_p_crossings C) := prp_of cC A.m_Town_p_crossings (fun F => F.binds (ps := ["self"]) fun _ _ _ _ _ _ us hl => match us, hl with | [_], _ => rfl) sc_Town_p_crossings (by walk_at "many") (fun f cdv A outer s H E hr => w_Town_p_crossings T (cC := cC) (N := N) cdv A outer s H E hr) (d_Town_p_crossings C)
  have k_Town_p_streets : DPrp P w K mg base 1 C "streets" (sp_Town_p_streets C) := prp_of cC A.m_Town_p_streets (fun F => F.binds (ps := ["self"]) fun _ _ _ _ _ _ us hl => match us, hl with | [_], _ => rfl) sc_Town_p_streets (by walk_at "many") (fun f cdv A outer s H E hr => w_Town_p_streets T (cC := cC) (N := N) cdv A outer s H E hr) (d_Town_p_streets C)
  have c_show_town : DCal P w K mg base 3 "show_town" (sp_show_town C) := cal_of A.f_show_town X G (fun F => F.binds (ps := ["town"]) fun _ _ _ _ _ _ us hl => match us, hl with | [_], _ => rfl) sc_show_town (by walk_at "many") (fun f cdv A outer s H E hr => w_show_town T (cC := cC) (N := N) (c_line_of_crossing := c_line_of_crossing) (c_line_of_street := c_line_of_street) (k_Town_p_crossings := k_Town_p_crossings) (k_Town_p_streets := k_Town_p_streets) cdv A outer s H E hr) (d_show_town C)
  have c_number_of : DCal P w K mg base 1 "number_of" sp_number_of := cal_of A.f_number_of X G (fun F => F.binds (ps := ["word"]) fun _ _ _ _ _ _ us hl => match us, hl with | [_], _ => rfl) sc_number_of (by walk_at "many") (fun f cdv A outer s H E hr => w_number_of T cdv A outer s H E hr) d_number_of
  obtain ⟨f_number_of, fd_number_of, ps_number_of, F_number_of, g_number_of, kp_number_of, bi_number_of⟩ := c_number_of.ex
  have c_name_of : DCal P w K mg base 2 "name_of" sp_name_of := cal_of A.f_name_of X G (fun F => F.binds (ps := ["word"]) fun _ _ _ _ _ _ us hl => match us, hl with | [_], _ => rfl) sc_name_of (by walk_at "many") (fun f cdv A outer s H E hr => w_name_of T (c_is_name := c_is_name) cdv A outer s H E hr) d_name_of
  have c_names_of : DCal P w K mg base 2 "names_of" sp_names_of := cal_of A.f_names_of X G (fun F => F.binds (ps := ["word"]) fun _ _ _ _ _ _ us hl => match us, hl with | [_], _ => rfl) sc_names_of (by walk_at "many") (fun f cdv A outer s H E hr => w_names_of T (c_is_name := c_is_name) cdv A outer s H E hr) d_names_of
  have c_pairs_of : DCal P w K mg base 2 "pairs_of" (sp_pairs_of f_number_of) := cal_of A.f_pairs_of X G (fun F => F.binds (ps := ["word", "end_of"]) fun _ _ _ _ _ _ us hl => match us, hl with | [_, _], _ => rfl) sc_pairs_of (by walk_at "many") (fun f cdv A outer s H E hr => w_pairs_of T (l_end_of := ⟨fd_number_of, ps_number_of, F_number_of.mono (by decide), kp_number_of, bi_number_of⟩) cdv A outer s H E hr) (d_pairs_of f_number_of)
  have c_net_row : DCal P w K mg base 3 "net_row" (sp_net_row f_number_of) := cal_of A.f_net_row X G (fun F => F.binds (ps := ["words", "ends_of", "end_of"]) fun _ _ _ _ _ _ us hl => match us, hl with | [_, _, _], _ => rfl) sc_net_row (by walk_at "many") (fun f cdv A outer s H E hr => w_net_row T (c_names_of := c_names_of) (c_pairs_of := c_pairs_of) (c_name_of := c_name_of) (l_ends_of := ⟨fd_number_of, ps_number_of, F_number_of.mono (by decide), kp_number_of, bi_number_of⟩) (l_end_of := ⟨fd_number_of, ps_number_of, F_number_of.mono (by decide), kp_number_of, bi_number_of⟩) cdv A outer s H E hr) (d_net_row f_number_of)
  have c_row_of_town : DCal P w K mg base 4 "row_of_town" sp_row_of_town := cal_of A.f_row_of_town X G (fun F => F.binds (ps := ["words"]) fun _ _ _ _ _ _ us hl => match us, hl with | [_], _ => rfl) sc_row_of_town (by walk_at "many") (fun f cdv A outer s H E hr => w_row_of_town T (c_net_row := c_net_row) (g_number_of := g_number_of) cdv A outer s H E hr) (d_row_of_town f_number_of)
  obtain ⟨f_row_of_town, fd_row_of_town, ps_row_of_town, F_row_of_town, g_row_of_town, kp_row_of_town, bi_row_of_town⟩ := c_row_of_town.ex
  have c_lines_of : DCal P w K mg base 1 "lines_of" sp_lines_of := cal_of A.f_lines_of X G (fun F => F.binds (ps := ["text"]) fun _ _ _ _ _ _ us hl => match us, hl with | [_], _ => rfl) sc_lines_of (by walk_at "many") (fun f cdv A outer s H E hr => w_lines_of T cdv A outer s H E hr) d_lines_of
  have c_groups_of : DCal P w K mg base 6 "groups_of" (sp_groups_of f_row_of_town) := cal_of A.f_groups_of X G (fun F => F.binds (ps := ["text", "row_of"]) fun _ _ _ _ _ _ us hl => match us, hl with | [_, _], _ => rfl) sc_groups_of (by walk_at "many") (fun f cdv A outer s H E hr => w_groups_of T (c_lines_of := c_lines_of) (l_row_of := ⟨fd_row_of_town, ps_row_of_town, F_row_of_town.mono (by decide), kp_row_of_town, bi_row_of_town⟩) (g_GROUPS := g_GROUPS) (kd_GROUPS := kd_GROUPS) cdv A outer s H E hr) (d_groups_of f_row_of_town)
  obtain ⟨f_Town_init, fd_Town_init, o_Town_init, a_Town_init, i_Town_init, g_Town_init, p_Town_init, b_Town_init⟩ := fn_of_met (P := P) (w := w) (mg := mg) (base := base) (sp := (sp_Town_init C)) A.m_Town_init (fun F => F.binds (ps := ["self", "crossings", "streets"]) fun _ _ _ _ _ _ us hl => match us, hl with | [_, _, _], _ => rfl) sc_Town_init (by walk_at "many") (fun f cdv A outer s H E hr => w_Town_init T (cC := cC) (N := N) (c_are_town_crossings := c_are_town_crossings) (c_are_town_streets := c_are_town_streets) (c_ways_across := c_ways_across) cdv A outer s H E hr) (d_Town_init C)
  have k_Town_init : DMak P w K mg base 8 "Town" C (sp_Town_init C) := ⟨f_Town_init, fd_Town_init, _, o_Town_init, ⟨A.mkc, a_Town_init, i_Town_init, A.kc⟩, PySem.W.mg_of X G A.town, b_Town_init⟩
  have c_read_town : DCal P w K mg base 10 "read_town" (sp_read_town C) := cal_of A.f_read_town X G (fun F => F.binds (ps := ["text"]) fun _ _ _ _ _ _ us hl => match us, hl with | [_], _ => rfl) sc_read_town (by walk_at "many") (fun f cdv A outer s H E hr => w_read_town T (cC := cC) (N := N) (c_groups_of := c_groups_of) (g_row_of_town := g_row_of_town) (k_Town_init := k_Town_init) cdv A outer s H E hr) (d_read_town C f_row_of_town)
  obtain ⟨f_Town_eq, fd_Town_eq, o_Town_eq, a_Town_eq, i_Town_eq, g_Town_eq, p_Town_eq, b_Town_eq⟩ := fn_of_met (P := P) (w := w) (mg := mg) (base := base) (sp := (sp_Town_eq C)) A.m_Town_eq (fun F => F.binds (ps := ["self", "other"]) fun _ _ _ _ _ _ us hl => match us, hl with | [_, _], _ => rfl) sc_Town_eq (by walk_at "many") (fun f cdv A outer s H E hr => w_Town_eq T (cC := cC) (N := N) (oC := oC) (cG := cG) cdv A outer s H E hr) (d_Town_eq C)
  have k_Town_eq : DOwn P w K mg base 1 C "__eq__" (sp_Town_eq C) := ⟨f_Town_eq, fd_Town_eq, _, o_Town_eq, a_Town_eq, i_Town_eq, g_Town_eq, b_Town_eq⟩
  have k_Town_eq : DOwn P w K mg base 1 C "__eq__" (sp_Town_eq C) := ⟨f_Town_eq, fd_Town_eq, _, o_Town_eq, a_Town_eq, i_Town_eq, g_Town_eq, b_Town_eq⟩
  obtain ⟨f_Town_inv, fd_Town_inv, o_Town_inv, a_Town_inv, i_Town_inv, g_Town_inv, p_Town_inv, b_Town_inv⟩ := fn_of_met (P := P) (w := w) (mg := mg) (base := base) (sp := (sp_Town_inv C)) A.m_Town_inv (fun F => F.binds (ps := ["self"]) fun _ _ _ _ _ _ us hl => match us, hl with | [_], _ => rfl) sc_Town_inv (by walk_at "many") (fun f cdv A outer s H E hr => w_Town_inv T (cC := cC) (N := N) (c_mirrored_end := c_mirrored_end) (c_mirrored_crossing := c_mirrored_crossing) (c_in_pairs := c_in_pairs) (k_Town_init := k_Town_init) cdv A outer s H E hr) (d_Town_inv C)
  have k_Town_inv : DOwn P w K mg base 11 C "__invert__" (sp_Town_inv C) := ⟨f_Town_inv, fd_Town_inv, _, o_Town_inv, a_Town_inv, i_Town_inv, g_Town_inv, b_Town_inv⟩
  have c__law_pot : DCal P w K mg base 1 "_law_pot" sp__law_pot := cal_of A.f__law_pot X G (fun F => F.binds (ps := ["_law_script", "_law_place"]) fun _ _ _ _ _ _ us hl => match us, hl with | [_, _], _ => rfl) sc__law_pot (by walk_at "many") (fun f cdv A outer s H E hr => w__law_pot T cdv A outer s H E hr) d__law_pot
  have c__law_take : DCal P w K mg base 1 "_law_take" sp__law_take := cal_of A.f__law_take X G (fun F => F.binds (ps := ["_law_pot_here", "_law_upto"]) fun _ _ _ _ _ _ us hl => match us, hl with | [_, _], _ => rfl) sc__law_take (by walk_at "many") (fun f cdv A outer s H E hr => w__law_take T cdv A outer s H E hr) d__law_take
  have c__law_of : DCal P w K mg base 2 "_law_of" sp__law_of := cal_of A.f__law_of X G (fun F => F.binds (ps := ["_law_pot_here", "_law_some_here"]) fun _ _ _ _ _ _ us hl => match us, hl with | [_, _], _ => rfl) sc__law_of (by walk_at "many") (fun f cdv A outer s H E hr => w__law_of T (c__law_take := c__law_take) cdv A outer s H E hr) d__law_of
  have c__law_some : DCal P w K mg base 2 "_law_some" sp__law_some := cal_of A.f__law_some X G (fun F => F.binds (ps := ["_law_pot_here", "_law_pool", "_law_many"]) fun _ _ _ _ _ _ us hl => match us, hl with | [_, _, _], _ => rfl) sc__law_some (by walk_at "many") (fun f cdv A outer s H E hr => w__law_some T (c__law_take := c__law_take) cdv A outer s H E hr) d__law_some
  have c__law_cells : DCal P w K mg base 1 "_law_cells" sp__law_cells := cal_of A.f__law_cells X G (fun F => F.binds (ps := ["_law_script", "_law_most"]) fun _ _ _ _ _ _ us hl => match us, hl with | [_, _], _ => rfl) sc__law_cells (by walk_at "many") (fun f cdv A outer s H E hr => w__law_cells T cdv A outer s H E hr) d__law_cells
  have c__law_ordered : DCal P w K mg base 1 "_law_ordered" sp__law_ordered := cal_of A.f__law_ordered X G (fun F => F.binds (ps := ["_law_rows"]) fun _ _ _ _ _ _ us hl => match us, hl with | [_], _ => rfl) sc__law_ordered (by walk_at "many") (fun f cdv A outer s H E hr => w__law_ordered T cdv A outer s H E hr) d__law_ordered
  have c__law_two : DCal P w K mg base 1 "_law_two" sp__law_two := cal_of A.f__law_two X G (fun F => F.binds (ps := ["_law_one", "_law_other"]) fun _ _ _ _ _ _ us hl => match us, hl with | [_, _], _ => rfl) sc__law_two (by walk_at "many") (fun f cdv A outer s H E hr => w__law_two T cdv A outer s H E hr) d__law_two
  have c__law_signs : DCal P w K mg base 1 "_law_signs" sp__law_signs := cal_of A.f__law_signs X G (fun F => F.binds (ps := ([] : List Str)) fun _ _ _ _ _ _ us hl => match us, hl with | [], _ => rfl) sc__law_signs (by walk_at "many") (fun f cdv A outer s H E hr => w__law_signs T cdv A outer s H E hr) d__law_signs
  have c__law_a_name : DCal P w K mg base 3 "_law_a_name" sp__law_a_name := cal_of A.f__law_a_name X G (fun F => F.binds (ps := ["_law_pot_here"]) fun _ _ _ _ _ _ us hl => match us, hl with | [_], _ => rfl) sc__law_a_name (by walk_at "many") (fun f cdv A outer s H E hr => w__law_a_name T (c__law_take := c__law_take) (c__law_of := c__law_of) cdv A outer s H E hr) d__law_a_name
  have c__law_many_names : DCal P w K mg base 4 "_law_many_names" sp__law_many_names := cal_of A.f__law_many_names X G (fun F => F.binds (ps := ["_law_pot_here", "_law_many"]) fun _ _ _ _ _ _ us hl => match us, hl with | [_, _], _ => rfl) sc__law_many_names (by walk_at "many") (fun f cdv A outer s H E hr => w__law_many_names T (c__law_a_name := c__law_a_name) cdv A outer s H E hr) d__law_many_names
  have c__law_free_row : DCal P w K mg base 3 "_law_free_row" sp__law_free_row := cal_of A.f__law_free_row X G (fun F => F.binds (ps := ["_law_pot_here", "_law_name", "_law_ends", "_law_signs_here"]) fun _ _ _ _ _ _ us hl => match us, hl with | [_, _, _, _], _ => rfl) sc__law_free_row (by walk_at "many") (fun f cdv A outer s H E hr => w__law_free_row T (c__law_of := c__law_of) (c__law_some := c__law_some) (c__law_take := c__law_take) (c__law_two := c__law_two) (c__law_ordered := c__law_ordered) cdv A outer s H E hr) d__law_free_row
  have c__law_each_stop : DCal P w K mg base 1 "_law_each_stop" sp__law_each_stop := cal_of A.f__law_each_stop X G (fun F => F.binds (ps := ["_law_town"]) fun _ _ _ _ _ _ us hl => match us, hl with | [_], _ => rfl) sc__law_each_stop (by walk_at "many") (fun f cdv A outer s H E hr => w__law_each_stop T cdv A outer s H E hr) d__law_each_stop
  have c__law_free_town : DCal P w K mg base 5 "_law_free_town" sp__law_free_town := cal_of A.f__law_free_town X G (fun F => F.binds (ps := ["_law_pot_here", "_law_most", "_law_ends"]) fun _ _ _ _ _ _ us hl => match us, hl with | [_, _, _], _ => rfl) sc__law_free_town (by walk_at "many") (fun f cdv A outer s H E hr => w__law_free_town T (c__law_many_names := c__law_many_names) (c__law_take := c__law_take) (c__law_free_row := c__law_free_row) (c__law_signs := c__law_signs) (c__law_each_stop := c__law_each_stop) (c__law_two := c__law_two) (c__law_ordered := c__law_ordered) cdv A outer s H E hr) d__law_free_town
  have c__law_parts_word : DCal P w K mg base 1 "_law_parts_word" sp__law_parts_word := cal_of A.f__law_parts_word X G (fun F => F.binds (ps := ["_law_parts"]) fun _ _ _ _ _ _ us hl => match us, hl with | [_], _ => rfl) sc__law_parts_word (by walk_at "many") (fun f cdv A outer s H E hr => w__law_parts_word T cdv A outer s H E hr) d__law_parts_word
  have c__law_net_lines : DCal P w K mg base 2 "_law_net_lines" sp__law_net_lines := cal_of A.f__law_net_lines X G (fun F => F.binds (ps := ["_law_rows", "_law_lanes"]) fun _ _ _ _ _ _ us hl => match us, hl with | [_, _], _ => rfl) sc__law_net_lines (by walk_at "many") (fun f cdv A outer s H E hr => w__law_net_lines T (c__law_parts_word := c__law_parts_word) cdv A outer s H E hr) d__law_net_lines
  have c__law_right : DCalG P w K mg base 13 "_law_right" sp__law_right53 := calG_of A.f__law_right X G (fun F => F.binds (ps := ["_law_pot_here"]) fun _ _ _ _ _ _ us hl => match us, hl with | [_], _ => rfl) sc__law_right (by walk_at "many") (fun f cdv A outer s H E fr hr => w__law_right T (cC := cC) (N := N) (nC := nC) (c__law_free_town := c__law_free_town) (c__law_net_lines := c__law_net_lines) (c_show_town := c_show_town) (c_read_town := c_read_town) (k_Town_init := k_Town_init) (k_Town_eq := k_Town_eq) (k_Town_inv := k_Town_inv) (k_Town_p_streets := k_Town_p_streets) (k_Town_p_crossings := k_Town_p_crossings) k_Town_eq cdv A outer s H E fr hr) (d__law_right53 C)
  exact fnG_D Fl sc_law (by walk_at "many") (fun cdv A outer s H E fr hr => w_law T (c__law_cells := c__law_cells) (c__law_pot := c__law_pot) (c__law_right := c__law_right) cdv A outer s H E fr hr) d_law53
end
/-- a script is what the law's promise speaks of -/
theorem ints_repL {K : PySem.W.Frag} {S : DHp} {H : Hp} : ∀ {ns : List Int}, RepL K S H (ns.map D.int) (ns.map V.int)
  | [] => .nil
  | n :: ns => .cons .int ints_repL
theorem script_rep {K : PySem.W.Frag} {H : Hp} {a : Addr} {ns : List Int} (o : Only H) (sq : SqL K H a (ns.map V.int)) : Rep K (fun _ => none) H (.nd .flst (ns.map D.int)) (.ref a) := by
  rcases sq with (e | ⟨ob, e⟩) | e
  · rcases o a with z | ⟨_, _, z⟩ <;> rw [z] at e <;> cases e
  · exact .nd rfl e .flst ints_repL
  · exact .wr (.flst fun _ => .inr e) ints_repL
theorem law_in {K : PySem.W.Frag} {H : Hp} {a : Addr} {ns : List Int} (o : Only H) (sq : SqL K H a (ns.map V.int)) : liftF K sp_law [.ref a] H (fun v _ => v = .bl true) fun _ _ _ => False := by
  refine ⟨[.nd .flst (ns.map D.int)], fun _ => none, fun d _ => d = .bl true, .cons (script_rep o sq) .nil, fun p k ds z => (by cases z), ⟨_, rfl, fun d hd => ?_, rfl⟩, ?_⟩
  · obtain ⟨n, _, rfl⟩ := List.mem_map.mp hd
    exact ⟨n, rfl⟩
  · intro d S v H' q k rs w
    subst q
    cases w
    rfl
end L2.DL
open PySem PySem.W PyProof.Rows
set_option maxRecDepth 100000 in
set_option maxHeartbeats 0 in
theorem PySem.Challenge.cw_sketchways_k53_texts_of_towns_holds : PySem.Challenge.rw_sketchways_k53_texts_of_towns.Holds := by
  w_on; o_law; k_head; (case hw => w_witness2)
  k_fill
  refine L2.DL.walk_G (l := PySem.Challenge.rw_sketchways_k53_texts_of_towns) (k := 14) (x := "_law_script") (sp := fun K => L2.DL.liftF K L2.DL.sp_law) rfl (by decide) rfl ⟨rfl, by decide, by decide⟩ (fun w h Y => PySem.W.kIn_of Y) ?F (fun K H a ns few o sq => L2.DL.law_in o sq)
  case F =>
    intro w mg fa hp KX G hmg
    refine' L2.DL.law_of ?A KX G hmg
    case A =>
      refine' L2.DL.Facts.mk ?town ?cls ?nts ?mkc ?kc ?own ?nec ?g_GROUPS ?s_NOTHING ?b_int ?b_isinstance ?b_bool ?b_str ?b_len ?b_tuple ?b_range ?b_all ?b_set ?b_list ?b_enumerate ?b_abs ?b_min ?b_max ?b_repr ?c_MOST_ENDS ?f_is_integer ?f_is_name ?f_is_row ?f_ascends ?f_are_names ?f_is_word ?f_is_told ?f_is_pair ?f_are_pairs ?f_in_order ?f_merged ?f_is_town_crossing ?f_are_town_crossings ?f_are_town_streets ?f_ways_across ?f_mirrored_crossing ?f_mirrored_end ?f_in_pairs ?f_in_one_word ?f_line_of_crossing ?f_line_of_street ?f_show_town ?f_number_of ?f_name_of ?f_names_of ?f_pairs_of ?f_net_row ?f_row_of_town ?f_lines_of ?f_groups_of ?f_read_town ?m_Town_init ?m_Town_eq ?m_Town_inv ?m_Town_p_crossings ?m_Town_p_streets ?f__law_pot ?f__law_take ?f__law_of ?f__law_some ?f__law_cells ?f__law_ordered ?f__law_two ?f__law_signs ?f__law_a_name ?f__law_many_names ?f__law_free_row ?f__law_each_stop ?f__law_free_town ?f__law_parts_word ?f__law_net_lines ?f__law_right ?f_law
      (case town => k_is)
      (case cls => refine' L2.Cls.mk ?pg ?hd ?po ?sa; (case pg => k_is); (case hd => k_is); (case po => k_is); (case sa => k_is))
      (case nts => refine' L2.DL.nts_mk ?n0 ?n1 ?n2 ?n3; (case n0 => k_is); (case n1 => k_is); (case n2 => k_is); (case n3 => k_is))
      (case mkc => k_is)
      (case kc => k_is)
      (case own => refine' L2.DL.own_mk (L2.Cls.mk ?pg ?hd ?po ?sa) ?ha ?hn ?htk ?hm ?ic ?ty; (case pg => k_is); (case hd => k_is); (case po => k_is); (case sa => k_is); (case ha => k_is); (case hn => k_is); (case htk => k_is); (case hm => k_is); (case ic => k_is); (case ty => k_is))
      (case nec => refine' L2.DL.ne_mk ?l ?lN ?o ?n ?e ?g ?t ?h; (case l => k_is); (case lN => k_is); (case o => rfl); (case n => k_is); (case e => k_is); (case g => k_is); (case t => k_is); (case h => exact ⟨_, rfl⟩))
      (case g_GROUPS => refine' L2.DL.GROUPS_mk ?a ?l ?kl ?v0 ?v1; (case a => k_is); (case l => k_is); (case kl => exact ⟨⟨_, _, rfl, rfl⟩, ⟨_, _, rfl, rfl⟩, ⟨_, _, rfl, rfl⟩, ⟨_, _, rfl, rfl⟩, ⟨_, _, rfl, rfl⟩, ⟨_, _, rfl, rfl⟩, trivial⟩); (case v0 => k_is); (case v1 => k_is))
      (case s_NOTHING => refine' L2.DL.strc_mk ?a ?b; (case a => k_is); (case b => exact ⟨_, rfl⟩))
      (case b_int => k_is)
      (case b_isinstance => k_is)
      (case b_bool => k_is)
      (case b_str => k_is)
      (case b_len => k_is)
      (case b_tuple => k_is)
      (case b_range => k_is)
      (case b_all => k_is)
      (case b_set => k_is)
      (case b_list => k_is)
      (case b_enumerate => k_is)
      (case b_abs => k_is)
      (case b_min => k_is)
      (case b_max => k_is)
      (case b_repr => k_is)
      (case c_MOST_ENDS => refine' L2.DL.const_mk ?a ?b; (case a => k_is); (case b => exact ⟨_, rfl⟩))
      (case f_is_integer => refine' L2.DL.defAt ?a ?l ?c ?k; (case a => k_is); (case l => k_is); (case c => k_is); (case k => k_is))
      (case f_is_name => refine' L2.DL.defAt ?a ?l ?c ?k; (case a => k_is); (case l => k_is); (case c => k_is); (case k => k_is))
      (case f_is_row => refine' L2.DL.defAt ?a ?l ?c ?k; (case a => k_is); (case l => k_is); (case c => k_is); (case k => k_is))
      (case f_ascends => refine' L2.DL.defAt ?a ?l ?c ?k; (case a => k_is); (case l => k_is); (case c => k_is); (case k => k_is))
      (case f_are_names => refine' L2.DL.defAt ?a ?l ?c ?k; (case a => k_is); (case l => k_is); (case c => k_is); (case k => k_is))
      (case f_is_word => refine' L2.DL.defAt ?a ?l ?c ?k; (case a => k_is); (case l => k_is); (case c => k_is); (case k => k_is))
      (case f_is_told => refine' L2.DL.defAt ?a ?l ?c ?k; (case a => k_is); (case l => k_is); (case c => k_is); (case k => k_is))
      (case f_is_pair => refine' L2.DL.defAt ?a ?l ?c ?k; (case a => k_is); (case l => k_is); (case c => k_is); (case k => k_is))
      (case f_are_pairs => refine' L2.DL.defAt ?a ?l ?c ?k; (case a => k_is); (case l => k_is); (case c => k_is); (case k => k_is))
      (case f_in_order => refine' L2.DL.defAt ?a ?l ?c ?k; (case a => k_is); (case l => k_is); (case c => k_is); (case k => k_is))
      (case f_merged => refine' L2.DL.defAt ?a ?l ?c ?k; (case a => k_is); (case l => k_is); (case c => k_is); (case k => k_is))
      (case f_is_town_crossing => refine' L2.DL.defAt ?a ?l ?c ?k; (case a => k_is); (case l => k_is); (case c => k_is); (case k => k_is))
      (case f_are_town_crossings => refine' L2.DL.defAt ?a ?l ?c ?k; (case a => k_is); (case l => k_is); (case c => k_is); (case k => k_is))
      (case f_are_town_streets => refine' L2.DL.defAt ?a ?l ?c ?k; (case a => k_is); (case l => k_is); (case c => k_is); (case k => k_is))
      (case f_ways_across => refine' L2.DL.defAt ?a ?l ?c ?k; (case a => k_is); (case l => k_is); (case c => k_is); (case k => k_is))
      (case f_mirrored_crossing => refine' L2.DL.defAt ?a ?l ?c ?k; (case a => k_is); (case l => k_is); (case c => k_is); (case k => k_is))
      (case f_mirrored_end => refine' L2.DL.defAt ?a ?l ?c ?k; (case a => k_is); (case l => k_is); (case c => k_is); (case k => k_is))
      (case f_in_pairs => refine' L2.DL.defAt ?a ?l ?c ?k; (case a => k_is); (case l => k_is); (case c => k_is); (case k => k_is))
      (case f_in_one_word => refine' L2.DL.defAt ?a ?l ?c ?k; (case a => k_is); (case l => k_is); (case c => k_is); (case k => k_is))
      (case f_line_of_crossing => refine' L2.DL.defAt ?a ?l ?c ?k; (case a => k_is); (case l => k_is); (case c => k_is); (case k => k_is))
      (case f_line_of_street => refine' L2.DL.defAt ?a ?l ?c ?k; (case a => k_is); (case l => k_is); (case c => k_is); (case k => k_is))
      (case f_show_town => refine' L2.DL.defAt ?a ?l ?c ?k; (case a => k_is); (case l => k_is); (case c => k_is); (case k => k_is))
      (case f_number_of => refine' L2.DL.defAt ?a ?l ?c ?k; (case a => k_is); (case l => k_is); (case c => k_is); (case k => k_is))
      (case f_name_of => refine' L2.DL.defAt ?a ?l ?c ?k; (case a => k_is); (case l => k_is); (case c => k_is); (case k => k_is))
      (case f_names_of => refine' L2.DL.defAt ?a ?l ?c ?k; (case a => k_is); (case l => k_is); (case c => k_is); (case k => k_is))
      (case f_pairs_of => refine' L2.DL.defAt ?a ?l ?c ?k; (case a => k_is); (case l => k_is); (case c => k_is); (case k => k_is))
      (case f_net_row => refine' L2.DL.defAt ?a ?l ?c ?k; (case a => k_is); (case l => k_is); (case c => k_is); (case k => k_is))
      (case f_row_of_town => refine' L2.DL.defAt ?a ?l ?c ?k; (case a => k_is); (case l => k_is); (case c => k_is); (case k => k_is))
      (case f_lines_of => refine' L2.DL.defAt ?a ?l ?c ?k; (case a => k_is); (case l => k_is); (case c => k_is); (case k => k_is))
      (case f_groups_of => refine' L2.DL.defAt ?a ?l ?c ?k; (case a => k_is); (case l => k_is); (case c => k_is); (case k => k_is))
      (case f_read_town => refine' L2.DL.defAt ?a ?l ?c ?k; (case a => k_is); (case l => k_is); (case c => k_is); (case k => k_is))
      (case m_Town_init => refine' L2.DL.metAt ?a ?i ?g ?l ?c ?k; (case a => k_is); (case i => k_is); (case g => k_is); (case l => k_is); (case c => k_is); (case k => k_is))
      (case m_Town_eq => refine' L2.DL.metAt ?a ?i ?g ?l ?c ?k; (case a => k_is); (case i => k_is); (case g => k_is); (case l => k_is); (case c => k_is); (case k => k_is))
      (case m_Town_inv => refine' L2.DL.metAt ?a ?i ?g ?l ?c ?k; (case a => k_is); (case i => k_is); (case g => k_is); (case l => k_is); (case c => k_is); (case k => k_is))
      (case m_Town_p_crossings => refine' L2.DL.prpAt ?a ?b ?t ?r ?l ?c ?k; (case a => k_is); (case b => k_is); (case t => k_is); (case r => k_is); (case l => k_is); (case c => k_is); (case k => k_is))
      (case m_Town_p_streets => refine' L2.DL.prpAt ?a ?b ?t ?r ?l ?c ?k; (case a => k_is); (case b => k_is); (case t => k_is); (case r => k_is); (case l => k_is); (case c => k_is); (case k => k_is))
      (case f__law_pot => refine' L2.DL.defAt ?a ?l ?c ?k; (case a => k_is); (case l => k_is); (case c => k_is); (case k => k_is))
      (case f__law_take => refine' L2.DL.defAt ?a ?l ?c ?k; (case a => k_is); (case l => k_is); (case c => k_is); (case k => k_is))
      (case f__law_of => refine' L2.DL.defAt ?a ?l ?c ?k; (case a => k_is); (case l => k_is); (case c => k_is); (case k => k_is))
      (case f__law_some => refine' L2.DL.defAt ?a ?l ?c ?k; (case a => k_is); (case l => k_is); (case c => k_is); (case k => k_is))
      (case f__law_cells => refine' L2.DL.defAt ?a ?l ?c ?k; (case a => k_is); (case l => k_is); (case c => k_is); (case k => k_is))
      (case f__law_ordered => refine' L2.DL.defAt ?a ?l ?c ?k; (case a => k_is); (case l => k_is); (case c => k_is); (case k => k_is))
      (case f__law_two => refine' L2.DL.defAt ?a ?l ?c ?k; (case a => k_is); (case l => k_is); (case c => k_is); (case k => k_is))
      (case f__law_signs => refine' L2.DL.defAt ?a ?l ?c ?k; (case a => k_is); (case l => k_is); (case c => k_is); (case k => k_is))
      (case f__law_a_name => refine' L2.DL.defAt ?a ?l ?c ?k; (case a => k_is); (case l => k_is); (case c => k_is); (case k => k_is))
      (case f__law_many_names => refine' L2.DL.defAt ?a ?l ?c ?k; (case a => k_is); (case l => k_is); (case c => k_is); (case k => k_is))
      (case f__law_free_row => refine' L2.DL.defAt ?a ?l ?c ?k; (case a => k_is); (case l => k_is); (case c => k_is); (case k => k_is))
      (case f__law_each_stop => refine' L2.DL.defAt ?a ?l ?c ?k; (case a => k_is); (case l => k_is); (case c => k_is); (case k => k_is))
      (case f__law_free_town => refine' L2.DL.defAt ?a ?l ?c ?k; (case a => k_is); (case l => k_is); (case c => k_is); (case k => k_is))
      (case f__law_parts_word => refine' L2.DL.defAt ?a ?l ?c ?k; (case a => k_is); (case l => k_is); (case c => k_is); (case k => k_is))
      (case f__law_net_lines => refine' L2.DL.defAt ?a ?l ?c ?k; (case a => k_is); (case l => k_is); (case c => k_is); (case k => k_is))
      (case f__law_right => refine' L2.DL.defAt ?a ?l ?c ?k; (case a => k_is); (case l => k_is); (case c => k_is); (case k => k_is))
      (case f_law => refine' L2.DL.defAt ?a ?l ?c ?k; (case a => k_is); (case l => k_is); (case c => k_is); (case k => k_is))
